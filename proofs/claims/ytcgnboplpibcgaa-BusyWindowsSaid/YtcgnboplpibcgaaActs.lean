/- Slices of structs of one-cell fields that came in: numbers, bools, strings. Speaks of no program. -/
import Derived.Test.YtcgnboplpibcgaaFlat
namespace Go.Proofs.Ytcgnboplpibcgaa
open Go Go.RowKit Go.ChangeShapes Go.WideShapes Go.Deep

/-- What a field may be. -/
inductive FK where
  | int (k : IntKind)
  | bool
  | string
def FK.ut : FK → TypeDesc
  | .int k => .int k
  | .bool => .bool
  | .string => .string
def FK.ok : FK → Value → Prop
  | .int k, v => ∃ n, v = .int k n ∧ (Lit.int k n).wf = true
  | .bool, v => ∃ b, v = .bool b
  | .string, v => ∃ s, v = .string s

/-- A row of structs: each field of each element by its place. -/
def Acts (w : World) (A : Option Addr) (n : Nat) (ks : List FK) (z : Nat → Nat → Value) : Prop :=
  ∀ i, i < n → ∃ b off, A = some ⟨b, off, none⟩ ∧ b < w.heap.size ∧ ∀ j k, ks[j]? = some k → w.cell? ⟨b, off + i * ks.length + j, none⟩ = some (z i j) ∧ k.ok (z i j)
theorem Acts.only {S : Nat → Prop} {w w' : World} {A : Option Addr} {n : Nat} {ks : List FK} {z : Nat → Nat → Value} (h : Acts w A n ks z) (ho : Only S w w') (hS : ∀ k, S k → w.heap.size ≤ k) : Acts w' A n ks z := fun i hi => by
  obtain ⟨b, off, rfl, hb, hc⟩ := h i hi
  have hn : ¬ S b := fun hs => by have := hS b hs; omega
  exact ⟨b, off, rfl, Nat.lt_of_lt_of_le hb ho.size, fun j k hk => ⟨ho.cell (hc j k hk).1 hn, (hc j k hk).2⟩⟩

theorem open_acts {H : Type} {enc : TypeId × Value → H} {P : Program} {w : World} {base : Nat} {spare : Nat → Bool} {held : Bool} {t e : TypeId} {fs : Array Field} {a : Option Addr} {len cap : Nat} {d : DataW H} {ps : List MemPlace} (ks : List FK)
    (ht : P.underlying t = some (.slice e)) (he : P.underlying e = some (.struct fs)) (ce : P.cellsOf e = fs.size) (hks : ks.length = fs.size) (h0 : 0 < fs.size)
    (hone : ∀ (i : Nat) (f : Field), fs[i]? = some f → f.offset = i ∧ P.cellsOf f.type = 1 ∧ P.underlying f.type = (ks[i]?).map FK.ut)
    (h : DataW.Trod enc P w base spare held t (.slice a len cap) d ps) : ∃ z : Nat → Nat → Value, Acts w a len ks z := by
  obtain ⟨fuel, hf⟩ := h
  rcases open_flat ht he ce (fun i f hi => ⟨(hone i f hi).1, (hone i f hi).2.1⟩) hf with hcs | ⟨x, l, c, m, n, hcs, hlm, hall⟩
  · simp [Value.cells] at hcs
    obtain ⟨rfl, rfl, rfl⟩ := hcs
    exact ⟨fun _ _ => .bool false, fun k hk => absurd hk (by omega)⟩
  · simp [Value.cells] at hcs
    obtain ⟨rfl, rfl, rfl⟩ := hcs
    have each : ∀ i j k, i < m → ks[j]? = some k → ∃ v, w.cell? (x.add (i * fs.size + j)) = some v ∧ k.ok v := by
      intro i j k hi hk
      have hj : j < fs.size := by rw [← hks]; exact (List.getElem?_eq_some_iff.1 hk).1
      obtain ⟨v, y, h1, h2⟩ := hall i hi j fs[j] (Array.getElem?_eq_getElem hj)
      have hu := (hone j fs[j] (Array.getElem?_eq_getElem hj)).2.2
      rw [hk] at hu
      refine ⟨v, h1, ?_⟩
      cases k with
      | int k =>
        obtain ⟨z, hz, _, hw⟩ := DataW.trod_int hu h2
        simp only [List.cons.injEq, and_true] at hz
        exact ⟨z, hz, hw⟩
      | bool =>
        obtain ⟨b, hz, _⟩ := DataW.trod_bool hu h2
        simp only [List.cons.injEq, and_true] at hz
        exact ⟨b, hz⟩
      | string =>
        obtain ⟨s, hz, _⟩ := DataW.trod_string hu h2
        simp only [List.cons.injEq, and_true] at hz
        exact ⟨s, hz⟩
    refine ⟨fun i j => (w.cell? (x.add (i * fs.size + j))).getD (.bool false), fun i hi => ?_⟩
    have hx : x = ⟨x.block, x.off, none⟩ := by
      obtain ⟨z, hz, _⟩ := each 0 0 ks[0] (by omega) (List.getElem?_eq_getElem (by omega))
      have h1 := spot_none hz
      cases x with
      | mk b o s =>
        unfold Addr.add at h1
        simp at h1
        subst h1
        rfl
    have hb : x.block < w.heap.size := by
      obtain ⟨z, hz, _⟩ := each i 0 ks[0] (by omega) (List.getElem?_eq_getElem (by omega))
      have := World.block_lt_of_cell? w _ hz
      rwa [add_block] at this
    refine ⟨x.block, x.off, congrArg some hx, hb, fun j k hk => ?_⟩
    obtain ⟨v, h1, h2⟩ := each i j k (by omega) hk
    simp only [h1, Option.getD_some]
    refine ⟨?_, h2⟩
    rw [hx, Addr.add_lit] at h1
    rw [hks, Nat.add_assoc]
    exact h1
end Go.Proofs.Ytcgnboplpibcgaa
