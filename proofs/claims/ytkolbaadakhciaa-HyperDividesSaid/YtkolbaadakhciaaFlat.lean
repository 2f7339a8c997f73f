/- Slices of structs of one-cell fields that came in. Speaks of no program. -/
import Derived.Test.YtkolbaadakhciaaRowed
import Derived.Deep.Slices
import Derived.ChangeSame
import Derived.ProofKit
namespace Go.Proofs.Ytkolbaadakhciaa
open Go Go.RowKit Go.ChangeShapes Go.WideShapes Go.Deep

section
variable {H : Type} {enc : TypeId × Value → H} {P : Program} {w : World} {base : Nat} {spare : Nat → Bool} {held : Bool}

/-- Each element's fields lie in the cells behind each other; each reads by its own type. -/
theorem open_flat {t e : TypeId} {fs : Array Field} {fuel : Nat} {cs : List Value} {x : DataW H × List MemPlace} (ht : P.underlying t = some (.slice e)) (he : P.underlying e = some (.struct fs)) (ce : P.cellsOf e = fs.size)
    (hone : ∀ (i : Nat) (f : Field), fs[i]? = some f → f.offset = i ∧ P.cellsOf f.type = 1) (h : DataW.trod enc P w base spare held fuel t cs = some x) :
    cs = [.slice none 0 0] ∨ ∃ (a : Addr) (len cap m n : Nat), cs = [.slice (some a) len cap] ∧ len ≤ m ∧
      ∀ i, i < m → ∀ (j : Nat) (f : Field), fs[j]? = some f → ∃ v y, w.cell? (a.add (i * fs.size + j)) = some v ∧ DataW.trod enc P w base spare held n f.type [v] = some y := by
  rcases open_slice ht h with h0 | ⟨a, len, cap, m, n, D, Pl, rfl, hb, hl, hm, hmm, rfl, hx⟩
  · exact .inl h0.1
  · refine .inr ⟨a, len, cap, m, n - 1, rfl, by rw [hmm]; split <;> omega, fun i hi j f hf => ?_⟩
    obtain ⟨cs', h1, h2⟩ := hx i hi
    rw [ce] at h1
    obtain ⟨_, hlen, hcell⟩ := World.cells?_some h1
    obtain ⟨xs, k, hk, _, _, hxl, hff⟩ := DataW.trod_struct he h2
    have hk' : k = n - 1 := by omega
    subst hk'
    have hj : j < fs.size := (Array.getElem?_eq_some_iff.1 hf).1
    obtain ⟨ho, hc⟩ := hone j f hf
    have g := hff j f hf
    rw [ho, hc] at g
    have hjc : j < cs'.length := by omega
    have hsingle : (cs'.drop j).take 1 = [cs'[j]] := by
      rw [List.drop_eq_getElem_cons hjc]
      rfl
    rw [hsingle] at g
    have hxj : j < xs.length := by omega
    rw [List.getElem?_eq_getElem hxj] at g
    have hcj := hcell j hj
    rw [add_add, List.getElem?_eq_getElem hjc] at hcj
    exact ⟨cs'[j], xs[j], by simpa using hcj, g⟩
end

/-- Slices of structs of ints: every number, by place and field. -/
theorem open_flat_ints {H : Type} {enc : TypeId × Value → H} {P : Program} {w : World} {base : Nat} {spare : Nat → Bool} {held : Bool} {t e : TypeId} {fs : Array Field} {fuel : Nat} {A : Option Addr} {len cap : Nat} {x : DataW H × List MemPlace}
    (ht : P.underlying t = some (.slice e)) (he : P.underlying e = some (.struct fs)) (ce : P.cellsOf e = fs.size) (h0 : 0 < fs.size)
    (hone : ∀ (i : Nat) (f : Field), fs[i]? = some f → f.offset = i ∧ P.cellsOf f.type = 1 ∧ P.underlying f.type = some (.int .i64)) (h : DataW.trod enc P w base spare held fuel t [.slice A len cap] = some x) :
    len ≤ cap ∧ ∃ z : Nat → Nat → Int, ∀ i, i < len → ∃ b off, A = some ⟨b, off, none⟩ ∧ b < w.heap.size ∧ ∀ j, j < fs.size → w.cell? ⟨b, off + (i * fs.size + j), none⟩ = some (.int .i64 (z i j)) ∧ (Lit.int .i64 (z i j)).wf = true := by
  have hcap : len ≤ cap := by
    rcases open_slice ht h with h0 | ⟨a, len', cap', m, n, D, Pl, hcs, hb, hl, hm, hmm, _, hx⟩
    · have := h0.1
      simp at this
      omega
    · simp at hcs
      omega
  refine ⟨hcap, ?_⟩
  rcases open_flat ht he ce (fun i f hi => ⟨(hone i f hi).1, (hone i f hi).2.1⟩) h with hcs | ⟨a, l, c, m, n, hcs, hlm, hall⟩
  · simp at hcs
    exact ⟨fun _ _ => 0, fun i hi => by omega⟩
  · simp at hcs
    obtain ⟨rfl, rfl, rfl⟩ := hcs
    have each : ∀ i j, i < len → j < fs.size → ∃ z : Int, w.cell? (a.add (i * fs.size + j)) = some (.int .i64 z) ∧ (Lit.int .i64 z).wf = true := by
      intro i j hi hj
      obtain ⟨v, y, h1, h2⟩ := hall i (by omega) j fs[j] (Array.getElem?_eq_getElem hj)
      obtain ⟨z, hz, _, hw⟩ := DataW.trod_int (hone j fs[j] (Array.getElem?_eq_getElem hj)).2.2 h2
      simp only [List.cons.injEq, and_true] at hz
      subst hz
      exact ⟨z, h1, hw⟩
    refine ⟨fun i j => if hi : i < len ∧ j < fs.size then Classical.choose (each i j hi.1 hi.2) else 0, fun i hi => ?_⟩
    have hx : a = ⟨a.block, a.off, none⟩ := by
      obtain ⟨z, hz, _⟩ := each 0 0 (by omega) h0
      have h1 := spot_none hz
      cases a with
      | mk b o s =>
        unfold Addr.add at h1
        simp at h1
        subst h1
        rfl
    have hb : a.block < w.heap.size := by
      obtain ⟨z, hz, _⟩ := each i 0 hi h0
      have := World.block_lt_of_cell? w _ hz
      rwa [add_block] at this
    refine ⟨a.block, a.off, congrArg some hx, hb, fun j hj => ?_⟩
    have hc := Classical.choose_spec (each i j hi hj)
    simp only [hi, hj, and_self, dif_pos]
    refine ⟨?_, hc.2⟩
    generalize Classical.choose (each i j hi hj) = z at hc ⊢
    have h1 := hc.1
    rw [hx, Addr.add_lit] at h1
    exact h1

/-- A struct by value: each field's value, and its reading. -/
theorem open_struct {H : Type} {enc : TypeId × Value → H} {P : Program} {w : World} {base b0 : Nat} {spare : Nat → Bool} {held : Bool} {r : Reach} {t : TypeId} {fs : Array Field} {v : Value} {d : DataW H} {p : List MemPlace}
    (hs : P.underlying t = some (.struct fs)) (ce : P.cellsOf t = fs.size) (hone : ∀ (i : Nat) (f : Field), fs[i]? = some f → f.offset = i ∧ P.cellsOf f.type = 1) (hv : Value.okWide P w r b0 t v) (h : DataW.Trod enc P w base spare held t v d p) :
    ∃ l : List Value, v = .agg l.toArray ∧ l.length = fs.size ∧ ∀ (i : Nat) (f : Field), fs[i]? = some f → ∃ u y n, l[i]? = some u ∧ DataW.trod enc P w base spare held n f.type [u] = some y := by
  obtain ⟨cs, rfl, hsz⟩ := okWide_struct hs hv
  rw [ce] at hsz
  have hl : cs.toList.length = fs.size := by simpa using hsz
  obtain ⟨fuel, hf⟩ := h
  obtain ⟨xs, n, _, hx, _, hlen, hg⟩ := DataW.trod_struct hs hf
  refine ⟨cs.toList, by simp, hl, fun i f hi => ?_⟩
  have hi' : i < fs.size := (Array.getElem?_eq_some_iff.1 hi).1
  have g := hg i f hi
  obtain ⟨ho, hk⟩ := hone i f hi
  rw [ho, hk] at g
  have e : (Value.cells (.agg cs)).toList = cs.toList := rfl
  rw [e] at g
  have hsingle : (cs.toList.drop i).take 1 = [cs.toList[i]'(by omega)] := by
    rw [List.drop_eq_getElem_cons (by omega)]
    rfl
  rw [hsingle] at g
  have hys : xs[i]? = some (xs[i]'(by omega)) := List.getElem?_eq_getElem (by omega)
  exact ⟨_, _, _, List.getElem?_eq_getElem (by omega), g.trans hys⟩

theorem Row.addr {w : World} {A : Option Addr} {n : Nat} {f : Nat → Value} (h : Row w A n f) (hn : 0 < n) : ∃ b off, A = some ⟨b, off, none⟩ ∧ b < w.heap.size ∧ ∀ k, k < n → w.cell? ⟨b, off + k, none⟩ = some (f k) := by
  obtain ⟨b, off, rfl, _, hlt⟩ := h 0 hn
  refine ⟨b, off, rfl, hlt, fun k hk => ?_⟩
  obtain ⟨b', off', e, hc, _⟩ := h k hk
  cases e
  exact hc
end Go.Proofs.Ytkolbaadakhciaa
