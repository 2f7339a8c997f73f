/- The acts that the laws of layer 4 are handed. -/
import Derived.Test.YtbmegpcdcbfjmaaRows
import Derived.Test.YtbmegpcdcbfjmaaFlat
namespace Go.Proofs.Ytbmegpcdcbfjmaa
open Go Go.RowKit Go.ChangeShapes Go.WideShapes

/-- Acts: a kind, a key, ticks. -/
structure ActV where
  kind : Nat → Int
  key : Nat → Int
  ticks : Nat → Int
def ActRow (w : World) (A : Option Addr) (n : Nat) (z : ActV) : Prop :=
  ∀ k, k < n → ∃ b off, A = some ⟨b, off, none⟩ ∧ b < w.heap.size ∧ w.cell? ⟨b, off + k * 3, none⟩ = some (.int .u8 (z.kind k)) ∧ w.cell? ⟨b, off + k * 3 + 1, none⟩ = some (.int .i64 (z.key k)) ∧ w.cell? ⟨b, off + k * 3 + 2, none⟩ = some (.int .i64 (z.ticks k)) ∧
    (0 ≤ z.kind k ∧ z.kind k ≤ 255) ∧ (-9223372036854775808 ≤ z.key k ∧ z.key k ≤ 9223372036854775807) ∧ (-9223372036854775808 ≤ z.ticks k ∧ z.ticks k ≤ 9223372036854775807)
theorem ActRow.only {S : Nat → Prop} {w w' : World} {A : Option Addr} {n : Nat} {z : ActV} (h : ActRow w A n z) (ho : Only S w w') (hS : ∀ k, S k → w.heap.size ≤ k) : ActRow w' A n z := fun k hk => by
  obtain ⟨b, off, rfl, hb, h0, h1, h2, h3⟩ := h k hk
  have hn : ¬ S b := fun hs => by have := hS b hs; omega
  exact ⟨b, off, rfl, Nat.lt_of_lt_of_le hb ho.size, ho.cell h0 hn, ho.cell h1 hn, ho.cell h2 hn, h3⟩

theorem cells49 : Try.prog.cellsOf 49 = 3 := by kernel_rfl
theorem cellsU8 : Try.prog.cellsOf 5 = 1 := by kernel_rfl
theorem cellsInt : Try.prog.cellsOf 3 = 1 := by kernel_rfl

theorem open_acts {H : Type} {enc : TypeId × Value → H} {w : World} {a : Option Addr} {len cap : Nat} {d : DataW H} {ps : List MemPlace} (h : DataW.Trod enc Try.prog w 0 (fun _ => true) true 43 (.slice a len cap) d ps) :
    ∃ z : ActV, ActRow w a len z := by
  obtain ⟨fuel, hf⟩ := h
  obtain ⟨fs, he, hsz, hfs⟩ : ∃ fs : Array Field, Try.prog.underlying 49 = some (.struct fs) ∧ fs.size = 3 ∧ ∀ (i : Nat) (f : Field), fs[i]? = some f → f.offset = i ∧ Try.prog.cellsOf f.type = 1 ∧ Try.prog.underlying f.type = some (.int (if i = 0 then .u8 else .i64)) := by
    refine ⟨_, Try.underlying49, rfl, fun i f hi => ?_⟩
    match i with
    | 0 => cases hi; exact ⟨rfl, cellsU8, Try.underlying5⟩
    | 1 => cases hi; exact ⟨rfl, cellsInt, Try.underlying3⟩
    | 2 => cases hi; exact ⟨rfl, cellsInt, Try.underlying3⟩
    | i + 3 => simp at hi
  rcases open_flat Try.underlying43 he (by rw [cells49, hsz]) (fun i f hi => ⟨(hfs i f hi).1, (hfs i f hi).2.1⟩) hf with hcs | ⟨x, l, c, m, n, hcs, hlm, hall⟩
  · simp [Value.cells] at hcs
    obtain ⟨rfl, rfl, rfl⟩ := hcs
    exact ⟨⟨fun _ => 0, fun _ => 0, fun _ => 0⟩, fun k hk => absurd hk (by omega)⟩
  · simp [Value.cells] at hcs
    obtain ⟨rfl, rfl, rfl⟩ := hcs
    rw [hsz] at hall
    have each : ∀ i j, i < m → j < 3 → ∃ z : Int, w.cell? (x.add (i * 3 + j)) = some (.int (if j = 0 then .u8 else .i64) z) ∧ (Lit.int (if j = 0 then .u8 else .i64) z).wf = true := by
      intro i j hi hj
      obtain ⟨v, y, h1, h2⟩ := hall i hi j fs[j] (Array.getElem?_eq_getElem (by omega))
      obtain ⟨z, hz, _, hw⟩ := DataW.trod_int (hfs j fs[j] (Array.getElem?_eq_getElem (by omega))).2.2 h2
      simp only [List.cons.injEq, and_true] at hz
      subst hz
      exact ⟨z, h1, hw⟩
    have hrow : ∀ i, i < m → ∃ z : Int × Int × Int, (w.cell? (x.add (i * 3)) = some (.int .u8 z.1) ∧ w.cell? (x.add (i * 3 + 1)) = some (.int .i64 z.2.1) ∧ w.cell? (x.add (i * 3 + 2)) = some (.int .i64 z.2.2)) ∧ (Lit.int .u8 z.1).wf = true ∧ (Lit.int .i64 z.2.1).wf = true ∧ (Lit.int .i64 z.2.2).wf = true := by
      intro i hi
      obtain ⟨z0, a0, b0⟩ := each i 0 hi (by omega)
      obtain ⟨z1, a1, b1⟩ := each i 1 hi (by omega)
      obtain ⟨z2, a2, b2⟩ := each i 2 hi (by omega)
      exact ⟨(z0, z1, z2), ⟨a0, a1, a2⟩, b0, b1, b2⟩
    obtain ⟨q, hq⟩ := Go.Deep.choose_lt hrow
    refine ⟨⟨fun k => (q k).1, fun k => (q k).2.1, fun k => (q k).2.2⟩, fun k hk => ?_⟩
    have hk' := hq k (by omega)
    have h0 := hq 0 (by omega)
    have hx : x = ⟨x.block, x.off, none⟩ := by
      have h1 := spot_none h0.1.1
      cases x with
      | mk b o s =>
        unfold Addr.add at h1
        simp at h1
        subst h1
        rfl
    obtain ⟨⟨c0, c1, c2⟩, e0, e1, e2⟩ := hk'
    have hb := World.block_lt_of_cell? w _ c0
    rw [add_block] at hb
    refine ⟨x.block, x.off, congrArg some hx, hb, ?_, ?_, ?_, bounds_u8 e0, bounds_i64 e1, bounds_i64 e2⟩
    · rw [hx, Addr.add_lit] at c0; exact c0
    · rw [hx, Addr.add_lit] at c1; exact c1
    · rw [hx, Addr.add_lit] at c2; exact c2
end Go.Proofs.Ytbmegpcdcbfjmaa
