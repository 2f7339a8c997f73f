/- The arguments of the agenda's laws, opened. -/
import Derived.Test.YtmkdboiajjkghaaFlat
import Derived.Test.YtmkdboiajjkghaaFixed5
namespace Go.Proofs.Ytmkdboiajjkghaa
open Go Go.RowKit Go.ChangeShapes Go.WideShapes

theorem cells29 : Try.prog.cellsOf 29 = 5 := by kernel_rfl
theorem cellsInt : Try.prog.cellsOf 3 = 1 := by kernel_rfl
theorem fields29 : ∃ fs : Array Field, Try.prog.underlying 29 = some (.struct fs) ∧ fs.size = 5 ∧ ∀ (i : Nat) (f : Field), fs[i]? = some f → f.offset = i ∧ Try.prog.cellsOf f.type = 1 ∧ Try.prog.underlying f.type = some (.int .i64) := by
  refine ⟨_, Try.underlying29, rfl, fun i f hi => ?_⟩
  match i with
  | 0 => cases hi; exact ⟨rfl, cellsInt, Try.underlying3⟩
  | 1 => cases hi; exact ⟨rfl, cellsInt, Try.underlying3⟩
  | 2 => cases hi; exact ⟨rfl, cellsInt, Try.underlying3⟩
  | 3 => cases hi; exact ⟨rfl, cellsInt, Try.underlying3⟩
  | 4 => cases hi; exact ⟨rfl, cellsInt, Try.underlying3⟩
  | i + 5 => simp at hi

theorem open_ev {H : Type} {enc : TypeId × Value → H} {w : World} {b0 : Nat} {r : Reach} {v : Value} {d : DataW H} {ps : List MemPlace} (hv : Value.okWide Try.prog w r b0 29 v) (h : DataW.Trod enc Try.prog w 0 (fun _ => true) true 29 v d ps) : ∃ e : Ev, v = e.val := by
  obtain ⟨fs, he, hsz, hfs⟩ := fields29
  obtain ⟨l, rfl, hl, hg⟩ := open_struct he (by rw [cells29, hsz]) (fun i f hi => ⟨(hfs i f hi).1, (hfs i f hi).2.1⟩) hv h
  rw [hsz] at hl
  have each : ∀ i, i < 5 → ∃ z : Int, l[i]? = some (.int .i64 z) := by
    intro i hi
    obtain ⟨u, y, n, h1, h2⟩ := hg i fs[i] (Array.getElem?_eq_getElem (by omega))
    obtain ⟨z, hz, _, hw⟩ := DataW.trod_int (hfs i fs[i] (Array.getElem?_eq_getElem (by omega))).2.2 h2
    simp only [List.cons.injEq, and_true] at hz
    subst hz
    exact ⟨z, h1⟩
  clear hg
  match l, hl, each with
  | [u0, u1, u2, u3, u4], _, each =>
    obtain ⟨z0, e0⟩ := each 0 (by omega)
    obtain ⟨z1, e1⟩ := each 1 (by omega)
    obtain ⟨z2, e2⟩ := each 2 (by omega)
    obtain ⟨z3, e3⟩ := each 3 (by omega)
    obtain ⟨z4, e4⟩ := each 4 (by omega)
    cases e0; cases e1; cases e2; cases e3; cases e4
    exact ⟨⟨z0, z1, z2, z3, z4⟩, rfl⟩

/-- Events that came in. -/
def EvArg (w : World) (A : Option Addr) (n : Nat) (l : List Ev) : Prop := l.length = n ∧ EvRow w A l
theorem open_events {H : Type} {enc : TypeId × Value → H} {w : World} {a : Option Addr} {len cap : Nat} {d : DataW H} {ps : List MemPlace} (h : DataW.Trod enc Try.prog w 0 (fun _ => true) true 22 (.slice a len cap) d ps) :
    ∃ z : List Ev, EvArg w a len z := by
  obtain ⟨fuel, hf⟩ := h
  obtain ⟨fs, he, hsz, hfs⟩ := fields29
  rcases open_flat Try.underlying22 he (by rw [cells29, hsz]) (fun i f hi => ⟨(hfs i f hi).1, (hfs i f hi).2.1⟩) hf with hcs | ⟨x, l, c, m, n, hcs, hlm, hall⟩
  · simp [Value.cells] at hcs
    obtain ⟨rfl, rfl, rfl⟩ := hcs
    exact ⟨[], rfl, fun k x hx => by cases hx⟩
  · simp [Value.cells] at hcs
    obtain ⟨rfl, rfl, rfl⟩ := hcs
    rw [hsz] at hall
    have each : ∀ i j, i < m → j < 5 → ∃ z : Int, w.cell? (x.add (i * 5 + j)) = some (.int .i64 z) := by
      intro i j hi hj
      obtain ⟨v, y, h1, h2⟩ := hall i hi j fs[j] (Array.getElem?_eq_getElem (by omega))
      obtain ⟨z, hz, _, hw⟩ := DataW.trod_int (hfs j fs[j] (Array.getElem?_eq_getElem (by omega))).2.2 h2
      simp only [List.cons.injEq, and_true] at hz
      subst hz
      exact ⟨z, h1⟩
    have hrow : ∀ i, i < m → ∃ z : Ev, w.cell? (x.add (i * 5)) = some (.int .i64 z.t) ∧ w.cell? (x.add (i * 5 + 1)) = some (.int .i64 z.k) ∧ w.cell? (x.add (i * 5 + 2)) = some (.int .i64 z.a) ∧ w.cell? (x.add (i * 5 + 3)) = some (.int .i64 z.b) ∧ w.cell? (x.add (i * 5 + 4)) = some (.int .i64 z.c) := by
      intro i hi
      obtain ⟨z0, a0⟩ := each i 0 hi (by omega)
      obtain ⟨z1, a1⟩ := each i 1 hi (by omega)
      obtain ⟨z2, a2⟩ := each i 2 hi (by omega)
      obtain ⟨z3, a3⟩ := each i 3 hi (by omega)
      obtain ⟨z4, a4⟩ := each i 4 hi (by omega)
      exact ⟨⟨z0, z1, z2, z3, z4⟩, a0, a1, a2, a3, a4⟩
    by_cases hl0 : len = 0
    · subst hl0
      exact ⟨[], rfl, fun k x hx => by cases hx⟩
    obtain ⟨q, hq⟩ : ∃ q : Nat → Ev, ∀ i, i < m → w.cell? (x.add (i * 5)) = some (.int .i64 (q i).t) ∧ w.cell? (x.add (i * 5 + 1)) = some (.int .i64 (q i).k) ∧ w.cell? (x.add (i * 5 + 2)) = some (.int .i64 (q i).a) ∧ w.cell? (x.add (i * 5 + 3)) = some (.int .i64 (q i).b) ∧ w.cell? (x.add (i * 5 + 4)) = some (.int .i64 (q i).c) := by
      refine ⟨fun i => if hi : i < m then Classical.choose (hrow i hi) else ⟨0, 0, 0, 0, 0⟩, fun i hi => ?_⟩
      simp only [dif_pos hi]
      exact Classical.choose_spec (hrow i hi)
    refine ⟨(List.range len).map q, by simp, fun k y hy => ?_⟩
    obtain ⟨hk, rfl⟩ : k < len ∧ y = q k := by
      rw [List.getElem?_map] at hy
      by_cases hk : k < len
      · rw [List.getElem?_range hk] at hy
        exact ⟨hk, by simpa using hy.symm⟩
      · rw [List.getElem?_eq_none (by simp; omega)] at hy
        cases hy
    have hx : x = ⟨x.block, x.off, none⟩ := by
      have h1 := spot_none (hq 0 (by omega)).1
      cases x with
      | mk b o s =>
        unfold Addr.add at h1
        simp at h1
        subst h1
        rfl
    obtain ⟨c0, c1, c2, c3, c4⟩ := hq k (by omega)
    have hb := World.block_lt_of_cell? w _ c0
    rw [add_block] at hb
    rw [hx, Addr.add_lit] at c0 c1 c2 c3 c4
    exact ⟨x.block, x.off, congrArg some hx, hb, c0, c1, c2, c3, c4⟩
theorem none_walk (e : Ev) (at_ : Int) (w : World) (_ : (Lit.int .i64 at_).wf = true) : Calls Try.prog 4 #[e.val, .int .i64 at_] w fun e w' => e = .returned (.bool true) ∧ Below w.heap.size w w' := none_any e at_ w
end Go.Proofs.Ytmkdboiajjkghaa
