/- Layer 24's arguments, opened. -/
import Derived.Test.YteeleelkepjoaaaFalls
import Derived.Test.YteeleelkepjoaaaCopp
namespace Go.Proofs.Yteeleelkepjoaaa
namespace Sct
open Go Go.RowKit Go.ChangeShapes Go.WideShapes Go.Deep
section
variable {H : Type} {enc : TypeId × Value → H} {w : World} {n : Nat} {u : Value} {y : DataW H × List MemPlace}
theorem ints_in4 (h : DataW.trod enc Try.prog w 0 (fun _ => true) true n 24 [u] = some y) : ∃ (x : Sl) (l : List Int), u = .slice x.A x.n x.cap ∧ IntsAt w x l ∧ x.n ≤ 9223372036854775807 := by
  rcases open_ints Try.underlying24 Try.underlying3 (by kernel_rfl) h with ⟨hcs, _⟩ | ⟨a, l, c, zs, hcs, _, hl, hm, hz, _, hcell, hwz⟩
  · simp at hcs
    exact ⟨⟨none, 0, 0⟩, [], hcs, ⟨rfl, Nat.le_refl _, fun k z hz => by simp at hz⟩, Nat.zero_le _⟩
  · simp at hcs
    have hr := intRow_of (len := l) hcell hwz (by simp at hz; omega)
    refine ⟨⟨some a, l, c⟩, (List.range l).map (fun j => zs.getD j 0), hcs, ⟨by simp, hl, fun k z hz => ?_⟩, by unfold maxLen at hm; show l ≤ 9223372036854775807; omega⟩
    have hk := (List.getElem?_eq_some_iff.1 hz).1
    simp at hk
    rw [List.getElem?_map, List.getElem?_range hk] at hz
    simp only [Option.map_some, Option.some.injEq] at hz
    obtain ⟨b, off, hA, hc, hb⟩ := (hr k hk).1
    exact ⟨b, off, hA, hb, by rw [hc, ← hz]⟩
set_option maxRecDepth 100000 in
theorem conf_in4 {r : Reach} {b0 : Nat} {v : Value} {d : DataW H} {p : List MemPlace} (hv : Value.okWide Try.prog w r b0 27 v) (h : DataW.Trod enc Try.prog w 0 (fun _ => true) true 27 v d p) : ∃ c : ConfV, v = c.val ∧ ∃ (dd : ConfL) (pl : Tks), ConfIn w c dd pl ∧ c.ce.n ≤ 9223372036854775807 := by
  obtain ⟨cs, rfl, hsz⟩ := okWide_struct Try.underlying27 hv
  rw [c27] at hsz
  obtain ⟨fuel, hf⟩ := h
  obtain ⟨xs, n, _, _, _, hxl, hg⟩ := DataW.trod_struct Try.underlying27 hf
  rw [show (Value.cells (.agg cs)).toList = cs.toList from rfl] at hg
  have hxs : xs.length = 7 := hxl
  have f0 : DataW.trod enc Try.prog w 0 (fun _ => true) true n 23 ((cs.toList.drop 0).take (Try.prog.cellsOf 23)) = some (xs[0]'(by omega)) := (hg 0 _ rfl).trans (List.getElem?_eq_getElem (by omega))
  have f1 : DataW.trod enc Try.prog w 0 (fun _ => true) true n 24 ((cs.toList.drop 4).take (Try.prog.cellsOf 24)) = some (xs[1]'(by omega)) := (hg 1 _ rfl).trans (List.getElem?_eq_getElem (by omega))
  have f2 : DataW.trod enc Try.prog w 0 (fun _ => true) true n 3 ((cs.toList.drop 5).take (Try.prog.cellsOf 3)) = some (xs[2]'(by omega)) := (hg 2 _ rfl).trans (List.getElem?_eq_getElem (by omega))
  have f3 : DataW.trod enc Try.prog w 0 (fun _ => true) true n 24 ((cs.toList.drop 6).take (Try.prog.cellsOf 24)) = some (xs[3]'(by omega)) := (hg 3 _ rfl).trans (List.getElem?_eq_getElem (by omega))
  have f4 : DataW.trod enc Try.prog w 0 (fun _ => true) true n 24 ((cs.toList.drop 7).take (Try.prog.cellsOf 24)) = some (xs[4]'(by omega)) := (hg 4 _ rfl).trans (List.getElem?_eq_getElem (by omega))
  have f5 : DataW.trod enc Try.prog w 0 (fun _ => true) true n 25 ((cs.toList.drop 8).take (Try.prog.cellsOf 25)) = some (xs[5]'(by omega)) := (hg 5 _ rfl).trans (List.getElem?_eq_getElem (by omega))
  have f6 : DataW.trod enc Try.prog w 0 (fun _ => true) true n 24 ((cs.toList.drop 9).take (Try.prog.cellsOf 24)) = some (xs[6]'(by omega)) := (hg 6 _ rfl).trans (List.getElem?_eq_getElem (by omega))
  obtain ⟨ys, m, _, _, _, hyl, hm⟩ := DataW.trod_struct Try.underlying23 f0
  have hys : ys.length = 4 := hyl
  have m0 : DataW.trod enc Try.prog w 0 (fun _ => true) true m 3 ((((cs.toList.drop 0).take (Try.prog.cellsOf 23)).drop 0).take (Try.prog.cellsOf 3)) = some (ys[0]'(by omega)) := (hm 0 _ rfl).trans (List.getElem?_eq_getElem (by omega))
  have m1 : DataW.trod enc Try.prog w 0 (fun _ => true) true m 3 ((((cs.toList.drop 0).take (Try.prog.cellsOf 23)).drop 1).take (Try.prog.cellsOf 3)) = some (ys[1]'(by omega)) := (hm 1 _ rfl).trans (List.getElem?_eq_getElem (by omega))
  have m2 : DataW.trod enc Try.prog w 0 (fun _ => true) true m 3 ((((cs.toList.drop 0).take (Try.prog.cellsOf 23)).drop 2).take (Try.prog.cellsOf 3)) = some (ys[2]'(by omega)) := (hm 2 _ rfl).trans (List.getElem?_eq_getElem (by omega))
  have m3 : DataW.trod enc Try.prog w 0 (fun _ => true) true m 3 ((((cs.toList.drop 0).take (Try.prog.cellsOf 23)).drop 3).take (Try.prog.cellsOf 3)) = some (ys[3]'(by omega)) := (hm 3 _ rfl).trans (List.getElem?_eq_getElem (by omega))
  obtain ⟨z0, e0⟩ := int_in Try.underlying3 m0
  obtain ⟨z1, e1⟩ := int_in Try.underlying3 m1
  obtain ⟨z2, e2⟩ := int_in Try.underlying3 m2
  obtain ⟨z3, e3⟩ := int_in Try.underlying3 m3
  obtain ⟨z5, e5⟩ := int_in Try.underlying3 f2
  rw [c3] at e0 e1 e2 e3 e5
  rw [c23] at e0 e1 e2 e3
  rw [c24] at f1 f3 f4 f6
  rw [c25] at f5
  have hl : cs.toList.length = 10 := by simpa using hsz
  have hcs : Value.agg cs = .agg cs.toList.toArray := by simp
  rw [hcs]
  clear f0 hg hm m0 m1 m2 m3 hf hv hcs hsz
  generalize cs.toList = L at *
  match L, hl with
  | [v0, v1, v2, v3, v4, v5, v6, v7, v8, v9], _ =>
    obtain ⟨x1, l1, rfl, g1⟩ := ints_in f1
    obtain ⟨x3, l3, rfl, g3⟩ := ints_in f3
    obtain ⟨x4, l4, rfl, g4, g9⟩ := ints_in4 f4
    obtain ⟨x6, l6, rfl, g6⟩ := ints_in f6
    obtain ⟨x5, pl, rfl, g5, g7, g8⟩ := tasks_in f5
    simp at e0 e1 e2 e3 e5
    subst e0 e1 e2 e3 e5
    exact ⟨⟨z0, z1, z2, z3, x1, z5, x3, x4, x5, x6⟩, rfl, ⟨l1, l3, l4, l6⟩, pl, ⟨g1, g3, g4, g6, g5, g7, g8⟩, g9⟩
end
theorem nat_of {kd : IntKind} {M : Nat} (h1 : kd.min = 0) (h2 : kd.max = M) {z : Int} (h : (Lit.int kd z).wf = true) : ∃ b : Nat, z = b ∧ b ≤ M := by
  simp [Lit.wf] at h
  simp only [h1, h2] at h
  exact ⟨z.toNat, by omega, by omega⟩
theorem falls_law (c : ConfV) (a1 lo hi : Int) (W : World) (w1 : (Lit.int .u8 a1).wf = true) (_w2 : (Lit.int .i64 lo).wf = true) (_w3 : (Lit.int .i64 hi).wf = true) (g0 : ∃ (dd : ConfL) (pl : Tks), ConfIn W c dd pl ∧ c.ce.n ≤ 9223372036854775807) :
    Calls Try.prog 5 #[c.val, .int .u8 a1, .int .i64 lo, .int .i64 hi] W fun e w' => e = .returned (.bool true) ∧ Below W.heap.size W w' := by
  obtain ⟨dd, pl, hC, hn⟩ := g0
  obtain ⟨b1, rfl, hb1⟩ := nat_of (M := 255) (by decide) (by decide) w1
  exact (falls_any hC hn b1 hb1 lo hi).mono fun e w' ⟨he, hO⟩ => ⟨he, hO.below (Nat.le_refl _) (fun _ h => h.elim)⟩
end Sct
end Go.Proofs.Yteeleelkepjoaaa
