/- Merged: Open24 Open24b Tells TellsLaw. -/
import Derived.Test.YteeleelkepjoaaaFix24b
import Derived.Test.YteeleelkepjoaaaCopp
import Derived.Test.YteeleelkepjoaaaTA
import Derived.Test.YteeleelkepjoaaaFix24b
import Derived.Lib.RowBridge
/- Layer 24's arguments, opened. -/
namespace Go.Proofs.Yteeleelkepjoaaa
namespace Sct
open Go Go.RowKit Go.ChangeShapes Go.WideShapes Go.Deep
section
variable {H : Type} {enc : TypeId × Value → H} {w : World} {n : Nat} {u : Value} {y : DataW H × List MemPlace}
theorem ints_in4 (h : DataW.trod enc Try.prog w 0 (fun _ => true) true n 24 [u] = some y) : ∃ (x : Sl) (l : List Int), u = .slice x.A x.n x.cap ∧ IntsAt w x l ∧ x.n ≤ 9223372036854775807 := by
  rcases open_ints Try.underlying24 Try.underlying3 (by kernel_rfl) h with ⟨hcs, _⟩ | ⟨a, l, c, zs, hcs, _, hl, hm, hz, _, hcell, hwz⟩
  · simp at hcs
    exact ⟨⟨none, 0, 0⟩, [], hcs, ⟨rfl, Nat.le_refl _, fun k z hz => by simp at hz⟩, Nat.zero_le _⟩
  · simp at hcs
    have hr := intRow_of (len := l) hcell hwz (by simp at hz; omega)
    refine ⟨⟨some a, l, c⟩, (List.range l).map (fun j => zs.getD j 0), hcs, ⟨by simp, hl, fun k z hz => ?_⟩, by unfold maxLen at hm; show l ≤ 9223372036854775807; omega⟩
    have hk := (List.getElem?_eq_some_iff.1 hz).1
    simp at hk
    rw [List.getElem?_map, List.getElem?_range hk] at hz
    simp only [Option.map_some, Option.some.injEq] at hz
    obtain ⟨b, off, hA, hc, hb⟩ := (hr k hk).1
    exact ⟨b, off, hA, hb, by rw [hc, ← hz]⟩
set_option maxRecDepth 100000 in
theorem conf_in4 {r : Reach} {b0 : Nat} {v : Value} {d : DataW H} {p : List MemPlace} (hv : Value.okWide Try.prog w r b0 27 v) (h : DataW.Trod enc Try.prog w 0 (fun _ => true) true 27 v d p) : ∃ c : ConfV, v = c.val ∧ ∃ (dd : ConfL) (pl : Tks), ConfIn w c dd pl ∧ c.ce.n ≤ 9223372036854775807 := by
  obtain ⟨cs, rfl, hsz⟩ := okWide_struct Try.underlying27 hv
  rw [c27] at hsz
  obtain ⟨fuel, hf⟩ := h
  obtain ⟨xs, n, _, _, _, hxl, hg⟩ := DataW.trod_struct Try.underlying27 hf
  rw [show (Value.cells (.agg cs)).toList = cs.toList from rfl] at hg
  have hxs : xs.length = 7 := hxl
  have f0 : DataW.trod enc Try.prog w 0 (fun _ => true) true n 23 ((cs.toList.drop 0).take (Try.prog.cellsOf 23)) = some (xs[0]'(by omega)) := (hg 0 _ rfl).trans (List.getElem?_eq_getElem (by omega))
  have f1 : DataW.trod enc Try.prog w 0 (fun _ => true) true n 24 ((cs.toList.drop 4).take (Try.prog.cellsOf 24)) = some (xs[1]'(by omega)) := (hg 1 _ rfl).trans (List.getElem?_eq_getElem (by omega))
  have f2 : DataW.trod enc Try.prog w 0 (fun _ => true) true n 3 ((cs.toList.drop 5).take (Try.prog.cellsOf 3)) = some (xs[2]'(by omega)) := (hg 2 _ rfl).trans (List.getElem?_eq_getElem (by omega))
  have f3 : DataW.trod enc Try.prog w 0 (fun _ => true) true n 24 ((cs.toList.drop 6).take (Try.prog.cellsOf 24)) = some (xs[3]'(by omega)) := (hg 3 _ rfl).trans (List.getElem?_eq_getElem (by omega))
  have f4 : DataW.trod enc Try.prog w 0 (fun _ => true) true n 24 ((cs.toList.drop 7).take (Try.prog.cellsOf 24)) = some (xs[4]'(by omega)) := (hg 4 _ rfl).trans (List.getElem?_eq_getElem (by omega))
  have f5 : DataW.trod enc Try.prog w 0 (fun _ => true) true n 25 ((cs.toList.drop 8).take (Try.prog.cellsOf 25)) = some (xs[5]'(by omega)) := (hg 5 _ rfl).trans (List.getElem?_eq_getElem (by omega))
  have f6 : DataW.trod enc Try.prog w 0 (fun _ => true) true n 24 ((cs.toList.drop 9).take (Try.prog.cellsOf 24)) = some (xs[6]'(by omega)) := (hg 6 _ rfl).trans (List.getElem?_eq_getElem (by omega))
  obtain ⟨ys, m, _, _, _, hyl, hm⟩ := DataW.trod_struct Try.underlying23 f0
  have hys : ys.length = 4 := hyl
  have m0 : DataW.trod enc Try.prog w 0 (fun _ => true) true m 3 ((((cs.toList.drop 0).take (Try.prog.cellsOf 23)).drop 0).take (Try.prog.cellsOf 3)) = some (ys[0]'(by omega)) := (hm 0 _ rfl).trans (List.getElem?_eq_getElem (by omega))
  have m1 : DataW.trod enc Try.prog w 0 (fun _ => true) true m 3 ((((cs.toList.drop 0).take (Try.prog.cellsOf 23)).drop 1).take (Try.prog.cellsOf 3)) = some (ys[1]'(by omega)) := (hm 1 _ rfl).trans (List.getElem?_eq_getElem (by omega))
  have m2 : DataW.trod enc Try.prog w 0 (fun _ => true) true m 3 ((((cs.toList.drop 0).take (Try.prog.cellsOf 23)).drop 2).take (Try.prog.cellsOf 3)) = some (ys[2]'(by omega)) := (hm 2 _ rfl).trans (List.getElem?_eq_getElem (by omega))
  have m3 : DataW.trod enc Try.prog w 0 (fun _ => true) true m 3 ((((cs.toList.drop 0).take (Try.prog.cellsOf 23)).drop 3).take (Try.prog.cellsOf 3)) = some (ys[3]'(by omega)) := (hm 3 _ rfl).trans (List.getElem?_eq_getElem (by omega))
  obtain ⟨z0, e0⟩ := int_in Try.underlying3 m0
  obtain ⟨z1, e1⟩ := int_in Try.underlying3 m1
  obtain ⟨z2, e2⟩ := int_in Try.underlying3 m2
  obtain ⟨z3, e3⟩ := int_in Try.underlying3 m3
  obtain ⟨z5, e5⟩ := int_in Try.underlying3 f2
  rw [c3] at e0 e1 e2 e3 e5
  rw [c23] at e0 e1 e2 e3
  rw [c24] at f1 f3 f4 f6
  rw [c25] at f5
  have hl : cs.toList.length = 10 := by simpa using hsz
  have hcs : Value.agg cs = .agg cs.toList.toArray := by simp
  rw [hcs]
  clear f0 hg hm m0 m1 m2 m3 hf hv hcs hsz
  generalize cs.toList = L at *
  match L, hl with
  | [v0, v1, v2, v3, v4, v5, v6, v7, v8, v9], _ =>
    obtain ⟨x1, l1, rfl, g1⟩ := ints_in f1
    obtain ⟨x3, l3, rfl, g3⟩ := ints_in f3
    obtain ⟨x4, l4, rfl, g4, g9⟩ := ints_in4 f4
    obtain ⟨x6, l6, rfl, g6⟩ := ints_in f6
    obtain ⟨x5, pl, rfl, g5, g7, g8⟩ := tasks_in f5
    simp at e0 e1 e2 e3 e5
    subst e0 e1 e2 e3 e5
    exact ⟨⟨z0, z1, z2, z3, x1, z5, x3, x4, x5, x6⟩, rfl, ⟨l1, l3, l4, l6⟩, pl, ⟨g1, g3, g4, g6, g5, g7, g8⟩, g9⟩
end
theorem nat_of {kd : IntKind} {M : Nat} (h1 : kd.min = 0) (h2 : kd.max = M) {z : Int} (h : (Lit.int kd z).wf = true) : ∃ b : Nat, z = b ∧ b ≤ M := by
  simp [Lit.wf] at h
  simp only [h1, h2] at h
  exact ⟨z.toNat, by omega, by omega⟩
end Sct
end Go.Proofs.Yteeleelkepjoaaa
/- Layer 24's arguments, opened: with what the operations' numbers are. -/
namespace Go.Proofs.Yteeleelkepjoaaa
namespace Sct
open Go Go.RowKit Go.ChangeShapes Go.WideShapes Go.Deep
/-- Operations that came in: their words are numbers of 64 bits. -/
def OpnW (w : World) (A : Option Addr) (l : List Opn) : Prop := OpnRow w A l ∧ ∀ (j : Nat) o, l[j]? = some o → (Lit.int .i64 o.a).wf = true
section
variable {H : Type} {enc : TypeId × Value → H} {w : World} {n : Nat} {u : Value} {y : DataW H × List MemPlace}
theorem ops_in5 (h : DataW.trod enc Try.prog w 0 (fun _ => true) true n 34 [u] = some y) : ∃ (x : Sl) (l : List Opn), u = .slice x.A x.n x.cap ∧ OpnW w x.A l ∧ l.length = x.n ∧ x.n ≤ x.cap := by
  obtain ⟨x, hx⟩ : ∃ x : Sl, u = .slice x.A x.n x.cap := by
    rcases open_slice Try.underlying34 h with h0 | ⟨a, len, cap, m, n', D, Pl, hcs, _⟩
    · have := h0.1
      simp at this
      exact ⟨⟨none, 0, 0⟩, this⟩
    · simp at hcs
      exact ⟨⟨some a, len, cap⟩, hcs⟩
  subst hx
  obtain ⟨A, len, cap⟩ := x
  obtain ⟨fs, he, hsz, hfs⟩ := fields69
  obtain ⟨hc, z, hz⟩ := open_flat_ints Try.underlying34 he (by rw [c69, hsz]) (by omega) hfs h
  rw [hsz] at hz
  have key : ∀ (k : Nat) (y : Opn), ((List.range len).map (fun i => (⟨z i 0, z i 1, z i 2⟩ : Opn)))[k]? = some y → (∃ b off, A = some ⟨b, off, none⟩ ∧ b < w.heap.size ∧ OpnCells w b (off + k * 3) y) ∧ (Lit.int .i64 y.a).wf = true := fun k y hy => by
    have hk := (List.getElem?_eq_some_iff.1 hy).1
    simp at hk
    rw [List.getElem?_map, List.getElem?_range hk] at hy
    simp only [Option.map_some, Option.some.injEq] at hy
    subst hy
    obtain ⟨b, off, hA, hb, hcell⟩ := hz k hk
    exact ⟨⟨b, off, hA, hb, by have := (hcell 0 (by omega)).1; rwa [← Nat.add_assoc] at this, by have := (hcell 1 (by omega)).1; rwa [← Nat.add_assoc] at this, by have := (hcell 2 (by omega)).1; rwa [← Nat.add_assoc] at this⟩, (hcell 1 (by omega)).2⟩
  exact ⟨⟨A, len, cap⟩, (List.range len).map (fun i => ⟨z i 0, z i 1, z i 2⟩), rfl, ⟨fun k y hy => (key k y hy).1, fun k y hy => (key k y hy).2⟩, by simp, hc⟩

/-- One task that came in. -/
theorem task_in5 {vs : List Value} (hl : vs.length = 7) (h : DataW.trod enc Try.prog w 0 (fun _ => true) true n 36 vs = some y) : ∃ (t : TaskV) (l : List Opn), vs = t.cells ∧ OpnW w t.o.A l ∧ l.length = t.o.n ∧ t.o.n ≤ t.o.cap := by
  obtain ⟨xs, m, _, _, _, hxl, hf⟩ := DataW.trod_struct Try.underlying36 h
  have hxs : xs.length = 7 := hxl
  have f0 : DataW.trod enc Try.prog w 0 (fun _ => true) true m 3 ((vs.drop 0).take (Try.prog.cellsOf 3)) = some (xs[0]'(by omega)) := (hf 0 _ rfl).trans (List.getElem?_eq_getElem (by omega))
  have f1 : DataW.trod enc Try.prog w 0 (fun _ => true) true m 3 ((vs.drop 1).take (Try.prog.cellsOf 3)) = some (xs[1]'(by omega)) := (hf 1 _ rfl).trans (List.getElem?_eq_getElem (by omega))
  have f2 : DataW.trod enc Try.prog w 0 (fun _ => true) true m 3 ((vs.drop 2).take (Try.prog.cellsOf 3)) = some (xs[2]'(by omega)) := (hf 2 _ rfl).trans (List.getElem?_eq_getElem (by omega))
  have f3 : DataW.trod enc Try.prog w 0 (fun _ => true) true m 3 ((vs.drop 3).take (Try.prog.cellsOf 3)) = some (xs[3]'(by omega)) := (hf 3 _ rfl).trans (List.getElem?_eq_getElem (by omega))
  have f4 : DataW.trod enc Try.prog w 0 (fun _ => true) true m 3 ((vs.drop 4).take (Try.prog.cellsOf 3)) = some (xs[4]'(by omega)) := (hf 4 _ rfl).trans (List.getElem?_eq_getElem (by omega))
  have f5 : DataW.trod enc Try.prog w 0 (fun _ => true) true m 3 ((vs.drop 5).take (Try.prog.cellsOf 3)) = some (xs[5]'(by omega)) := (hf 5 _ rfl).trans (List.getElem?_eq_getElem (by omega))
  have f6 : DataW.trod enc Try.prog w 0 (fun _ => true) true m 34 ((vs.drop 6).take (Try.prog.cellsOf 34)) = some (xs[6]'(by omega)) := (hf 6 _ rfl).trans (List.getElem?_eq_getElem (by omega))
  obtain ⟨z0, e0⟩ := int_in Try.underlying3 f0
  obtain ⟨z1, e1⟩ := int_in Try.underlying3 f1
  obtain ⟨z2, e2⟩ := int_in Try.underlying3 f2
  obtain ⟨z3, e3⟩ := int_in Try.underlying3 f3
  obtain ⟨z4, e4⟩ := int_in Try.underlying3 f4
  obtain ⟨z5, e5⟩ := int_in Try.underlying3 f5
  rw [c3] at e0 e1 e2 e3 e4 e5
  replace e0 := one_of e0
  replace e1 := one_of e1
  replace e2 := one_of e2
  replace e3 := one_of e3
  replace e4 := one_of e4
  replace e5 := one_of e5
  rw [c43] at f6
  clear f0 f1 f2 f3 f4 f5 hf
  match vs, hl with
  | [v0, v1, v2, v3, v4, v5, v6], _ =>
    obtain ⟨x, l, rfl, g1, g2, g3⟩ := ops_in5 f6
    cases e0; cases e1; cases e2; cases e3; cases e4; cases e5
    exact ⟨⟨z0, z1, z2, z3, z4, z5, x⟩, l, rfl, g1, g2, g3⟩

/-- Tasks that came in. -/
theorem tasks_in5 (h : DataW.trod enc Try.prog w 0 (fun _ => true) true n 25 [u] = some y) : ∃ (x : Sl) (pl : Tks), u = .slice x.A x.n x.cap ∧ TasksAt w x pl.ts ∧ (∀ (i : Nat) t l, pl[i]? = some (t, l) → OpnW w t.o.A l ∧ l.length = t.o.n ∧ t.o.n ≤ t.o.cap) ∧ x.n ≤ 9223372036854775807 := by
  rcases open_slice Try.underlying25 h with h0 | ⟨a, len, cap, m, n', D, Pl, hcs, hb, hl, hm, hmm, _, hx⟩
  · have := h0.1
    simp at this
    exact ⟨⟨none, 0, 0⟩, [], this, ⟨rfl, Nat.le_refl _, fun k t ht => by simp [Tks.ts] at ht⟩, fun i t l hi => by simp at hi, Nat.zero_le _⟩
  · simp at hcs
    have hlm : len ≤ m := by rw [hmm]; split <;> omega
    have each : ∀ i, i < len → ∃ (t : TaskV) (l : List Opn), (∀ j v, t.cells[j]? = some v → w.cell? (a.add (i * 7 + j)) = some v) ∧ OpnW w t.o.A l ∧ l.length = t.o.n ∧ t.o.n ≤ t.o.cap := fun i hi => by
      obtain ⟨cs', h1, h2⟩ := hx i (by omega)
      rw [c45] at h1
      obtain ⟨_, hlen, hcell⟩ := World.cells?_some h1
      obtain ⟨t, l, rfl, g1, g2, g3⟩ := task_in5 hlen h2
      refine ⟨t, l, fun j v hv => ?_, g1, g2, g3⟩
      have hj : j < 7 := by have := (List.getElem?_eq_some_iff.1 hv).1; simpa [TaskV.cells] using this
      have := hcell j hj
      rw [add_add, hv] at this
      exact this
    have ha : 0 < len → a = ⟨a.block, a.off, none⟩ := fun h0 => by
      obtain ⟨t, l, h1, _⟩ := each 0 h0
      have h2 := spot_none (h1 0 _ rfl)
      cases a with
      | mk b o s =>
        unfold Addr.add at h2
        simp at h2
        subst h2
        rfl
    refine ⟨⟨some a, len, cap⟩, (List.range len).map (fun i => if hi : i < len then (Classical.choose (each i hi), Classical.choose (Classical.choose_spec (each i hi))) else (⟨0, 0, 0, 0, 0, 0, ⟨none, 0, 0⟩⟩, [])), hcs, ⟨by simp [Tks.ts], hl, fun k t ht => ?_⟩, fun i t l hi => ?_, by unfold maxLen at hm; show len ≤ _; omega⟩
    · have hk := (List.getElem?_eq_some_iff.1 ht).1
      simp [Tks.ts] at hk
      unfold Tks.ts at ht
      rw [List.getElem?_map, List.getElem?_map, List.getElem?_range hk] at ht
      simp only [Option.map_some, Option.some.injEq, dif_pos hk] at ht
      have hc := (Classical.choose_spec (Classical.choose_spec (each k hk))).1
      rw [ht] at hc
      have e := ha (by omega)
      have hc' : ∀ j v, t.cells[j]? = some v → w.cell? ⟨a.block, a.off + (k * 7 + j), none⟩ = some v := fun j v hv => by
        have := hc j v hv
        rw [e, Addr.add_lit] at this
        exact this
      have hadd : ∀ j, a.off + k * 7 + j = a.off + (k * 7 + j) := fun j => by omega
      have hblk := World.block_lt_of_cell? w _ (hc' 0 _ rfl)
      exact ⟨a.block, a.off, congrArg some e, hblk, hc' 0 _ rfl, by rw [hadd]; exact hc' 1 _ rfl, by rw [hadd]; exact hc' 2 _ rfl, by rw [hadd]; exact hc' 3 _ rfl, by rw [hadd]; exact hc' 4 _ rfl, by rw [hadd]; exact hc' 5 _ rfl, by rw [hadd]; exact hc' 6 _ rfl⟩
    · have hk := (List.getElem?_eq_some_iff.1 hi).1
      simp at hk
      rw [List.getElem?_map, List.getElem?_range hk] at hi
      simp only [Option.map_some, Option.some.injEq, dif_pos hk, Prod.mk.injEq] at hi
      have hc := (Classical.choose_spec (Classical.choose_spec (each i hk))).2
      rw [hi.2, hi.1] at hc
      exact hc
set_option maxRecDepth 100000 in
theorem conf_in5 {r : Reach} {b0 : Nat} {v : Value} {d : DataW H} {p : List MemPlace} (hv : Value.okWide Try.prog w r b0 27 v) (h : DataW.Trod enc Try.prog w 0 (fun _ => true) true 27 v d p) : ∃ c : ConfV, v = c.val ∧ ∃ (dd : ConfL) (pl : Tks), ConfIn w c dd pl ∧ c.ce.n ≤ 9223372036854775807 ∧ ∀ (i : Nat) t l, pl[i]? = some (t, l) → ∀ (j : Nat) o, l[j]? = some o → (Lit.int .i64 o.a).wf = true := by
  obtain ⟨cs, rfl, hsz⟩ := okWide_struct Try.underlying27 hv
  rw [c27] at hsz
  obtain ⟨fuel, hf⟩ := h
  obtain ⟨xs, n, _, _, _, hxl, hg⟩ := DataW.trod_struct Try.underlying27 hf
  rw [show (Value.cells (.agg cs)).toList = cs.toList from rfl] at hg
  have hxs : xs.length = 7 := hxl
  have f0 : DataW.trod enc Try.prog w 0 (fun _ => true) true n 23 ((cs.toList.drop 0).take (Try.prog.cellsOf 23)) = some (xs[0]'(by omega)) := (hg 0 _ rfl).trans (List.getElem?_eq_getElem (by omega))
  have f1 : DataW.trod enc Try.prog w 0 (fun _ => true) true n 24 ((cs.toList.drop 4).take (Try.prog.cellsOf 24)) = some (xs[1]'(by omega)) := (hg 1 _ rfl).trans (List.getElem?_eq_getElem (by omega))
  have f2 : DataW.trod enc Try.prog w 0 (fun _ => true) true n 3 ((cs.toList.drop 5).take (Try.prog.cellsOf 3)) = some (xs[2]'(by omega)) := (hg 2 _ rfl).trans (List.getElem?_eq_getElem (by omega))
  have f3 : DataW.trod enc Try.prog w 0 (fun _ => true) true n 24 ((cs.toList.drop 6).take (Try.prog.cellsOf 24)) = some (xs[3]'(by omega)) := (hg 3 _ rfl).trans (List.getElem?_eq_getElem (by omega))
  have f4 : DataW.trod enc Try.prog w 0 (fun _ => true) true n 24 ((cs.toList.drop 7).take (Try.prog.cellsOf 24)) = some (xs[4]'(by omega)) := (hg 4 _ rfl).trans (List.getElem?_eq_getElem (by omega))
  have f5 : DataW.trod enc Try.prog w 0 (fun _ => true) true n 25 ((cs.toList.drop 8).take (Try.prog.cellsOf 25)) = some (xs[5]'(by omega)) := (hg 5 _ rfl).trans (List.getElem?_eq_getElem (by omega))
  have f6 : DataW.trod enc Try.prog w 0 (fun _ => true) true n 24 ((cs.toList.drop 9).take (Try.prog.cellsOf 24)) = some (xs[6]'(by omega)) := (hg 6 _ rfl).trans (List.getElem?_eq_getElem (by omega))
  obtain ⟨ys, m, _, _, _, hyl, hm⟩ := DataW.trod_struct Try.underlying23 f0
  have hys : ys.length = 4 := hyl
  have m0 : DataW.trod enc Try.prog w 0 (fun _ => true) true m 3 ((((cs.toList.drop 0).take (Try.prog.cellsOf 23)).drop 0).take (Try.prog.cellsOf 3)) = some (ys[0]'(by omega)) := (hm 0 _ rfl).trans (List.getElem?_eq_getElem (by omega))
  have m1 : DataW.trod enc Try.prog w 0 (fun _ => true) true m 3 ((((cs.toList.drop 0).take (Try.prog.cellsOf 23)).drop 1).take (Try.prog.cellsOf 3)) = some (ys[1]'(by omega)) := (hm 1 _ rfl).trans (List.getElem?_eq_getElem (by omega))
  have m2 : DataW.trod enc Try.prog w 0 (fun _ => true) true m 3 ((((cs.toList.drop 0).take (Try.prog.cellsOf 23)).drop 2).take (Try.prog.cellsOf 3)) = some (ys[2]'(by omega)) := (hm 2 _ rfl).trans (List.getElem?_eq_getElem (by omega))
  have m3 : DataW.trod enc Try.prog w 0 (fun _ => true) true m 3 ((((cs.toList.drop 0).take (Try.prog.cellsOf 23)).drop 3).take (Try.prog.cellsOf 3)) = some (ys[3]'(by omega)) := (hm 3 _ rfl).trans (List.getElem?_eq_getElem (by omega))
  obtain ⟨z0, e0⟩ := int_in Try.underlying3 m0
  obtain ⟨z1, e1⟩ := int_in Try.underlying3 m1
  obtain ⟨z2, e2⟩ := int_in Try.underlying3 m2
  obtain ⟨z3, e3⟩ := int_in Try.underlying3 m3
  obtain ⟨z5, e5⟩ := int_in Try.underlying3 f2
  rw [c3] at e0 e1 e2 e3 e5
  rw [c23] at e0 e1 e2 e3
  rw [c24] at f1 f3 f4 f6
  rw [c25] at f5
  have hl : cs.toList.length = 10 := by simpa using hsz
  have hcs : Value.agg cs = .agg cs.toList.toArray := by simp
  rw [hcs]
  clear f0 hg hm m0 m1 m2 m3 hf hv hcs hsz
  generalize cs.toList = L at *
  match L, hl with
  | [v0, v1, v2, v3, v4, v5, v6, v7, v8, v9], _ =>
    obtain ⟨x1, l1, rfl, g1⟩ := ints_in f1
    obtain ⟨x3, l3, rfl, g3⟩ := ints_in f3
    obtain ⟨x4, l4, rfl, g4, g9⟩ := ints_in4 f4
    obtain ⟨x6, l6, rfl, g6⟩ := ints_in f6
    obtain ⟨x5, pl, rfl, g5, g7, g8⟩ := tasks_in5 f5
    simp at e0 e1 e2 e3 e5
    subst e0 e1 e2 e3 e5
    exact ⟨⟨z0, z1, z2, z3, x1, z5, x3, x4, x5, x6⟩, rfl, ⟨l1, l3, l4, l6⟩, pl, ⟨g1, g3, g4, g6, g5, fun i t l h => ⟨(g7 i t l h).1.1, (g7 i t l h).2⟩, g8⟩, g9, fun i t l h => (g7 i t l h).1.2⟩
end
end Sct
end Go.Proofs.Yteeleelkepjoaaa
/- SectionTells' walk. -/
namespace Go.Proofs.Yteeleelkepjoaaa
namespace Sct
open Go Go.RowKit Lin Lck Cst Srt

theorem lev_none0 (b : Int) (z : Nat → Int) : ∀ n : Nat, lev b z (fun _ => false) n = b
  | 0 => rfl
  | n + 1 => by unfold lev; simpa using lev_none0 b z n

set_option maxRecDepth 100000 in
set_option maxHeartbeats 8000000 in
theorem tells_any {w : World} {c : ConfV} {d : ConfL} {pl : Tks} (hC : ConfIn w c d pl) (hcn : c.ce.n ≤ 9223372036854775807) (hop : ∀ (i : Nat) t l, pl[i]? = some (t, l) → ∀ (j : Nat) o, l[j]? = some o → -9223372036854775808 ≤ o.a ∧ o.a ≤ 9223372036854775807) (z lev : Int) :
    Calls Try.prog 4 #[c.val, .int .i64 z, .int .i64 lev] w (GrowB true w) := by
  have hO := (Only.refl (fun _ => False) w).alloc (.cells c.cells.toArray 27)
  have hB := heap_new_at w (.cells c.cells.toArray 27) rfl
  obtain ⟨W1, hW1⟩ : ∃ W1, W1 = w.alloc (.cells c.cells.toArray 27) := ⟨_, rfl⟩
  rw [← hW1] at hB hO
  have hB' := Lib.hid hB
  have hO' := Lib.hid hO
  have hfew := Lib.hid (fun W (h : Only (fun _ => False) w W) => few24_any (hC.new h) hcn)
  have hnes := Lib.hid (fun W (h : Only (fun _ => False) w W) (hf : FewOk c d pl) => nested_any (hC.new h) hf hop)
  have hCi := Lib.hid (fun W (h : Only (fun _ => False) w W) => hC.new h)
  have htl := Lib.hid (show pl.length = c.ta.n by have := hC.t.len; unfold Tks.ts at this; simpa using this)
  have htn9 := hC.n
  have hsm := Lib.hid (fun (hf : FewOk c d pl) => show c.ce.n ≤ 4096 ∧ c.ta.n ≤ 20 ∧ ∀ (i : Nat) t l, pl[i]? = some (t, l) → t.o.n ≤ 40 ∧ l.length = t.o.n ∧ t.o.n ≤ t.o.cap ∧ -1000 ≤ t.th ∧ t.th ≤ 64 from by
    obtain ⟨h1, h2, h3, h4, h5, h6⟩ := hC.small hf.fe
    refine ⟨by omega, by omega, fun i t l hi => ?_⟩
    obtain ⟨⟨x1, x2⟩, x3⟩ := hf.ta i t (ts_some hi)
    exact ⟨x3, (hC.p i t l hi).2.1, (hC.p i t l hi).2.2, by omega, x2⟩)
  have hlvn := Lib.hid (fun W (h : z < 0 ∨ (c.ta.n : Int) ≤ z) => levels_none (w := W) h)
  have hrcn := Lib.hid (fun W (h : z < 0 ∨ (c.ta.n : Int) ≤ z) => reach_none (w := W) h)
  have hlon := Lib.hid (fun W (h : z < 0 ∨ (c.ta.n : Int) ≤ z) => longest_none (w := W) h lev)
  have hall := Lib.hid (fun W (h : Only (fun _ => False) w W) (hf : FewOk c d pl) (i : Nat) (t : TaskV) (l : List Opn) (hi : pl[i]? = some (t, l)) =>
    show Calls Try.prog 17 #[c.val, .int .i64 (i : Int)] W (LvsEnd t.th (ceZ d.ce) c.ce.n l W) ∧ Calls Try.prog 19 #[c.val, .int .i64 (i : Int), .int .i64 lev] W (GrowI (lonZ t.th (ceZ d.ce) c.ce.n l c.h c.mi lev) W) ∧ Calls Try.prog 22 #[c.val, .int .i64 (i : Int), .int .i64 lev] W (GrowI (lonZ t.th (ceZ d.ce) c.ce.n l c.h c.mi lev) W) ∧
      Calls Try.prog 18 #[c.val, .int .i64 (i : Int)] W (IntsEnd W (rchL t.th (levK t.th (ceZ d.ce) c.ce.n l) l.length)) ∧ Calls Try.prog 21 #[c.val, .int .i64 (i : Int)] W (IntsEnd W (rchL t.th (levK t.th (ceZ d.ce) c.ce.n l) l.length)) ∧
      ∀ k, k ≤ l.length → Calls Try.prog 20 #[c.val, .agg #[.int .i64 t.p, .int .i64 t.th, .int .i64 t.pe, .int .i64 t.de, .int .i64 t.fr, .int .i64 t.fl, .slice t.o.A t.o.n t.o.cap], .slice t.o.A k t.o.cap] W (GrowI (levK t.th (ceZ d.ce) c.ce.n l k) W) from by
    obtain ⟨s1, s2, s3⟩ := hsm.out hf
    obtain ⟨s4, s5, s6, s7, s8⟩ := s3 i t l hi
    have hN := hC.new h
    refine ⟨levels_any hN s1 hi (by omega) (by omega), longest_any hN s1 hi (by omega) (by omega) lev, rlong_any hN s1 (fun W' h' => (hN.new h').ce) hi (by omega) lev, reach_any hN s1 hi (by omega) (by omega), ?_, fun k hk => ?_⟩
    · have := rreach_any hN s1 (fun W' h' => (hN.new h').ce) hi (by omega) s7 s8
      rwa [rr_eq (by unfold levK levS stS; simp [st0]; exact lev_none0 _ _ _) (fun k => levK_le s8 hf.ce _ _ k)] at this
    · exact rlevel_any (fun W' h' => (hN.new h').ce) s1 t (opnrow_take (hN.p i t l hi).1 k) (by rw [List.length_take]; omega) (by omega))
  -- [W
  obtain ⟨q, hqq⟩ : ∃ q, q = w.heap.size := ⟨_, rfl⟩
  have hqq' := Lib.hid hqq
  rw [← hqq] at hB'
  clear hO hB hqq hC hop
  rw [show c.val = .agg #[.int .i64 c.s, .int .i64 c.wy, .int .i64 c.h, .int .i64 c.mi, .slice c.mb.A c.mb.n c.mb.cap, .int .i64 c.g, .slice c.cn.A c.cn.n c.cn.cap, .slice c.ce.A c.ce.n c.ce.cap, .slice c.ta.A c.ta.n c.ta.cap, .slice c.li.A c.li.n c.li.cap] from rfl] at hfew hnes hlvn hrcn hlon hall ⊢
  unfold ConfV.cells at hW1 hB'
  obtain ⟨s, wy, h, mi, ⟨mA, mn, mc⟩, g, ⟨cA, cn, cc⟩, ⟨eA, en, ec⟩, ⟨tA, tn, tc⟩, ⟨lA, ln, lc⟩⟩ := c
  dsimp only at *
  have hW1' := Lib.hid hW1
  clear hW1
  go_enter Try.func4, Try.ntmps4
  go_wp2_with fail
  rw [← hqq'.out, ← hW1'.out]
  go_wp2_with fail
  refine (fixed24_any _).mono ?_
  rintro e w2 ⟨rfl, hO2⟩
  have hO2' := Lib.hid (hO'.out.trans' hO2)
  have hB2 := Lib.hid (hO2.heap hB'.out (fun h => h))
  clear hO2 hO' hB' hW1'
  have hkeep := Lib.hid (fun W0 (h0 : Only (fun _ => False) w2 W0) => show W0.cell? ⟨q, 0, none⟩ = some (.int .i64 s) ∧ W0.cell? ⟨q, 1, none⟩ = some (.int .i64 wy) ∧ W0.cell? ⟨q, 2, none⟩ = some (.int .i64 h) ∧ W0.cell? ⟨q, 3, none⟩ = some (.int .i64 mi) ∧ W0.cell? ⟨q, 4, none⟩ = some (.slice mA mn mc) ∧ W0.cell? ⟨q, 5, none⟩ = some (.int .i64 g) ∧ W0.cell? ⟨q, 6, none⟩ = some (.slice cA cn cc) ∧ W0.cell? ⟨q, 7, none⟩ = some (.slice eA en ec) ∧ W0.cell? ⟨q, 8, none⟩ = some (.slice tA tn tc) ∧ W0.cell? ⟨q, 9, none⟩ = some (.slice lA ln lc) ∧ q < W0.heap.size from by
    have z := h0.heap hB2.out (fun h => h)
    exact ⟨row_cell z (i := 0) rfl, row_cell z (i := 1) rfl, row_cell z (i := 2) rfl, row_cell z (i := 3) rfl, row_cell z (i := 4) rfl, row_cell z (i := 5) rfl, row_cell z (i := 6) rfl, row_cell z (i := 7) rfl, row_cell z (i := 8) rfl, row_cell z (i := 9) rfl, row_lt z⟩)
  obtain ⟨e0, e1, e2, e3, e4, e5, e6, e7, e8, e9, hqlt⟩ := hkeep.out _ (Only.refl _ _)
  go_wp2_with fail
  refine (hfew.out _ hO2'.out).mono ?_
  rintro e w3 ⟨F, rfl, hF, hO3⟩
  have hO3' := Lib.hid (hO2'.out.trans' hO3)
  have hO23 := Lib.hid hO3
  have hF' := Lib.hid hF
  clear hO3 hF e0 e1 e2 e3 e4 e5 e6 e7 e8 e9 hqlt hfew
  obtain ⟨e0, e1, e2, e3, e4, e5, e6, e7, e8, e9, hqlt⟩ := hkeep.out _ hO23.out
  cases F
  · go_wp2
    go_ret
    exact ⟨rfl, hO3'.out⟩
  have hfo := Lib.hid (hF'.out rfl)
  clear hF'
  go_wp2_with fail
  refine (hnes.out _ hO3'.out hfo.out).mono ?_
  rintro e w4 ⟨F, rfl, hO4⟩
  have hO4' := Lib.hid (hO3'.out.trans' hO4)
  have hO24 := Lib.hid (hO23.out.trans' hO4)
  clear hO4 e0 e1 e2 e3 e4 e5 e6 e7 e8 e9 hqlt hnes
  obtain ⟨e0, e1, e2, e3, e4, e5, e6, e7, e8, e9, hqlt⟩ := hkeep.out _ hO24.out
  cases F
  · go_wp2
    go_ret
    exact ⟨rfl, hO4'.out⟩
  by_cases hz : z < 0 ∨ (tn : Int) ≤ z
  · go_wp2_with fail
    refine (hlvn.out _ hz).mono ?_
    rintro e w5 ⟨rfl, hO5⟩
    have hO5' := Lib.hid (hO4'.out.trans' hO5)
    have hO25 := Lib.hid (hO24.out.trans' hO5)
    clear hO5 e0 e1 e2 e3 e4 e5 e6 e7 e8 e9 hqlt
    have hkeep5 := Lib.hid (fun W0 (h0 : Only (fun _ => False) w5 W0) => hkeep.out W0 (hO25.out.trans' h0))
    obtain ⟨e0, e1, e2, e3, e4, e5, e6, e7, e8, e9, hqlt⟩ := hkeep5.out _ (Only.refl _ _)
    by_cases h0 : z < 0
    · go_upto_region 7 with fail
      go_region_held3 (fun W0 => W0.cell? ⟨q, 0, none⟩ = some (.int .i64 s) ∧ W0.cell? ⟨q, 1, none⟩ = some (.int .i64 wy) ∧ W0.cell? ⟨q, 2, none⟩ = some (.int .i64 h) ∧ W0.cell? ⟨q, 3, none⟩ = some (.int .i64 mi) ∧ W0.cell? ⟨q, 4, none⟩ = some (.slice mA mn mc) ∧ W0.cell? ⟨q, 5, none⟩ = some (.int .i64 g) ∧ W0.cell? ⟨q, 6, none⟩ = some (.slice cA cn cc) ∧ W0.cell? ⟨q, 7, none⟩ = some (.slice eA en ec) ∧ W0.cell? ⟨q, 8, none⟩ = some (.slice tA tn tc) ∧ W0.cell? ⟨q, 9, none⟩ = some (.slice lA ln lc) ∧ q < W0.heap.size)
        (exact hkeep5.out _ (by repeat (first | assumption | exact Only.refl _ _ | apply Only.drew)))
        (first
          | (go_at_call 18; (with_reducible refine (hrcn.out _ hz).mono ?_); rintro _ w6 ⟨rfl, ho6⟩; have hO6 : Only (fun _ => False) w5 w6 := Only.trans' (by repeat (first | assumption | exact Only.refl _ _ | apply Only.drew)) ho6; clear ho6)
          | (go_at_call 19; (with_reducible refine (hlon.out _ hz).mono ?_); rintro _ w7 ⟨rfl, ho7⟩; have hO7 : Only (fun _ => False) w5 w7 := Only.trans' (by repeat (first | assumption | exact Only.refl _ _ | apply Only.drew)) ho7; clear ho7))
      all_goals
        go_wp2
        go_ret
        exact ⟨rfl, hO5'.out.trans' hO7⟩
    · have h2 : (tn : Int) ≤ z := by omega
      go_upto_region 7 with fail
      go_region_held3 (fun W0 => W0.cell? ⟨q, 0, none⟩ = some (.int .i64 s) ∧ W0.cell? ⟨q, 1, none⟩ = some (.int .i64 wy) ∧ W0.cell? ⟨q, 2, none⟩ = some (.int .i64 h) ∧ W0.cell? ⟨q, 3, none⟩ = some (.int .i64 mi) ∧ W0.cell? ⟨q, 4, none⟩ = some (.slice mA mn mc) ∧ W0.cell? ⟨q, 5, none⟩ = some (.int .i64 g) ∧ W0.cell? ⟨q, 6, none⟩ = some (.slice cA cn cc) ∧ W0.cell? ⟨q, 7, none⟩ = some (.slice eA en ec) ∧ W0.cell? ⟨q, 8, none⟩ = some (.slice tA tn tc) ∧ W0.cell? ⟨q, 9, none⟩ = some (.slice lA ln lc) ∧ q < W0.heap.size)
        (exact hkeep5.out _ (by repeat (first | assumption | exact Only.refl _ _ | apply Only.drew)))
        (first
          | (go_at_call 18; (with_reducible refine (hrcn.out _ hz).mono ?_); rintro _ w6 ⟨rfl, ho6⟩; have hO6 : Only (fun _ => False) w5 w6 := Only.trans' (by repeat (first | assumption | exact Only.refl _ _ | apply Only.drew)) ho6; clear ho6)
          | (go_at_call 19; (with_reducible refine (hlon.out _ hz).mono ?_); rintro _ w7 ⟨rfl, ho7⟩; have hO7 : Only (fun _ => False) w5 w7 := Only.trans' (by repeat (first | assumption | exact Only.refl _ _ | apply Only.drew)) ho7; clear ho7))
      all_goals
        go_wp2
        go_ret
        exact ⟨rfl, hO5'.out.trans' hO7⟩
  -- [X
  obtain ⟨i, hi⟩ : ∃ i : Nat, z = (i : Int) := ⟨z.toNat, by omega⟩
  subst hi
  have hitn : i < tn := by omega
  clear hz hlvn hrcn hlon
  obtain ⟨⟨t, l⟩, hpi⟩ : ∃ x, pl[i]? = some x := ⟨_, List.getElem?_eq_getElem (by have := htl.out; omega)⟩
  have hAll := Lib.hid (fun W h => hall.out W h hfo.out i t l hpi)
  obtain ⟨hon, hln, hoc, hth1, hth2⟩ := (hsm.out hfo.out).2.2 i t l hpi
  have hta := Lib.hid (fun W (h : Only (fun _ => False) w W) => (hCi.out W h).t.at_ i t (ts_some hpi))
  have hfine := Lib.hid (hCi.out _ hO4'.out)
  obtain ⟨V, hV⟩ : ∃ V, V = lonZ t.th (ceZ d.ce) en l h mi lev := ⟨_, rfl⟩
  obtain ⟨LV, hLV⟩ : ∃ LV, LV = levK t.th (ceZ d.ce) en l := ⟨_, rfl⟩
  obtain ⟨m, hm⟩ : ∃ m, m = l.length := ⟨_, rfl⟩
  obtain ⟨R, hR⟩ : ∃ R, R = rchL t.th (levK t.th (ceZ d.ce) en l) l.length := ⟨_, rfl⟩
  have hRlen : R.length ≤ 1000 := by
    rw [hR]
    unfold rchL
    have h1 := Lib.compact_length_le (up (rchU t.th (levK t.th (ceZ d.ce) en l) l.length))
    have h2 := rchU_len t.th (levK t.th (ceZ d.ce) en l) l.length
    unfold up at h1 ⊢
    rw [List.length_mergeSort] at h1
    omega
  have hR0 : m = 0 → R = [] := fun h0 => by
    rw [hR, ← hm, h0]
    exact List.eq_nil_iff_forall_not_mem.2 (fun x hx => by obtain ⟨j, hj, _⟩ := rchL_mem.1 hx; omega)
  have hLVs := Lib.hid (fun (W w' : World) (e : Ending) (hE : LvsEnd t.th (ceZ d.ce) en l W e w') => show ∃ G, e = .returned (.slice (some ⟨G, 0, none⟩) m m) ∧ (∀ k, k < m → w'.cell? ⟨G, k * 2, none⟩ = some (.int .i64 (LV k)) ∧ w'.cell? ⟨G, k * 2 + 1, none⟩ = some (.int .i64 (LV (k + 1)))) ∧ G < w'.heap.size ∧ Only (fun _ => False) W w' from by
    obtain ⟨G, h1, _, h3, h4⟩ := hE
    rw [← hm] at h1 h3
    refine ⟨G, h1, fun k hk => ?_, row_lt h3, h4⟩
    obtain ⟨a1, a2⟩ := pairs_at (th := t.th) (z := ceZ d.ce) (n := en) (l := l) (m := m) hk
    rw [hLV]
    exact ⟨row_cell h3 a1, row_cell h3 a2⟩)
  have hlv := Lib.hid (fun W h => (hAll.out W h).1)
  have hl1 := Lib.hid (fun W h => (hAll.out W h).2.1)
  have hl2 := Lib.hid (fun W h => (hAll.out W h).2.2.1)
  have hr1 := Lib.hid (fun W h => (hAll.out W h).2.2.2.1)
  have hr2 := Lib.hid (fun W h => (hAll.out W h).2.2.2.2.1)
  have hcl := Lib.hid (fun W h => (hAll.out W h).2.2.2.2.2)
  rw [← hV] at hl1 hl2
  rw [← hR] at hr1 hr2
  rw [← hLV, ← hm] at hcl
  have hmn : t.o.n = m := by omega
  clear hAll hall hV hLV hR hm hpi hln hsm hCi htl
  obtain ⟨tp, th, tpe, tde, tfr, tfl, ⟨oA, on, oc⟩⟩ := t
  dsimp only at *
  subst hmn
  have hz0 : ¬ (i : Int) < 0 := by omega
  have hz1 : ¬ (tn : Int) ≤ (i : Int) := by omega
  have hz2 : (i : Int) < (tn : Int) := by omega
  have hz3 : ¬ tn ≤ i := by omega
  go_wp2_with fail
  refine (hlv.out _ hO4'.out).mono ?_
  intro e w5 hE
  obtain ⟨G, rfl, hcells, hGl, hO5⟩ := hLVs.out _ _ _ hE
  have hcells' := Lib.hid hcells
  have hGl' := Lib.hid hGl
  have hO5' := Lib.hid (hO4'.out.trans' hO5)
  have hO25 := Lib.hid (hO24.out.trans' hO5)
  clear hE hcells hGl hO5 e0 e1 e2 e3 e4 e5 e6 e7 e8 e9 hqlt hLVs hlv
  obtain ⟨e0, e1, e2, e3, e4, e5, e6, e7, e8, e9, hqlt⟩ := hkeep.out _ hO25.out
  obtain ⟨tb, toff, htA, htb, htC⟩ := hta.out _ hO5'.out
  subst htA
  obtain ⟨c0, c1, c2, c3, c4, c5, c6⟩ := htC
  dsimp only at c0 c1 c2 c3 c4 c5 c6
  go_upto_region 9 with fail
  generalize hw6 : w5.alloc (.cells #[.int .i64 tp, .int .i64 th, .int .i64 tpe, .int .i64 tde, .int .i64 tfr, .int .i64 tfl, .slice oA on oc] 36) = w6
  have hO56 : Only (fun _ => False) w5 w6 := by rw [← hw6]; exact (Only.refl _ _).alloc _
  obtain ⟨Y, hY⟩ : ∃ Y, Y = w5.heap.size := ⟨_, rfl⟩
  have hy6 := Lib.hid (show w6.heap[Y]? = some (.cells #[.int .i64 tp, .int .i64 th, .int .i64 tpe, .int .i64 tde, .int .i64 tfr, .int .i64 tfl, .slice oA on oc] 36 (0, 0)) by rw [← hw6]; exact heap_new_at _ _ hY.symm)
  rw [← hY]
  have hO6' := Lib.hid (hO5'.out.trans' hO56)
  have hO26 := Lib.hid (hO25.out.trans' hO56)
  have hO56' := Lib.hid hO56
  have hkeep6 := Lib.hid (fun W0 (h0 : Only (fun _ => False) w6 W0) => show (W0.cell? ⟨q, 0, none⟩ = some (.int .i64 s) ∧ W0.cell? ⟨q, 1, none⟩ = some (.int .i64 wy) ∧ W0.cell? ⟨q, 2, none⟩ = some (.int .i64 h) ∧ W0.cell? ⟨q, 3, none⟩ = some (.int .i64 mi) ∧ W0.cell? ⟨q, 4, none⟩ = some (.slice mA mn mc) ∧ W0.cell? ⟨q, 5, none⟩ = some (.int .i64 g) ∧ W0.cell? ⟨q, 6, none⟩ = some (.slice cA cn cc) ∧ W0.cell? ⟨q, 7, none⟩ = some (.slice eA en ec) ∧ W0.cell? ⟨q, 8, none⟩ = some (.slice (some ⟨tb, toff, none⟩) tn tc) ∧ W0.cell? ⟨q, 9, none⟩ = some (.slice lA ln lc) ∧ q < W0.heap.size) ∧ (W0.cell? ⟨Y, 0, none⟩ = some (.int .i64 tp) ∧ W0.cell? ⟨Y, 1, none⟩ = some (.int .i64 th) ∧ W0.cell? ⟨Y, 2, none⟩ = some (.int .i64 tpe) ∧ W0.cell? ⟨Y, 3, none⟩ = some (.int .i64 tde) ∧ W0.cell? ⟨Y, 4, none⟩ = some (.int .i64 tfr) ∧ W0.cell? ⟨Y, 5, none⟩ = some (.int .i64 tfl) ∧ W0.cell? ⟨Y, 6, none⟩ = some (.slice oA on oc) ∧ Y < W0.heap.size) from by
    have y := h0.heap hy6.out (fun h => h)
    exact ⟨hkeep.out W0 (hO26.out.trans' h0), row_cell (L := [.int .i64 tp, .int .i64 th, .int .i64 tpe, .int .i64 tde, .int .i64 tfr, .int .i64 tfl, .slice oA on oc]) y (i := 0) rfl, row_cell (L := [.int .i64 tp, .int .i64 th, .int .i64 tpe, .int .i64 tde, .int .i64 tfr, .int .i64 tfl, .slice oA on oc]) y (i := 1) rfl, row_cell (L := [.int .i64 tp, .int .i64 th, .int .i64 tpe, .int .i64 tde, .int .i64 tfr, .int .i64 tfl, .slice oA on oc]) y (i := 2) rfl, row_cell (L := [.int .i64 tp, .int .i64 th, .int .i64 tpe, .int .i64 tde, .int .i64 tfr, .int .i64 tfl, .slice oA on oc]) y (i := 3) rfl, row_cell (L := [.int .i64 tp, .int .i64 th, .int .i64 tpe, .int .i64 tde, .int .i64 tfr, .int .i64 tfl, .slice oA on oc]) y (i := 4) rfl, row_cell (L := [.int .i64 tp, .int .i64 th, .int .i64 tpe, .int .i64 tde, .int .i64 tfr, .int .i64 tfl, .slice oA on oc]) y (i := 5) rfl, row_cell (L := [.int .i64 tp, .int .i64 th, .int .i64 tpe, .int .i64 tde, .int .i64 tfr, .int .i64 tfl, .slice oA on oc]) y (i := 6) rfl, row_lt y⟩)
  clear hw6 hY hO56 hy6 e0 e1 e2 e3 e4 e5 e6 e7 e8 e9 hqlt c0 c1 c2 c3 c4 c5 c6 htb hkeep hta hfine hfo hO4' hO24 hO25 hO3' hO23 hO2' hB2
  obtain ⟨-, -, -, -, -, -, -, y6, yl⟩ := hkeep6.out _ (Only.refl _ _)
  go_wp2
  clear y6 yl
  go_loopw [62] (fun i' wr => ∃ k : Nat, k ≤ on ∧ i' = .int .i64 k ∧ Only (fun _ => False) w6 wr) (fun i' _ => on - (intOf i').toNat)
  case atStart => exact ⟨0, Nat.zero_le _, rfl, Only.refl _ _⟩
  case round =>
    obtain ⟨k, hk, rfl, hO⟩ := hrel
    obtain ⟨ws, hws⟩ : ∃ ws : World, ws = wr := ⟨_, rfl⟩
    subst hws
    have hOs := Lib.hid hO
    have hOw := Lib.hid (hO6'.out.trans' hO)
    clear hO
    by_cases hkm : k < on
    · have hkm' : (k : Int) < (on : Int) := by omega
      have hkc : k ≤ oc := by omega
      have hkc1 : k + 1 ≤ oc := by omega
      have hk1 : ((k : Int) + 1).toNat = k + 1 := by omega
      have hwk : IntKind.i64.wrap ((k : Int) + 1) = (k : Int) + 1 := IntWalk.i64_in _ (by omega)
      have hk2 : (0 : Int) ≤ (k : Int) + 1 := by omega
      have hk3 : (k : Int) + 1 ≤ (oc : Int) := by omega
      obtain ⟨g0, g1⟩ := hcells'.out k hkm
      replace g0 := (hO56'.out.trans' hOs.out).cell g0 (fun h => h)
      replace g1 := (hO56'.out.trans' hOs.out).cell g1 (fun h => h)
      have hGs := Nat.lt_of_lt_of_le hGl'.out (hO56'.out.trans' hOs.out).size
      obtain ⟨L, hL⟩ : ∃ L, L = LV k := ⟨_, rfl⟩
      obtain ⟨L1, hL1⟩ : ∃ L1, L1 = LV (k + 1) := ⟨_, rfl⟩
      have hcA := Lib.hid (fun W (h0 : Only (fun _ => False) ws W) => hcl.out W (hOw.out.trans' h0) k (by omega))
      have hcB := Lib.hid (fun W (h0 : Only (fun _ => False) ws W) => hcl.out W (hOw.out.trans' h0) (k + 1) (by omega))
      rw [← hL] at hcA g0
      rw [← hL1] at hcB g1
      clear hL hL1
      go_upto_region 14 with fail
      generalize hwx : ws.alloc (.cells #[.int .i64 L, .int .i64 L1] 53) = wx
      have hOx : Only (fun _ => False) ws wx := by rw [← hwx]; exact (Only.refl _ _).alloc _
      obtain ⟨X, hX⟩ : ∃ X, X = ws.heap.size := ⟨_, rfl⟩
      have hx := Lib.hid (show wx.heap[X]? = some (.cells #[.int .i64 L, .int .i64 L1] 53 (0, 0)) by rw [← hwx]; exact heap_new_at _ _ hX.symm)
      rw [← hX]
      have hOx' := Lib.hid hOx
      have hkeepx := Lib.hid (fun W0 (h0 : Only (fun _ => False) wx W0) => show ((W0.cell? ⟨q, 0, none⟩ = some (.int .i64 s) ∧ W0.cell? ⟨q, 1, none⟩ = some (.int .i64 wy) ∧ W0.cell? ⟨q, 2, none⟩ = some (.int .i64 h) ∧ W0.cell? ⟨q, 3, none⟩ = some (.int .i64 mi) ∧ W0.cell? ⟨q, 4, none⟩ = some (.slice mA mn mc) ∧ W0.cell? ⟨q, 5, none⟩ = some (.int .i64 g) ∧ W0.cell? ⟨q, 6, none⟩ = some (.slice cA cn cc) ∧ W0.cell? ⟨q, 7, none⟩ = some (.slice eA en ec) ∧ W0.cell? ⟨q, 8, none⟩ = some (.slice (some ⟨tb, toff, none⟩) tn tc) ∧ W0.cell? ⟨q, 9, none⟩ = some (.slice lA ln lc) ∧ q < W0.heap.size) ∧ (W0.cell? ⟨Y, 0, none⟩ = some (.int .i64 tp) ∧ W0.cell? ⟨Y, 1, none⟩ = some (.int .i64 th) ∧ W0.cell? ⟨Y, 2, none⟩ = some (.int .i64 tpe) ∧ W0.cell? ⟨Y, 3, none⟩ = some (.int .i64 tde) ∧ W0.cell? ⟨Y, 4, none⟩ = some (.int .i64 tfr) ∧ W0.cell? ⟨Y, 5, none⟩ = some (.int .i64 tfl) ∧ W0.cell? ⟨Y, 6, none⟩ = some (.slice oA on oc) ∧ Y < W0.heap.size)) ∧ W0.cell? ⟨X, 0, none⟩ = some (.int .i64 L) ∧ W0.cell? ⟨X, 1, none⟩ = some (.int .i64 L1) ∧ X < W0.heap.size from by
        have x := h0.heap hx.out (fun h => h)
        exact ⟨hkeep6.out W0 (hOs.out.trans' (hOx'.out.trans' h0)), row_cell (L := [.int .i64 L, .int .i64 L1]) x (i := 0) rfl, row_cell (L := [.int .i64 L, .int .i64 L1]) x (i := 1) rfl, row_lt x⟩)
      have hcA2 := Lib.hid (fun W (h0 : Only (fun _ => False) wx W) => hcA.out W (hOx'.out.trans' h0))
      have hcB2 := Lib.hid (fun W (h0 : Only (fun _ => False) wx W) => hcB.out W (hOx'.out.trans' h0))
      clear hwx hX hOx hx g0 g1 hGs hcA hcB
      have hb0 : (L != L) = false := by simp
      have hb1 : (L1 != L1) = false := by simp
      obtain ⟨⟨⟨e0, e1, e2, e3, e4, e5, e6, e7, e8, e9, hqlt⟩, y0, y1, y2, y3, y4, y5, y6, yl⟩, x0, x1, xl⟩ := hkeepx.out _ (Only.refl _ _)
      go_region_held3 (fun W0 => ((W0.cell? ⟨q, 0, none⟩ = some (.int .i64 s) ∧ W0.cell? ⟨q, 1, none⟩ = some (.int .i64 wy) ∧ W0.cell? ⟨q, 2, none⟩ = some (.int .i64 h) ∧ W0.cell? ⟨q, 3, none⟩ = some (.int .i64 mi) ∧ W0.cell? ⟨q, 4, none⟩ = some (.slice mA mn mc) ∧ W0.cell? ⟨q, 5, none⟩ = some (.int .i64 g) ∧ W0.cell? ⟨q, 6, none⟩ = some (.slice cA cn cc) ∧ W0.cell? ⟨q, 7, none⟩ = some (.slice eA en ec) ∧ W0.cell? ⟨q, 8, none⟩ = some (.slice (some ⟨tb, toff, none⟩) tn tc) ∧ W0.cell? ⟨q, 9, none⟩ = some (.slice lA ln lc) ∧ q < W0.heap.size) ∧ (W0.cell? ⟨Y, 0, none⟩ = some (.int .i64 tp) ∧ W0.cell? ⟨Y, 1, none⟩ = some (.int .i64 th) ∧ W0.cell? ⟨Y, 2, none⟩ = some (.int .i64 tpe) ∧ W0.cell? ⟨Y, 3, none⟩ = some (.int .i64 tde) ∧ W0.cell? ⟨Y, 4, none⟩ = some (.int .i64 tfr) ∧ W0.cell? ⟨Y, 5, none⟩ = some (.int .i64 tfl) ∧ W0.cell? ⟨Y, 6, none⟩ = some (.slice oA on oc) ∧ Y < W0.heap.size)) ∧ W0.cell? ⟨X, 0, none⟩ = some (.int .i64 L) ∧ W0.cell? ⟨X, 1, none⟩ = some (.int .i64 L1) ∧ X < W0.heap.size)
        (exact hkeepx.out _ (by repeat (first | assumption | exact Only.refl _ _ | apply Only.drew)))
        (first
          | (go_at_call 20; (with_reducible refine (hcA2.out _ (by repeat (first | assumption | exact Only.refl _ _ | apply Only.drew))).mono ?_); rintro _ w8 ⟨rfl, ho8⟩; have hO8 : Only (fun _ => False) wx w8 := Only.trans' (by repeat (first | assumption | exact Only.refl _ _ | apply Only.drew)) ho8; clear ho8)
          | (go_at_call 20; (with_reducible refine (hcB2.out _ (by repeat (first | assumption | exact Only.refl _ _ | apply Only.drew))).mono ?_); rintro _ w9 ⟨rfl, ho9⟩; have hO9 : Only (fun _ => False) wx w9 := Only.trans' (by repeat (first | assumption | exact Only.refl _ _ | apply Only.drew)) ho9; clear ho9))
      all_goals
        go_wp2
        go_roundw
        case rel => exact ⟨k + 1, by omega, by go_num, hOs.out.trans' (hOx'.out.trans' hO9)⟩
        case measure => simp [intOf]; omega
    · obtain rfl : on = k := by omega
      have hkeeps := Lib.hid (fun W0 (h0 : Only (fun _ => False) ws W0) => hkeep6.out W0 (hOs.out.trans' h0))
      have q1 := Lib.hid (fun W (h0 : Only (fun _ => False) ws W) => hr1.out W (hOw.out.trans' h0))
      have q2 := Lib.hid (fun W (h0 : Only (fun _ => False) ws W) => hr2.out W (hOw.out.trans' h0))
      obtain ⟨⟨e0, e1, e2, e3, e4, e5, e6, e7, e8, e9, hqlt⟩, -⟩ := hkeeps.out _ (Only.refl _ _)
      go_wp2_with fail
      go_region_held3 (fun W0 => W0.cell? ⟨q, 0, none⟩ = some (.int .i64 s) ∧ W0.cell? ⟨q, 1, none⟩ = some (.int .i64 wy) ∧ W0.cell? ⟨q, 2, none⟩ = some (.int .i64 h) ∧ W0.cell? ⟨q, 3, none⟩ = some (.int .i64 mi) ∧ W0.cell? ⟨q, 4, none⟩ = some (.slice mA mn mc) ∧ W0.cell? ⟨q, 5, none⟩ = some (.int .i64 g) ∧ W0.cell? ⟨q, 6, none⟩ = some (.slice cA cn cc) ∧ W0.cell? ⟨q, 7, none⟩ = some (.slice eA en ec) ∧ W0.cell? ⟨q, 8, none⟩ = some (.slice (some ⟨tb, toff, none⟩) tn tc) ∧ W0.cell? ⟨q, 9, none⟩ = some (.slice lA ln lc) ∧ q < W0.heap.size)
        (exact (hkeeps.out _ (by repeat (first | assumption | exact Only.refl _ _ | apply Only.drew))).1)
        (first
          | (go_at_call 18; (with_reducible refine (q1.out _ (by repeat (first | assumption | exact Only.refl _ _ | apply Only.drew))).mono ?_); rintro _ wa ⟨pa, ca, ha, rfl, hWa, -, hoa⟩; have hOa : Only (fun _ => False) ws wa := Only.trans' (by repeat (first | assumption | exact Only.refl _ _ | apply Only.drew)) hoa; clear hoa)
          | (go_at_call 21; (with_reducible refine (q2.out _ (by repeat (first | assumption | exact Only.refl _ _ | apply Only.drew))).mono ?_); rintro _ wb ⟨pb, cb, hb, rfl, hWb, -, hob⟩; have hOb : Only (fun _ => False) ws wb := Only.trans' (by repeat (first | assumption | exact Only.refl _ _ | apply Only.drew)) hob; have hab : Only (fun _ => False) wa wb := Only.trans' (by repeat (first | assumption | exact Only.refl _ _ | apply Only.drew)) hob; clear hob))
      have hWa2 := Lib.hid (hWa.kept hab (fun _ _ h => h))
      have hWb2 := Lib.hid hWb
      have hObs := Lib.hid hOb
      obtain ⟨-, -, -, -, -, -, -, y6, yl⟩ := hkeeps.out wb hOb
      clear hWa hWb hab hOa hOb e0 e1 e2 e3 e4 e5 e6 e7 e8 e9 hqlt
      by_cases ho0 : on = 0
      · have hRn := hR0 ho0
        subst hRn
        have ho1 : ((on : Int) == 0) = true := by simp [ho0]
        clear ho0
        go_wp2
        go_loopw [13, 108] (fun _ u108 wr => u108 = .int .i64 0 ∧ Hid (Only (fun _ => False) ws wr)) (fun _ _ _ => 0)
        case atStart => exact ⟨rfl, Lib.hid (by first | exact hObs.out | exact hObs.out.drewN _)⟩
        case round =>
          obtain ⟨rfl, hOsN⟩ := hrel
          obtain ⟨WN, hWN⟩ : ∃ WN : World, WN = wr := ⟨_, rfl⟩
          subst hWN
          have hkN := Lib.hid (fun W0 (h0 : Only (fun _ => False) WN W0) => show (W0.cell? ⟨q, 0, none⟩ = some (.int .i64 s) ∧ W0.cell? ⟨q, 1, none⟩ = some (.int .i64 wy) ∧ W0.cell? ⟨q, 2, none⟩ = some (.int .i64 h) ∧ W0.cell? ⟨q, 3, none⟩ = some (.int .i64 mi) ∧ W0.cell? ⟨q, 4, none⟩ = some (.slice mA mn mc) ∧ W0.cell? ⟨q, 5, none⟩ = some (.int .i64 g) ∧ W0.cell? ⟨q, 6, none⟩ = some (.slice cA cn cc) ∧ W0.cell? ⟨q, 7, none⟩ = some (.slice eA en ec) ∧ W0.cell? ⟨q, 8, none⟩ = some (.slice (some ⟨tb, toff, none⟩) tn tc) ∧ W0.cell? ⟨q, 9, none⟩ = some (.slice lA ln lc) ∧ q < W0.heap.size) from (hkeeps.out W0 (hOsN.out.trans' h0)).1)
          have qN3 := Lib.hid (fun W (h0 : Only (fun _ => False) WN W) => hl1.out W (hOw.out.trans' (hOsN.out.trans' h0)))
          have qN4 := Lib.hid (fun W (h0 : Only (fun _ => False) WN W) => hl2.out W (hOw.out.trans' (hOsN.out.trans' h0)))
          have hOwN := Lib.hid (hOw.out.trans' hOsN.out)
          obtain ⟨e0, e1, e2, e3, e4, e5, e6, e7, e8, e9, hqlt⟩ := hkN.out _ (Only.refl _ _)
          have hVV : (V == V) = true := by simp
          go_wp2_with fail
          go_region_held3 (fun W0 => W0.cell? ⟨q, 0, none⟩ = some (.int .i64 s) ∧ W0.cell? ⟨q, 1, none⟩ = some (.int .i64 wy) ∧ W0.cell? ⟨q, 2, none⟩ = some (.int .i64 h) ∧ W0.cell? ⟨q, 3, none⟩ = some (.int .i64 mi) ∧ W0.cell? ⟨q, 4, none⟩ = some (.slice mA mn mc) ∧ W0.cell? ⟨q, 5, none⟩ = some (.int .i64 g) ∧ W0.cell? ⟨q, 6, none⟩ = some (.slice cA cn cc) ∧ W0.cell? ⟨q, 7, none⟩ = some (.slice eA en ec) ∧ W0.cell? ⟨q, 8, none⟩ = some (.slice (some ⟨tb, toff, none⟩) tn tc) ∧ W0.cell? ⟨q, 9, none⟩ = some (.slice lA ln lc) ∧ q < W0.heap.size)
            (exact hkN.out _ (by repeat (first | assumption | exact Only.refl _ _ | apply Only.drew)))
            (first
              | (go_at_call 19; (with_reducible refine (qN3.out _ (by repeat (first | assumption | exact Only.refl _ _ | apply Only.drew))).mono ?_); rintro _ wf ⟨rfl, hof⟩; have hOf : Only (fun _ => False) WN wf := Only.trans' (by repeat (first | assumption | exact Only.refl _ _ | apply Only.drew)) hof; clear hof)
              | (go_at_call 22; (with_reducible refine (qN4.out _ (by repeat (first | assumption | exact Only.refl _ _ | apply Only.drew))).mono ?_); rintro _ wg ⟨rfl, hog⟩; have hOg : Only (fun _ => False) WN wg := Only.trans' (by repeat (first | assumption | exact Only.refl _ _ | apply Only.drew)) hog; clear hog))
          all_goals
            go_wp2
            go_ret
            exact ⟨by simp, hOwN.out.trans' hOg⟩
      · have ho1 : ((on : Int) == 0) = false := by simpa using ho0
        obtain ⟨RL, hRL⟩ : ∃ RL, RL = R.length := ⟨_, rfl⟩
        have hRL' := Lib.hid hRL
        rw [← hRL] at hWa2 hWb2 hRlen
        simp only [← hRL]
        have hdr := Lib.hid (fun W (h0 : Only (fun _ => False) wb W) (j : Nat) (hj : j < RL) => show ∃ (z : Int) (g1 o1 g2 o2 : Nat), pa = some ⟨g1, o1, none⟩ ∧ pb = some ⟨g2, o2, none⟩ ∧ W.cell? ⟨g1, o1 + j, none⟩ = some (.int .i64 z) ∧ W.cell? ⟨g2, o2 + j, none⟩ = some (.int .i64 z) ∧ g1 < W.heap.size ∧ g2 < W.heap.size from by
          obtain ⟨g1, o1, c1, _, hv1, _, _, hl1, hc1, _⟩ := (hWa2.out.kept h0 (fun _ _ h => h)).at_ (by omega)
          obtain ⟨g2, o2, c2, _, hv2, _, _, hl2, hc2, _⟩ := (hWb2.out.kept h0 (fun _ _ h => h)).at_ (by omega)
          simp only [Value.slice.injEq, true_and] at hv1 hv2
          have hz : (ints R)[j]? = some (.int .i64 (R[j]'(by rw [← hRL'.out]; exact hj))) := by rw [ints, List.getElem?_map, List.getElem?_eq_getElem (by rw [← hRL'.out]; exact hj)]; rfl
          exact ⟨_, g1, o1, g2, o2, hv1.1, hv2.1, hc1 j _ hz, hc2 j _ hz, hl1, hl2⟩)
        clear hRL ho0
        go_wp2
        go_loopw [13, 108] (fun _ u108 wr => ∃ j : Nat, u108 = .int .i64 j ∧ j ≤ RL ∧ Hid (Only (fun _ => False) wb wr)) (fun _ i _ => (RL - intOf i).toNat)
        case atStart => exact ⟨0, rfl, Nat.zero_le _, Lib.hid (by first | exact Only.refl _ _ | exact (Only.refl _ _).drewN _)⟩
        case round =>
          obtain ⟨j, rfl, hj, hOj⟩ := hrel
          obtain ⟨WN, hWN⟩ : ∃ WN : World, WN = wr := ⟨_, rfl⟩
          subst hWN
          by_cases hjR : j < RL
          · have hjR' : (j : Int) < RL := by omega
            obtain ⟨z, g1, o1, g2, o2, rfl, rfl, d1, d2, l1, l2⟩ := hdr.out WN hOj.out j hjR
            have hzz : (z != z) = false := by simp
            go_wp2
            go_quiet (fail)
            go_wp2
            go_roundw
            case rel => exact ⟨j + 1, by go_num, by omega, Lib.hid (hOj.out.drewN _)⟩
            case measure => simp [intOf]; omega
          · obtain rfl : j = RL := by omega
            have hOsN := Lib.hid (hObs.out.trans' hOj.out)
            have hkN := Lib.hid (fun W0 (h0 : Only (fun _ => False) WN W0) => show (W0.cell? ⟨q, 0, none⟩ = some (.int .i64 s) ∧ W0.cell? ⟨q, 1, none⟩ = some (.int .i64 wy) ∧ W0.cell? ⟨q, 2, none⟩ = some (.int .i64 h) ∧ W0.cell? ⟨q, 3, none⟩ = some (.int .i64 mi) ∧ W0.cell? ⟨q, 4, none⟩ = some (.slice mA mn mc) ∧ W0.cell? ⟨q, 5, none⟩ = some (.int .i64 g) ∧ W0.cell? ⟨q, 6, none⟩ = some (.slice cA cn cc) ∧ W0.cell? ⟨q, 7, none⟩ = some (.slice eA en ec) ∧ W0.cell? ⟨q, 8, none⟩ = some (.slice (some ⟨tb, toff, none⟩) tn tc) ∧ W0.cell? ⟨q, 9, none⟩ = some (.slice lA ln lc) ∧ q < W0.heap.size) from (hkeeps.out W0 (hOsN.out.trans' h0)).1)
            have qN3 := Lib.hid (fun W (h0 : Only (fun _ => False) WN W) => hl1.out W (hOw.out.trans' (hOsN.out.trans' h0)))
            have qN4 := Lib.hid (fun W (h0 : Only (fun _ => False) WN W) => hl2.out W (hOw.out.trans' (hOsN.out.trans' h0)))
            have hOwN := Lib.hid (hOw.out.trans' hOsN.out)
            obtain ⟨e0, e1, e2, e3, e4, e5, e6, e7, e8, e9, hqlt⟩ := hkN.out _ (Only.refl _ _)
            have hVV : (V == V) = true := by simp
            go_wp2_with fail
            go_region_held3 (fun W0 => W0.cell? ⟨q, 0, none⟩ = some (.int .i64 s) ∧ W0.cell? ⟨q, 1, none⟩ = some (.int .i64 wy) ∧ W0.cell? ⟨q, 2, none⟩ = some (.int .i64 h) ∧ W0.cell? ⟨q, 3, none⟩ = some (.int .i64 mi) ∧ W0.cell? ⟨q, 4, none⟩ = some (.slice mA mn mc) ∧ W0.cell? ⟨q, 5, none⟩ = some (.int .i64 g) ∧ W0.cell? ⟨q, 6, none⟩ = some (.slice cA cn cc) ∧ W0.cell? ⟨q, 7, none⟩ = some (.slice eA en ec) ∧ W0.cell? ⟨q, 8, none⟩ = some (.slice (some ⟨tb, toff, none⟩) tn tc) ∧ W0.cell? ⟨q, 9, none⟩ = some (.slice lA ln lc) ∧ q < W0.heap.size)
              (exact hkN.out _ (by repeat (first | assumption | exact Only.refl _ _ | apply Only.drew)))
              (first
                | (go_at_call 19; (with_reducible refine (qN3.out _ (by repeat (first | assumption | exact Only.refl _ _ | apply Only.drew))).mono ?_); rintro _ wf ⟨rfl, hof⟩; have hOf : Only (fun _ => False) WN wf := Only.trans' (by repeat (first | assumption | exact Only.refl _ _ | apply Only.drew)) hof; clear hof)
                | (go_at_call 22; (with_reducible refine (qN4.out _ (by repeat (first | assumption | exact Only.refl _ _ | apply Only.drew))).mono ?_); rintro _ wg ⟨rfl, hog⟩; have hOg : Only (fun _ => False) WN wg := Only.trans' (by repeat (first | assumption | exact Only.refl _ _ | apply Only.drew)) hog; clear hog))
            all_goals
              go_wp2
              go_ret
              exact ⟨by simp, hOwN.out.trans' hOg⟩
end Sct
end Go.Proofs.Yteeleelkepjoaaa
/- SectionTells over what came in. -/
namespace Go.Proofs.Yteeleelkepjoaaa
namespace Sct
open Go Go.RowKit
theorem wf_i64 {z : Int} (h : (Lit.int .i64 z).wf = true) : -9223372036854775808 ≤ z ∧ z ≤ 9223372036854775807 := by
  simp [Lit.wf] at h
  simp only [show IntKind.i64.min = -9223372036854775808 by decide] at h
  exact h
theorem tells_law (c : ConfV) (z lev : Int) (W : World) (_w1 : (Lit.int .i64 z).wf = true) (_w2 : (Lit.int .i64 lev).wf = true) (g0 : ∃ (dd : ConfL) (pl : Tks), ConfIn W c dd pl ∧ c.ce.n ≤ 9223372036854775807 ∧ ∀ (i : Nat) t l, pl[i]? = some (t, l) → ∀ (j : Nat) o, l[j]? = some o → (Lit.int .i64 o.a).wf = true) :
    Calls Try.prog 4 #[c.val, .int .i64 z, .int .i64 lev] W fun e w' => e = .returned (.bool true) ∧ Below W.heap.size W w' := by
  obtain ⟨dd, pl, hC, hn, ho⟩ := g0
  exact (tells_any hC hn (fun i t l hi j o hj => wf_i64 (ho i t l hi j o hj)) z lev).mono fun e w' ⟨he, hO⟩ => ⟨he, hO.below (Nat.le_refl _) (fun _ h => h.elim)⟩
end Sct
end Go.Proofs.Yteeleelkepjoaaa
