/- Layer 24's arguments, opened: with what the operations' numbers are. -/
import Derived.Test.YtdoimkmhincmmaaCopp
namespace Go.Proofs.Ytdoimkmhincmmaa
namespace Sct
open Go Go.RowKit Go.ChangeShapes Go.WideShapes Go.Deep
/-- Operations that came in: their words are numbers of 64 bits. -/
def OpnW (w : World) (A : Option Addr) (l : List Opn) : Prop := OpnRow w A l ∧ ∀ (j : Nat) o, l[j]? = some o → (Lit.int .i64 o.a).wf = true
section
variable {H : Type} {enc : TypeId × Value → H} {w : World} {n : Nat} {u : Value} {y : DataW H × List MemPlace}
theorem ints_in4 (h : DataW.trod enc Try.prog w 0 (fun _ => true) true n 24 [u] = some y) : ∃ (x : Sl) (l : List Int), u = .slice x.A x.n x.cap ∧ IntsAt w x l ∧ x.n ≤ 9223372036854775807 := by
  rcases open_ints Try.underlying24 Try.underlying3 (by kernel_rfl) h with ⟨hcs, _⟩ | ⟨a, l, c, zs, hcs, _, hl, hm, hz, _, hcell, hwz⟩
  · simp at hcs
    exact ⟨⟨none, 0, 0⟩, [], hcs, ⟨rfl, Nat.le_refl _, fun k z hz => by simp at hz⟩, Nat.zero_le _⟩
  · simp at hcs
    have hr := intRow_of (len := l) hcell hwz (by simp at hz; omega)
    refine ⟨⟨some a, l, c⟩, (List.range l).map (fun j => zs.getD j 0), hcs, ⟨by simp, hl, fun k z hz => ?_⟩, by unfold maxLen at hm; show l ≤ 9223372036854775807; omega⟩
    have hk := (List.getElem?_eq_some_iff.1 hz).1
    simp at hk
    rw [List.getElem?_map, List.getElem?_range hk] at hz
    simp only [Option.map_some, Option.some.injEq] at hz
    obtain ⟨b, off, hA, hc, hb⟩ := (hr k hk).1
    exact ⟨b, off, hA, hb, by rw [hc, ← hz]⟩
theorem ops_in5 (h : DataW.trod enc Try.prog w 0 (fun _ => true) true n 36 [u] = some y) : ∃ (x : Sl) (l : List Opn), u = .slice x.A x.n x.cap ∧ OpnW w x.A l ∧ l.length = x.n ∧ x.n ≤ x.cap := by
  obtain ⟨x, hx⟩ : ∃ x : Sl, u = .slice x.A x.n x.cap := by
    rcases open_slice Try.underlying36 h with h0 | ⟨a, len, cap, m, n', D, Pl, hcs, _⟩
    · have := h0.1
      simp at this
      exact ⟨⟨none, 0, 0⟩, this⟩
    · simp at hcs
      exact ⟨⟨some a, len, cap⟩, hcs⟩
  subst hx
  obtain ⟨A, len, cap⟩ := x
  obtain ⟨fs, he, hsz, hfs⟩ := fields69
  obtain ⟨hc, z, hz⟩ := open_flat_ints Try.underlying36 he (by rw [c69, hsz]) (by omega) hfs h
  rw [hsz] at hz
  have key : ∀ (k : Nat) (y : Opn), ((List.range len).map (fun i => (⟨z i 0, z i 1, z i 2⟩ : Opn)))[k]? = some y → (∃ b off, A = some ⟨b, off, none⟩ ∧ b < w.heap.size ∧ OpnCells w b (off + k * 3) y) ∧ (Lit.int .i64 y.a).wf = true := fun k y hy => by
    have hk := (List.getElem?_eq_some_iff.1 hy).1
    simp at hk
    rw [List.getElem?_map, List.getElem?_range hk] at hy
    simp only [Option.map_some, Option.some.injEq] at hy
    subst hy
    obtain ⟨b, off, hA, hb, hcell⟩ := hz k hk
    exact ⟨⟨b, off, hA, hb, by have := (hcell 0 (by omega)).1; rwa [← Nat.add_assoc] at this, by have := (hcell 1 (by omega)).1; rwa [← Nat.add_assoc] at this, by have := (hcell 2 (by omega)).1; rwa [← Nat.add_assoc] at this⟩, (hcell 1 (by omega)).2⟩
  exact ⟨⟨A, len, cap⟩, (List.range len).map (fun i => ⟨z i 0, z i 1, z i 2⟩), rfl, ⟨fun k y hy => (key k y hy).1, fun k y hy => (key k y hy).2⟩, by simp, hc⟩

/-- One task that came in. -/
theorem task_in5 {vs : List Value} (hl : vs.length = 7) (h : DataW.trod enc Try.prog w 0 (fun _ => true) true n 38 vs = some y) : ∃ (t : TaskV) (l : List Opn), vs = t.cells ∧ OpnW w t.o.A l ∧ l.length = t.o.n ∧ t.o.n ≤ t.o.cap := by
  obtain ⟨xs, m, _, _, _, hxl, hf⟩ := DataW.trod_struct Try.underlying38 h
  have hxs : xs.length = 7 := hxl
  have f0 : DataW.trod enc Try.prog w 0 (fun _ => true) true m 3 ((vs.drop 0).take (Try.prog.cellsOf 3)) = some (xs[0]'(by omega)) := (hf 0 _ rfl).trans (List.getElem?_eq_getElem (by omega))
  have f1 : DataW.trod enc Try.prog w 0 (fun _ => true) true m 3 ((vs.drop 1).take (Try.prog.cellsOf 3)) = some (xs[1]'(by omega)) := (hf 1 _ rfl).trans (List.getElem?_eq_getElem (by omega))
  have f2 : DataW.trod enc Try.prog w 0 (fun _ => true) true m 3 ((vs.drop 2).take (Try.prog.cellsOf 3)) = some (xs[2]'(by omega)) := (hf 2 _ rfl).trans (List.getElem?_eq_getElem (by omega))
  have f3 : DataW.trod enc Try.prog w 0 (fun _ => true) true m 3 ((vs.drop 3).take (Try.prog.cellsOf 3)) = some (xs[3]'(by omega)) := (hf 3 _ rfl).trans (List.getElem?_eq_getElem (by omega))
  have f4 : DataW.trod enc Try.prog w 0 (fun _ => true) true m 3 ((vs.drop 4).take (Try.prog.cellsOf 3)) = some (xs[4]'(by omega)) := (hf 4 _ rfl).trans (List.getElem?_eq_getElem (by omega))
  have f5 : DataW.trod enc Try.prog w 0 (fun _ => true) true m 3 ((vs.drop 5).take (Try.prog.cellsOf 3)) = some (xs[5]'(by omega)) := (hf 5 _ rfl).trans (List.getElem?_eq_getElem (by omega))
  have f6 : DataW.trod enc Try.prog w 0 (fun _ => true) true m 36 ((vs.drop 6).take (Try.prog.cellsOf 36)) = some (xs[6]'(by omega)) := (hf 6 _ rfl).trans (List.getElem?_eq_getElem (by omega))
  obtain ⟨z0, e0⟩ := int_in Try.underlying3 f0
  obtain ⟨z1, e1⟩ := int_in Try.underlying3 f1
  obtain ⟨z2, e2⟩ := int_in Try.underlying3 f2
  obtain ⟨z3, e3⟩ := int_in Try.underlying3 f3
  obtain ⟨z4, e4⟩ := int_in Try.underlying3 f4
  obtain ⟨z5, e5⟩ := int_in Try.underlying3 f5
  rw [c3] at e0 e1 e2 e3 e4 e5
  replace e0 := one_of e0
  replace e1 := one_of e1
  replace e2 := one_of e2
  replace e3 := one_of e3
  replace e4 := one_of e4
  replace e5 := one_of e5
  rw [c43] at f6
  clear f0 f1 f2 f3 f4 f5 hf
  match vs, hl with
  | [v0, v1, v2, v3, v4, v5, v6], _ =>
    obtain ⟨x, l, rfl, g1, g2, g3⟩ := ops_in5 f6
    cases e0; cases e1; cases e2; cases e3; cases e4; cases e5
    exact ⟨⟨z0, z1, z2, z3, z4, z5, x⟩, l, rfl, g1, g2, g3⟩

/-- Tasks that came in. -/
theorem tasks_in5 (h : DataW.trod enc Try.prog w 0 (fun _ => true) true n 25 [u] = some y) : ∃ (x : Sl) (pl : Tks), u = .slice x.A x.n x.cap ∧ TasksAt w x pl.ts ∧ (∀ (i : Nat) t l, pl[i]? = some (t, l) → OpnW w t.o.A l ∧ l.length = t.o.n ∧ t.o.n ≤ t.o.cap) ∧ x.n ≤ 9223372036854775807 := by
  rcases open_slice Try.underlying25 h with h0 | ⟨a, len, cap, m, n', D, Pl, hcs, hb, hl, hm, hmm, _, hx⟩
  · have := h0.1
    simp at this
    exact ⟨⟨none, 0, 0⟩, [], this, ⟨rfl, Nat.le_refl _, fun k t ht => by simp [Tks.ts] at ht⟩, fun i t l hi => by simp at hi, Nat.zero_le _⟩
  · simp at hcs
    have hlm : len ≤ m := by rw [hmm]; split <;> omega
    have each : ∀ i, i < len → ∃ (t : TaskV) (l : List Opn), (∀ j v, t.cells[j]? = some v → w.cell? (a.add (i * 7 + j)) = some v) ∧ OpnW w t.o.A l ∧ l.length = t.o.n ∧ t.o.n ≤ t.o.cap := fun i hi => by
      obtain ⟨cs', h1, h2⟩ := hx i (by omega)
      rw [c45] at h1
      obtain ⟨_, hlen, hcell⟩ := World.cells?_some h1
      obtain ⟨t, l, rfl, g1, g2, g3⟩ := task_in5 hlen h2
      refine ⟨t, l, fun j v hv => ?_, g1, g2, g3⟩
      have hj : j < 7 := by have := (List.getElem?_eq_some_iff.1 hv).1; simpa [TaskV.cells] using this
      have := hcell j hj
      rw [add_add, hv] at this
      exact this
    have ha : 0 < len → a = ⟨a.block, a.off, none⟩ := fun h0 => by
      obtain ⟨t, l, h1, _⟩ := each 0 h0
      have h2 := spot_none (h1 0 _ rfl)
      cases a with
      | mk b o s =>
        unfold Addr.add at h2
        simp at h2
        subst h2
        rfl
    refine ⟨⟨some a, len, cap⟩, (List.range len).map (fun i => if hi : i < len then (Classical.choose (each i hi), Classical.choose (Classical.choose_spec (each i hi))) else (⟨0, 0, 0, 0, 0, 0, ⟨none, 0, 0⟩⟩, [])), hcs, ⟨by simp [Tks.ts], hl, fun k t ht => ?_⟩, fun i t l hi => ?_, by unfold maxLen at hm; show len ≤ _; omega⟩
    · have hk := (List.getElem?_eq_some_iff.1 ht).1
      simp [Tks.ts] at hk
      unfold Tks.ts at ht
      rw [List.getElem?_map, List.getElem?_map, List.getElem?_range hk] at ht
      simp only [Option.map_some, Option.some.injEq, dif_pos hk] at ht
      have hc := (Classical.choose_spec (Classical.choose_spec (each k hk))).1
      rw [ht] at hc
      have e := ha (by omega)
      have hc' : ∀ j v, t.cells[j]? = some v → w.cell? ⟨a.block, a.off + (k * 7 + j), none⟩ = some v := fun j v hv => by
        have := hc j v hv
        rw [e, Addr.add_lit] at this
        exact this
      have hadd : ∀ j, a.off + k * 7 + j = a.off + (k * 7 + j) := fun j => by omega
      have hblk := World.block_lt_of_cell? w _ (hc' 0 _ rfl)
      exact ⟨a.block, a.off, congrArg some e, hblk, hc' 0 _ rfl, by rw [hadd]; exact hc' 1 _ rfl, by rw [hadd]; exact hc' 2 _ rfl, by rw [hadd]; exact hc' 3 _ rfl, by rw [hadd]; exact hc' 4 _ rfl, by rw [hadd]; exact hc' 5 _ rfl, by rw [hadd]; exact hc' 6 _ rfl⟩
    · have hk := (List.getElem?_eq_some_iff.1 hi).1
      simp at hk
      rw [List.getElem?_map, List.getElem?_range hk] at hi
      simp only [Option.map_some, Option.some.injEq, dif_pos hk, Prod.mk.injEq] at hi
      have hc := (Classical.choose_spec (Classical.choose_spec (each i hk))).2
      rw [hi.2, hi.1] at hc
      exact hc
set_option maxRecDepth 100000 in
theorem conf_in5 {r : Reach} {b0 : Nat} {v : Value} {d : DataW H} {p : List MemPlace} (hv : Value.okWide Try.prog w r b0 27 v) (h : DataW.Trod enc Try.prog w 0 (fun _ => true) true 27 v d p) : ∃ c : ConfV, v = c.val ∧ ∃ (dd : ConfL) (pl : Tks), ConfIn w c dd pl ∧ c.ce.n ≤ 9223372036854775807 ∧ ∀ (i : Nat) t l, pl[i]? = some (t, l) → ∀ (j : Nat) o, l[j]? = some o → (Lit.int .i64 o.a).wf = true := by
  obtain ⟨cs, rfl, hsz⟩ := okWide_struct Try.underlying27 hv
  rw [c27] at hsz
  obtain ⟨fuel, hf⟩ := h
  obtain ⟨xs, n, _, _, _, hxl, hg⟩ := DataW.trod_struct Try.underlying27 hf
  rw [show (Value.cells (.agg cs)).toList = cs.toList from rfl] at hg
  have hxs : xs.length = 7 := hxl
  have f0 : DataW.trod enc Try.prog w 0 (fun _ => true) true n 23 ((cs.toList.drop 0).take (Try.prog.cellsOf 23)) = some (xs[0]'(by omega)) := (hg 0 _ rfl).trans (List.getElem?_eq_getElem (by omega))
  have f1 : DataW.trod enc Try.prog w 0 (fun _ => true) true n 24 ((cs.toList.drop 4).take (Try.prog.cellsOf 24)) = some (xs[1]'(by omega)) := (hg 1 _ rfl).trans (List.getElem?_eq_getElem (by omega))
  have f2 : DataW.trod enc Try.prog w 0 (fun _ => true) true n 3 ((cs.toList.drop 5).take (Try.prog.cellsOf 3)) = some (xs[2]'(by omega)) := (hg 2 _ rfl).trans (List.getElem?_eq_getElem (by omega))
  have f3 : DataW.trod enc Try.prog w 0 (fun _ => true) true n 24 ((cs.toList.drop 6).take (Try.prog.cellsOf 24)) = some (xs[3]'(by omega)) := (hg 3 _ rfl).trans (List.getElem?_eq_getElem (by omega))
  have f4 : DataW.trod enc Try.prog w 0 (fun _ => true) true n 24 ((cs.toList.drop 7).take (Try.prog.cellsOf 24)) = some (xs[4]'(by omega)) := (hg 4 _ rfl).trans (List.getElem?_eq_getElem (by omega))
  have f5 : DataW.trod enc Try.prog w 0 (fun _ => true) true n 25 ((cs.toList.drop 8).take (Try.prog.cellsOf 25)) = some (xs[5]'(by omega)) := (hg 5 _ rfl).trans (List.getElem?_eq_getElem (by omega))
  have f6 : DataW.trod enc Try.prog w 0 (fun _ => true) true n 24 ((cs.toList.drop 9).take (Try.prog.cellsOf 24)) = some (xs[6]'(by omega)) := (hg 6 _ rfl).trans (List.getElem?_eq_getElem (by omega))
  obtain ⟨ys, m, _, _, _, hyl, hm⟩ := DataW.trod_struct Try.underlying23 f0
  have hys : ys.length = 4 := hyl
  have m0 : DataW.trod enc Try.prog w 0 (fun _ => true) true m 3 ((((cs.toList.drop 0).take (Try.prog.cellsOf 23)).drop 0).take (Try.prog.cellsOf 3)) = some (ys[0]'(by omega)) := (hm 0 _ rfl).trans (List.getElem?_eq_getElem (by omega))
  have m1 : DataW.trod enc Try.prog w 0 (fun _ => true) true m 3 ((((cs.toList.drop 0).take (Try.prog.cellsOf 23)).drop 1).take (Try.prog.cellsOf 3)) = some (ys[1]'(by omega)) := (hm 1 _ rfl).trans (List.getElem?_eq_getElem (by omega))
  have m2 : DataW.trod enc Try.prog w 0 (fun _ => true) true m 3 ((((cs.toList.drop 0).take (Try.prog.cellsOf 23)).drop 2).take (Try.prog.cellsOf 3)) = some (ys[2]'(by omega)) := (hm 2 _ rfl).trans (List.getElem?_eq_getElem (by omega))
  have m3 : DataW.trod enc Try.prog w 0 (fun _ => true) true m 3 ((((cs.toList.drop 0).take (Try.prog.cellsOf 23)).drop 3).take (Try.prog.cellsOf 3)) = some (ys[3]'(by omega)) := (hm 3 _ rfl).trans (List.getElem?_eq_getElem (by omega))
  obtain ⟨z0, e0⟩ := int_in Try.underlying3 m0
  obtain ⟨z1, e1⟩ := int_in Try.underlying3 m1
  obtain ⟨z2, e2⟩ := int_in Try.underlying3 m2
  obtain ⟨z3, e3⟩ := int_in Try.underlying3 m3
  obtain ⟨z5, e5⟩ := int_in Try.underlying3 f2
  rw [c3] at e0 e1 e2 e3 e5
  rw [c23] at e0 e1 e2 e3
  rw [c24] at f1 f3 f4 f6
  rw [c25] at f5
  have hl : cs.toList.length = 10 := by simpa using hsz
  have hcs : Value.agg cs = .agg cs.toList.toArray := by simp
  rw [hcs]
  clear f0 hg hm m0 m1 m2 m3 hf hv hcs hsz
  generalize cs.toList = L at *
  match L, hl with
  | [v0, v1, v2, v3, v4, v5, v6, v7, v8, v9], _ =>
    obtain ⟨x1, l1, rfl, g1⟩ := ints_in f1
    obtain ⟨x3, l3, rfl, g3⟩ := ints_in f3
    obtain ⟨x4, l4, rfl, g4, g9⟩ := ints_in4 f4
    obtain ⟨x6, l6, rfl, g6⟩ := ints_in f6
    obtain ⟨x5, pl, rfl, g5, g7, g8⟩ := tasks_in5 f5
    simp at e0 e1 e2 e3 e5
    subst e0 e1 e2 e3 e5
    exact ⟨⟨z0, z1, z2, z3, x1, z5, x3, x4, x5, x6⟩, rfl, ⟨l1, l3, l4, l6⟩, pl, ⟨g1, g3, g4, g6, g5, fun i t l h => ⟨(g7 i t l h).1.1, (g7 i t l h).2⟩, g8⟩, g9, fun i t l h => (g7 i t l h).1.2⟩
end
theorem wf_i64 {z : Int} (h : (Lit.int .i64 z).wf = true) : -9223372036854775808 ≤ z ∧ z ≤ 9223372036854775807 := by
  simp [Lit.wf] at h
  simp only [show IntKind.i64.min = -9223372036854775808 by decide] at h
  exact h
end Sct
end Go.Proofs.Ytdoimkmhincmmaa
