import Derived.Test.YtkggimgechhjnaaGreatDoorC49
import Derived.LaidMore
namespace Go.Proofs.YtkggimgechhjnaaGreatDoor
open Go Go.RowKit
theorem c3 : Tryz.prog.cellsOf 3 = 1 := by kernel_rfl
theorem c24 : Tryz.prog.cellsOf 24 = 1 := by kernel_rfl
theorem c25 : Tryz.prog.cellsOf 25 = 1 := by kernel_rfl
theorem c43 : Tryz.prog.cellsOf 61 = 1 := by kernel_rfl
theorem c23 : Tryz.prog.cellsOf 23 = 4 := by kernel_rfl
theorem c27 : Tryz.prog.cellsOf 27 = 10 := by kernel_rfl
theorem c45 : Tryz.prog.cellsOf 63 = 7 := by kernel_rfl
theorem c69 : Tryz.prog.cellsOf 94 = 3 := by kernel_rfl
section
open Go.ChangeShapes Go.WideShapes Go.Deep
variable {H : Type} {enc : TypeId × Value -> H} {w : World} {n : Nat} {u : Value} {y : DataW H × List MemPlace}
theorem zGQ (h : DataW.trod enc Tryz.prog w 0 (fun _ => true) true n 24 [u] = some y) : ∃ (x : Sl) (l : List Int), u = .slice x.A x.n x.cap /\ IntsAt w x l := by
 rcases open_ints Tryz.underlying24 Tryz.underlying3 (by kernel_rfl) h with ⟨hcs, _⟩ | ⟨a, l, c, zs, hcs, _, hl, hm, hz, _, hcell, hwz⟩
 ·simp at hcs
  exact ⟨⟨none, 0, 0⟩, [], hcs, rfl, Nat.le_refl _, fun k z hz => by simp at hz⟩
 ·simp at hcs
  have hr := zK4 (len := l) hcell hwz (by simp at hz; omega)
  refine ⟨⟨some a, l, c⟩, (List.range l).map (fun j => zs.getD j 0), hcs, by simp, hl, fun k z hz => ?_⟩
  have hk := (List.getElem?_eq_some_iff.1 hz).1
  simp at hk
  rw [List.getElem?_map, List.getElem?_range hk] at hz
  simp only [Option.map_some, Option.some.injEq] at hz
  obtain ⟨b, off, hA, hc, hb⟩ := (hr k hk).1
  exact ⟨b, off, hA, hb, by rw [hc, <- hz]⟩
theorem zPX : ∃ fs : Array Field, Tryz.prog.underlying 94 = some (.struct fs) /\ fs.size = 3 /\ ∀ (i : Nat) (f : Field), fs[i]? = some f -> f.offset = i /\ Tryz.prog.cellsOf f.type = 1 /\ Tryz.prog.underlying f.type = some (.int .i64) := by
 refine ⟨_, Tryz.underlying94, rfl, fun i f hi => ?_⟩
 match i with
 | 0 => cases hi; exact ⟨rfl, by kernel_rfl, Tryz.underlying3⟩
 | 1 => cases hi; exact ⟨rfl, by kernel_rfl, Tryz.underlying3⟩
 | 2 => cases hi; exact ⟨rfl, by kernel_rfl, Tryz.underlying3⟩
 | i + 3 => simp at hi
theorem zTR (h : DataW.trod enc Tryz.prog w 0 (fun _ => true) true n 61 [u] = some y) : ∃ (x : Sl) (l : List Opn), u = .slice x.A x.n x.cap /\ OpnRow w x.A l /\ l.length = x.n /\ x.n <= x.cap := by
 obtain ⟨x, hx⟩ : ∃ x : Sl, u = .slice x.A x.n x.cap := by
  rcases open_slice Tryz.underlying61 h with h0 | ⟨a, len, cap, m, n', D, Pl, hcs, _⟩
  ·have := h0.1
   simp at this
   exact ⟨⟨none, 0, 0⟩, this⟩
  ·simp at hcs
   exact ⟨⟨some a, len, cap⟩, hcs⟩
 subst hx
 obtain ⟨A, len, cap⟩ := x
 obtain ⟨fs, he, hsz, hfs⟩ := zPX
 obtain ⟨hc, z, hz⟩ := zCX Tryz.underlying61 he (by rw [c69, hsz]) (by omega) hfs h
 rw [hsz] at hz
 refine ⟨⟨A, len, cap⟩, (List.range len).map (fun i => ⟨z i 0, z i 1, z i 2⟩), rfl, fun k y hy => ?_, by simp, hc⟩
 have hk := (List.getElem?_eq_some_iff.1 hy).1
 simp at hk
 rw [List.getElem?_map, List.getElem?_range hk] at hy
 simp only [Option.map_some, Option.some.injEq] at hy
 subst hy
 obtain ⟨b, off, hA, hb, hcell⟩ := hz k hk
 exact ⟨b, off, hA, hb, by have := (hcell 0 (by omega)).1; rwa [<- Nat.add_assoc] at this, by have := (hcell 1 (by omega)).1; rwa [<- Nat.add_assoc] at this, by have := (hcell 2 (by omega)).1; rwa [<- Nat.add_assoc] at this⟩
theorem zCG {t : TypeId} {k : IntKind} {vs : List Value} (ht : Tryz.prog.underlying t = some (.int k)) (h : DataW.trod enc Tryz.prog w 0 (fun _ => true) true n t vs = some y) : ∃ z : Int, vs = [.int k z] := by
 obtain ⟨z, hz, _⟩ := DataW.trod_int ht h
 exact ⟨z, hz⟩
theorem zFN {α : Type} {l : List α} {k : Nat} {v : α} (h : (l.drop k).take 1 = [v]) : l[k]? = some v := by
 have := congrArg (·[0]?) h
 simpa [List.getElem?_take, List.getElem?_drop] using this
theorem zSF {vs : List Value} (hl : vs.length = 7) (h : DataW.trod enc Tryz.prog w 0 (fun _ => true) true n 63 vs = some y) : ∃ (t : TaskV) (l : List Opn), vs = t.cells /\ OpnRow w t.o.A l /\ l.length = t.o.n /\ t.o.n <= t.o.cap := by
 obtain ⟨xs, m, _, _, _, hxl, hf⟩ := DataW.trod_struct Tryz.underlying63 h
 have hxs : xs.length = 7 := hxl
 have f0 : DataW.trod enc Tryz.prog w 0 (fun _ => true) true m 3 ((vs.drop 0).take (Tryz.prog.cellsOf 3)) = some (xs[0]'(by omega)) := (hf 0 _ rfl).trans (List.getElem?_eq_getElem (by omega))
 have f1 : DataW.trod enc Tryz.prog w 0 (fun _ => true) true m 3 ((vs.drop 1).take (Tryz.prog.cellsOf 3)) = some (xs[1]'(by omega)) := (hf 1 _ rfl).trans (List.getElem?_eq_getElem (by omega))
 have f2 : DataW.trod enc Tryz.prog w 0 (fun _ => true) true m 3 ((vs.drop 2).take (Tryz.prog.cellsOf 3)) = some (xs[2]'(by omega)) := (hf 2 _ rfl).trans (List.getElem?_eq_getElem (by omega))
 have f3 : DataW.trod enc Tryz.prog w 0 (fun _ => true) true m 3 ((vs.drop 3).take (Tryz.prog.cellsOf 3)) = some (xs[3]'(by omega)) := (hf 3 _ rfl).trans (List.getElem?_eq_getElem (by omega))
 have f4 : DataW.trod enc Tryz.prog w 0 (fun _ => true) true m 3 ((vs.drop 4).take (Tryz.prog.cellsOf 3)) = some (xs[4]'(by omega)) := (hf 4 _ rfl).trans (List.getElem?_eq_getElem (by omega))
 have f5 : DataW.trod enc Tryz.prog w 0 (fun _ => true) true m 3 ((vs.drop 5).take (Tryz.prog.cellsOf 3)) = some (xs[5]'(by omega)) := (hf 5 _ rfl).trans (List.getElem?_eq_getElem (by omega))
 have f6 : DataW.trod enc Tryz.prog w 0 (fun _ => true) true m 61 ((vs.drop 6).take (Tryz.prog.cellsOf 61)) = some (xs[6]'(by omega)) := (hf 6 _ rfl).trans (List.getElem?_eq_getElem (by omega))
 obtain ⟨z0, e0⟩ := zCG Tryz.underlying3 f0
 obtain ⟨z1, e1⟩ := zCG Tryz.underlying3 f1
 obtain ⟨z2, e2⟩ := zCG Tryz.underlying3 f2
 obtain ⟨z3, e3⟩ := zCG Tryz.underlying3 f3
 obtain ⟨z4, e4⟩ := zCG Tryz.underlying3 f4
 obtain ⟨z5, e5⟩ := zCG Tryz.underlying3 f5
 rw [c3] at e0 e1 e2 e3 e4 e5
 replace e0 := zFN e0
 replace e1 := zFN e1
 replace e2 := zFN e2
 replace e3 := zFN e3
 replace e4 := zFN e4
 replace e5 := zFN e5
 rw [c43] at f6
 clear f0 f1 f2 f3 f4 f5 hf
 match vs, hl with
 | [v0, v1, v2, v3, v4, v5, v6], _ =>
  obtain ⟨x, l, rfl, g1, g2, g3⟩ := zTR f6
  cases e0; cases e1; cases e2; cases e3; cases e4; cases e5
  exact ⟨⟨z0, z1, z2, z3, z4, z5, x⟩, l, rfl, g1, g2, g3⟩
theorem zPY (h : DataW.trod enc Tryz.prog w 0 (fun _ => true) true n 25 [u] = some y) : ∃ (x : Sl) (pl : Tks), u = .slice x.A x.n x.cap /\ TasksAt w x pl.ts /\ (∀ (i : Nat) t l, pl[i]? = some (t, l) -> OpnRow w t.o.A l /\ l.length = t.o.n /\ t.o.n <= t.o.cap) /\ x.n <= 9223372036854775807 := by
 rcases open_slice Tryz.underlying25 h with h0 | ⟨a, len, cap, m, n', D, Pl, hcs, hb, hl, hm, hmm, _, hx⟩
 ·have := h0.1
  simp at this
  exact ⟨⟨none, 0, 0⟩, [], this, ⟨rfl, Nat.le_refl _, fun k t ht => by simp [Tks.ts] at ht⟩, fun i t l hi => by simp at hi, Nat.zero_le _⟩
 ·simp at hcs
  have hlm : len <= m := by rw [hmm]; split <;> omega
  have each : ∀ i, i < len -> ∃ (t : TaskV) (l : List Opn), (∀ j v, t.cells[j]? = some v -> w.cell? (a.add (i * 7 + j)) = some v) /\ OpnRow w t.o.A l /\ l.length = t.o.n /\ t.o.n <= t.o.cap := fun i hi => by
   obtain ⟨cs', h1, h2⟩ := hx i (by omega)
   rw [c45] at h1
   obtain ⟨_, hlen, hcell⟩ := World.cells?_some h1
   obtain ⟨t, l, rfl, g1, g2, g3⟩ := zSF hlen h2
   refine ⟨t, l, fun j v hv => ?_, g1, g2, g3⟩
   have hj : j < 7 := by have := (List.getElem?_eq_some_iff.1 hv).1; simpa [TaskV.cells] using this
   have := hcell j hj
   rw [add_add, hv] at this
   exact this
  have ha : 0 < len -> a = ⟨a.block, a.off, none⟩ := fun h0 => by
   obtain ⟨t, l, h1, _⟩ := each 0 h0
   have h2 := zEG (h1 0 _ rfl)
   cases a with
   | mk b o s =>
    unfold Addr.add at h2
    simp at h2
    subst h2
    rfl
  refine ⟨⟨some a, len, cap⟩, (List.range len).map (fun i => if hi : i < len then (Classical.choose (each i hi), Classical.choose (Classical.choose_spec (each i hi))) else (⟨0, 0, 0, 0, 0, 0, ⟨none, 0, 0⟩⟩, [])), hcs, ⟨by simp [Tks.ts], hl, fun k t ht => ?_⟩, fun i t l hi => ?_, by unfold maxLen at hm; show len <= _; omega⟩
  ·have hk := (List.getElem?_eq_some_iff.1 ht).1
   simp [Tks.ts] at hk
   unfold Tks.ts at ht
   rw [List.getElem?_map, List.getElem?_map, List.getElem?_range hk] at ht
   simp only [Option.map_some, Option.some.injEq, dif_pos hk] at ht
   have hc := (Classical.choose_spec (Classical.choose_spec (each k hk))).1
   rw [ht] at hc
   have e := ha (by omega)
   have hc' : ∀ j v, t.cells[j]? = some v -> w.cell? ⟨a.block, a.off + (k * 7 + j), none⟩ = some v := fun j v hv => by
    have := hc j v hv
    rw [e, Addr.add_lit] at this
    exact this
   have hadd : ∀ j, a.off + k * 7 + j = a.off + (k * 7 + j) := fun j => by omega
   have hblk := World.block_lt_of_cell? w _ (hc' 0 _ rfl)
   exact ⟨a.block, a.off, congrArg some e, hblk, hc' 0 _ rfl, by rw [hadd]; exact hc' 1 _ rfl, by rw [hadd]; exact hc' 2 _ rfl, by rw [hadd]; exact hc' 3 _ rfl, by rw [hadd]; exact hc' 4 _ rfl, by rw [hadd]; exact hc' 5 _ rfl, by rw [hadd]; exact hc' 6 _ rfl⟩
  ·have hk := (List.getElem?_eq_some_iff.1 hi).1
   simp at hk
   rw [List.getElem?_map, List.getElem?_range hk] at hi
   simp only [Option.map_some, Option.some.injEq, dif_pos hk, Prod.mk.injEq] at hi
   have hc := (Classical.choose_spec (Classical.choose_spec (each i hk))).2
   rw [hi.2, hi.1] at hc
   exact hc
set_option maxRecDepth 100000 in
theorem zSG {r : Reach} {b0 : Nat} {v : Value} {d : DataW H} {p : List MemPlace} (hv : Value.okWide Tryz.prog w r b0 27 v) (h : DataW.Trod enc Tryz.prog w 0 (fun _ => true) true 27 v d p) : ∃ (c : ConfV) (dd : ConfL) (pl : Tks), v = c.val /\ ConfIn w c dd pl := by
 obtain ⟨cs, rfl, hsz⟩ := okWide_struct Tryz.underlying27 hv
 rw [c27] at hsz
 obtain ⟨fuel, hf⟩ := h
 obtain ⟨xs, n, _, _, _, hxl, hg⟩ := DataW.trod_struct Tryz.underlying27 hf
 rw [show (Value.cells (.agg cs)).toList = cs.toList from rfl] at hg
 have hxs : xs.length = 7 := hxl
 have f0 : DataW.trod enc Tryz.prog w 0 (fun _ => true) true n 23 ((cs.toList.drop 0).take (Tryz.prog.cellsOf 23)) = some (xs[0]'(by omega)) := (hg 0 _ rfl).trans (List.getElem?_eq_getElem (by omega))
 have f1 : DataW.trod enc Tryz.prog w 0 (fun _ => true) true n 24 ((cs.toList.drop 4).take (Tryz.prog.cellsOf 24)) = some (xs[1]'(by omega)) := (hg 1 _ rfl).trans (List.getElem?_eq_getElem (by omega))
 have f2 : DataW.trod enc Tryz.prog w 0 (fun _ => true) true n 3 ((cs.toList.drop 5).take (Tryz.prog.cellsOf 3)) = some (xs[2]'(by omega)) := (hg 2 _ rfl).trans (List.getElem?_eq_getElem (by omega))
 have f3 : DataW.trod enc Tryz.prog w 0 (fun _ => true) true n 24 ((cs.toList.drop 6).take (Tryz.prog.cellsOf 24)) = some (xs[3]'(by omega)) := (hg 3 _ rfl).trans (List.getElem?_eq_getElem (by omega))
 have f4 : DataW.trod enc Tryz.prog w 0 (fun _ => true) true n 24 ((cs.toList.drop 7).take (Tryz.prog.cellsOf 24)) = some (xs[4]'(by omega)) := (hg 4 _ rfl).trans (List.getElem?_eq_getElem (by omega))
 have f5 : DataW.trod enc Tryz.prog w 0 (fun _ => true) true n 25 ((cs.toList.drop 8).take (Tryz.prog.cellsOf 25)) = some (xs[5]'(by omega)) := (hg 5 _ rfl).trans (List.getElem?_eq_getElem (by omega))
 have f6 : DataW.trod enc Tryz.prog w 0 (fun _ => true) true n 24 ((cs.toList.drop 9).take (Tryz.prog.cellsOf 24)) = some (xs[6]'(by omega)) := (hg 6 _ rfl).trans (List.getElem?_eq_getElem (by omega))
 obtain ⟨ys, m, _, _, _, hyl, hm⟩ := DataW.trod_struct Tryz.underlying23 f0
 have hys : ys.length = 4 := hyl
 have m0 : DataW.trod enc Tryz.prog w 0 (fun _ => true) true m 3 ((((cs.toList.drop 0).take (Tryz.prog.cellsOf 23)).drop 0).take (Tryz.prog.cellsOf 3)) = some (ys[0]'(by omega)) := (hm 0 _ rfl).trans (List.getElem?_eq_getElem (by omega))
 have m1 : DataW.trod enc Tryz.prog w 0 (fun _ => true) true m 3 ((((cs.toList.drop 0).take (Tryz.prog.cellsOf 23)).drop 1).take (Tryz.prog.cellsOf 3)) = some (ys[1]'(by omega)) := (hm 1 _ rfl).trans (List.getElem?_eq_getElem (by omega))
 have m2 : DataW.trod enc Tryz.prog w 0 (fun _ => true) true m 3 ((((cs.toList.drop 0).take (Tryz.prog.cellsOf 23)).drop 2).take (Tryz.prog.cellsOf 3)) = some (ys[2]'(by omega)) := (hm 2 _ rfl).trans (List.getElem?_eq_getElem (by omega))
 have m3 : DataW.trod enc Tryz.prog w 0 (fun _ => true) true m 3 ((((cs.toList.drop 0).take (Tryz.prog.cellsOf 23)).drop 3).take (Tryz.prog.cellsOf 3)) = some (ys[3]'(by omega)) := (hm 3 _ rfl).trans (List.getElem?_eq_getElem (by omega))
 obtain ⟨z0, e0⟩ := zCG Tryz.underlying3 m0
 obtain ⟨z1, e1⟩ := zCG Tryz.underlying3 m1
 obtain ⟨z2, e2⟩ := zCG Tryz.underlying3 m2
 obtain ⟨z3, e3⟩ := zCG Tryz.underlying3 m3
 obtain ⟨z5, e5⟩ := zCG Tryz.underlying3 f2
 rw [c3] at e0 e1 e2 e3 e5
 rw [c23] at e0 e1 e2 e3
 rw [c24] at f1 f3 f4 f6
 rw [c25] at f5
 have hl : cs.toList.length = 10 := by simpa using hsz
 have hcs : Value.agg cs = .agg cs.toList.toArray := by simp
 rw [hcs]
 clear f0 hg hm m0 m1 m2 m3 hf hv hcs hsz
 generalize cs.toList = L at *
 match L, hl with
 | [v0, v1, v2, v3, v4, v5, v6, v7, v8, v9], _ =>
  obtain ⟨x1, l1, rfl, g1⟩ := zGQ f1
  obtain ⟨x3, l3, rfl, g3⟩ := zGQ f3
  obtain ⟨x4, l4, rfl, g4⟩ := zGQ f4
  obtain ⟨x6, l6, rfl, g6⟩ := zGQ f6
  obtain ⟨x5, pl, rfl, g5, g7, g8⟩ := zPY f5
  simp at e0 e1 e2 e3 e5
  subst e0 e1 e2 e3 e5
  exact ⟨⟨z0, z1, z2, z3, x1, z5, x3, x4, x5, x6⟩, ⟨l1, l3, l4, l6⟩, pl, rfl, g1, g3, g4, g6, g5, g7, g8⟩
end
def laids : List (String × DataW Unit) := [("signalbox/prog.words", Rows.laid_signalbox_prog_words)]
theorem zTS : Tryz.prog.globalNamed "signalbox/prog.words" = some 2 := by kernel_rfl
theorem zTT : (Tryz.prog.globals[2]?).map (·.type) = some 386 := by kernel_rfl
theorem c127 : Tryz.prog.cellsOf 385 = 2 := by kernel_rfl
theorem c9w : Tryz.prog.cellsOf 9 = 1 := by kernel_rfl
theorem c3w : Tryz.prog.cellsOf 3 = 1 := by kernel_rfl
def wname (k : Nat) : List UInt8 := (wnames.getD k ⟨#[]⟩).data.toList
def wordD (k : Nat) : DataW Unit := .agg [.lit (.string (wname k)), .lit (.int .i64 (wnums.getD k 0))]
theorem zK3 : (Rows.laid_signalbox_prog_words : DataW Unit) = .agg ((List.range 16).map wordD) := by rfl
theorem c128 : Tryz.prog.cellsOf 386 = 32 := by kernel_rfl
theorem zPZ {W : World} (h : laidMet Tryz.prog laids W) : Words W := by
 obtain ⟨ps, h1, _⟩ := h
 obtain ⟨g, t, cs, fuel, p, hg, ht, hvar, hd⟩ := zNS h1 "signalbox/prog.words" Rows.laid_signalbox_prog_words (by unfold laids; simp)
 obtain rfl := Option.some.inj (zTS.symm.trans hg)
 obtain rfl := Option.some.inj (zTT.symm.trans ht)
 obtain ⟨xs, m, _, hx, hlen, hxl, hall⟩ := DataW.trod_array Tryz.underlying386 hd
 rw [c128] at hlen
 rw [c127] at hall
 rw [zK3] at hx
 have hxs : xs.map (·.1) = (List.range 16).map wordD := by
  have := congrArg Prod.fst hx
  simpa using this.symm
 intro k s n hs hn
 have hk : k < 16 := (List.getElem?_eq_some_iff.1 hs).1
 have hk' := hall k hk
 obtain ⟨x, hxk⟩ : ∃ x, xs[k]? = some x := ⟨_, List.getElem?_eq_getElem (by omega)⟩
 have hx1 : x.1 = wordD k := by
  have := congrArg (·[k]?) hxs
  simp only [List.getElem?_map, hxk, List.getElem?_range hk, Option.map_some, Option.some.injEq] at this
  exact this
 rw [hxk] at hk'
 obtain ⟨ys, m2, _, hy, _, hyl, hfs⟩ := DataW.trod_struct Tryz.underlying385 hk'
 have hyd : ys.map (·.1) = [.lit (.string (wname k)), .lit (.int .i64 (wnums.getD k 0))] := by
  have := congrArg Prod.fst hy
  rw [hx1] at this
  simpa [wordD] using this.symm
 have f0 := hfs 0 _ rfl
 have f1 := hfs 1 _ rfl
 have hsn : s = wnames.getD k ⟨#[]⟩ /\ n = wnums.getD k 0 := by
  refine ⟨?_, ?_⟩
  ·rw [List.getD_eq_getElem?_getD, hs]; rfl
  ·rw [List.getD_eq_getElem?_getD, hn]; rfl
 match ys, hyd with
 | [y0, y1], hyd =>
  simp only [List.map_cons, List.map_nil, List.cons.injEq, and_true] at hyd
  obtain ⟨hy0, hy1⟩ := hyd
  obtain ⟨s', hc0, hd0, _⟩ := DataW.trod_string Tryz.underlying9 f0
  obtain ⟨n', hc1, hd1, _⟩ := DataW.trod_int Tryz.underlying3 f1
  have e0 : cs.toList[k * 2]? = some (.string s') := by
   have := congrArg (·[0]?) hc0
   simpa [c9w, List.getElem?_take, List.getElem?_drop] using this
  have e1 : cs.toList[k * 2 + 1]? = some (.int .i64 n') := by
   have := congrArg (·[0]?) hc1
   simpa [c3w, List.getElem?_take, List.getElem?_drop] using this
  have g0 := World.var?_cell hg hvar (k * 2)
  have g1 := World.var?_cell hg hvar (k * 2 + 1)
  rw [<- Array.getElem?_toList] at g0 g1
  rw [e0] at g0
  rw [e1] at g1
  have h0 : s' = s := by
   rw [hd0] at hy0
   simp only [DataW.lit.injEq, Lit.string.injEq] at hy0
   rw [hsn.1]
   exact Go.WideShapes.bytes_inj hy0
  have h1 : n' = n := by
   rw [hd1] at hy1
   simp only [DataW.lit.injEq, Lit.int.injEq, true_and] at hy1
   rw [hsn.2]
   exact hy1
  rw [<- h0, <- h1]
  exact ⟨g0, g1⟩
theorem zP0 {W : World} (h : laidMetH Tryz.prog laids W) : Words W := by
 rw [MakeChecks.laidMetH_plain _ _ _ (by kernel_rfl)] at h
 exact zPZ h
end Go.Proofs.YtkggimgechhjnaaGreatDoor
