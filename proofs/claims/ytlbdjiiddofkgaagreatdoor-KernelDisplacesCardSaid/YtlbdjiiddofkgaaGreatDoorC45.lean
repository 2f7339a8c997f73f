import Derived.Test.YtlbdjiiddofkgaaGreatDoorC44
set_option maxRecDepth 100000
namespace Go.Proofs.YtlbdjiiddofkgaaGreatDoor
namespace Krn
open Go Go.RowKit Go.Maps Ring Band
theorem zE3 (p : jA × List Opn) : (tkV p).length = 7 := rfl
theorem zR4 (p : jA × List Opn) : ∀ u ∈ tkV p, u.oneCell' = true := by
 intro u hu
 simp only [tkV, jA.cells, List.mem_cons, List.mem_nil_iff, or_false] at hu
 rcases hu with rfl | rfl | rfl | rfl | rfl | rfl | rfl <;> rfl
theorem zND {w : World} {x : Sl} {pl : Tks} (h : TasksAt w x pl.ts) (h0 : 0 < x.n) : ∃ ad, x.A = some ad /\ ∀ j u, (rowC tkV pl)[j]? = some u -> w.cell? (ad.add j) = some u := by
 have hl : pl.length = x.n := by rw [<- h.len]; unfold Tks.ts; rw [List.length_map]
 have get : ∀ i (hi : i < pl.length), pl.ts[i]? = some (pl[i]'hi).1 := fun i hi => zIN (l := (pl[i]'hi).2) (List.getElem?_eq_getElem hi)
 obtain ⟨b, off, hA, -, -⟩ := h.at_ 0 _ (get 0 (by omega))
 refine ⟨_, hA, fun j u hu => ?_⟩
 have hjl := (List.getElem?_eq_some_iff.1 hu).1
 rw [zBQ zE3] at hjl
 have hq : j / 7 < pl.length := by omega
 have hj : j = j / 7 * 7 + j % 7 := by omega
 have hm : j % 7 < 7 := Nat.mod_lt _ (by omega)
 obtain ⟨b', off', hA', -, hc⟩ := h.at_ (j / 7) _ (get _ hq)
 rw [hA] at hA'
 cases hA'
 have h2 := zCA zE3 pl (j / 7) _ (List.getElem?_eq_getElem hq) (j % 7) hm
 rw [<- hj, hu] at h2
 rw [Addr.add_lit]
 have e : off + j = off + j / 7 * 7 + j % 7 := by omega
 rw [e]
 obtain ⟨c0, c1, c2, c3, c4, c5, c6⟩ := hc
 have : j % 7 = 0 ∨ j % 7 = 1 ∨ j % 7 = 2 ∨ j % 7 = 3 ∨ j % 7 = 4 ∨ j % 7 = 5 ∨ j % 7 = 6 := by omega
 rcases this with h3 | h3 | h3 | h3 | h3 | h3 | h3
 all_goals
  rw [h3] at h2 ⊢
  simp only [tkV, jA.cells, List.getElem?_cons_zero, List.getElem?_cons_succ, Option.some.injEq] at h2
  rw [h2]
  assumption
structure TkRel (w : World) (pl : Tks) (v : Value) (tb : Option Nat) (k : Nat) (us : List (jA × List Opn)) (tp : List (Option Nat)) (W : World) : Prop where
 len : us.length = pl.length
 same : ∀ (i : Nat) t l, pl[i]? = some (t, l) -> ∃ o, us[i]? = some ({ t with o := o }, l) /\ (k <= i -> o = t.o)
 win : Win W 63 7 v tb pl.length (rowC tkV us)
 tpl : tp.length = k
 own : ∀ (i : Nat) t l o, us[i]? = some (t, l) -> tp[i]? = some o -> Win W 94 3 t.o.val o l.length (jI l) /\ l.length = t.o.n
 fb : ∀ g, tb = some g -> w.heap.size <= g
 fp : ∀ g, some g ∈ tp -> w.heap.size <= g /\ some g ≠ tb
 only : Only (fun _ => False) w W
theorem TkRel.next {w W W3 : World} {pl : Tks} {g off n cap k : Nat} {us : List (jA × List Opn)} {tp : List (Option Nat)} {t : jA} {l : List Opn} {p' : Option Addr} {cap' : Nat} {h' : Option Nat}
  (h : TkRel w pl (.slice (some ⟨g, off, none⟩) n cap) (some g) k us tp W) (hn : n = pl.length) (hx : pl[k]? = some (t, l)) (hW3 : Only (fun _ => False) W W3) (hw : Win W3 94 3 (.slice p' l.length cap') h' l.length (jI l)) (hf : ∀ x, h' = some x -> W.heap.size <= x) (hgW : g < W.heap.size) :
  ∃ us' tp', TkRel w pl (.slice (some ⟨g, off, none⟩) n cap) (some g) (k + 1) us' tp' (W3.setCell ⟨g, off + k * 7 + 6, none⟩ (.slice p' l.length cap')) := by
 obtain ⟨o, ho, -⟩ := h.same k t l hx
 have hk := (List.getElem?_eq_some_iff.1 ho).1
 have hO9 : Only (fun x => x = g) W3 (W3.setCell ⟨g, off + k * 7 + 6, none⟩ (.slice p' l.length cap')) := (Only.refl (fun x => x = g) W3).setCell (p := ⟨g, off + k * 7 + 6, none⟩) (fun _ => rfl) _
 have hne : ∀ x, h' = some x -> x ≠ g := fun x hx e => by have := hf x hx; omega
 refine ⟨us.set k ({ t with o := ⟨p', l.length, cap'⟩ }, l), tp ++ [h'], ?_, fun i t1 l1 hi => ?_, ?_, ?_, fun i t1 l1 o1 hi ho1 => ?_, h.fb, fun x hx1 => ?_, ?_⟩
 ·rw [List.length_set]; exact h.len
 ·by_cases e : i = k
  ·subst e
   rw [hx] at hi
   cases hi
   exact ⟨_, List.getElem?_set_self hk, fun hlt => by omega⟩
  ·obtain ⟨o2, q1, q2⟩ := h.same i t1 l1 hi
   exact ⟨o2, by rw [List.getElem?_set_ne (fun h => e h.symm)]; exact q1, fun hlt => q2 (by omega)⟩
 ·have hw0 := h.win.kept hW3 (fun _ _ h => h)
  rw [hn, <- h.len] at hw0
  have := zJF (y := ({ t with o := ⟨p', l.length, cap'⟩ }, l)) (j := 6) (u := .slice p' l.length cap') zE3 hw0 ho (by decide) rfl
  rw [List.length_set, h.len] at this
  rw [hn]
  exact this
 ·rw [List.length_append, h.tpl]; rfl
 ·by_cases e : i = k
  ·subst e
   rw [List.getElem?_set_self hk] at hi
   cases hi
   rw [List.getElem?_append_right (by rw [h.tpl]; exact Nat.le_refl _), h.tpl, Nat.sub_self] at ho1
   have : h' = o1 := by simpa using ho1
   subst this
   exact ⟨hw.kept hO9 (fun x hx1 e => hne x hx1 e), rfl⟩
  ·rw [List.getElem?_set_ne (fun h => e h.symm)] at hi
   have hik : i < k := by
    have := (List.getElem?_eq_some_iff.1 ho1).1
    rw [List.length_append, h.tpl] at this
    have : [h'].length = 1 := rfl
    omega
   rw [List.getElem?_append_left (by rw [h.tpl]; exact hik)] at ho1
   obtain ⟨q1, q2⟩ := h.own i t1 l1 o1 hi ho1
   exact ⟨(q1.kept hW3 (fun _ _ h => h)).kept hO9 (fun x hx1 e => (h.fp x (by rw [<- hx1]; exact List.mem_of_getElem? ho1)).2 (by rw [e])), q2⟩
 ·rcases List.mem_append.1 hx1 with hx1 | hx1
  ·exact h.fp x hx1
  ·have : h' = some x := (List.mem_singleton.1 hx1).symm
   exact ⟨Nat.le_trans h.only.size (hf x this), fun e => hne x this (by cases e; rfl)⟩
 ·exact (h.only.trans' hW3).trans hO9 (fun x hx e => by have := h.fb g rfl; omega)
def TasksEnd (w : World) (pl : Tks) (e : Ending) (w' : World) : Prop :=
 ∃ v tb us tp, e = .returned v /\ TkRel w pl v tb pl.length us tp w'
theorem zNE {w : World} {x : Sl} {pl : Tks} (ht : TasksAt w x pl.ts) (hp : ProgsAt w pl) (hn : pl.length <= 1000) (hol : ∀ (i : Nat) t l, pl[i]? = some (t, l) -> l.length <= 1000) : Calls Tryz.prog 44 #[.slice x.A x.n x.cap] w (TasksEnd w pl) := by
 have hl : pl.length = x.n := by rw [<- ht.len]; unfold Tks.ts; rw [List.length_map]
 have hcl := zh (zK8 (A := x.A) (n := x.n) (cap := x.cap) (xs := rowC tkV pl) (by rw [zBQ zE3, hl]) (zND ht) (zM9 zR4 _) (by omega))
 have hp' := zh hp
 have jBq := zh hol
 have hl' := zh hl
 rw [<- hl] at hcl ⊢
 obtain ⟨n, hnn⟩ : ∃ n, n = pl.length := ⟨_, rfl⟩
 rw [<- hnn] at hcl hn ⊢
 have hn' := zh hnn
 clear ht hp hol hl
 obtain ⟨Z, hZ⟩ : ∃ Z, Z = TasksEnd w pl := ⟨_, rfl⟩
 rw [<- hZ]
 have hZ' := zh hZ
 clear hZ hnn
 go_enter Tryz.func44, Tryz.ntmps44
 go_wp2_with fail
 refine hcl.out.mono ?_
 rintro e w1 ⟨v, h, rfl, hw1, hf1, hO1⟩
 have hst : TkRel w pl v h 0 pl [] w1 := by
  refine ⟨rfl, fun i t l hi => ⟨t.o, hi, fun _ => rfl⟩, by rw [<- hn'.out]; exact hw1, rfl, fun i t l o hi ho => (by simp at ho), fun g hg => hf1 g hg, fun g hg => (by cases hg), hO1⟩
 obtain ⟨p, cap, hv, -, -⟩ := hw1.form
 have yS := zh hst
 have hv' := zh hv
 clear hw1 hf1 hO1 hst hcl
 subst hv
 go_wp2
 go_loopw [8] (fun i wr => ∃ (k : Nat) (us : List (jA × List Opn)) (tp : List (Option Nat)), k <= n /\ i = .int .i64 k /\ TkRel w pl (.slice p n cap) h k us tp wr) (fun i _ => n - (intOf i).toNat)
 case atStart => exact ⟨0, pl, [], Nat.zero_le _, rfl, yS.out⟩
 case round =>
  obtain ⟨k, us, tp, hk, rfl, hR⟩ := hrel
  by_cases hkn : k < n
  ·have vR : (k : Int) < (n : Int) := by omega
   obtain ⟨⟨t, l⟩, hx⟩ : ∃ x, pl[k]? = some x := ⟨_, List.getElem?_eq_getElem (by have := hn'.out; omega)⟩
   obtain ⟨o, ho, ho2⟩ := hR.same k t l hx
   obtain rfl := ho2 (Nat.le_refl _)
   have hw0 : Win wr 63 7 (.slice p n cap) h us.length (rowC tkV us) := by
    have := hR.win
    rw [<- hR.len] at this
    exact this
   obtain ⟨g, off, cap', hg1, hv1, -, -, -, hgl, hc, hf⟩ := zBG (f := tkV) zE3 hw0 ho
   obtain ⟨rfl, -, rfl⟩ : p = some ⟨g, off, none⟩ /\ True /\ cap = cap' := by
    injection hv1 with q1 q2 q3
    exact ⟨q1, trivial, q3⟩
   subst hg1
   have x6 := hc 6 _ rfl
   have f6 := hf (off + k * 7 + 6)
   obtain ⟨r1, r2, r3, -⟩ := hp'.out.row k t l hx
   have jBt := zh (zFG (cap := t.o.cap) (r1.new hR.only) r2 (by have := jBq.out k t l hx; omega))
   have hnx := zh (fun (W3 : World) (p' : Option Addr) (jC2 : Nat) (h3 : Option Nat) hO3 hw3 hf3 => hR.next (p' := p') (cap' := jC2) (h' := h3) (W3 := W3) hn'.out hx hO3 hw3 hf3 hgl)
   rw [<- r2] at x6 jBt
   obtain ⟨ln, hln⟩ : ∃ ln, ln = l.length := ⟨_, rfl⟩
   obtain ⟨tA, htA⟩ : ∃ tA, tA = t.o.A := ⟨_, rfl⟩
   obtain ⟨tc, htc⟩ : ∃ tc, tc = t.o.cap := ⟨_, rfl⟩
   rw [<- hln] at x6 jBt hnx
   rw [<- htA, <- htc] at x6 jBt
   clear hR ho hw0 hc hf r1 r2 r3 hx hv1 hln htA htc ho2
   go_wp2_with fail
   refine jBt.out.mono ?_
   rintro e w3 ⟨v3, h3, rfl, hw3, hf3, hO3⟩
   obtain ⟨p3, jC2, rfl, -, -⟩ := hw3.form
   have jGs := zh (hnx.out w3 p3 jC2 h3 hO3 hw3 hf3)
   have y6 := hO3.cell x6 id
   have g6 := Nat.lt_of_lt_of_le hgl hO3.size
   have e6 : w3.frozen? ⟨g, off + k * 7 + 6, none⟩ = false := by
    simp only [World.frozen?] at f6 ⊢
    rw [hO3.block g hgl id]
    exact f6
   clear hw3 hf3 hO3 hnx x6 f6
   go_wp2
   go_roundw
   case rel =>
    obtain ⟨us', tp', hR'⟩ := jGs.out
    exact ⟨k + 1, us', tp', by omega, by go_num, hR'⟩
   case measure => simp [intOf]; omega
  ·obtain rfl : k = n := by omega
   have hend := zh (show Z (.returned (.slice p k cap)) wr from by rw [hZ'.out]; exact ⟨_, h, us, tp, rfl, by have := hn'.out; subst this; exact hR⟩)
   clear hR
   go_wp2
   exact hend.out
def Iv (lo hi : Nat) (S : Nat -> Prop) : Prop := ∀ k, S k -> lo <= k /\ k < hi
theorem zGT {w : World} {x : Sl} {l : List Int} (h : IntsAt w x l) : Row w x.A x.n (fun i => .int .i64 (l.getD i 0)) := fun k hk => by
 obtain ⟨z, hz⟩ : ∃ z, l[k]? = some z := ⟨_, List.getElem?_eq_getElem (by rw [h.len]; exact hk)⟩
 obtain ⟨b, off, hA, hb, hc⟩ := h.at_ k z hz
 exact ⟨b, off, hA, by rw [hc]; show _ = some (Value.int .i64 (l.getD k 0)); rw [List.getD_eq_getElem?_getD, hz]; rfl, hb⟩
theorem zI9 {w w' : World} {A : Option Addr} {n : Nat} {f : Nat -> Value} (h : Row w A n f) (ho : Only (fun _ => False) w w') : Row w' A n f := h.only ho (fun _ h => h.elim)
theorem zJ1 {w : World} {B B0 b g n : Nat} {r room : Nat -> Nat} {o : Nat -> Option Nat} {q : Nat -> List Int} (h : Mbx.BoxesAt w B b g n r room o q) (hB : B0 <= B) : Mbx.BoxesAt w B0 b g n r room o q :=
 ⟨h.box, h.row, h.rings, h.apart, fun i hi k hk => ⟨(h.own i hi k hk).1, (h.own i hi k hk).2.1, Nat.le_trans hB (h.own i hi k hk).2.2⟩, ⟨Nat.le_trans hB h.base.1, Nat.le_trans hB h.base.2⟩⟩
theorem zTM {w : World} {B b g n : Nat} {r room : Nat -> Nat} {o : Nat -> Option Nat} {q : Nat -> List Int} (h : Mbx.BoxesAt w B b g n r room o q) {k : Nat} (hk : Mbx.bfp b g n r o k) : B <= k := by
 rcases hk with rfl | rfl | ⟨i, hi, hk⟩
 ·exact h.base.1
 ·exact h.base.2
 ·exact (h.own i hi k hk).2.2
theorem zTN {w : World} {B b g n : Nat} {r room : Nat -> Nat} {o : Nat -> Option Nat} {q : Nat -> List Int} (h : Mbx.BoxesAt w B b g n r room o q) {k : Nat} (hk : Mbx.bfp b g n r o k) : k < w.heap.size := by
 rcases hk with rfl | rfl | ⟨i, hi, hk⟩
 ·obtain ⟨t, q⟩ := h.box; exact zAG q
 ·exact zAG h.row
 ·exact (h.rings i hi).lt k hk
structure ObjsOk (w : World) (c : jD) (d : jL) (b1 b2 b3 b4 : Nat) (w' : World) : Prop where
 h : ∃ g1 r1 g2 g3 mo g4 a1 a2 a3, Mbx.BoxesAt w' w.heap.size b1 g1 c.mb.n r1 (fun i => Mbx.roomN (d.mb.getD i 0)) (fun _ => none) (fun _ => []) /\ Flg.GroupsAt w' b2 g2 (Flg.manyN c.g) (fun _ => 0#8) /\ Cnt.CountsAt w' b3 g3 c.cn.n (fun _ => 0) mo /\ (∀ i, i < c.cn.n -> mo i = Cnt.mostN (d.cn.getD i 0)) /\ Lck.LkAt w' b4 g4 c.ce.n (fun i => d.ce.getD i 0) (fun _ => 0) (fun _ => false) /\
  Iv w.heap.size a1 (Mbx.bfp b1 g1 c.mb.n r1 (fun _ => none)) /\ Iv a1 a2 (fun k => k = b2 ∨ k = g2) /\ Iv a2 a3 (fun k => k = b3 ∨ k = g3) /\ Iv a3 w'.heap.size (fun k => k = b4 ∨ k = g4) /\ w.heap.size <= a1 /\ a1 <= a2 /\ a2 <= a3 /\ a3 <= w'.heap.size
 o : Only (fun _ => False) w w'
def ObjsEnd (w : World) (c : jD) (d : jL) (e : Ending) (w' : World) : Prop := ∃ b1 b2 b3 b4, e = .returned (.agg #[ptr b1, ptr b2, ptr b3, ptr b4]) /\ ObjsOk w c d b1 b2 b3 b4 w'
set_option maxHeartbeats 1000000 in
theorem zPP {w : World} {c : jD} {d : jL} (hd : ObjsAt w c d) (hm : c.mb.n <= 4096 /\ c.cn.n <= 4096 /\ c.ce.n <= 4096) : Calls Tryz.prog 43 #[c.val] w (ObjsEnd w c d) := by
 obtain ⟨W, hW⟩ : ∃ W, W = w.alloc (.cells c.cells.toArray 27) := ⟨_, rfl⟩
 have hO : Only (fun _ => False) w W := by rw [hW]; exact (Only.refl _ w).alloc _
 obtain ⟨X, hX⟩ : ∃ X, X = w.heap.size := ⟨_, rfl⟩
 have hXr : W.heap[X]? = some (.cells c.cells.toArray 27 (0, 0)) := by rw [hW]; exact zAB _ _ hX.symm
 have xl := zAG hXr
 have hk := zh (fun W' (ho : Only (fun _ => False) W W') => show W'.cell? ⟨X, 4, none⟩ = some (.slice c.mb.A c.mb.n c.mb.cap) /\ W'.cell? ⟨X, 5, none⟩ = some (.int .i64 c.g) /\ W'.cell? ⟨X, 6, none⟩ = some (.slice c.cn.A c.cn.n c.cn.cap) /\ W'.cell? ⟨X, 7, none⟩ = some (.slice c.ce.A c.ce.n c.ce.cap) /\ X < W'.heap.size from
  ⟨ho.cell (zAA hXr (i := 4) rfl) id, ho.cell (zAA hXr (i := 5) rfl) id, ho.cell (zAA hXr (i := 6) rfl) id, ho.cell (zAA hXr (i := 7) rfl) id, Nat.lt_of_lt_of_le xl ho.size⟩)
 have hB := zh (fun w1 W' (h0 : Only (fun _ => False) W w1) (ho : Only (fun _ => False) w1 W') => show Calls Tryz.prog 90 #[.slice c.mb.A c.mb.n c.mb.cap] W' (fun e w' => ∃ b, e = .returned (.pointer (some ⟨b, 0, none⟩)) /\ (∃ g r, Mbx.BoxesAt w' w.heap.size b g c.mb.n r (fun i => Mbx.roomN (d.mb.getD i 0)) (fun _ => none) (fun _ => []) /\ Iv w1.heap.size w'.heap.size (Mbx.bfp b g c.mb.n r (fun _ => none))) /\ Only (fun _ => False) W' w') from
  (Mbx.new_boxes W' c.mb.A c.mb.n c.mb.cap (fun i => d.mb.getD i 0) hm.1 (zI9 (zGT hd.mb) ((hO.trans' h0).trans' ho))).mono fun e w2 ⟨b, g, r, he, h1, h2⟩ =>
   ⟨b, he, ⟨g, r, zJ1 h1 ((hO.trans' h0).trans' ho).size, fun k hk => ⟨Nat.le_trans ho.size (zTM h1 hk), zTN h1 hk⟩⟩, h2⟩)
 have hG := zh (fun w1 W' (ho : Only (fun _ => False) w1 W') => show Calls Tryz.prog 91 #[.int .i64 c.g] W' (fun e w' => ∃ b, e = .returned (.pointer (some ⟨b, 0, none⟩)) /\ (∃ g, Flg.GroupsAt w' b g (Flg.manyN c.g) (fun _ => 0#8) /\ Iv w1.heap.size w'.heap.size (fun k => k = b ∨ k = g)) /\ Only (fun _ => False) W' w') from
  (Flg.gnew_any c.g W').mono fun e w2 ⟨he, h1, h2⟩ => ⟨_, he, ⟨_, h1, fun k hk => by
   have hs := ho.size
   have q1 : W'.heap.size + 1 < w2.heap.size := by obtain ⟨t, q⟩ := h1.box; exact zAG q
   rcases hk with rfl | rfl <;> omega⟩, h2⟩)
 have hC := zh (fun w1 W' (h0 : Only (fun _ => False) W w1) (ho : Only (fun _ => False) w1 W') => show Calls Tryz.prog 92 #[.slice c.cn.A c.cn.n c.cn.cap] W' (fun e w' => ∃ b, e = .returned (.pointer (some ⟨b, 0, none⟩)) /\ (∃ g mo, Cnt.CountsAt w' b g c.cn.n (fun _ => 0) mo /\ (∀ i, i < c.cn.n -> mo i = Cnt.mostN (d.cn.getD i 0)) /\ Iv w1.heap.size w'.heap.size (fun k => k = b ∨ k = g)) /\ Only (fun _ => False) W' w') from
  (Cnt.new_counts W' c.cn.A c.cn.n c.cn.cap (fun i => d.cn.getD i 0) hm.2.1 (zI9 (zGT hd.cn) ((hO.trans' h0).trans' ho))).mono fun e w2 ⟨b, g, mo, he, h1, h2, h3, h4, h5⟩ => ⟨b, he, ⟨g, mo, h1, h2, fun k hk => by
   have hs := ho.size
   have q1 : b < w2.heap.size := by obtain ⟨t, q⟩ := h1.box; exact zAG q
   have q2 : g < w2.heap.size := zAG h1.row
   rcases hk with rfl | rfl <;> omega⟩, h5⟩)
 have hL := zh (fun w1 W' (h0 : Only (fun _ => False) W w1) (ho : Only (fun _ => False) w1 W') => show Calls Tryz.prog 93 #[.slice c.ce.A c.ce.n c.ce.cap] W' (fun e w' => ∃ b, e = .returned (.pointer (some ⟨b, 0, none⟩)) /\ (∃ g, Lck.LkAt w' b g c.ce.n (fun i => d.ce.getD i 0) (fun _ => 0) (fun _ => false) /\ Iv w1.heap.size w'.heap.size (fun k => k = b ∨ k = g)) /\ Only (fun _ => False) W' w') from
  (Lck.new_any W' c.ce.A c.ce.n c.ce.cap (fun i => d.ce.getD i 0) hm.2.2 (zI9 (zGT hd.ce) ((hO.trans' h0).trans' ho))).mono fun e w2 ⟨he, h1, h2⟩ => ⟨_, he, ⟨_, h1, fun k hk => by
   have hs := ho.size
   have q1 : W'.heap.size + 1 < w2.heap.size := by obtain ⟨t, q⟩ := h1.box; exact zAG q
   rcases hk with rfl | rfl <;> omega⟩, h2⟩)
 have hO' := zh hO
 have hX' := zh hX
 have hW' := zh hW
 unfold jD.cells at hW'
 unfold jD.val
 clear hd hm hO hX hW hXr
 go_enter Tryz.func43, Tryz.ntmps43
 go_upto_region 1 with fail
 rw [<- hX'.out, <- hW'.out]
 have hWs : W.heap.size = X + 1 := by rw [hW'.out, zAS, hX'.out]
 have hT0 : (W.alloc (Obj.cells #[Value.pointer none, Value.pointer none, Value.pointer none, Value.pointer none] 107)).heap[X + 1]? = some (.cells [Value.pointer none, Value.pointer none, Value.pointer none, Value.pointer none].toArray 107 (0, 0)) := zAB _ _ hWs
 have hO0 : Only (fun _ => False) W (W.alloc (Obj.cells #[Value.pointer none, Value.pointer none, Value.pointer none, Value.pointer none] 107)) := (Only.refl _ _).alloc _
 generalize hWt : W.alloc (Obj.cells #[Value.pointer none, Value.pointer none, Value.pointer none, Value.pointer none] 107) = Wt at hT0 hO0 ⊢
 have jI4 : X + 2 <= Wt.heap.size := by have := zAG hT0; omega
 have hTt := zh (fun W9 (ho : Only (fun _ => False) Wt W9) => ho.heap hT0 id)
 clear hWt hT0
 go_region_held3 (fun W' => W'.cell? ⟨X, 4, none⟩ = some (.slice c.mb.A c.mb.n c.mb.cap) /\ W'.cell? ⟨X, 5, none⟩ = some (.int .i64 c.g) /\ W'.cell? ⟨X, 6, none⟩ = some (.slice c.cn.A c.cn.n c.cn.cap) /\ W'.cell? ⟨X, 7, none⟩ = some (.slice c.ce.A c.ce.n c.ce.cap) /\ X < W'.heap.size)
  (first
   | exact hk.out _ (hO0.trans' hR4)
   | exact hk.out _ (by have hz := hO0.trans' hR4; repeat (first | with_reducible assumption | with_reducible apply Only.drew | with_reducible refine Only.setCell ?_ (p := ⟨_, _, none⟩) (fun hlt => absurd hlt (by first | exact Nat.lt_irrefl _ | (dsimp only; omega))) _))
   | exact hk.out _ (hO0.trans' hR3)
   | exact hk.out _ (hO0.trans' hR2)
   | exact hk.out _ (hO0.trans' hR1)
   | exact hk.out _ (by repeat (first | with_reducible assumption | with_reducible exact Only.refl _ _ | with_reducible apply Only.drew | with_reducible apply Only.drewN | with_reducible apply Only.alloc | with_reducible refine Only.setCell ?_ (p := ⟨_, _, none⟩) (fun hlt => absurd hlt (by first | exact Nat.lt_irrefl _ | (dsimp only; omega)))  _)))
  (first
   | (go_at_call 90; (with_reducible refine (hB.out Wt _ hO0 (show Only (fun _ => False) Wt _ from (by repeat (first | with_reducible assumption | with_reducible exact Only.refl _ _ | with_reducible apply Only.drew | with_reducible apply Only.drewN | with_reducible apply Only.alloc | with_reducible refine Only.setCell ?_ (p := ⟨_, _, none⟩) (fun hlt => absurd hlt (by first | exact Nat.lt_irrefl _ | (dsimp only; omega)))  _)))).mono ?_); rintro _ w1 ⟨b1, rfl, hP1, hQ1⟩; have hR1 := Only.trans' (show Only (fun _ => False) Wt _ from (by repeat (first | with_reducible assumption | with_reducible exact Only.refl _ _ | with_reducible apply Only.drew | with_reducible apply Only.drewN | with_reducible apply Only.alloc | with_reducible refine Only.setCell ?_ (p := ⟨_, _, none⟩) (fun hlt => absurd hlt (by first | exact Nat.lt_irrefl _ | (dsimp only; omega)))  _))) hQ1; have jA2 := zh hP1; clear hP1 hQ1)
   | (go_at_call 91; (with_reducible refine (hG.out w1 _ (by repeat (first | with_reducible assumption | with_reducible exact Only.refl _ _ | with_reducible apply Only.drew | with_reducible apply Only.drewN | with_reducible apply Only.alloc | with_reducible refine Only.setCell ?_ (p := ⟨_, _, none⟩) (fun hlt => absurd hlt (by first | exact Nat.lt_irrefl _ | (dsimp only; omega)))  _))).mono ?_); rintro _ w2 ⟨b2, rfl, hP2, hQ2⟩; have hS2 := Only.trans' (show Only (fun _ => False) w1 _ from (by repeat (first | with_reducible assumption | with_reducible exact Only.refl _ _ | with_reducible apply Only.drew | with_reducible apply Only.drewN | with_reducible apply Only.alloc | with_reducible refine Only.setCell ?_ (p := ⟨_, _, none⟩) (fun hlt => absurd hlt (by first | exact Nat.lt_irrefl _ | (dsimp only; omega)))  _))) hQ2; have hR2 := hR1.trans' hS2; have zT := zh hP2; clear hP2 hQ2)
   | (go_at_call 92; (with_reducible refine (hC.out w2 _ (hO0.trans' hR2) (by repeat (first | with_reducible assumption | with_reducible exact Only.refl _ _ | with_reducible apply Only.drew | with_reducible apply Only.drewN | with_reducible apply Only.alloc | with_reducible refine Only.setCell ?_ (p := ⟨_, _, none⟩) (fun hlt => absurd hlt (by first | exact Nat.lt_irrefl _ | (dsimp only; omega)))  _))).mono ?_); rintro _ w3 ⟨b3, rfl, hP3, hQ3⟩; have hS3 := Only.trans' (show Only (fun _ => False) w2 _ from (by repeat (first | with_reducible assumption | with_reducible exact Only.refl _ _ | with_reducible apply Only.drew | with_reducible apply Only.drewN | with_reducible apply Only.alloc | with_reducible refine Only.setCell ?_ (p := ⟨_, _, none⟩) (fun hlt => absurd hlt (by first | exact Nat.lt_irrefl _ | (dsimp only; omega)))  _))) hQ3; have hR3 := hR2.trans' hS3; have zU := zh hP3; clear hP3 hQ3)
   | (go_at_call 93; (with_reducible refine (hL.out w3 _ (hO0.trans' hR3) (by repeat (first | with_reducible assumption | with_reducible exact Only.refl _ _ | with_reducible apply Only.drew | with_reducible apply Only.drewN | with_reducible apply Only.alloc | with_reducible refine Only.setCell ?_ (p := ⟨_, _, none⟩) (fun hlt => absurd hlt (by first | exact Nat.lt_irrefl _ | (dsimp only; omega)))  _))).mono ?_); rintro _ w4 ⟨b4, rfl, hP4, hQ4⟩; have hS4 := Only.trans' (show Only (fun _ => False) w3 _ from (by repeat (first | with_reducible assumption | with_reducible exact Only.refl _ _ | with_reducible apply Only.drew | with_reducible apply Only.drewN | with_reducible apply Only.alloc | with_reducible refine Only.setCell ?_ (p := ⟨_, _, none⟩) (fun hlt => absurd hlt (by first | exact Nat.lt_irrefl _ | (dsimp only; omega)))  _))) hQ4; have hR4 := hR3.trans' hS4; have zV := zh hP4; clear hP4 hQ4; have hT4 := hTt.out _ hR4; have t0 := zAA hT4 (i := 0) rfl; have t1 := zAA hT4 (i := 1) rfl; have t2 := zAA hT4 (i := 2) rfl; have t3 := zAA hT4 (i := 3) rfl; have tf := fun j => zAC hT4 j; have tl := zAG hT4))
 all_goals
  have hf := zAE (zAE (zAE (zAE hT4 0 (.pointer (some ⟨b1, 0, none⟩))) 1 (.pointer (some ⟨b2, 0, none⟩))) 2 (.pointer (some ⟨b3, 0, none⟩))) 3 (.pointer (some ⟨b4, 0, none⟩))
  have hOf : Only (fun k => k = X + 1) w4 ((((w4.setCell ⟨X + 1, 0, none⟩ (.pointer (some ⟨b1, 0, none⟩))).setCell ⟨X + 1, 1, none⟩ (.pointer (some ⟨b2, 0, none⟩))).setCell ⟨X + 1, 2, none⟩ (.pointer (some ⟨b3, 0, none⟩))).setCell ⟨X + 1, 3, none⟩ (.pointer (some ⟨b4, 0, none⟩))) :=
   ((((Only.refl (fun k => k = X + 1) w4).setCell (p := ⟨X + 1, 0, none⟩) (fun _ => rfl) _).setCell (p := ⟨X + 1, 1, none⟩) (fun _ => rfl) _).setCell (p := ⟨X + 1, 2, none⟩) (fun _ => rfl) _).setCell (p := ⟨X + 1, 3, none⟩) (fun _ => rfl) _
  generalize ((((w4.setCell ⟨X + 1, 0, none⟩ (.pointer (some ⟨b1, 0, none⟩))).setCell ⟨X + 1, 1, none⟩ (.pointer (some ⟨b2, 0, none⟩))).setCell ⟨X + 1, 2, none⟩ (.pointer (some ⟨b3, 0, none⟩))).setCell ⟨X + 1, 3, none⟩ (.pointer (some ⟨b4, 0, none⟩))) = Wf at hf hOf ⊢
  have hend := zh (show ObjsEnd w c d (.returned (.agg #[ptr b1, ptr b2, ptr b3, ptr b4])) Wf from by
   refine ⟨b1, b2, b3, b4, rfl, ?_, ?_⟩
   ·obtain ⟨g1, r1, p1, i1⟩ := jA2.out
    obtain ⟨g2, p2, i2⟩ := zT.out
    obtain ⟨g3, mo, p3, q3, i3⟩ := zU.out
    obtain ⟨g4, p4, i4⟩ := zV.out
    have z1 := hR1.size
    have z2 := hS2.size
    have z3 := hS3.size
    have z4 := hS4.size
    have zf := hOf.size
    have hxs : X = w.heap.size := hX'.out
    have n1 : ∀ k, Mbx.bfp b1 g1 c.mb.n r1 (fun _ => none) k -> k ≠ X + 1 := fun k hk => by have := i1 k hk; omega
    have n2 : b2 ≠ X + 1 /\ g2 ≠ X + 1 := by have := i2 b2 (.inl rfl); have := i2 g2 (.inr rfl); omega
    have n3 : b3 ≠ X + 1 /\ g3 ≠ X + 1 := by have := i3 b3 (.inl rfl); have := i3 g3 (.inr rfl); omega
    have n4 : b4 ≠ X + 1 /\ g4 ≠ X + 1 := by have := i4 b4 (.inl rfl); have := i4 g4 (.inr rfl); omega
    refine ⟨g1, r1, g2, g3, mo, g4, w1.heap.size, w2.heap.size, w3.heap.size, ?_, ?_, ?_, q3, ?_, ?_, i2, i3, ?_, ?_, z2, z3, ?_⟩
    ·exact ((p1.kept ((hS2.trans' hS3).trans' hS4) (fun _ _ h => h))).kept hOf (fun k hk e => n1 k hk e)
    ·exact (p2.kept (hS3.trans' hS4) id id).kept hOf n2.1 n2.2
    ·exact (p3.kept hS4 id id).kept hOf n3.1 n3.2
    ·exact p4.kept hOf n4.1 n4.2
    ·exact fun k hk => by have := i1 k hk; omega
    ·exact fun k hk => by have := i4 k hk; omega
    ·omega
    ·omega
   ·exact ((hO'.out.trans' hO0).trans' hR4).trans hOf (fun x hx e => by have := hX'.out; omega))
  have r0 := zAA hf (i := 0) rfl
  have r1 := zAA hf (i := 1) rfl
  have r2 := zAA hf (i := 2) rfl
  have r3 := zAA hf (i := 3) rfl
  have rl := zAG hf
  unfold ptr at hend
  go_wp2
  refine bodyPost_ret (v := .agg #[.pointer (some ⟨b1, 0, none⟩), .pointer (some ⟨b2, 0, none⟩), .pointer (some ⟨b3, 0, none⟩), .pointer (some ⟨b4, 0, none⟩)]) ?_ rfl hend.out
  simp [results, Tryz.results43, go_sem, r0, r1, r2, r3]
