import Derived.Test.YtlbdjiiddofkgaaGreatDoorC33
import Derived.Test.YtlbdjiiddofkgaaGreatDoorC30
set_option maxRecDepth 100000
namespace Go.Proofs.YtlbdjiiddofkgaaGreatDoor
namespace Krn
open Go Go.RowKit Go.Maps Ring Band
def raiseF (c : KC) (s : KS) (i : Nat) : KS :=
 if s.lnm i = true then { s with lnl := upd s.lnl i true } else relF { s with lnl := upd s.lnl i false } (c.li.getD i 0).toNat
def maskF (s : KS) (i : Nat) : KS := { s with lnm := upd s.lnm i true }
def openF (c : KC) (s : KS) (i : Nat) : KS :=
 if s.lnl i = true then relF { s with lnm := upd s.lnm i false, lnl := upd s.lnl i false } (c.li.getD i 0).toNat else { s with lnm := upd s.lnm i false, lnl := upd s.lnl i false }
def putF (s : KS) (x : Pil.Ev) : KS := { s with ag := s.ag ++ [⟨x, s.tn⟩], tn := s.tn + 1 }
def timeF (s : KS) (x : Pil.Ev) : KS := if 1 < x.c then putF (relF s x.a.toNat) { x with t := x.t + x.b, c := x.c - 1 } else relF s x.a.toNat
def meetF (c : KC) (s : KS) (x : Pil.Ev) : KS :=
 if x.k = 1 then relF s x.a.toNat else if x.k = 2 then raiseF c s x.a.toNat else if x.k = 3 then maskF s x.a.toNat else if x.k = 4 then openF c s x.a.toNat else if x.k = 5 then timeF s x else s
section
variable {w w' : World} {c : KC} {m : KM} {s : KS}
theorem zMX (h : KAt w c m s) {i : Nat} (hi : i < c.li.length) : Calls Tryz.prog 152 #[ptr m.b5, .int .i64 i] w (KEndR w c m { s with lnl := upd s.lnl i (s.lnm i) } (.tuple #[.bool (!s.lnm i), .int .i64 0])) :=
 (Lin.raise_yes (h.p 7) hi).mono fun _ _ ⟨he, hR, hO⟩ => ⟨he, ⟨m, h.lin_ hR (hO.mono (fun _ _ hk => .inr hk)), rfl, rfl⟩, zA7 h (a := 7) (by decide) (hO.mono (fun _ _ hk => .inr hk))⟩
theorem zPE (h : KAt w c m s) {i : Nat} (hi : i < c.li.length) : Calls Tryz.prog 154 #[ptr m.b5, .int .i64 i] w (KEnd w c m (maskF s i) (.int .i64 0)) :=
 (Lin.mask_yes (h.p 7) hi).mono fun _ _ ⟨he, hR, hO⟩ => ⟨he, m, h.lin_ hR (hO.mono (fun _ _ hk => .inr hk)), rfl, rfl⟩
theorem zPF (h : KAt w c m s) {i : Nat} (hi : i < c.li.length) : Calls Tryz.prog 155 #[ptr m.b5, .int .i64 i] w (KEndR w c m { s with lnm := upd s.lnm i false, lnl := upd s.lnl i false } (.tuple #[.bool (s.lnl i), .int .i64 0])) :=
 (Lin.unmask_yes (h.p 7) hi).mono fun _ _ ⟨he, hR, hO⟩ => ⟨he, ⟨m, h.lin_ hR (hO.mono (fun _ _ hk => .inr hk)), rfl, rfl⟩, zA7 h (a := 7) (by decide) (hO.mono (fun _ _ hk => .inr hk))⟩
theorem zMY (h : KAt w c m s) (x : Pil.Ev) (hT : s.tn <= 1000000) (hL : s.ag.length <= 900) : Calls Tryz.prog 53 #[ptr m.b6, x.val] w (KEnd w c m (putF s x) (.tuple #[])) :=
 (Pil.put_any (h.p 8) hT hL x).mono fun _ _ ⟨he, o', hR, hoo, hO⟩ => ⟨he, { m with o6 := o' }, h.agd_ hR hO (fun k hk => by
  rcases hk with hk | hk
  ·exact .inl (.inl hk)
  ·rcases hoo with rfl | ⟨g, rfl, hg⟩
   ·exact .inl (.inr hk)
   ·cases hk; exact .inr hg), rfl, rfl⟩
structure RelOk (c : KC) (s : KS) (t : Nat) : Prop where
 ht : t < c.ts.length
 hnx : s.nx t <= 1000000
 hpf : ∀ q ∈ s.ps, Jb.fine q.1
 hnew : ∀ q ∈ s.ps, q.1 ≠ relJ s t
 hnow : 0 <= s.now /\ s.now <= 1000000000
 hel : s.ents.length <= 1000000000
 htr : s.tr.length <= 1000000000
 htn : c.ts.length <= 1000
theorem zB6 (h : KAt w c m s) {t : Nat} (k : RelOk c s t) : Calls Tryz.prog 151 #[ptr m.k, .int .i64 t] w (KEnd w c m (relF s t) (.tuple #[])) :=
 zHQ h k.ht k.hnx k.hpf k.hnew k.hnow k.hel k.htr k.htn
theorem RelOk.lines {t : Nat} (k : RelOk c s t) (f g : Nat -> Bool) : RelOk c { s with lnm := f, lnl := g } t := ⟨k.ht, k.hnx, k.hpf, k.hnew, k.hnow, k.hel, k.htr, k.htn⟩
theorem zHT (h : KAt w c m s) (T b C : Int) {t : Nat} (k : RelOk c s t) : Calls Tryz.prog 101 #[ptr m.k, .agg #[.int .i64 T, .int .i64 1, .int .i64 t, .int .i64 b, .int .i64 C]] w (KEnd w c m (relF s t) (.tuple #[])) := by
 have hO := (Only.refl (fun _ => False) w).alloc (.cells #[.int .i64 T, .int .i64 1, .int .i64 t, .int .i64 b, .int .i64 C] 40)
 have hr := zh (zB6 (h.new hO) k)
 have hback := zh (fun w1 (hk : KNow _ c m (relF s t) w1) => hk.back hO)
 unfold ptr KEnd at *
 clear h hO k
 go_enter Tryz.func101, Tryz.ntmps101
 go_wp2_with fail
 refine hr.out.mono ?_
 rintro e1 w1 ⟨rfl, hk⟩
 go_wp2
 go_end0
 exact ⟨rfl, hback.out _ hk⟩
theorem zK3 (h : KAt w c m s) (T b C : Int) {i : Nat} (hi : i < c.li.length) {t : Nat} (ht : c.li[i]? = some (t : Int)) (k : RelOk c s t) : Calls Tryz.prog 101 #[ptr m.k, .agg #[.int .i64 T, .int .i64 2, .int .i64 i, .int .i64 b, .int .i64 C]] w (KEnd w c m (raiseF c s i) (.tuple #[])) := by
 obtain ⟨X, hX⟩ : ∃ X, X = w.heap.size := ⟨_, rfl⟩
 obtain ⟨W, hW⟩ : ∃ W, W = w.alloc (.cells #[.int .i64 T, .int .i64 2, .int .i64 i, .int .i64 b, .int .i64 C] 40) := ⟨_, rfl⟩
 have hO : Only (fun _ => False) w W := by rw [hW]; exact (Only.refl _ w).alloc _
 have hXr : W.heap[X]? = some (.cells [Value.int .i64 T, .int .i64 2, .int .i64 i, .int .i64 b, .int .i64 C].toArray 40 (0, 0)) := by rw [hW]; exact zAB _ _ hX.symm
 have c4 := hO.cell (zAA h.root (i := 10) rfl) id
 have hlt := Nat.lt_of_lt_of_le (h.lt 0 m.k rfl).1 hO.size
 have x2 := zAA hXr (i := 2) rfl
 have xl := zAG hXr
 have vP := zh (fun W' (h0 : Only (fun _ => False) W W') => zMX (h.new (hO.trans' h0)) hi)
 obtain ⟨D, hD⟩ : ∃ D, D = (!s.lnm i) := ⟨_, rfl⟩
 have jAv : (c.li.getD i 0).toNat = t := by rw [List.getD_eq_getElem?_getD, ht]; simp
 have hdl := zh (fun W' w1 (h0 : Only (fun _ => False) W W') (hk : KNow W' c m { s with lnl := upd s.lnl i (s.lnm i) } w1) => show w1.heap[X]? = some (.cells [Value.int .i64 T, .int .i64 2, .int .i64 i, .int .i64 b, .int .i64 C].toArray 40 (0, 0)) /\ Calls Tryz.prog 153 #[ptr m.k, .int .i64 i, .bool D] w1 (fun e w2 => e = .returned (.tuple #[]) /\ KNow w c m (raiseF c s i) w2) from by
  refine ⟨hk.keep h (h0.heap hXr id) (by omega), ?_⟩
  obtain ⟨m1, k1, e1, f1⟩ := hk
  have k0 := (h.ktNew (hO.trans' h0)).trans k1
  cases hd : D with
  | true =>
   have hm0 : s.lnm i = false := by rw [hd] at hD; simpa using hD.symm
   have hS : raiseF c s i = relF { s with lnl := upd s.lnl i (s.lnm i) } t := by unfold raiseF; rw [if_neg (by rw [hm0]; decide), jAv, hm0]
   rw [hS, <- e1]
   exact (zEW k1.1 ht (fun W9 h9 => zB6 (k1.1.new h9) (k.lines _ _))).mono fun e w2 ⟨he, hk2⟩ => ⟨he, k0.know e1 f1 hk2⟩
  | false =>
   have hm1 : s.lnm i = true := by rw [hd] at hD; simpa using hD.symm
   have hS : raiseF c s i = { s with lnl := upd s.lnl i (s.lnm i) } := by unfold raiseF; rw [if_pos hm1, hm1]
   rw [hS, <- e1]
   exact (zFK k1.1 i).mono fun e w2 ⟨he, hk2⟩ => ⟨he, k0.know e1 f1 hk2⟩)
 rw [<- hD] at vP
 have hS := zh (fun W' W'' (hP : W'.cell? ⟨m.k, 10, none⟩ = some (ptr m.b5) /\ W'.cell? ⟨X, 2, none⟩ = some (.int .i64 i)) (ho : Only (fun _ => False) W' W'') => show W''.cell? ⟨m.k, 10, none⟩ = some (ptr m.b5) /\ W''.cell? ⟨X, 2, none⟩ = some (.int .i64 i) from ⟨ho.cell hP.1 id, ho.cell hP.2 id⟩)
 have hP0 : W.cell? ⟨m.k, 10, none⟩ = some (ptr m.b5) /\ W.cell? ⟨X, 2, none⟩ = some (.int .i64 i) := ⟨c4, x2⟩
 unfold ptr KEnd KEndR at *
 have hX' := zh hX
 have hW' := zh hW
 clear h hX hW hO hXr hi ht k hD jAv
 go_enter Tryz.func101, Tryz.ntmps101
 go_upto_region 5 with fail
 rw [<- hX'.out, <- hW'.out]
 go_region_held3 (fun W' => W'.cell? ⟨m.k, 10, none⟩ = some (.pointer (some ⟨m.b5, 0, none⟩)) /\ W'.cell? ⟨X, 2, none⟩ = some (.int .i64 i))
  (first
   | exact hS.out _ _ hP1 (by repeat (first | with_reducible exact Only.refl _ _ | with_reducible apply Only.drew))
   | exact hS.out _ _ hP0 (by repeat (first | with_reducible exact Only.refl _ _ | with_reducible apply Only.drew)))
  (first | (go_at_call 152; (with_reducible refine (vP.out _ (by repeat (first | with_reducible exact Only.refl _ _ | with_reducible apply Only.drew))).mono ?_); rintro _ w1 ⟨rfl, hk, hr⟩; obtain ⟨g1, jG⟩ := hdl.out _ w1 (by repeat (first | with_reducible exact Only.refl _ _ | with_reducible apply Only.drew)) hk; have hP1 := And.intro ((hr 10).trans (hS.out _ _ hP0 (by repeat (first | with_reducible exact Only.refl _ _ | with_reducible apply Only.drew))).1) (zAA g1 (i := 2) rfl)))
 all_goals
  have kR := zh jG
  have y2 := zAA g1 (i := 2) rfl
  have yl := zAG g1
  clear hk jG g1 x2 c4 xl hlt hP0 hP1 hS hr vP hdl
  go_wp2_with fail
  refine kR.out.mono ?_
  rintro e2 w2 ⟨rfl, hk2⟩
  go_wp2
  go_end0
  exact ⟨rfl, hk2⟩
theorem zMZ (h : KAt w c m s) (T b C : Int) {i : Nat} (hi : i < c.li.length) {t : Nat} (ht : c.li[i]? = some (t : Int)) (k : RelOk c s t) : Calls Tryz.prog 101 #[ptr m.k, .agg #[.int .i64 T, .int .i64 4, .int .i64 i, .int .i64 b, .int .i64 C]] w (KEnd w c m (openF c s i) (.tuple #[])) := by
 obtain ⟨X, hX⟩ : ∃ X, X = w.heap.size := ⟨_, rfl⟩
 obtain ⟨W, hW⟩ : ∃ W, W = w.alloc (.cells #[.int .i64 T, .int .i64 4, .int .i64 i, .int .i64 b, .int .i64 C] 40) := ⟨_, rfl⟩
 have hO : Only (fun _ => False) w W := by rw [hW]; exact (Only.refl _ w).alloc _
 have hXr : W.heap[X]? = some (.cells [Value.int .i64 T, .int .i64 4, .int .i64 i, .int .i64 b, .int .i64 C].toArray 40 (0, 0)) := by rw [hW]; exact zAB _ _ hX.symm
 have c4 := hO.cell (zAA h.root (i := 10) rfl) id
 have hlt := Nat.lt_of_lt_of_le (h.lt 0 m.k rfl).1 hO.size
 have x2 := zAA hXr (i := 2) rfl
 have xl := zAG hXr
 have vP := zh (fun W' (h0 : Only (fun _ => False) W W') => zPF (h.new (hO.trans' h0)) hi)
 obtain ⟨D, hD⟩ : ∃ D, D = (s.lnl i) := ⟨_, rfl⟩
 have jAv : (c.li.getD i 0).toNat = t := by rw [List.getD_eq_getElem?_getD, ht]; simp
 have hdl := zh (fun W' w1 (h0 : Only (fun _ => False) W W') (hk : KNow W' c m { s with lnm := upd s.lnm i false, lnl := upd s.lnl i false } w1) => show w1.heap[X]? = some (.cells [Value.int .i64 T, .int .i64 4, .int .i64 i, .int .i64 b, .int .i64 C].toArray 40 (0, 0)) /\ Calls Tryz.prog 153 #[ptr m.k, .int .i64 i, .bool D] w1 (fun e w2 => e = .returned (.tuple #[]) /\ KNow w c m (openF c s i) w2) from by
  refine ⟨hk.keep h (h0.heap hXr id) (by omega), ?_⟩
  obtain ⟨m1, k1, e1, f1⟩ := hk
  have k0 := (h.ktNew (hO.trans' h0)).trans k1
  cases hd : D with
  | true =>
   have hS : openF c s i = relF { s with lnm := upd s.lnm i false, lnl := upd s.lnl i false } t := by unfold openF; rw [if_pos (hD.symm.trans hd), jAv]
   rw [hS, <- e1]
   exact (zEW k1.1 ht (fun W9 h9 => zB6 (k1.1.new h9) (k.lines _ _))).mono fun e w2 ⟨he, hk2⟩ => ⟨he, k0.know e1 f1 hk2⟩
  | false =>
   have hS : openF c s i = { s with lnm := upd s.lnm i false, lnl := upd s.lnl i false } := by unfold openF; rw [if_neg (by rw [<- hD, hd]; decide)]
   rw [hS, <- e1]
   exact (zFK k1.1 i).mono fun e w2 ⟨he, hk2⟩ => ⟨he, k0.know e1 f1 hk2⟩)
 rw [<- hD] at vP
 have hS := zh (fun W' W'' (hP : W'.cell? ⟨m.k, 10, none⟩ = some (ptr m.b5) /\ W'.cell? ⟨X, 2, none⟩ = some (.int .i64 i)) (ho : Only (fun _ => False) W' W'') => show W''.cell? ⟨m.k, 10, none⟩ = some (ptr m.b5) /\ W''.cell? ⟨X, 2, none⟩ = some (.int .i64 i) from ⟨ho.cell hP.1 id, ho.cell hP.2 id⟩)
 have hP0 : W.cell? ⟨m.k, 10, none⟩ = some (ptr m.b5) /\ W.cell? ⟨X, 2, none⟩ = some (.int .i64 i) := ⟨c4, x2⟩
 unfold ptr KEnd KEndR at *
 have hX' := zh hX
 have hW' := zh hW
 clear h hX hW hO hXr hi ht k hD jAv
 go_enter Tryz.func101, Tryz.ntmps101
 go_upto_region 10 with fail
 rw [<- hX'.out, <- hW'.out]
 go_region_held3 (fun W' => W'.cell? ⟨m.k, 10, none⟩ = some (.pointer (some ⟨m.b5, 0, none⟩)) /\ W'.cell? ⟨X, 2, none⟩ = some (.int .i64 i))
  (first
   | exact hS.out _ _ hP1 (by repeat (first | with_reducible exact Only.refl _ _ | with_reducible apply Only.drew))
   | exact hS.out _ _ hP0 (by repeat (first | with_reducible exact Only.refl _ _ | with_reducible apply Only.drew)))
  (first | (go_at_call 155; (with_reducible refine (vP.out _ (by repeat (first | with_reducible exact Only.refl _ _ | with_reducible apply Only.drew))).mono ?_); rintro _ w1 ⟨rfl, hk, hr⟩; obtain ⟨g1, jG⟩ := hdl.out _ w1 (by repeat (first | with_reducible exact Only.refl _ _ | with_reducible apply Only.drew)) hk; have hP1 := And.intro ((hr 10).trans (hS.out _ _ hP0 (by repeat (first | with_reducible exact Only.refl _ _ | with_reducible apply Only.drew))).1) (zAA g1 (i := 2) rfl)))
 all_goals
  have kR := zh jG
  have y2 := zAA g1 (i := 2) rfl
  have yl := zAG g1
  clear hk jG g1 x2 c4 xl hlt hP0 hP1 hS hr vP hdl
  go_wp2_with fail
  refine kR.out.mono ?_
  rintro e2 w2 ⟨rfl, hk2⟩
  go_wp2
  go_end0
  exact ⟨rfl, hk2⟩
theorem zM0 (h : KAt w c m s) (T b C : Int) {i : Nat} (hi : i < c.li.length) : Calls Tryz.prog 101 #[ptr m.k, .agg #[.int .i64 T, .int .i64 3, .int .i64 i, .int .i64 b, .int .i64 C]] w (KEnd w c m (maskF s i) (.tuple #[])) := by
 obtain ⟨X, hX⟩ : ∃ X, X = w.heap.size := ⟨_, rfl⟩
 obtain ⟨W, hW⟩ : ∃ W, W = w.alloc (.cells #[.int .i64 T, .int .i64 3, .int .i64 i, .int .i64 b, .int .i64 C] 40) := ⟨_, rfl⟩
 have hO : Only (fun _ => False) w W := by rw [hW]; exact (Only.refl _ w).alloc _
 have hXr : W.heap[X]? = some (.cells [Value.int .i64 T, .int .i64 3, .int .i64 i, .int .i64 b, .int .i64 C].toArray 40 (0, 0)) := by rw [hW]; exact zAB _ _ hX.symm
 have c4 := hO.cell (zAA h.root (i := 10) rfl) id
 have hlt := Nat.lt_of_lt_of_le (h.lt 0 m.k rfl).1 hO.size
 have x2 := zAA hXr (i := 2) rfl
 have xl := zAG hXr
 have jCs := zh (fun nq => zPE (h.new (hO.drewN nq)) hi)
 have hback := zh (fun nq w1 (hk : KNow (W.drewN nq) c m (maskF s i) w1) => hk.back (hO.drewN nq))
 unfold ptr KEnd at *
 have hX' := zh hX
 have hW' := zh hW
 clear h hX hW hO hXr hi
 go_enter Tryz.func101, Tryz.ntmps101
 go_upto_region 8 with fail
 rw [<- hX'.out, <- hW'.out]
 refine zAD 6 (by kernel_rfl) (by kernel_rfl) ?_
 simp only [List.take_succ_cons, List.take_zero, List.drop_succ_cons, List.drop_zero]
 repeat (go_big_quiet_step (fail))
 refine wpQuiet_nil ?_
 rintro _ ⟨nq, rfl⟩
 go_wp2_with fail
 refine (jCs.out nq).mono ?_
 rintro e1 w1 ⟨rfl, hk⟩
 go_wp2
 go_end0
 exact ⟨rfl, hback.out _ _ hk⟩
theorem zK4 (h : KAt w c m s) (T b C : Int) {t : Nat} (k : RelOk c s t) (hT : 0 <= T /\ T <= 1000000000) (hb : 0 <= b /\ b <= 1000000000) (hC : 0 <= C /\ C <= 1000000000) (htn : s.tn <= 1000000) (hL : s.ag.length <= 900) : Calls Tryz.prog 101 #[ptr m.k, .agg #[.int .i64 T, .int .i64 5, .int .i64 t, .int .i64 b, .int .i64 C]] w (KEnd w c m (timeF s ⟨T, 5, t, b, C⟩) (.tuple #[])) := by
 obtain ⟨X, hX⟩ : ∃ X, X = w.heap.size := ⟨_, rfl⟩
 obtain ⟨W, hW⟩ : ∃ W, W = w.alloc (.cells #[.int .i64 T, .int .i64 5, .int .i64 t, .int .i64 b, .int .i64 C] 40) := ⟨_, rfl⟩
 have hO : Only (fun _ => False) w W := by rw [hW]; exact (Only.refl _ w).alloc _
 have hXr : W.heap[X]? = some (.cells [Value.int .i64 T, .int .i64 5, .int .i64 t, .int .i64 b, .int .i64 C].toArray 40 (0, 0)) := by rw [hW]; exact zAB _ _ hX.symm
 have hr := zh (zB6 (h.new hO) k)
 have hag : (relF s t).tn = s.tn /\ (relF s t).ag = s.ag := by unfold relF; split <;> exact ⟨rfl, rfl⟩
 have jC := zh (fun w1 (hk : KNow W c m (relF s t) w1) => show w1.heap[X]? = some (.cells [Value.int .i64 T, .int .i64 5, .int .i64 t, .int .i64 b, .int .i64 C].toArray 40 (0, 0)) from hk.keep h hXr (by omega))
 have hback := zh (fun S w1 (hk : KNow W c m S w1) => hk.back hO)
 have hput := zh (fun w1 w2 (hk : KNow W c m (relF s t) w1) (ho : Only (fun k => k = X) w1 w2) => show ∃ m1 : KM, (∀ nq, Calls Tryz.prog 53 #[ptr m1.b6, Pil.Ev.val ⟨T + b, 5, t, b, C - 1⟩] (w2.drewN nq) (fun e w9 => e = .returned (.tuple #[]) /\ KNow w c m (putF (relF s t) ⟨T + b, 5, t, b, C - 1⟩) w9)) /\ w2.cell? ⟨m.k, 11, none⟩ = some (ptr m1.b6) /\ m.k < w2.heap.size from by
  have hk2 := KNow.locs h hk hO (T := fun k => k = X) (fun x hx => by have := zAG hXr; have hx' : x = X := hx; omega) ho
  obtain ⟨m1, k1, e1, f1⟩ := hk2
  refine ⟨m1, fun nq => (zMY (k1.1.new ((Only.refl (fun _ => False) w2).drewN nq)) _ (by rw [hag.1]; exact htn) (by rw [hag.2]; exact hL)).mono fun e w9 ⟨he, hk9⟩ => ⟨he, (k1.new ((Only.refl (fun _ => False) w2).drewN nq)).know e1 f1 hk9⟩, e1 ▸ zAA k1.1.root (i := 11) rfl, e1 ▸ (k1.1.lt 0 m1.k rfl).1⟩)
 have jDu : IntKind.i64.wrap (T + b) = T + b := IntWalk.i64_in _ (by omega)
 have jCk : IntKind.i64.wrap (C - 1) = C - 1 := IntWalk.i64_in _ (by omega)
 unfold timeF
 dsimp only
 rw [Int.toNat_natCast]
 unfold ptr KEnd at *
 have hX' := zh hX
 have hW' := zh hW
 have x2 := zAA hXr (i := 2) rfl
 have xl := zAG hXr
 clear h hX hW hO hXr k hag hT hb hL htn
 by_cases hc : 1 < C
 ·rw [if_pos hc]
  go_enter Tryz.func101, Tryz.ntmps101
  go_upto_region 13 with fail
  rw [<- hX'.out, <- hW'.out]
  go_wp2_with fail
  refine hr.out.mono ?_
  rintro e1 w1 ⟨rfl, hk⟩
  have g1 := jC.out w1 hk
  have y0 := zAA g1 (i := 0) rfl
  have y1 := zAA g1 (i := 1) rfl
  have y2 := zAA g1 (i := 2) rfl
  have y3 := zAA g1 (i := 3) rfl
  have y4 := zAA g1 (i := 4) rfl
  have yf0 := zAC g1 0
  have yf4 := zAC g1 4
  have yl := zAG g1
  have hk' := zh (And.intro hk g1)
  clear hk g1 x2 xl
  go_upto_region 17 with fail
  obtain ⟨V, hV⟩ : ∃ V, V = (w1.setCell ⟨X, 0, none⟩ (.int .i64 (T + b))).setCell ⟨X, 4, none⟩ (.int .i64 (C - 1)) := ⟨_, rfl⟩
  obtain ⟨hk, g1⟩ := hk'.out
  obtain ⟨m1, jG, c11, hlt⟩ := hput.out w1 V hk (by rw [hV]; exact ((Only.refl (fun k => k = X) w1).setCell (p := ⟨X, 0, none⟩) (fun _ => rfl) _).setCell (p := ⟨X, 4, none⟩) (fun _ => rfl) _)
  have hXV : V.heap[X]? = some (.cells [Value.int .i64 (T + b), .int .i64 5, .int .i64 t, .int .i64 b, .int .i64 (C - 1)].toArray 40 (0, 0)) := by rw [hV]; exact zAE (zAE g1 0 _) 4 _
  rw [<- hV]
  have z0 := zAA hXV (i := 0) rfl
  have z1 := zAA hXV (i := 1) rfl
  have z2 := zAA hXV (i := 2) rfl
  have z3 := zAA hXV (i := 3) rfl
  have z4 := zAA hXV (i := 4) rfl
  have zl := zAG hXV
  have kR := zh jG
  unfold ptr Pil.Ev.val at *
  dsimp only at kR
  clear hk jG hXV hV y0 y1 y2 y3 y4 yf0 yf4 yl hk' hput jC hr hback g1 jDu jCk
  refine zAD 5 (by kernel_rfl) (by kernel_rfl) ?_
  simp only [List.take_succ_cons, List.take_zero, List.drop_succ_cons, List.drop_zero]
  repeat (go_big_quiet_step (fail))
  refine wpQuiet_nil ?_
  rintro _ ⟨nq, rfl⟩
  go_wp2_with fail
  refine (kR.out nq).mono ?_
  rintro e2 w2 ⟨rfl, hk2⟩
  go_wp2
  go_end0
  exact ⟨rfl, hk2⟩
 ·rw [if_neg hc]
  go_enter Tryz.func101, Tryz.ntmps101
  go_upto_region 13 with fail
  rw [<- hX'.out, <- hW'.out]
  go_wp2_with fail
  refine hr.out.mono ?_
  rintro e1 w1 ⟨rfl, hk⟩
  have g1 := jC.out w1 hk
  have y4 := zAA g1 (i := 4) rfl
  have yl := zAG g1
  have hk' := zh hk
  clear hk g1 x2 xl
  go_wp2
  go_end0
  exact ⟨rfl, hback.out _ _ hk'.out⟩
structure EvOk (c : KC) (s : KS) (x : Pil.Ev) : Prop where
 k : 1 <= x.k /\ x.k <= 5
 a : 0 <= x.a
 t : x.k = 1 ∨ x.k = 5 -> RelOk c s x.a.toNat
 l : x.k = 2 ∨ x.k = 3 ∨ x.k = 4 -> ∃ t : Nat, c.li[x.a.toNat]? = some (t : Int) /\ RelOk c s t
 n : x.k = 5 -> (0 <= x.t /\ x.t <= 1000000000) /\ (0 <= x.b /\ x.b <= 1000000000) /\ (0 <= x.c /\ x.c <= 1000000000)
theorem zPG (h : KAt w c m s) {x : Pil.Ev} (hx : EvOk c s x) (htn : s.tn <= 1000000) (hL : s.ag.length <= 900) : Calls Tryz.prog 101 #[ptr m.k, x.val] w (KEnd w c m (meetF c s x) (.tuple #[])) := by
 obtain ⟨T, K, a, b, C⟩ := x
 obtain ⟨h1, h2, h3, h4, h5⟩ := hx
 dsimp only at *
 obtain ⟨i, rfl⟩ : ∃ i : Nat, a = (i : Int) := ⟨a.toNat, by omega⟩
 rw [Int.toNat_natCast] at h3 h4
 have hc : K = 1 ∨ K = 2 ∨ K = 3 ∨ K = 4 ∨ K = 5 := by omega
 unfold Pil.Ev.val
 rcases hc with rfl | rfl | rfl | rfl | rfl
 ·have e : meetF c s ⟨T, 1, i, b, C⟩ = relF s i := by simp [meetF]
  rw [e]
  exact zHT h T b C (h3 (.inl rfl))
 ·obtain ⟨t, g1, g2⟩ := h4 (.inl rfl)
  have e : meetF c s ⟨T, 2, i, b, C⟩ = raiseF c s i := by simp [meetF]
  rw [e]
  exact zK3 h T b C (List.getElem?_eq_some_iff.1 g1).1 g1 g2
 ·obtain ⟨t, g1, g2⟩ := h4 (.inr (.inl rfl))
  have e : meetF c s ⟨T, 3, i, b, C⟩ = maskF s i := by simp [meetF]
  rw [e]
  exact zM0 h T b C (List.getElem?_eq_some_iff.1 g1).1
 ·obtain ⟨t, g1, g2⟩ := h4 (.inr (.inr rfl))
  have e : meetF c s ⟨T, 4, i, b, C⟩ = openF c s i := by simp [meetF]
  rw [e]
  exact zMZ h T b C (List.getElem?_eq_some_iff.1 g1).1 g1 g2
 ·have e : meetF c s ⟨T, 5, i, b, C⟩ = timeF s ⟨T, 5, i, b, C⟩ := by simp [meetF]
  rw [e]
  exact zK4 h T b C (h3 (.inr rfl)) (h5 rfl).1 (h5 rfl).2.1 (h5 rfl).2.2 htn hL
end
