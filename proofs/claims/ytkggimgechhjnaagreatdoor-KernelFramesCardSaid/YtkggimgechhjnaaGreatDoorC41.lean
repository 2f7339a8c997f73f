import Derived.Test.YtkggimgechhjnaaGreatDoorC39
namespace Go.Proofs.YtkggimgechhjnaaGreatDoor
namespace Krn
open Go Go.RowKit Go.Maps Ring Band
def runN (F : KS -> KS) (till : Int) : Nat -> KS -> KS
 | 0, s => s
 | n + 1, s => if s.now < till then runN F till n (F s) else s
structure StepOk (c : KC) (Inv : KS -> Prop) (F : KS -> KS) (till : Int) : Prop where
 inv : ∀ S, Inv S -> S.now < till -> Inv (F S)
 now : ∀ S, Inv S -> S.now < till -> S.now < (F S).now /\ (F S).now <= till
 run : ∀ S, Inv S -> S.now < till -> ∀ W m1, KAt W c m1 S -> Calls Tryz.prog 54 #[ptr m1.k, .int .i64 till] W (ResV (KGo W c m1 (F S)))
theorem zHP {c : KC} {Inv : KS -> Prop} {F : KS -> KS} {till : Int} (h : StepOk c Inv F till) : ∀ (n d : Nat) (S : KS), Inv S -> S.now <= till -> (till - S.now).toNat <= n -> runN F till (n + d) S = runN F till n S
 | 0, d, S, _, hle, hn => by
  cases d with
  | zero => rfl
  | succ d =>
   show (if S.now < till then _ else S) = S
   rw [if_neg (by omega)]
 | n + 1, d, S, hi, hle, hn => by
  rw [Nat.add_right_comm]
  show (if S.now < till then runN F till (n + d) (F S) else S) = if S.now < till then runN F till n (F S) else S
  by_cases hlt : S.now < till
  ·have hb := h.now S hi hlt
   rw [if_pos hlt, if_pos hlt, zHP h n d (F S) (h.inv S hi hlt) hb.2 (by omega)]
  ·rw [if_neg hlt, if_neg hlt]
def runF (F : KS -> KS) (till : Int) (s : KS) : KS := runN F till (till - s.now).toNat s
theorem zMW {c : KC} {Inv : KS -> Prop} {F : KS -> KS} {till : Int} (h : StepOk c Inv F till) {S : KS} (hi : Inv S) (hlt : S.now < till) : runF F till S = runF F till (F S) := by
 have hb := h.now S hi hlt
 unfold runF
 obtain ⟨n, hn⟩ : ∃ n, (till - S.now).toNat = n + 1 := ⟨(till - S.now).toNat - 1, by omega⟩
 rw [hn]
 show (if S.now < till then runN F till n (F S) else S) = _
 rw [if_pos hlt]
 obtain ⟨d, hd⟩ : ∃ d, n = (till - (F S).now).toNat + d := ⟨n - (till - (F S).now).toNat, by omega⟩
 rw [hd]
 exact zHP h _ d (F S) (h.inv S hi hlt) hb.2 (Nat.le_refl _)
theorem zMX {F : KS -> KS} {till : Int} {S : KS} (h : ¬ S.now < till) : runF F till S = S := by
 unfold runF
 rw [show (till - S.now).toNat = 0 by omega]
 rfl
section
variable {w w' : World} {c : KC} {m : KM} {s : KS}
theorem run_any (h : KAt w c m s) {Inv : KS -> Prop} {F : KS -> KS} {till : Int} (hF : StepOk c Inv F till) (hi : Inv s) (h1 : s.now <= till) (h2 : till <= 16777216) :
  Calls Tryz.prog 16 #[ptr m.k, .int .i64 till] w (fun e w' => e = .returned (.int .i64 0) /\ KGo w c m (runF F till s) w') := by
 have c19 := zAA h.root (i := 19) rfl
 have hlt := (h.lt 0 m.k rfl).1
 have hk := Lib.hid (fun q => show KGo w c m s (w.drewN q) from ⟨m, h.ktNew ((Only.refl _ w).drewN q), rfl⟩)
 have hF' := Lib.hid hF
 have hi' := Lib.hid hi
 unfold ptr
 clear h hF hi
 go_enter Tryz.func16, Tryz.ntmps16
 go_wp2
 go_loopg [] (till - s.now).toNat (fun n wr => ∃ S, KGo w c m S wr /\ Inv S /\ S.now <= till /\ n = (till - S.now).toNat /\ runF F till S = runF F till s)
 case atStart => exact ⟨s, by first | exact hk.out 0 | exact hk.out _, hi'.out, h1, rfl, rfl⟩
 case round =>
  obtain ⟨S, ⟨m1, k1, e1⟩, hiS, hle, hn, hrun⟩ := hrel
  have c19' := zAA k1.1.root (i := 19) rfl
  have hlt' := (k1.1.lt 0 m1.k rfl).1
  rw [e1] at c19' hlt'
  by_cases hgo : S.now < till
  ·have hst := Lib.hid (show Calls Tryz.prog 54 #[ptr m.k, .int .i64 till] wr (ResV (KGo w c m (F S))) from by
    have := hF'.out.run S hiS hgo wr m1 k1.1
    rw [e1] at this
    refine this.mono ?_
    rintro e w9 ⟨he, m9, k9, e9⟩
    exact ⟨he, m9, k1.trans k9, e9.trans e1⟩)
   have hb := Lib.hid (And.intro (hF'.out.inv S hiS hgo) (And.intro (hF'.out.now S hiS hgo) ((zMW hF'.out hiS hgo).symm.trans hrun)))
   have hn' := Lib.hid hn
   unfold ptr at hst
   clear k1 e1 hiS hn hrun c19
   go_wp2_with fail
   refine hst.out.mono ?_
   rintro e w9 ⟨rfl, hk9⟩
   have hk9' := Lib.hid hk9
   clear hk9
   go_wp2
   go_roundg (till - (F S).now).toNat
   case measure => have := hb.out; have := hn'.out; omega
   case rel => exact ⟨F S, hk9'.out, hb.out.1, hb.out.2.1.2, rfl, hb.out.2.2⟩
  ·have hfin := Lib.hid (show KGo w c m (runF F till s) wr from by
    rw [<- hrun, zMX hgo]
    exact ⟨m1, k1, e1⟩)
   have hgo' : till <= S.now := by omega
   clear k1 e1 hiS hn hrun c19
   go_wp2
   go_ret
   exact ⟨rfl, hfin.out⟩
end
def repB (x : Pil.Ev) : Bool := decide (x.k ≠ 5) || (decide (1 <= x.b) && decide (x.b <= 1048576) && decide (1 <= x.c) && decide (x.c <= 256))
def hasB (c : KC) (x : Pil.Ev) : Bool := decide (0 <= x.a) && decide (x.a < (if x.k = 1 ∨ x.k = 5 then c.ts.length else c.li.length : Nat))
def evE (c : KC) (s : KS) (x : Pil.Ev) : Int :=
 if x.k < 1 ∨ 5 < x.k then 1 else if x.t < s.now ∨ 16777216 < x.t ∨ repB x = false then 5 else if hasB c x = false then 6 else if 256 <= s.ag.length then 7 else 0
def evF (c : KC) (s : KS) (x : Pil.Ev) : KS := if evE c s x = 0 then putF s x else s
set_option maxRecDepth 100000 in
theorem zR2 (x : Pil.Ev) (w : World) : Calls Tryz.prog 50 #[x.val] w (GrowV (.bool (repB x)) w) := by
 obtain ⟨t, k, a, b, c⟩ := x
 unfold Pil.Ev.val
 dsimp only
 have hO := (Only.refl (fun _ => False) w).alloc (.cells #[.int .i64 t, .int .i64 k, .int .i64 a, .int .i64 b, .int .i64 c] 40)
 by_cases hk : k = 5
 ·subst hk
  by_cases h1 : 1 <= b
  ·by_cases h2 : b <= 1048576
   ·by_cases h3 : 1 <= c
    ·by_cases h4 : c <= 256
     ·have e : repB ⟨t, 5, a, b, c⟩ = true := by simp [repB, h1, h2, h3, h4]
      rw [e]
      go_enter Tryz.func50, Tryz.ntmps50
      go_wp2
      go_ret
      exact ⟨rfl, hO⟩
     ·have e : repB ⟨t, 5, a, b, c⟩ = false := by simp [repB]; omega
      rw [e]
      go_enter Tryz.func50, Tryz.ntmps50
      go_wp2
      go_ret
      exact ⟨rfl, hO⟩
    ·have e : repB ⟨t, 5, a, b, c⟩ = false := by simp [repB]; omega
     rw [e]
     go_enter Tryz.func50, Tryz.ntmps50
     go_wp2
     go_ret
     exact ⟨rfl, hO⟩
   ·have e : repB ⟨t, 5, a, b, c⟩ = false := by simp [repB]; omega
    rw [e]
    go_enter Tryz.func50, Tryz.ntmps50
    go_wp2
    go_ret
    exact ⟨rfl, hO⟩
  ·have e : repB ⟨t, 5, a, b, c⟩ = false := by simp [repB]; omega
   rw [e]
   go_enter Tryz.func50, Tryz.ntmps50
   go_wp2
   go_ret
   exact ⟨rfl, hO⟩
 ·have e : repB ⟨t, k, a, b, c⟩ = true := by simp [repB, hk]
  rw [e]
  go_enter Tryz.func50, Tryz.ntmps50
  go_wp2
  go_ret
  exact ⟨rfl, hO⟩
section
variable {w w' : World} {c : KC} {m : KM} {s : KS}
set_option maxRecDepth 100000 in
theorem zC1 (h : KAt w c m s) (x : Pil.Ev) : Calls Tryz.prog 51 #[ptr m.k, x.val] w (GrowV (.bool (hasB c x)) w) := by
 have c8 := zAA h.root (i := 8) rfl
 have c9 := zAA h.root (i := 9) rfl
 have n8 : m.ta.n = c.ts.length := (h.p 5).2.1
 have n9 : m.li.n = c.li.length := (h.p 6).2
 have hlt := (h.lt 0 m.k rfl).1
 obtain ⟨t, k, a, b, z⟩ := x
 have hO := (Only.refl (fun _ => False) w).alloc (.cells #[.int .i64 t, .int .i64 k, .int .i64 a, .int .i64 b, .int .i64 z] 40)
 obtain ⟨W, hW⟩ : ∃ W, W = w.alloc (.cells #[.int .i64 t, .int .i64 k, .int .i64 a, .int .i64 b, .int .i64 z] 40) := ⟨_, rfl⟩
 obtain ⟨nt, hnt⟩ : ∃ nt, nt = c.ts.length := ⟨_, rfl⟩
 obtain ⟨nl, hnl⟩ : ∃ nl, nl = c.li.length := ⟨_, rfl⟩
 unfold Sl.val at c8 c9
 rw [n8, <- hnt] at c8
 rw [n9, <- hnl] at c9
 have he : hasB c ⟨t, k, a, b, z⟩ = (decide (0 <= a) && decide (a < (if k = 1 ∨ k = 5 then nt else nl : Nat))) := by rw [hnt, hnl]; rfl
 rw [he]
 unfold Pil.Ev.val ptr
 dsimp only
 clear h hnt hnl n8 n9 he hW
 by_cases hk : k = 1 ∨ k = 5
 ·rw [if_pos hk]
  rcases hk with rfl | rfl
  all_goals
   by_cases h1 : 0 <= a
   ·rw [decide_eq_true h1, Bool.true_and]
    go_enter Tryz.func51, Tryz.ntmps51
    go_wp2
    all_goals
     go_ret
     exact ⟨rfl, hO⟩
   ·rw [decide_eq_false h1, Bool.false_and]
    go_enter Tryz.func51, Tryz.ntmps51
    go_wp2
    all_goals
     go_ret
     exact ⟨rfl, hO⟩
 ·rw [if_neg hk]
  have k1 : (k == 1) = false := by simp; exact fun e => hk (.inl e)
  have k5 : (k == 5) = false := by simp; exact fun e => hk (.inr e)
  have hk' : ¬ (k = 1 ∨ k = 5) := hk
  by_cases h1 : 0 <= a
  ·rw [decide_eq_true h1, Bool.true_and]
   go_enter Tryz.func51, Tryz.ntmps51
   go_wp2
   all_goals
    go_ret
    exact ⟨rfl, hO⟩
  ·rw [decide_eq_false h1, Bool.false_and]
   go_enter Tryz.func51, Tryz.ntmps51
   go_wp2
   all_goals
    go_ret
    exact ⟨rfl, hO⟩
end
section
variable {w w' : World} {c : KC} {m : KM} {s : KS}
set_option maxRecDepth 100000 in
set_option maxHeartbeats 1000000 in
theorem zM1 (h : KAt w c m s) (x : Pil.Ev) (hT : s.tn <= 1000000) : Calls Tryz.prog 14 #[ptr m.k, x.val] w (KEnd w c m (evF c s x) (.int .i64 (evE c s x))) := by
 obtain ⟨X, hX⟩ : ∃ X, X = w.heap.size := ⟨_, rfl⟩
 obtain ⟨W, hW⟩ : ∃ W, W = w.alloc (.cells #[.int .i64 x.t, .int .i64 x.k, .int .i64 x.a, .int .i64 x.b, .int .i64 x.c] 40) := ⟨_, rfl⟩
 have hO : Only (fun _ => False) w W := by rw [hW]; exact (Only.refl _ w).alloc _
 have hXr : W.heap[X]? = some (.cells x.cells.toArray 40 (0, 0)) := by rw [hW]; exact zAB _ _ hX.symm
 have hx' := Lib.hid hXr
 have x0 := zAA hXr (i := 0) rfl
 have x1 := zAA hXr (i := 1) rfl
 have x2 := zAA hXr (i := 2) rfl
 have x3 := zAA hXr (i := 3) rfl
 have x4 := zAA hXr (i := 4) rfl
 have xl := zAG hXr
 have hk := h.new hO
 have c19 := zAA hk.root (i := 19) rfl
 have hlt := (hk.lt 0 m.k rfl).1
 have hrep := Lib.hid (fun W' => zR2 x W')
 have hhas := Lib.hid (fun W' (ho : Only (fun _ => False) W W') => zC1 (hk.new ho) x)
 have hlen := Lib.hid (fun W' (ho : Only (fun _ => False) W W') => Pil.alen_any (show Pil.Ag W' m.b6 m.o6 s.tn s.ag from (hk.new ho).p 8))
 have hput := Lib.hid (fun W' (ho : Only (fun _ => False) W W') (hL : s.ag.length <= 900) => zMR (hk.new ho) x hT hL)
 have hkeep := Lib.hid (fun W' (ho : Only (fun _ => False) W W') => show W'.cell? ⟨m.k, 19, none⟩ = some (.int .i64 s.now) /\ W'.cell? ⟨m.k, 11, none⟩ = some (ptr m.b6) /\ W'.cell? ⟨X, 0, none⟩ = some (.int .i64 x.t) /\ W'.cell? ⟨X, 1, none⟩ = some (.int .i64 x.k) /\ W'.cell? ⟨X, 2, none⟩ = some (.int .i64 x.a) /\ W'.cell? ⟨X, 3, none⟩ = some (.int .i64 x.b) /\ W'.cell? ⟨X, 4, none⟩ = some (.int .i64 x.c) /\ m.k < W'.heap.size /\ X < W'.heap.size from
  ⟨ho.cell c19 (fun h => h), ho.cell (zAA hk.root (i := 11) rfl) (fun h => h), ho.cell x0 (fun h => h), ho.cell x1 (fun h => h), ho.cell x2 (fun h => h), ho.cell x3 (fun h => h), ho.cell x4 (fun h => h), Nat.lt_of_lt_of_le hlt ho.size, Nat.lt_of_lt_of_le xl ho.size⟩)
 have hsame := Lib.hid (fun W' (ho : Only (fun _ => False) W W') => show KNow w c m s W' from (h.new hO |>.know ho).back hO)
 have hnew := Lib.hid (fun W' w9 (ho : Only (fun _ => False) W W') (hk9 : KNow W' c m (putF s x) w9) => show KNow w c m (putF s x) w9 from hk9.back (hO.trans' ho))
 obtain ⟨T, K, a, b, C⟩ := x
 obtain ⟨R, hR⟩ : ∃ R, R = repB ⟨T, K, a, b, C⟩ := ⟨_, rfl⟩
 obtain ⟨H, hH⟩ : ∃ H, H = hasB c ⟨T, K, a, b, C⟩ := ⟨_, rfl⟩
 obtain ⟨P, hP⟩ : ∃ P, P = putF s ⟨T, K, a, b, C⟩ := ⟨_, rfl⟩
 obtain ⟨L, hL⟩ : ∃ L, L = s.ag.length := ⟨_, rfl⟩
 obtain ⟨now, hnw⟩ : ∃ now, now = s.now := ⟨_, rfl⟩
 have hE : evE c s ⟨T, K, a, b, C⟩ = if K < 1 ∨ 5 < K then 1 else if T < now ∨ 16777216 < T ∨ R = false then 5 else if H = false then 6 else if 256 <= L then 7 else 0 := by rw [hR, hH, hL, hnw]; rfl
 have hF : evF c s ⟨T, K, a, b, C⟩ = if evE c s ⟨T, K, a, b, C⟩ = 0 then P else s := by unfold evF; rw [hP]
 obtain ⟨Z, hZ⟩ : ∃ Z, Z = KEnd w c m (evF c s ⟨T, K, a, b, C⟩) (.int .i64 (evE c s ⟨T, K, a, b, C⟩)) := ⟨_, rfl⟩
 rw [<- hZ]
 have hbad := Lib.hid (fun (V : Int) (hV : evE c s ⟨T, K, a, b, C⟩ = V) (h0 : V ≠ 0) (w9 : World) (hk9 : KNow w c m s w9) => show Z (.returned (.int .i64 V)) w9 from by
  rw [hZ, hF, hV, if_neg h0]
  exact ⟨rfl, hk9⟩)
 have hgood := Lib.hid (fun (hV : evE c s ⟨T, K, a, b, C⟩ = 0) (w9 : World) (hk9 : KNow w c m P w9) => show Z (.returned (.int .i64 0)) w9 from by
  rw [hZ, hF, hV, if_pos rfl]
  exact ⟨rfl, hk9⟩)
 rw [hE] at hbad hgood
 rw [<- hR] at hrep
 rw [<- hH] at hhas
 rw [<- hP] at hput hnew
 rw [<- hL] at hlen hput
 rw [<- hnw] at c19 hkeep
 unfold KEnd Pil.Ev.val ptr at *
 dsimp only at *
 have hX' := Lib.hid hX
 have hW' := Lib.hid hW
 clear h hX hW hO hXr hk hE hF hR hH hP hL hnw hZ
 go_enter Tryz.func14, Tryz.ntmps14
 go_upto_region 1 with fail
 rw [<- hX'.out, <- hW'.out]
 by_cases hK : K < 1 ∨ 5 < K
 ·have hb1 := Lib.hid (hbad.out 1 (by rw [if_pos hK]) (by decide))
  rcases hK with hK | hK
  ·go_wp2_with fail
   exact hb1.out _ (hsame.out _ (by repeat (first | with_reducible exact Only.refl _ _ | with_reducible apply Only.drew)))
  ·have hK1 : ¬ K < 1 := by omega
   go_wp2_with fail
   exact hb1.out _ (hsame.out _ (by repeat (first | with_reducible exact Only.refl _ _ | with_reducible apply Only.drew)))
 ·rw [if_neg hK] at hbad hgood
  have hK1 : ¬ K < 1 := fun e => hK (.inl e)
  have hK5 : ¬ 5 < K := fun e => hK (.inr e)
  clear hK
  go_upto_region 3 with fail
  go_cut [18] from 19 to 36 (fun v wd => v = .bool (decide (T < now) || decide (16777216 < T) || !R) /\ Only (fun _ => False) W wd)
  case first =>
   by_cases h1 : T < now
   ·go_quiet (fail)
    go_wp2_with fail
    go_meet
    case rel => exact ⟨by simp [h1], (by repeat (first | with_reducible assumption | with_reducible exact Only.refl _ _ | with_reducible apply Only.drew | with_reducible apply Only.drewN | with_reducible apply Only.alloc))⟩
   ·by_cases h2 : 16777216 < T
    ·go_quiet (fail)
     go_wp2_with fail
     go_meet
     case rel => exact ⟨by simp [h2], (by repeat (first | with_reducible assumption | with_reducible exact Only.refl _ _ | with_reducible apply Only.drew | with_reducible apply Only.drewN | with_reducible apply Only.alloc))⟩
    ·go_region_held3 (fun W' => W'.cell? ⟨m.k, 19, none⟩ = some (.int .i64 now) /\ W'.cell? ⟨m.k, 11, none⟩ = some (.pointer (some ⟨m.b6, 0, none⟩)) /\ W'.cell? ⟨X, 0, none⟩ = some (.int .i64 T) /\ W'.cell? ⟨X, 1, none⟩ = some (.int .i64 K) /\ W'.cell? ⟨X, 2, none⟩ = some (.int .i64 a) /\ W'.cell? ⟨X, 3, none⟩ = some (.int .i64 b) /\ W'.cell? ⟨X, 4, none⟩ = some (.int .i64 C) /\ m.k < W'.heap.size /\ X < W'.heap.size)
      (first | exact hkeep.out _ hO9 | exact hkeep.out _ (by repeat (first | with_reducible assumption | with_reducible exact Only.refl _ _ | with_reducible apply Only.drew | with_reducible apply Only.drewN | with_reducible apply Only.alloc)))
      (first | (go_at_call 50; (with_reducible refine (hrep.out _).mono ?_); rintro _ w9 ⟨rfl, hO8⟩; have hO9 := Only.trans' (show Only (fun _ => False) W _ from (by repeat (first | with_reducible assumption | with_reducible exact Only.refl _ _ | with_reducible apply Only.drew | with_reducible apply Only.drewN | with_reducible apply Only.alloc))) hO8; clear hO8))
     all_goals
      go_wp2_with fail
      go_meet
      case rel => exact ⟨by rw [decide_eq_false (by omega), decide_eq_false (by omega)]; cases R <;> rfl, hO9⟩
  obtain ⟨rfl, hO3⟩ := hcut
  have hO3' := Lib.hid hO3
  obtain ⟨d19, d11, y0, y1, y2, y3, y4, dl, yl⟩ := hkeep.out _ hO3
  clear c19 x0 x1 x2 x3 x4 xl hlt hrep hO3
  by_cases hB : T < now ∨ 16777216 < T ∨ R = false
  ·have hb1 := Lib.hid (hbad.out 5 (by rw [if_pos hB]) (by decide))
   have hbt : (decide (T < now) || decide (16777216 < T) || !R) = true := by
    rcases hB with h | h | h <;> simp [h]
   rw [hbt]
   clear hB hbt
   go_wp2_with fail
   exact hb1.out _ (hsame.out _ hO3'.out)
  ·rw [if_neg hB] at hbad hgood
   have hbt : (decide (T < now) || decide (16777216 < T) || !R) = false := by
    cases hR : R with
    | false => exact absurd (.inr (.inr hR)) hB
    | true => simp; omega
   rw [hbt]
   clear hB hbt
   have hh := Lib.hid (hhas.out _ hO3'.out)
   clear hhas
   go_wp2_with fail
   refine hh.out.mono ?_
   rintro e w5 ⟨rfl, hO5⟩
   have hO6 := Lib.hid (hO3'.out.trans' hO5)
   clear hO5 hO3' d19 d11 y0 y1 y2 y3 y4 dl yl hh
   cases H with
   | false =>
    have hb1 := Lib.hid (hbad.out 6 (by rw [if_pos rfl]) (by decide))
    go_wp2_with fail
    exact hb1.out _ (hsame.out _ hO6.out)
   | true =>
    rw [if_neg (by decide)] at hbad hgood
    obtain ⟨d19, d11, y0, y1, y2, y3, y4, dl, yl⟩ := hkeep.out _ hO6.out
    have hl := Lib.hid (hlen.out _ hO6.out)
    clear hlen
    go_wp2_with fail
    refine hl.out.mono ?_
    rintro e w7 ⟨rfl, rfl⟩
    by_cases hF : 256 <= L
    ·have hb1 := Lib.hid (hbad.out 7 (by rw [if_pos hF]) (by decide))
     have hF' : (256 : Int) <= (L : Int) := by omega
     go_wp2_with fail
     exact hb1.out _ (hsame.out _ hO6.out)
    ·have hg1 := Lib.hid (hgood.out (by rw [if_neg hF]))
     have hF' : ¬ (256 : Int) <= (L : Int) := by omega
     have hp := Lib.hid (fun W' (ho : Only (fun _ => False) w5 W') => hput.out W' (hO6.out.trans' ho) (by omega))
     have hnew' := Lib.hid (fun W' w9 (ho : Only (fun _ => False) w5 W') (hk9 : KNow W' c m P w9) => hnew.out W' w9 (hO6.out.trans' ho) hk9)
     have hkp := Lib.hid (fun W' (ho : Only (fun _ => False) w5 W') => hkeep.out W' (hO6.out.trans' ho))
     clear hput hnew hkeep hbad hgood hsame hl d19 d11 y0 y1 y2 y3 y4 dl yl hO6
     go_upto_region 9 with fail
     obtain ⟨d19, d11, y0, y1, y2, y3, y4, dl, yl⟩ := hkp.out _ (Only.refl _ _)
     refine zAD 5 (by kernel_rfl) (by kernel_rfl) ?_
     simp only [List.take_succ_cons, List.take_zero, List.drop_succ_cons, List.drop_zero]
     repeat (go_big_quiet_step (fail))
     refine wpQuiet_nil ?_
     rintro _ ⟨nq, rfl⟩
     have hp' := Lib.hid (hp.out _ ((Only.refl (fun _ => False) w5).drewN nq))
     have hnew2 := Lib.hid (fun w9 hk9 => hnew'.out _ w9 ((Only.refl (fun _ => False) w5).drewN nq) hk9)
     clear hp hnew'
     go_wp2_with fail
     refine hp'.out.mono ?_
     rintro e w9 ⟨rfl, hk9⟩
     have hk8 := Lib.hid (hnew2.out _ hk9)
     clear hk9
     go_wp2_with fail
     exact hg1.out _ hk8.out
end
end Krn
end Go.Proofs.YtkggimgechhjnaaGreatDoor
