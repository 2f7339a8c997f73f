import Derived.Test.YtlbdjiiddofkgaaGreatDoorC43
set_option maxRecDepth 100000
namespace Go.Proofs.YtlbdjiiddofkgaaGreatDoor
namespace Krn
open Go Go.RowKit Go.Maps Ring Band
section
variable {w w' : World} {c : KC} {m : KM} {s : KS}
set_option maxHeartbeats 1000000 in
theorem zM8 (h : KAt w c m s) (x : Pil.Ev) (hT : s.tn <= 1000000) : Calls Tryz.prog 14 #[ptr m.k, x.val] w (KEnd w c m (evF c s x) (.int .i64 (evE c s x))) := by
 obtain ⟨X, hX⟩ : ∃ X, X = w.heap.size := ⟨_, rfl⟩
 obtain ⟨W, hW⟩ : ∃ W, W = w.alloc (.cells #[.int .i64 x.t, .int .i64 x.k, .int .i64 x.a, .int .i64 x.b, .int .i64 x.c] 40) := ⟨_, rfl⟩
 have hO : Only (fun _ => False) w W := by rw [hW]; exact (Only.refl _ w).alloc _
 have hXr : W.heap[X]? = some (.cells x.cells.toArray 40 (0, 0)) := by rw [hW]; exact zAB _ _ hX.symm
 have hx' := zh hXr
 have x0 := zAA hXr (i := 0) rfl
 have x1 := zAA hXr (i := 1) rfl
 have x2 := zAA hXr (i := 2) rfl
 have x3 := zAA hXr (i := 3) rfl
 have x4 := zAA hXr (i := 4) rfl
 have xl := zAG hXr
 have hk := h.new hO
 have c19 := zAA hk.root (i := 19) rfl
 have hlt := (hk.lt 0 m.k rfl).1
 have jCz := zh (fun W' => zR3 x W')
 have hhas := zh (fun W' (ho : Only (fun _ => False) W W') => zC2 (hk.new ho) x)
 have hlen := zh (fun W' (ho : Only (fun _ => False) W W') => Pil.alen_any (show Pil.Ag W' m.b6 m.o6 s.tn s.ag from (hk.new ho).p 8))
 have hput := zh (fun W' (ho : Only (fun _ => False) W W') (hL : s.ag.length <= 900) => zMY (hk.new ho) x hT hL)
 have jC := zh (fun W' (ho : Only (fun _ => False) W W') => show W'.cell? ⟨m.k, 19, none⟩ = some (.int .i64 s.now) /\ W'.cell? ⟨m.k, 11, none⟩ = some (ptr m.b6) /\ W'.cell? ⟨X, 0, none⟩ = some (.int .i64 x.t) /\ W'.cell? ⟨X, 1, none⟩ = some (.int .i64 x.k) /\ W'.cell? ⟨X, 2, none⟩ = some (.int .i64 x.a) /\ W'.cell? ⟨X, 3, none⟩ = some (.int .i64 x.b) /\ W'.cell? ⟨X, 4, none⟩ = some (.int .i64 x.c) /\ m.k < W'.heap.size /\ X < W'.heap.size from
  ⟨ho.cell c19 id, ho.cell (zAA hk.root (i := 11) rfl) id, ho.cell x0 id, ho.cell x1 id, ho.cell x2 id, ho.cell x3 id, ho.cell x4 id, Nat.lt_of_lt_of_le hlt ho.size, Nat.lt_of_lt_of_le xl ho.size⟩)
 have jV := zh (fun W' (ho : Only (fun _ => False) W W') => show KNow w c m s W' from (h.new hO |>.know ho).back hO)
 have hnew := zh (fun W' w9 (ho : Only (fun _ => False) W W') (hk9 : KNow W' c m (putF s x) w9) => show KNow w c m (putF s x) w9 from hk9.back (hO.trans' ho))
 obtain ⟨T, K, a, b, C⟩ := x
 obtain ⟨R, hR⟩ : ∃ R, R = vY ⟨T, K, a, b, C⟩ := ⟨_, rfl⟩
 obtain ⟨H, hH⟩ : ∃ H, H = hasB c ⟨T, K, a, b, C⟩ := ⟨_, rfl⟩
 obtain ⟨P, hP⟩ : ∃ P, P = putF s ⟨T, K, a, b, C⟩ := ⟨_, rfl⟩
 obtain ⟨L, hL⟩ : ∃ L, L = s.ag.length := ⟨_, rfl⟩
 obtain ⟨now, hnw⟩ : ∃ now, now = s.now := ⟨_, rfl⟩
 have hE : evE c s ⟨T, K, a, b, C⟩ = if K < 1 ∨ 5 < K then 1 else if T < now ∨ 16777216 < T ∨ R = false then 5 else if H = false then 6 else if 256 <= L then 7 else 0 := by rw [hR, hH, hL, hnw]; rfl
 have hF : evF c s ⟨T, K, a, b, C⟩ = if evE c s ⟨T, K, a, b, C⟩ = 0 then P else s := by unfold evF; rw [hP]
 obtain ⟨Z, hZ⟩ : ∃ Z, Z = KEnd w c m (evF c s ⟨T, K, a, b, C⟩) (.int .i64 (evE c s ⟨T, K, a, b, C⟩)) := ⟨_, rfl⟩
 rw [<- hZ]
 have wP := zh (fun (V : Int) (hV : evE c s ⟨T, K, a, b, C⟩ = V) (h0 : V ≠ 0) (w9 : World) (hk9 : KNow w c m s w9) => show Z (.returned (.int .i64 V)) w9 from by
  rw [hZ, hF, hV, if_neg h0]
  exact ⟨rfl, hk9⟩)
 have wQ := zh (fun (hV : evE c s ⟨T, K, a, b, C⟩ = 0) (w9 : World) (hk9 : KNow w c m P w9) => show Z (.returned (.int .i64 0)) w9 from by
  rw [hZ, hF, hV, if_pos rfl]
  exact ⟨rfl, hk9⟩)
 rw [hE] at wP wQ
 rw [<- hR] at jCz
 rw [<- hH] at hhas
 rw [<- hP] at hput hnew
 rw [<- hL] at hlen hput
 rw [<- hnw] at c19 jC
 unfold KEnd Pil.Ev.val ptr at *
 dsimp only at *
 have hX' := zh hX
 have hW' := zh hW
 clear h hX hW hO hXr hk hE hF hR hH hP hL hnw hZ
 go_enter Tryz.func14, Tryz.ntmps14
 go_upto_region 1 with fail
 rw [<- hX'.out, <- hW'.out]
 by_cases hK : K < 1 ∨ 5 < K
 ·have hb1 := zh (wP.out 1 (by rw [if_pos hK]) (by decide))
  rcases hK with hK | hK
  ·go_wp2_with fail
   exact hb1.out _ (jV.out _ (by repeat (first | with_reducible exact Only.refl _ _ | with_reducible apply Only.drew)))
  ·have hK1 : ¬ K < 1 := by omega
   go_wp2_with fail
   exact hb1.out _ (jV.out _ (by repeat (first | with_reducible exact Only.refl _ _ | with_reducible apply Only.drew)))
 ·rw [if_neg hK] at wP wQ
  have hK1 : ¬ K < 1 := fun e => hK (.inl e)
  have hK5 : ¬ 5 < K := fun e => hK (.inr e)
  clear hK
  go_upto_region 3 with fail
  go_cut [18] from 19 to 36 (fun v wd => v = .bool (decide (T < now) || decide (16777216 < T) || !R) /\ Only (fun _ => False) W wd)
  case first =>
   by_cases h1 : T < now
   ·go_quiet (fail)
    go_wp2_with fail
    go_meet
    case rel => exact ⟨by simp [h1], (by repeat (first | with_reducible assumption | with_reducible exact Only.refl _ _ | with_reducible apply Only.drew | with_reducible apply Only.drewN | with_reducible apply Only.alloc))⟩
   ·by_cases h2 : 16777216 < T
    ·go_quiet (fail)
     go_wp2_with fail
     go_meet
     case rel => exact ⟨by simp [h2], (by repeat (first | with_reducible assumption | with_reducible exact Only.refl _ _ | with_reducible apply Only.drew | with_reducible apply Only.drewN | with_reducible apply Only.alloc))⟩
    ·go_region_held3 (fun W' => W'.cell? ⟨m.k, 19, none⟩ = some (.int .i64 now) /\ W'.cell? ⟨m.k, 11, none⟩ = some (.pointer (some ⟨m.b6, 0, none⟩)) /\ W'.cell? ⟨X, 0, none⟩ = some (.int .i64 T) /\ W'.cell? ⟨X, 1, none⟩ = some (.int .i64 K) /\ W'.cell? ⟨X, 2, none⟩ = some (.int .i64 a) /\ W'.cell? ⟨X, 3, none⟩ = some (.int .i64 b) /\ W'.cell? ⟨X, 4, none⟩ = some (.int .i64 C) /\ m.k < W'.heap.size /\ X < W'.heap.size)
      (first | exact jC.out _ hO9 | exact jC.out _ (by repeat (first | with_reducible assumption | with_reducible exact Only.refl _ _ | with_reducible apply Only.drew | with_reducible apply Only.drewN | with_reducible apply Only.alloc)))
      (first | (go_at_call 50; (with_reducible refine (jCz.out _).mono ?_); rintro _ w9 ⟨rfl, hO8⟩; have hO9 := Only.trans' (show Only (fun _ => False) W _ from (by repeat (first | with_reducible assumption | with_reducible exact Only.refl _ _ | with_reducible apply Only.drew | with_reducible apply Only.drewN | with_reducible apply Only.alloc))) hO8; clear hO8))
     all_goals
      go_wp2_with fail
      go_meet
      case rel => exact ⟨by rw [decide_eq_false (by omega), decide_eq_false (by omega)]; cases R <;> rfl, hO9⟩
  obtain ⟨rfl, hO3⟩ := hcut
  have vT := zh hO3
  obtain ⟨d19, d11, y0, y1, y2, y3, y4, dl, yl⟩ := jC.out _ hO3
  clear c19 x0 x1 x2 x3 x4 xl hlt jCz hO3
  by_cases hB : T < now ∨ 16777216 < T ∨ R = false
  ·have hb1 := zh (wP.out 5 (by rw [if_pos hB]) (by decide))
   have hbt : (decide (T < now) || decide (16777216 < T) || !R) = true := by
    rcases hB with h | h | h <;> simp [h]
   rw [hbt]
   clear hB hbt
   go_wp2_with fail
   exact hb1.out _ (jV.out _ vT.out)
  ·rw [if_neg hB] at wP wQ
   have hbt : (decide (T < now) || decide (16777216 < T) || !R) = false := by
    cases hR : R with
    | false => exact absurd (.inr (.inr hR)) hB
    | true => simp; omega
   rw [hbt]
   clear hB hbt
   have hh := zh (hhas.out _ vT.out)
   clear hhas
   go_wp2_with fail
   refine hh.out.mono ?_
   rintro e w5 ⟨rfl, hO5⟩
   have hO6 := zh (vT.out.trans' hO5)
   clear hO5 vT d19 d11 y0 y1 y2 y3 y4 dl yl hh
   cases H with
   | false =>
    have hb1 := zh (wP.out 6 (by rw [if_pos rfl]) (by decide))
    go_wp2_with fail
    exact hb1.out _ (jV.out _ hO6.out)
   | true =>
    rw [if_neg (by decide)] at wP wQ
    obtain ⟨d19, d11, y0, y1, y2, y3, y4, dl, yl⟩ := jC.out _ hO6.out
    have hl := zh (hlen.out _ hO6.out)
    clear hlen
    go_wp2_with fail
    refine hl.out.mono ?_
    rintro e w7 ⟨rfl, rfl⟩
    by_cases hF : 256 <= L
    ·have hb1 := zh (wP.out 7 (by rw [if_pos hF]) (by decide))
     have hF' : (256 : Int) <= (L : Int) := by omega
     go_wp2_with fail
     exact hb1.out _ (jV.out _ hO6.out)
    ·have hg1 := zh (wQ.out (by rw [if_neg hF]))
     have hF' : ¬ (256 : Int) <= (L : Int) := by omega
     have hp := zh (fun W' (ho : Only (fun _ => False) w5 W') => hput.out W' (hO6.out.trans' ho) (by omega))
     have xU := zh (fun W' w9 (ho : Only (fun _ => False) w5 W') (hk9 : KNow W' c m P w9) => hnew.out W' w9 (hO6.out.trans' ho) hk9)
     have hkp := zh (fun W' (ho : Only (fun _ => False) w5 W') => jC.out W' (hO6.out.trans' ho))
     clear hput hnew jC wP wQ jV hl d19 d11 y0 y1 y2 y3 y4 dl yl hO6
     go_upto_region 9 with fail
     obtain ⟨d19, d11, y0, y1, y2, y3, y4, dl, yl⟩ := hkp.out _ (Only.refl _ _)
     refine zAD 5 (by kernel_rfl) (by kernel_rfl) ?_
     simp only [List.take_succ_cons, List.take_zero, List.drop_succ_cons, List.drop_zero]
     repeat (go_big_quiet_step (fail))
     refine wpQuiet_nil ?_
     rintro _ ⟨nq, rfl⟩
     have hp' := zh (hp.out _ ((Only.refl (fun _ => False) w5).drewN nq))
     have jC0 := zh (fun w9 hk9 => xU.out _ w9 ((Only.refl (fun _ => False) w5).drewN nq) hk9)
     clear hp xU
     go_wp2_with fail
     refine hp'.out.mono ?_
     rintro e w9 ⟨rfl, hk9⟩
     have hk8 := zh (jC0.out _ hk9)
     clear hk9
     go_wp2_with fail
     exact hg1.out _ hk8.out
end
def CloneEnd (w : World) (t : TypeId) (sz : Nat) (n : Nat) (xs : List Value) (e : Ending) (w' : World) : Prop :=
 ∃ v h, e = .returned v /\ Win w' t sz v h n xs /\ (∀ k, h = some k -> w.heap.size <= k) /\ Only (fun _ => False) w w'
theorem zPL {w : World} {v : Value} {h : Option Nat} {n : Nat} {xs : List Value} (hW : Win w 60 7 v h n xs) (h1 : ∀ u ∈ xs, u.oneCell' = true) (hn : n <= 1000000000) : Calls Tryz.prog 69 #[v] w (CloneEnd w 60 7 n xs) := by
 have hxl : xs.length = n * 7 := hW.1
 obtain ⟨p, cap, rfl, h2, h3⟩ := hW.form
 cases p with
 | none =>
  have h0 : n = 0 := by
   by_cases hc : 0 < n
   ·obtain ⟨_, _, _, _, e, _⟩ := hW.at_ hc
    cases e
   ·omega
  subst h0
  obtain rfl : xs = [] := List.eq_nil_of_length_eq_zero (by omega)
  have hnil : Sem.run Tryz.prog (binOp .eql 49 (.slice none 0 cap) (.slice none 0 0)) w = .ok (.bool true) w := by kernel_rfl
  clear h1 h2 h3 hW hn hxl
  go_enter Tryz.func69, Tryz.ntmps69
  go_wp2
  go_ret
  exact ⟨_, none, rfl, Win.nil _ _ _, fun k hk => (by cases hk), Only.refl _ _⟩
 | some a =>
  have hW' := zh hW
  have hx' := zh hxl
  have hnil : Sem.run Tryz.prog (binOp .eql 49 (.slice (some a) n cap) (.slice none 0 0)) w = .ok (.bool false) w := by kernel_rfl
  clear hW hxl
  go_enter Tryz.func69, Tryz.ntmps69
  go_wp2_with (at_builtin; refine zAP rfl _ _ 49 rfl 60 zrc.val 7 56 Tryz.underlying49 zP7 rfl (by decide) rfl (Win.empty (w.alloc (.cells #[] 60)) 60 7 (some ⟨w.heap.size, 0, none⟩)) (some a) n cap rfl xs hx'.out ((hW'.out.kept ((Only.refl (fun _ => False) w).alloc _) (fun _ _ h => h)).src) h1 (by unfold maxLen; omega) (by omega) ?_; intro v' w4 h4 hW4 hO4 hh4)
  go_ret
  refine ⟨v', h4, rfl, ?_, ?_, ?_⟩
  ·have := hW4.out
   rwa [Nat.zero_add, List.nil_append] at this
  ·intro k hk
   rcases hh4.out with rfl | ⟨g, rfl, hg⟩
   ·cases hk
   ·cases hk
    simp at hg
    omega
  ·exact ((Only.refl (fun _ => False) w).alloc _).trans hO4.out (fun _ _ e => by cases e)
theorem zM9 {α : Type} {f : α -> List Value} (hf : ∀ x, ∀ u ∈ f x, u.oneCell' = true) (l : List α) : ∀ u ∈ rowC f l, u.oneCell' = true := by
 intro u hu
 obtain ⟨x, _, hx⟩ := List.mem_flatMap.1 hu
 exact hf x u hx
section
variable {w w' : World} {c : KC} {m : KM} {s : KS}
theorem zPM (h : KAt w c m s) : Calls Tryz.prog 19 #[ptr m.k] w (GrowV (.int .i64 s.now) w) := by
 have c19 := zAA h.root (i := 19) rfl
 have hlt := (h.lt 0 m.k rfl).1
 unfold ptr
 clear h
 go_enter Tryz.func19, Tryz.ntmps19
 go_wp2
 go_ret
 exact ⟨rfl, Only.refl _ _⟩
theorem zNA (h : KAt w c m s) : Calls Tryz.prog 28 #[ptr m.k] w (GrowV (.int .i64 s.pk) w) := by
 have c15 := zAA h.root (i := 15) rfl
 have hlt := (h.lt 0 m.k rfl).1
 have hp := zh (zOU (show StAt w m.b10 m.o10 s.pk s.fs from h.p 12))
 unfold ptr at *
 clear h
 go_enter Tryz.func28, Tryz.ntmps28
 go_wp2_with fail
 refine hp.out.mono ?_
 rintro e w1 ⟨rfl, rfl⟩
 go_wp2
 go_ret
 exact ⟨rfl, Only.refl _ _⟩
theorem zK6 (h : KAt w c m s) (hn : s.tr.length <= 1000000000) : Calls Tryz.prog 21 #[ptr m.k] w (CloneEnd w 60 7 s.tr.length (rowC Rc.cells s.tr)) := by
 have c18 := zAA h.root (i := 18) rfl
 have hlt := (h.lt 0 m.k rfl).1
 have hp := zh (zPL (show Win w 60 7 m.vt m.ot s.tr.length (rowC Rc.cells s.tr) from h.p 15) (zM9 zP6 _) hn)
 obtain ⟨p, cap, hv, -, -⟩ := Win.form (show Win w 60 7 m.vt m.ot s.tr.length (rowC Rc.cells s.tr) from h.p 15)
 obtain ⟨xs, hxs⟩ : ∃ xs, xs = rowC Rc.cells s.tr := ⟨_, rfl⟩
 obtain ⟨n, hnn⟩ : ∃ n, n = s.tr.length := ⟨_, rfl⟩
 rw [hv, <- hnn] at c18
 rw [hv, <- hxs, <- hnn] at hp
 rw [<- hxs, <- hnn]
 unfold ptr at *
 clear h hn hv hxs hnn
 go_enter Tryz.func21, Tryz.ntmps21
 go_wp2_with fail
 refine hp.out.mono ?_
 rintro e w1 he
 have he' := zh he
 obtain ⟨v, g, rfl, -⟩ := he
 go_wp2
 go_ret
 exact he'.out
theorem zGQ (h : KAt w c m s) (hn : s.jobs = []) : Calls Tryz.prog 20 #[ptr m.k] w (GrowV (.tuple #[.int .i64 0, .int .i64 0, .bool false]) w) := by
 have hjs : m.js = [] := List.eq_nil_of_length_eq_zero (by rw [h.jlen, hn]; rfl)
 have ht := zh (zB5 h)
 rw [hjs] at ht
 unfold ptr at *
 clear h hn hjs
 go_enter Tryz.func20, Tryz.ntmps20
 go_wp2_with fail
 refine ht.out.mono ?_
 rintro e w1 ⟨rfl, n, rfl⟩
 unfold topV
 go_wp2
 go_ret3
 exact ⟨rfl, (Only.refl _ _).drewN _⟩
theorem zPN (h : KAt w c m s) {i tn : Nat} {x : Bj} {e : Et} {t : jA} {l : List Opn} (hn : s.jobs.length = i + 1) (hx : s.jobs[i]? = some x) (he : s.ents[x.p]? = some e) (hta : e.ta = tn) (ht : c.ts[tn]? = some (t, l)) (hnl : c.nl <= 4096) : Calls Tryz.prog 20 #[ptr m.k] w (GrowV (.tuple #[.int .i64 e.ta, .int .i64 (levF c s t x), .bool true]) w) := by
 obtain ⟨B, hB⟩ : ∃ B, m.js[i]? = some B := ⟨_, List.getElem?_eq_getElem (by rw [h.jlen, hn]; exact Nat.lt_succ_self i)⟩
 have jU := zh (zB5 h)
 rw [h.topV hn hB] at jU
 have wF := zh (fun W (hO : Only (fun _ => False) w W) => level_any (h.new hO) hB hx he hta ht hnl)
 obtain ⟨g, off, cap, n, -, -, -, hp, hg, -, c17, hc, -⟩ := h.entry he
 obtain ⟨hb, -, -⟩ := h.begun hB hx
 have e0 := hc 0 _ rfl
 have b1 := zAA hb (i := 1) rfl
 have bl := zAG hb
 have hlt := (h.lt 0 m.k rfl).1
 rw [Nat.add_zero] at e0
 obtain ⟨L, hL⟩ : ∃ L, L = levF c s t x := ⟨_, rfl⟩
 obtain ⟨ta, jEc⟩ : ∃ ta, ta = e.ta := ⟨_, rfl⟩
 obtain ⟨p, hpp⟩ : ∃ p, p = x.p := ⟨_, rfl⟩
 obtain ⟨bb, hbb⟩ : ∃ bb, bb = B.b := ⟨_, rfl⟩
 rw [<- hL] at wF ⊢
 rw [<- jEc] at e0 ⊢
 rw [<- hpp] at e0 b1 hp
 rw [<- hbb] at b1 bl jU wF
 have jC := zh (fun W (hO : Only (fun _ => False) w W) => show W.cell? ⟨m.k, 17, none⟩ = _ /\ W.cell? ⟨bb, 1, none⟩ = _ /\ W.cell? ⟨g, off + p * 13, none⟩ = _ /\ m.k < W.heap.size /\ bb < W.heap.size /\ g < W.heap.size from ⟨hO.cell c17 id, hO.cell b1 id, hO.cell e0 id, Nat.lt_of_lt_of_le hlt hO.size, Nat.lt_of_lt_of_le bl hO.size, Nat.lt_of_lt_of_le hg hO.size⟩)
 unfold ptr at *
 clear h hn hB hx he hta ht hnl hc hb hL jEc hpp hbb c17 b1 e0
 go_enter Tryz.func20, Tryz.ntmps20
 go_wp2_with fail
 refine jU.out.mono ?_
 rintro e9 w1 ⟨rfl, q, rfl⟩
 have hO1 : Only (fun _ => False) w (w.drewN q) := (Only.refl _ _).drewN _
 go_upto_region 4 with fail
 go_region_held3 (fun W' => W'.cell? ⟨m.k, 17, none⟩ = some (.slice (some ⟨g, off, none⟩) n cap) /\ W'.cell? ⟨bb, 1, none⟩ = some (.int .i64 p) /\ W'.cell? ⟨g, off + p * 13, none⟩ = some (.int .i64 ta) /\ m.k < W'.heap.size /\ bb < W'.heap.size /\ g < W'.heap.size)
  (first | exact jC.out _ hO9 | exact jC.out _ (by repeat (first | with_reducible assumption | with_reducible exact Only.refl _ _ | with_reducible apply Only.drew | with_reducible apply Only.drewN)))
  (first | (go_at_call 68; (with_reducible refine (wF.out _ (by repeat (first | with_reducible assumption | with_reducible exact Only.refl _ _ | with_reducible apply Only.drew | with_reducible apply Only.drewN))).mono ?_); rintro _ w9 ⟨rfl, hO8⟩; have hO9 := Only.trans' (show Only (fun _ => False) w _ from (by repeat (first | with_reducible assumption | with_reducible exact Only.refl _ _ | with_reducible apply Only.drew | with_reducible apply Only.drewN))) hO8; clear hO8))
 all_goals
  go_wp2
  go_ret3
  exact ⟨rfl, (by repeat (first | with_reducible assumption | with_reducible exact Only.refl _ _ | with_reducible apply Only.drew | with_reducible apply Only.drewN))⟩
end
def vZ (x : Et) : List Value := [.int .i64 x.ta, .int .i64 x.jb, .int .i64 x.re, .int .i64 x.st, .int .i64 x.en, .bool x.fa, .int .i64 x.di, .int .i64 x.hi, .int .i64 x.mi, .int .i64 x.wi, .int .i64 x.ba]
def jEd : Value := .agg #[.int .i64 0, .int .i64 0, .int .i64 0, .int .i64 0, .int .i64 0, .bool false, .int .i64 0, .int .i64 0, .int .i64 0, .int .i64 0, .int .i64 0]
theorem zCR (x : Et) : (vZ x).length = 11 := rfl
theorem zTK : (Tryz.prog.info? 65).map (fun i => (i.zero, i.size, i.bytes)) = some (some jEd, 11, 88) := by kernel_rfl
theorem zNB (n : Nat) : madeCells jEd.cells (n * 11) = (rowC vZ (List.replicate n zet)).toArray := by
 show madeCells #[Value.int .i64 0, Value.int .i64 0, Value.int .i64 0, Value.int .i64 0, Value.int .i64 0, Value.bool false, Value.int .i64 0, Value.int .i64 0, Value.int .i64 0, Value.int .i64 0, Value.int .i64 0] (n * 11) = _
 unfold madeCells
 apply Array.ext_getElem?
 intro j
 simp only [Array.getElem?_map, Array.getElem?_range, List.getElem?_toArray]
 by_cases h : j < n * 11
 ·rw [if_pos h]
  have hj : j = j / 11 * 11 + j % 11 := by omega
  have hm : j % 11 < 11 := Nat.mod_lt _ (by omega)
  have h1 : (List.replicate n zet)[j / 11]? = some zet := by rw [List.getElem?_replicate, if_pos (by omega)]
  have h2 := zCA zCR _ _ _ h1 (j % 11) hm
  rw [<- hj] at h2
  rw [h2]
  have : j % 11 = 0 ∨ j % 11 = 1 ∨ j % 11 = 2 ∨ j % 11 = 3 ∨ j % 11 = 4 ∨ j % 11 = 5 ∨ j % 11 = 6 ∨ j % 11 = 7 ∨ j % 11 = 8 ∨ j % 11 = 9 ∨ j % 11 = 10 := by omega
  rcases this with h3 | h3 | h3 | h3 | h3 | h3 | h3 | h3 | h3 | h3 | h3 <;> simp [zet, vZ, h3]
 ·rw [if_neg h, List.getElem?_eq_none (by rw [zBQ zCR, List.length_replicate]; omega)]
  rfl
theorem zGR (w : World) (n : Nat) (hn : n <= 1000000000) : Sem.run Tryz.prog (Instr.makeSlice 48 (.int .i64 (n : Int)) (.int .i64 (n : Int))) w = .ok (.slice (some ⟨w.heap.size, 0, none⟩) n n) (w.alloc (.cells (rowC vZ (List.replicate n zet)).toArray 65)) := by
 obtain ⟨i, hi, hzz⟩ := Option.map_eq_some_iff.1 zTK
 simp only [Prod.mk.injEq] at hzz
 obtain ⟨hz, hs, hb⟩ := hzz
 have hr := run_make (P := Tryz.prog) w 48 65 i _ Tryz.underlying48 hi hz .i64 .i64 n n (by omega) (Int.le_refl _) (by rw [hb]; omega) (by omega)
 simp only [Int.toNat_natCast, hs] at hr
 rw [zNB] at hr
 exact hr
theorem zH0 {α : Type} {f : α -> List Value} {sz : Nat} (h0 : 0 < sz) (hf : ∀ x, (f x).length = sz) (l : List α) (i : Nat) (y : α) (hi : i < l.length) : rowC f (l.set i y) = jK (rowC f l) (i * sz) (f y) := by
 have hln := zBQ hf l
 have hfy := hf y
 have hle : i * sz + sz <= l.length * sz := by
  have := Nat.mul_le_mul_right sz (show i + 1 <= l.length from hi)
  rw [Nat.add_mul, Nat.one_mul] at this
  exact this
 apply List.ext_getElem?
 intro k
 by_cases hk : k < l.length * sz
 ·have hq : k / sz < l.length := Nat.div_lt_of_lt_mul (by rw [Nat.mul_comm]; exact hk)
  have hm : k % sz < sz := Nat.mod_lt _ h0
  have hkk : k = k / sz * sz + k % sz := by rw [Nat.mul_comm]; exact (Nat.div_add_mod k sz).symm
  by_cases he : k / sz = i
  ·have h1 : (l.set i y)[k / sz]? = some y := by rw [he]; exact List.getElem?_set_self hi
   have h2 := zCA hf _ _ _ h1 (k % sz) hm
   rw [<- hkk] at h2
   have h3 := zBC (f y) (i * sz) (rowC f l) (k % sz) (by omega) (by omega)
   rw [<- he, <- hkk] at h3
   rw [h2, <- he, h3]
  ·have h1 : (l.set i y)[k / sz]? = some l[k / sz] := by rw [List.getElem?_set_ne (fun e => he e.symm)]; exact List.getElem?_eq_getElem hq
   have h2 := zCA hf _ _ _ h1 (k % sz) hm
   have h3 := zCA hf l _ _ (List.getElem?_eq_getElem hq) (k % sz) hm
   rw [<- hkk] at h2 h3
   have hout : k < i * sz ∨ i * sz + (f y).length <= k := by
    rcases Nat.lt_or_gt_of_ne he with h | h
    ·left
     have := Nat.mul_le_mul_right sz (show k / sz + 1 <= i from h)
     rw [Nat.add_mul, Nat.one_mul] at this
     omega
    ·right
     have := Nat.mul_le_mul_right sz (show i + 1 <= k / sz from h)
     rw [Nat.add_mul, Nat.one_mul] at this
     omega
   rw [h2, zA1 _ _ _ _ hout, h3]
 ·rw [List.getElem?_eq_none (by rw [zBQ hf, List.length_set]; omega), List.getElem?_eq_none (by rw [zAY]; omega)]
def mixE (l : List Et) (k : Nat) : List Et := l.take k ++ List.replicate (l.length - k) zet
theorem zGS (l : List Et) {k : Nat} (h : k <= l.length) : (mixE l k).length = l.length := by
 unfold mixE
 rw [List.length_append, List.length_take, List.length_replicate]
 omega
theorem zPO (l : List Et) : mixE l l.length = l := by
 unfold mixE
 rw [List.take_length, Nat.sub_self]
 simp
theorem zNC {l : List Et} {k : Nat} {x : Et} (h : l[k]? = some x) : mixE l (k + 1) = (mixE l k).set k x := by
 have hk := (List.getElem?_eq_some_iff.1 h).1
 apply List.ext_getElem?
 intro i
 have hl1 := zGS l (show k + 1 <= l.length from hk)
 have hl2 := zGS l (show k <= l.length by omega)
 by_cases hi : i = k
 ·subst hi
  rw [List.getElem?_set_self (by omega)]
  unfold mixE
  rw [List.getElem?_append_left (by rw [List.length_take]; omega), List.getElem?_take, if_pos (by omega), h]
 ·rw [List.getElem?_set_ne (fun e => hi e.symm)]
  unfold mixE
  by_cases h2 : i < k
  ·rw [List.getElem?_append_left (by rw [List.length_take]; omega), List.getElem?_append_left (by rw [List.length_take]; omega), List.getElem?_take, List.getElem?_take, if_pos (by omega), if_pos h2]
  ·rw [List.getElem?_append_right (by rw [List.length_take]; omega), List.getElem?_append_right (by rw [List.length_take]; omega), List.getElem?_replicate, List.getElem?_replicate, List.length_take, List.length_take]
   have : min (k + 1) l.length = k + 1 := by omega
   have : min k l.length = k := by omega
   by_cases h3 : i < l.length
   ·rw [if_pos (by omega), if_pos (by omega)]
   ·rw [if_neg (by omega), if_neg (by omega)]
section
variable {w w' : World} {c : KC} {m : KM} {s : KS}
theorem zH1 (h : KAt w c m s) (hn : s.ents = []) : Calls Tryz.prog 22 #[ptr m.k] w (GrowV (.slice none 0 0) w) := by
 have c17 := zAA h.root (i := 17) rfl
 have hlt := (h.lt 0 m.k rfl).1
 obtain ⟨p, cap, hv, -, -⟩ := Win.form (show Win w 146 13 m.ve m.oe s.ents.length (rowC Et.cells s.ents) from h.p 14)
 rw [hv, hn] at c17
 simp only [List.length_nil] at c17
 unfold ptr
 clear h hv hn
 go_enter Tryz.func22, Tryz.ntmps22
 go_wp2
 go_ret
 exact ⟨rfl, Only.refl _ _⟩
set_option maxHeartbeats 1000000 in
theorem zI8 (h : KAt w c m s) (h0 : 0 < s.ents.length) (hl : s.ents.length <= 1000000000) : Calls Tryz.prog 22 #[ptr m.k] w (CloneEnd w 65 11 s.ents.length (rowC vZ s.ents)) := by
 have c17 := zAA h.root (i := 17) rfl
 have hlt := (h.lt 0 m.k rfl).1
 have hrow := zh (fun (k : Nat) (x : Et) (hx : s.ents[k]? = some x) => h.entry hx)
 obtain ⟨g, off, cap, hg0, hv, -, -, -, hgl, -, hgf⟩ := zBG zFH (show Win w 146 13 m.ve m.oe s.ents.length (rowC Et.cells s.ents) from h.p 14) (List.getElem?_eq_getElem h0)
 have hcell := zh (fun (k : Nat) (x : Et) (hx : s.ents[k]? = some x) => show ∀ j u, x.cells[j]? = some u -> w.cell? ⟨g, off + k * 13 + j, none⟩ = some u from by
  obtain ⟨g', off', cap', n', q1, q2, -, -, -, -, -, q8, -⟩ := h.entry hx
  rw [hv] at q2
  cases q2
  exact q8)
 obtain ⟨n, hn⟩ : ∃ n, n = s.ents.length := ⟨_, rfl⟩
 obtain ⟨l, hll⟩ : ∃ l, l = s.ents := ⟨_, rfl⟩
 rw [hv, <- hn] at c17
 rw [<- hll] at hn hcell h0 hl ⊢
 rw [<- hn] at h0 hl ⊢
 have hn' := zh hn
 have jC1 := zGR w n hl
 have hn1 : ¬ (n : Int) = 0 := by omega
 have hgk : g ≠ w.heap.size := by
  have := hgl
  omega
 unfold ptr
 clear h hrow hv hn hll hg0 hgf
 go_enter Tryz.func22, Tryz.ntmps22
 go_wp2_with fail
 have hG0 : (w.alloc (.cells (rowC vZ (List.replicate n zet)).toArray 65)).heap[w.heap.size]? = some (.cells (rowC vZ (List.replicate n zet)).toArray 65 (0, 0)) := zAB _ _ rfl
 have hO0 : Only (fun _ => False) w (w.alloc (.cells (rowC vZ (List.replicate n zet)).toArray 65)) := (Only.refl _ w).alloc _
 obtain ⟨G, hG⟩ : ∃ G, G = w.heap.size := ⟨_, rfl⟩
 rw [<- hG] at hG0 hgk ⊢
 obtain ⟨W1, hW1⟩ : ∃ W1, W1 = w.alloc (.cells (rowC vZ (List.replicate n zet)).toArray 65) := ⟨_, rfl⟩
 rw [<- hW1] at hG0 hO0 ⊢
 have wX := zh hW1
 have hG' := zh hG
 have hst := zh hG0
 clear jC1 c17 hlt hG0 hW1 hG
 go_loopw [27] (fun i wr => ∃ k : Nat, k <= n /\ i = .int .i64 k /\ wr.heap[G]? = some (.cells (rowC vZ (mixE l k)).toArray 65 (0, 0)) /\ Only (fun x => x = G) W1 wr) (fun i _ => n - (intOf i).toNat)
 case atStart =>
  refine ⟨0, Nat.zero_le _, rfl, ?_, Only.refl _ _⟩
  have := hst.out
  unfold mixE
  rw [List.take_zero, List.nil_append, Nat.sub_zero, <- hn'.out]
  exact this
 case round =>
  obtain ⟨k, hk, rfl, hR, hO⟩ := hrel
  by_cases hkn : k < n
  ·have vR : (k : Int) < (n : Int) := by omega
   obtain ⟨x, hx⟩ : ∃ x, l[k]? = some x := ⟨_, List.getElem?_eq_getElem (by have := hn'.out; omega)⟩
   have hc : ∀ j u, x.cells[j]? = some u -> wr.cell? ⟨g, off + k * 13 + j, none⟩ = some u := fun j u hu => hO.cell (hO0.cell (hcell.out k x hx j u hu) id) hgk
   have hgw : g < wr.heap.size := Nat.lt_of_lt_of_le (Nat.lt_of_lt_of_le hgl hO0.size) hO.size
   have hGw : G < wr.heap.size := zAG hR
   have jE : ((wr.setCells G (k * 11) (vZ x)).alloc (.cells x.cells.toArray 146)).heap[G]? = some (.cells (rowC vZ (mixE l (k + 1))).toArray 65 (0, 0)) /\ Only (fun x => x = G) W1 ((wr.setCells G (k * 11) (vZ x)).alloc (.cells x.cells.toArray 146)) := by
    constructor
    ·rw [zNC hx, zH0 (by decide) zCR _ _ _ (by rw [zGS l (by have := hn'.out; omega)]; have := hn'.out; omega)]
     exact zAF (zA2 _ _ _ _ hR) _
    ·exact (hO.trans' (zA3 _ _ _)).alloc _
   have f : ∀ j, wr.frozen? ⟨G, j, none⟩ = false := fun j => zAC hR j
   have hz : (mixE l k)[k]? = some zet := by
    unfold mixE
    rw [List.getElem?_append_right (by rw [List.length_take]; omega), List.getElem?_replicate, List.length_take, if_pos (by have := hn'.out; omega)]
   have y := fun j (hj : j < 11) => (zCA zCR (mixE l k) k zet hz j hj)
   have z0 := zAA hR ((y 0 (by decide)).trans rfl)
   have z1 := zAA hR ((y 1 (by decide)).trans rfl)
   have z2 := zAA hR ((y 2 (by decide)).trans rfl)
   have z3 := zAA hR ((y 3 (by decide)).trans rfl)
   have z4 := zAA hR ((y 4 (by decide)).trans rfl)
   have z5 := zAA hR ((y 5 (by decide)).trans rfl)
   have z6 := zAA hR ((y 6 (by decide)).trans rfl)
   have z7 := zAA hR ((y 7 (by decide)).trans rfl)
   have z8 := zAA hR ((y 8 (by decide)).trans rfl)
   have z9 := zAA hR ((y 9 (by decide)).trans rfl)
   have z10 := zAA hR ((y 10 (by decide)).trans rfl)
   rw [Nat.add_zero] at z0
   have jI3 : G ≠ wr.heap.size := by omega
   obtain ⟨ta, jb, re, st, en, fa, di, hi, mi, wi, ba, am, ac⟩ := x
   unfold vZ Et.cells at jE
   unfold Et.cells at hc
   have x0 := hc 0 _ rfl
   have x1 := hc 1 _ rfl
   have x2 := hc 2 _ rfl
   have x3 := hc 3 _ rfl
   have x4 := hc 4 _ rfl
   have x5 := hc 5 _ rfl
   have x6 := hc 6 _ rfl
   have x7 := hc 7 _ rfl
   have x8 := hc 8 _ rfl
   have x9 := hc 9 _ rfl
   have x10 := hc 10 _ rfl
   have x11 := hc 11 _ rfl
   have x12 := hc 12 _ rfl
   rw [Nat.add_zero] at x0
   dsimp only at jE x0 x1 x2 x3 x4 x5 x6 x7 x8 x9 x10 x11 x12
   have kK := zh jE
   clear jE hc hR hO hx hO0 hst hcell y hz
   go_wp2
   go_roundw
   case rel => exact ⟨k + 1, by omega, by go_num, kK.out.1, kK.out.2⟩
   case measure => simp [intOf]; omega
  ·obtain rfl : k = n := by omega
   have hall : mixE l k = l := by rw [hn'.out]; exact zPO l
   rw [hall] at hR
   have hend := zh (show CloneEnd w 65 11 k (rowC vZ l) (.returned (.slice (some ⟨G, 0, none⟩) k k)) wr from by
    have hlen : (rowC vZ l).length = k * 11 := by rw [zBQ zCR, hn'.out]
    exact ⟨_, some G, rfl, Win.of_row hR hlen (by unfold maxLen; omega), fun j hj => by cases hj; rw [hG'.out]; exact Nat.le_refl _, hO0.trans hO (fun x hx e => by have := hG'.out; omega)⟩)
   clear hR hO hst hcell hO0
   go_wp2
   go_ret
   exact hend.out
end
def jA1 : Value := .agg #[.int .i64 0, .int .i64 0, .int .i64 0, .int .i64 0, .int .i64 0, .int .i64 0, .slice none 0 0]
theorem zTL : (Tryz.prog.info? 63).map (fun i => (i.zero, i.size, i.bytes)) = some (some jA1, 7, 72) := by kernel_rfl
theorem zHF : (Tryz.prog.info? 3).map (fun i => (i.zero, i.size, i.bytes)) = some (some (.int .i64 0), 1, 8) := by kernel_rfl
theorem zDK {w w' : World} (h : Only (fun _ => False) w w') {a : Addr} {u : Value} (hc : w.cell? a = some u) : w'.cell? a = some u := h.cell hc id
theorem zK7 {w : World} {A : Option Addr} {n cap : Nat} {xs : List Value} (hxl : xs.length = n * 1) (vK : 0 < n -> ∃ ad, A = some ad /\ ∀ j u, xs[j]? = some u -> w.cell? (ad.add j) = some u) (h1 : ∀ u ∈ xs, u.oneCell' = true) (hn : n <= 1000000000) : Calls Tryz.prog 45 #[.slice A n cap] w (CloneEnd w 3 1 n xs) := by
 cases A with
 | none =>
  have h0 : n = 0 := by
   by_cases hc : 0 < n
   ·obtain ⟨_, e, _⟩ := vK hc
    cases e
   ·omega
  subst h0
  obtain rfl : xs = [] := List.eq_nil_of_length_eq_zero (by omega)
  have hnil : Sem.run Tryz.prog (binOp .eql 24 (.slice none 0 cap) (.slice none 0 0)) w = .ok (.bool true) w := by kernel_rfl
  clear h1 vK hn hxl
  go_enter Tryz.func45, Tryz.ntmps45
  go_wp2
  go_ret
  exact ⟨_, none, rfl, Win.nil _ _ _, fun k hk => (by cases hk), Only.refl _ _⟩
 | some a =>
  have hs' := zh (fun (h0 : 0 < n) => show ∃ ad, (some a : Option Addr) = some ad /\ ∀ j u, xs[j]? = some u -> (w.alloc (.cells #[] 3)).cell? (ad.add j) = some u from by
   obtain ⟨ad, q1, q2⟩ := vK h0
   exact ⟨ad, q1, fun j u hu => zDK ((Only.refl (fun _ => False) w).alloc _) (q2 j u hu)⟩)
  have hx' := zh hxl
  have hnil : Sem.run Tryz.prog (binOp .eql 24 (.slice (some a) n cap) (.slice none 0 0)) w = .ok (.bool false) w := by kernel_rfl
  clear vK hxl
  go_enter Tryz.func45, Tryz.ntmps45
  go_wp2_with (at_builtin; refine zAP rfl _ _ 24 rfl 3 (.int .i64 0) 1 8 Tryz.underlying24 zHF rfl (by decide) rfl (Win.empty (w.alloc (.cells #[] 3)) 3 1 (some ⟨w.heap.size, 0, none⟩)) (some a) n cap rfl xs hx'.out hs'.out h1 (by unfold maxLen; omega) (by omega) ?_; intro v' w4 h4 hW4 hO4 hh4)
  go_ret
  refine ⟨v', h4, rfl, ?_, ?_, ?_⟩
  ·have := hW4.out
   rwa [Nat.zero_add, List.nil_append] at this
  ·intro k hk
   rcases hh4.out with rfl | ⟨g, rfl, hg⟩
   ·cases hk
   ·cases hk
    simp at hg
    omega
  ·exact ((Only.refl (fun _ => False) w).alloc _).trans hO4.out (fun _ _ e => by cases e)
theorem zK8 {w : World} {A : Option Addr} {n cap : Nat} {xs : List Value} (hxl : xs.length = n * 7) (vK : 0 < n -> ∃ ad, A = some ad /\ ∀ j u, xs[j]? = some u -> w.cell? (ad.add j) = some u) (h1 : ∀ u ∈ xs, u.oneCell' = true) (hn : n <= 1000000000) : Calls Tryz.prog 94 #[.slice A n cap] w (CloneEnd w 63 7 n xs) := by
 cases A with
 | none =>
  have h0 : n = 0 := by
   by_cases hc : 0 < n
   ·obtain ⟨_, e, _⟩ := vK hc
    cases e
   ·omega
  subst h0
  obtain rfl : xs = [] := List.eq_nil_of_length_eq_zero (by omega)
  have hnil : Sem.run Tryz.prog (binOp .eql 25 (.slice none 0 cap) (.slice none 0 0)) w = .ok (.bool true) w := by kernel_rfl
  clear h1 vK hn hxl
  go_enter Tryz.func94, Tryz.ntmps94
  go_wp2
  go_ret
  exact ⟨_, none, rfl, Win.nil _ _ _, fun k hk => (by cases hk), Only.refl _ _⟩
 | some a =>
  have hs' := zh (fun (h0 : 0 < n) => show ∃ ad, (some a : Option Addr) = some ad /\ ∀ j u, xs[j]? = some u -> (w.alloc (.cells #[] 63)).cell? (ad.add j) = some u from by
   obtain ⟨ad, q1, q2⟩ := vK h0
   exact ⟨ad, q1, fun j u hu => zDK ((Only.refl (fun _ => False) w).alloc _) (q2 j u hu)⟩)
  have hx' := zh hxl
  have hnil : Sem.run Tryz.prog (binOp .eql 25 (.slice (some a) n cap) (.slice none 0 0)) w = .ok (.bool false) w := by kernel_rfl
  clear vK hxl
  go_enter Tryz.func94, Tryz.ntmps94
  go_wp2_with (at_builtin; refine zAP rfl _ _ 25 rfl 63 jA1 7 72 Tryz.underlying25 zTL rfl (by decide) rfl (Win.empty (w.alloc (.cells #[] 63)) 63 7 (some ⟨w.heap.size, 0, none⟩)) (some a) n cap rfl xs hx'.out hs'.out h1 (by unfold maxLen; omega) (by omega) ?_; intro v' w4 h4 hW4 hO4 hh4)
  go_ret
  refine ⟨v', h4, rfl, ?_, ?_, ?_⟩
  ·have := hW4.out
   rwa [Nat.zero_add, List.nil_append] at this
  ·intro k hk
   rcases hh4.out with rfl | ⟨g, rfl, hg⟩
   ·cases hk
   ·cases hk
    simp at hg
    omega
  ·exact ((Only.refl (fun _ => False) w).alloc _).trans hO4.out (fun _ _ e => by cases e)
