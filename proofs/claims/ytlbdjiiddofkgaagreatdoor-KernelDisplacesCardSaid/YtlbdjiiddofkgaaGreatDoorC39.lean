import Derived.Test.YtlbdjiiddofkgaaGreatDoorC37
import Derived.Test.YtlbdjiiddofkgaaGreatDoorC38
import Derived.Lib.SliceRun
set_option maxRecDepth 100000
namespace Go.Proofs.YtlbdjiiddofkgaaGreatDoor
namespace Krn
open Go Go.RowKit Go.Maps Ring Band
structure Stp where
 sp : Int
 wh : Bool
 b : Nat
 jb : Nat
 p : Nat
 r : Int
 left : Int
 now : Int
 wi : Int
 ar : Bool
 ov : Bool
def Stp.s2 (y : Stp) : Int := min y.sp y.r
def Stp.s3 (y : Stp) : Int := if y.wh = true then min y.s2 y.left else y.s2
structure Stp.Ok (y : Stp) : Prop where
 sp : -1000000000000 <= y.sp /\ y.sp <= 1000000000000
 now : -1000000000000 <= y.now /\ y.now <= 1000000000000
 wi : -1000000000000 <= y.wi /\ y.wi <= 1000000000000
section
variable {w w' : World} {c : KC} {m : KM} {s : KS}
set_option maxHeartbeats 4000000 in
theorem zHU {k b6 : Nat} {till jAw : Int} {A : List Pil.Ev -> Value -> Nat -> World -> Prop} {N : Int -> Int -> World -> Prop} {B C D E F G : Stp -> World -> Prop} {Z : World -> Prop}
  (hlt : k < w.heap.size) (c11 : w.cell? ⟨k, 11, none⟩ = some (ptr b6)) (c19 : w.cell? ⟨k, 19, none⟩ = some (.int .i64 jAw))
  (vG : ∀ W, Only (fun _ => False) w W -> Calls Tryz.prog 100 #[ptr b6, .int .i64 jAw] W (fun e w' => ∃ out p cap, e = .returned (.slice p out.length cap) /\ A out (.slice p out.length cap) 0 w' /\ w'.cell? ⟨k, 11, none⟩ = some (ptr b6) /\ w'.cell? ⟨k, 19, none⟩ = some (.int .i64 jAw)))
  (hA : ∀ out v i W, A out v i W -> out.length <= 900 /\ k < W.heap.size /\ ∃ h, Win W 40 5 v h out.length (rowC Pil.Ev.cells out))
  (xC : ∀ out v i x W W', out[i]? = some x -> A out v i W -> Only (fun _ => False) W W' -> Calls Tryz.prog 101 #[ptr k, x.val] W' (fun e w' => e = .returned (.tuple #[]) /\ A out v (i + 1) w'))
  (hch : ∀ out v W, A out v out.length W -> Calls Tryz.prog 102 #[ptr k] W (fun e w' => (∃ wh sp now, e = .returned (.bool wh) /\ N sp now w') ∨ ∃ y, e = .returned (.bool y.wh) /\ B y w'))
  (hN : ∀ sp now W, N sp now W -> Calls Tryz.prog 103 #[ptr k, .int .i64 till] W (RetI sp W) /\ Calls Tryz.prog 67 #[ptr k] W (fun e w' => e = .returned (.pointer none) /\ k < w'.heap.size /\ w'.cell? ⟨k, 19, none⟩ = some (.int .i64 now) /\ w'.frozen? ⟨k, 19, none⟩ = false /\ IntKind.i64.wrap (now + sp) = now + sp /\ Z (w'.setCell ⟨k, 19, none⟩ (.int .i64 (now + sp)))))
  (hB : ∀ y W, B y W -> y.Ok /\ Calls Tryz.prog 103 #[ptr k, .int .i64 till] W (RetI y.sp W) /\ Calls Tryz.prog 67 #[ptr k] W (fun e w' => e = .returned (ptr y.b) /\ C y w'))
  (hC : ∀ y W, C y W -> Calls Tryz.prog 104 #[ptr k, ptr y.b] W (ResV (D y)))
  (hD : ∀ y W, D y W -> k < W.heap.size /\ y.b < W.heap.size /\ W.cell? ⟨y.b, 0, none⟩ = some (ptr y.jb) /\ Calls Tryz.prog 105 #[ptr y.jb] W (RetI y.r W) /\ Calls Tryz.prog 106 #[ptr y.jb] W (DrewV (.tuple #[.int .i64 y.left, .bool y.ar]) W) /\ 0 <= y.r /\ 0 <= y.left)
  (hD1 : ∀ y W, D y W -> y.wh = false -> E y W)
  (hD2 : ∀ y W, D y W -> y.wh = true -> ∃ g off n cap, y.p < n /\ g < W.heap.size /\ W.cell? ⟨k, 17, none⟩ = some (.slice (some ⟨g, off, none⟩) n cap) /\ W.cell? ⟨y.b, 1, none⟩ = some (.int .i64 y.p) /\ W.cell? ⟨g, off + y.p * 13 + 9, none⟩ = some (.int .i64 y.wi) /\ W.frozen? ⟨g, off + y.p * 13 + 9, none⟩ = false /\ ∀ W', Only (fun _ => False) W W' -> E y (W'.setCell ⟨g, off + y.p * 13 + 9, none⟩ (.int .i64 (y.wi + y.s3))))
  (hE : ∀ y W, E y W -> y.b < W.heap.size /\ W.cell? ⟨y.b, 0, none⟩ = some (ptr y.jb) /\ Calls Tryz.prog 107 #[ptr y.jb, .int .i64 y.s3] W (fun e w' => (∃ z, e = .returned (.int .i64 z)) /\ F y w'))
  (hF : ∀ y W, F y W -> k < W.heap.size /\ W.cell? ⟨k, 19, none⟩ = some (.int .i64 y.now) /\ W.frozen? ⟨k, 19, none⟩ = false /\ G y (W.setCell ⟨k, 19, none⟩ (.int .i64 (y.now + y.s3))))
  (hG : ∀ y W, G y W -> y.b < W.heap.size /\ W.cell? ⟨y.b, 0, none⟩ = some (ptr y.jb) /\ Calls Tryz.prog 108 #[ptr y.jb] W (DrewV (.bool y.ov) W) /\ (y.ov = false -> ∀ q, Z (W.drewN q)) /\ (y.ov = true -> ∀ q, Calls Tryz.prog 109 #[ptr k, ptr y.b] (W.drewN q) (ResV Z))) :
  Calls Tryz.prog 54 #[ptr k, .int .i64 till] w (ResV Z) := by
 have hlk := hlt
 have yU := zh vG
 have hA' := zh hA
 have jAx := zh xC
 have jGe := zh hch
 have hN' := zh hN
 have hB' := zh hB
 have hC' := zh hC
 have hD' := zh (And.intro hD (And.intro hD1 hD2))
 have hE' := zh hE
 have hF' := zh hF
 have hG' := zh hG
 clear hlt vG hA xC hch hN hB hC hD hD1 hD2 hE hF hG
 have jC := zh (fun W' (ho : Only (fun _ => False) w W') => show W'.cell? ⟨k, 11, none⟩ = some (ptr b6) /\ W'.cell? ⟨k, 19, none⟩ = some (.int .i64 jAw) from ⟨ho.cell c11 id, ho.cell c19 id⟩)
 unfold ptr at *
 go_enter Tryz.func54, Tryz.ntmps54
 go_upto_region 0 with fail
 go_cut [19, 20, 21] from 11 to 21 (fun l n i wd => ∃ out p cap, l = .slice p out.length cap /\ n = .int .i64 (out.length : Int) /\ i = .int .i64 0 /\ A out l 0 wd)
 case first =>
  go_region_held3 (fun W' => W'.cell? ⟨k, 11, none⟩ = some (.pointer (some ⟨b6, 0, none⟩)) /\ W'.cell? ⟨k, 19, none⟩ = some (.int .i64 jAw))
   (first | exact hq1 | exact jC.out _ (by repeat (first | with_reducible exact Only.refl _ _ | with_reducible apply Only.drew)))
   (first | (go_at_call 100; (with_reducible refine (yU.out _ (by repeat (first | with_reducible exact Only.refl _ _ | with_reducible apply Only.drew))).mono ?_); rintro _ w1 ⟨out, p, cap, rfl, hA1, hq1⟩))
  all_goals
   have hA2 := zh hA1
   clear hA1 hq1
   go_wp2_with fail
   go_meet
   case rel => exact ⟨_, _, _, rfl, rfl, rfl, hA2.out⟩
 obtain ⟨out, p, cap, rfl, rfl, rfl, hA0⟩ := hcut
 clear hlk c11 c19 yU jC
 obtain ⟨n, hn⟩ : ∃ n, n = out.length := ⟨_, rfl⟩
 have hn' := zh hn
 obtain ⟨hn9, jIx, -⟩ := hA'.out _ _ _ _ hA0
 have hst := zh hA0
 rw [<- hn] at hn9 hst ⊢
 obtain ⟨v, hv⟩ : ∃ v, v = Value.slice p n cap := ⟨_, rfl⟩
 rw [<- hv] at hst
 clear hn hA0
 go_wp2
 go_loopw [21] (fun i wr => ∃ j : Nat, j <= n /\ i = .int .i64 j /\ A out v j wr) (fun i _ => n - (intOf i).toNat)
 case atStart => exact ⟨0, Nat.zero_le _, rfl, hst.out⟩
 case round =>
  obtain ⟨j, hj, rfl, hAj⟩ := hrel
  obtain ⟨-, hkw, h, hW⟩ := hA'.out _ _ _ _ hAj
  by_cases hjn : j < n
  ·have jGf : (j : Int) < (n : Int) := by omega
   obtain ⟨x, hx⟩ : ∃ x, out[j]? = some x := ⟨_, List.getElem?_eq_getElem (by have := hn'.out; omega)⟩
   rw [hv, hn'.out] at hW
   obtain ⟨g, off, cap', -, e1, -, -, -, hg, hc, -⟩ := zBG (f := Pil.Ev.cells) (fun _ => rfl) hW hx
   obtain ⟨rfl, -, rfl⟩ : p = some ⟨g, off, none⟩ /\ True /\ cap = cap' := by
    injection e1 with q1 q2 q3
    exact ⟨q1, trivial, q3⟩
   have hm := zh (jAx.out _ _ _ _ wr (wr.alloc (.cells x.cells.toArray 40)) hx hAj ((Only.refl _ _).alloc _))
   obtain ⟨T, K, a, b, C0⟩ := x
   unfold Pil.Ev.val Pil.Ev.cells at hm
   unfold Pil.Ev.cells at hc
   have x0 := hc 0 _ rfl
   have x1 := hc 1 _ rfl
   have x2 := hc 2 _ rfl
   have x3 := hc 3 _ rfl
   have x4 := hc 4 _ rfl
   rw [Nat.add_zero] at x0
   dsimp only at hm x0 x1 x2 x3 x4
   clear hc hW hAj hx e1
   subst hv
   go_wp2_with fail
   refine hm.out.mono ?_
   rintro e w1 ⟨rfl, hA1⟩
   have hA2 := zh hA1
   clear hA1
   go_wp2_with fail
   go_roundw
   case rel => exact ⟨j + 1, by omega, by go_num, hA2.out⟩
   case measure => simp [intOf]; omega
  ·obtain rfl : j = n := by omega
   have jAy := zh (jGe.out out v wr (by rw [<- hn'.out]; exact hAj))
   clear hAj hW
   go_wp2_with fail
   refine jAy.out.mono ?_
   rintro e w1 (⟨wh, sp, now, rfl, hN1⟩ | ⟨y, rfl, hB1⟩)
   ·obtain ⟨h1, h2⟩ := hN'.out _ _ _ hN1
    have h1' := zh h1
    have h2' := zh h2
    clear h1 h2 hN1
    go_wp2_with fail
    refine h1'.out.mono ?_
    rintro e w2 ⟨rfl, rfl⟩
    go_wp2_with fail
    refine h2'.out.mono ?_
    rintro e w3 ⟨rfl, hk3, c19, f19, hwr, hZ⟩
    have hZ' := zh hZ
    clear hZ
    go_wp2_with fail
    go_end0
    exact ⟨rfl, by first | exact hZ'.out | (rw [hwr]; exact hZ'.out)⟩
   ·obtain ⟨hok, h1, h2⟩ := hB'.out _ _ hB1
    have h1' := zh h1
    have h2' := zh h2
    clear h1 h2 hB1
    obtain ⟨ysp, jCt⟩ : ∃ a, a = y.sp := ⟨_, rfl⟩
    obtain ⟨ywh, jCu⟩ : ∃ a, a = y.wh := ⟨_, rfl⟩
    obtain ⟨yb, hyb⟩ : ∃ a, a = y.b := ⟨_, rfl⟩
    obtain ⟨yjb, jD4⟩ : ∃ a, a = y.jb := ⟨_, rfl⟩
    obtain ⟨yr, hyr⟩ : ∃ a, a = y.r := ⟨_, rfl⟩
    have hy' := zh (And.intro jCt (And.intro jCu (And.intro hyb (And.intro jD4 hyr))))
    rw [<- jCt] at h1'
    rw [<- hyb] at h2'
    rw [<- jCu]
    have yP := zh hok
    clear jCt jCu hyb jD4 hyr hok
    go_wp2_with fail
    refine h1'.out.mono ?_
    rintro e w2 ⟨rfl, rfl⟩
    go_wp2_with fail
    refine h2'.out.mono ?_
    rintro e w3 ⟨rfl, hC3⟩
    have h3 := zh (hC'.out _ _ hC3)
    rw [<- hy'.out.2.2.1] at h3
    clear hC3
    go_wp2_with fail
    refine h3.out.mono ?_
    rintro e w4 ⟨rfl, hD4⟩
    have jAz := zh hD4
    obtain ⟨hk4, hb4, c0, h4, h5, jD5⟩ := hD'.out.1 _ _ hD4
    have hrl := zh jD5
    rw [<- hy'.out.2.2.1] at c0 hb4
    rw [<- hy'.out.2.2.2.1] at c0 h4 h5
    rw [<- hy'.out.2.2.2.2] at h4
    have h4' := zh h4
    have h5' := zh h5
    clear hD4 h4 h5 jD5 h1' h2' h3 jAy
    have hs2 : y.s2 = min ysp yr := by unfold Stp.s2; rw [hy'.out.1, hy'.out.2.2.2.2]
    obtain ⟨z, hz⟩ : ∃ z, z = y.s2 := ⟨_, rfl⟩
    rw [<- hz] at hs2
    have hz' := zh hz
    clear hz
    obtain ⟨ws, hws⟩ : ∃ ws, ws = w4 := ⟨_, rfl⟩
    go_upto_region 11 with fail
    go_cut [7] from 49 to 56 (fun v wd => v = .int .i64 z /\ wd = ws)
    case first =>
     go_wp2_with fail
     refine h4'.out.mono ?_
     rintro e w5 ⟨rfl, rfl⟩
     by_cases hle : ysp <= yr
     ·obtain rfl : z = ysp := by omega
      clear hs2
      go_wp2_with fail
      all_goals
       go_meet
       case rel => exact ⟨by first | rfl | (congr 1; omega), hws.symm⟩
     ·obtain rfl : z = yr := by omega
      clear hs2
      go_wp2_with fail
      all_goals
       go_meet
       case rel => exact ⟨by first | rfl | (congr 1; omega), hws.symm⟩
    obtain ⟨rfl, rfl⟩ := hcut
    subst hws
    clear h4' hs2
    obtain ⟨z3, hz3⟩ : ∃ z3, z3 = y.s3 := ⟨_, rfl⟩
    have hs3 : z3 = if ywh = true then min z y.left else z := by rw [hz3, hz'.out, hy'.out.2.1]; rfl
    have jCv := zh hz3
    obtain ⟨yl, hyl⟩ : ∃ yl, yl = y.left := ⟨_, rfl⟩
    rw [<- hyl] at h5' hs3
    have jD6 := zh hyl
    clear hz3 hyl
    go_upto_if 56 with fail
    go_cut [7, 9, 10] from 57 to 85 (fun v7 _ _ wd => v7 = .int .i64 z3 /\ E y wd)
    case first =>
     cases ywh with
     | false =>
      rw [if_neg (by decide)] at hs3
      have hE1 := zh (hD'.out.2.1 _ _ jAz.out hy'.out.2.1.symm)
      clear h5' jAz
      go_wp2_with fail
      go_meet
      case rel => exact ⟨by rw [hs3], hE1.out⟩
     | true =>
      rw [if_pos rfl] at hs3
      obtain ⟨yp, hyp⟩ : ∃ yp, yp = y.p := ⟨_, rfl⟩
      obtain ⟨yw, hyw⟩ : ∃ yw, yw = y.wi := ⟨_, rfl⟩
      have hE2 := hD'.out.2.2 _ _ jAz.out hy'.out.2.1.symm
      have hok := yP.out
      rw [<- hyp, <- hyw, <- hy'.out.2.2.1, <- jCv.out] at hE2
      obtain ⟨yg, yo, yn, yc, hpn, hgl, k17, b1, e9, f9, jE⟩ := hE2
      have kK := zh jE
      have hzb : -1000000000000 <= z3 /\ z3 <= 1000000000000 := by
       have h1 := hok.sp
       have h2 := hrl.out.1
       have h3 := hrl.out.2
       have h4 := hz'.out
       have h5 := jD6.out
       unfold Stp.s2 at h4
       omega
      have hwb : -1000000000000 <= yw /\ yw <= 1000000000000 := by rw [hyw]; exact hok.wi
      have hwr : IntKind.i64.wrap (yw + z3) = yw + z3 := IntWalk.i64_in _ (by omega)
      have hkp := zh (fun W' (ho : Only (fun _ => False) wc W') => show W'.cell? ⟨k, 17, none⟩ = _ /\ W'.cell? ⟨yb, 1, none⟩ = _ /\ W'.cell? ⟨yg, yo + yp * 13 + 9, none⟩ = _ from ⟨ho.cell k17 id, ho.cell b1 id, ho.cell e9 id⟩)
      clear jE hok jAz hyp hyw
      go_wp2_with fail
      refine h5'.out.mono ?_
      rintro e w5 ⟨rfl, q, rfl⟩
      go_upto_region 14 with fail
      go_cut [7] from 65 to 67 (fun v wd => v = .int .i64 z3 /\ wd = wc.drewN q)
      case first =>
       by_cases hle : z <= yl
       ·obtain rfl : z3 = z := by omega
        clear hs3
        go_wp2_with fail
        all_goals
         go_meet
         case rel => exact ⟨by first | rfl | (congr 1; omega), rfl⟩
       ·obtain rfl : z3 = yl := by omega
        clear hs3
        go_wp2_with fail
        all_goals
         go_meet
         case rel => exact ⟨by first | rfl | (congr 1; omega), rfl⟩
      obtain ⟨rfl, rfl⟩ := hcut
      have hO5 : Only (fun _ => False) wc (wc.drewN q) := (Only.refl _ _).drewN _
      clear hs3
      obtain ⟨jGg, b1', e9'⟩ := hkp.out _ hO5
      have f9' : (wc.drewN q).frozen? ⟨yg, yo + yp * 13 + 9, none⟩ = false := f9
      have jGh : yg < (wc.drewN q).heap.size := hgl
      have hk5 : k < (wc.drewN q).heap.size := hk4
      have hb5 : yb < (wc.drewN q).heap.size := hb4
      obtain ⟨W5, hW5⟩ : ∃ W5, W5 = wc.drewN q := ⟨_, rfl⟩
      rw [<- hW5] at hO5 jGg b1' e9' f9' jGh hk5 hb5 ⊢
      have kG := zh (fun nq => kK.out (W5.drewN nq) (hO5.drewN nq))
      clear hW5 hkp kK k17 b1 e9 f9 hgl hO5 hk4 hb4
      go_upto_region 15 with fail
      refine zAD 17 (by kernel_rfl) (by kernel_rfl) ?_
      simp only [List.take_succ_cons, List.take_zero, List.drop_succ_cons, List.drop_zero]
      repeat (go_big_quiet_step (fail))
      refine wpQuiet_nil ?_
      rintro _ ⟨nq, rfl⟩
      go_wp2_with fail
      go_meet
      case rel => exact ⟨rfl, kG.out nq⟩
    obtain ⟨rfl, hE5⟩ := hcut
    obtain ⟨hb5, c5, h6⟩ := hE'.out _ _ hE5
    rw [<- hy'.out.2.2.1] at hb5 c5
    rw [<- hy'.out.2.2.2.1] at c5 h6
    rw [<- jCv.out] at h6
    have h6' := zh h6
    have hok := yP.out
    have hzb : ywh = true ∨ ywh = false := by cases ywh <;> simp
    have hzb : -1000000000000 <= z3 /\ z3 <= 1000000000000 := by
     have h1 := hok.sp
     have h2 := hrl.out.1
     have h3 := hrl.out.2
     have h4 := hz'.out
     have h5 := jD6.out
     unfold Stp.s2 at h4
     rcases hzb with h | h
     ·rw [if_pos h] at hs3; omega
     ·rw [if_neg (by rw [h]; decide)] at hs3; omega
    have hnb := hok.now
    obtain ⟨yt, hyt⟩ : ∃ yt, yt = y.now := ⟨_, rfl⟩
    rw [<- hyt] at hnb
    have jGi := zh hyt
    have hwr : IntKind.i64.wrap (yt + z3) = yt + z3 := IntWalk.i64_in _ (by omega)
    clear hE5 h6 hok hyt h5' jAz hs3 c0 hk4 hb4
    go_wp2_with fail
    refine h6'.out.mono ?_
    rintro e w6 ⟨⟨zz, rfl⟩, hF6⟩
    obtain ⟨hk6, c19, f19, hG6⟩ := hF'.out _ _ hF6
    rw [<- jGi.out] at c19 hG6
    rw [<- jCv.out] at hG6
    obtain ⟨hb7, c7, h8, h9, h10⟩ := hG'.out _ _ hG6
    rw [<- hy'.out.2.2.1] at hb7 c7 h10
    rw [<- hy'.out.2.2.2.1] at c7 h8
    have h8' := zh h8
    have h9' := zh h9
    have jCw := zh h10
    clear hF6 hG6 h8 h9 h10 h6' hb5 c5
    go_wp2_with fail
    refine h8'.out.mono ?_
    rintro e w8 ⟨rfl, q8, rfl⟩
    cases ho : y.ov with
    | false =>
     have hZ := zh (h9'.out ho q8)
     clear h9' jCw
     go_wp2_with fail
     go_end0
     exact ⟨rfl, hZ.out⟩
    | true =>
     have hZ := zh (jCw.out ho q8)
     clear h9' jCw
     go_wp2_with fail
     refine hZ.out.mono ?_
     rintro e w9 ⟨rfl, hZ9⟩
     have jGj := zh hZ9
     clear hZ9
     go_wp2_with fail
     go_end0
     exact ⟨rfl, jGj.out⟩
end
theorem zEY (w : World) (a : Addr) (k cap : Nat) (q : Option Addr) (c2 : Nat) (hk : k <= cap) (ty : TypeId) : (Builtin.append_ #[120, 120] ty #[.slice (some a) k cap, .slice q 0 c2]).run Tryz.prog w = .ok (.slice (some a) k cap) w := by
 have hi : ∃ i, Tryz.prog.info? 141 = some i /\ i.size = 1 := by
  have : (Tryz.prog.info? 141).map (·.size) = some 1 := by kernel_rfl
  obtain ⟨i, hi, hz⟩ := Option.map_eq_some_iff.1 this
  exact ⟨i, hi, hz⟩
 obtain ⟨i, hi, hs⟩ := hi
 cases q <;> simp [Builtin.append_, run_underlying (P := Tryz.prog) Tryz.underlying120, sizeOf, typeInfo, hi, Builtin.lenOf, Builtin.firstCells, hk, storeCells, loadCells, loadCellsFrom]
theorem zRX : ∀ w, (zeroValue 141).run Tryz.prog w = .ok (.pointer none) w := fun w => by kernel_rfl
theorem zI2 {w : World} {g off cap k n : Nat} {xs : List Value} (hW : Win w 141 1 (.slice (some ⟨g, off, none⟩) n cap) (some g) n xs) (hn : n = k + 1) (_hb : cap <= maxLen) : Calls Tryz.prog 168 #[.slice (some ⟨g, off, none⟩) n cap, .int .i64 k, .int .i64 n] w (fun e w' => e = .returned (.slice (some ⟨g, off, none⟩) k cap) /\ Win w' 141 1 (.slice (some ⟨g, off, none⟩) k cap) (some g) k (xs.take k) /\ Only (fun x => x = g) w w') := by
 obtain ⟨g', off', cap', e1, e2, h3, h4, h5, h6, h7⟩ := hW.at_ (by omega)
 cases e1
 cases e2
 have hap := zh (fun W q c2 ty => zEY W ⟨g, off, none⟩ k cap q c2 (by omega) ty)
 have hkn : ((k : Int) == (n : Int)) = false := by simp; omega
 have jIy : (k : Int) <= (n : Int) := by omega
 have hnc : (n : Int) <= (cap : Int) := by omega
 have hkl : k < n := by omega
 unfold maxLen at _hb
 have hWk := zh hW
 have hn' := zh hn
 have hnk : n - k = 1 := by omega
 have hcl := zh (fun nq ty (c2 : Nat) => Lib.run_clear_slice (P := Tryz.prog) (w.drewN nq) 120 141 ty (.pointer none) Tryz.underlying120 zRX rfl rfl g (off + k) 1 c2 (by omega) (fun j hj => by
  obtain rfl : j = 0 := by omega
  have hxl := hW.1
  have := h6 k (xs[k]'(by omega)) (List.getElem?_eq_getElem _)
  show (w.cell? ⟨g, off + k + 0, none⟩).isSome = true
  rw [Nat.add_zero, this]
  rfl) (fun j _ => h7 _))
 clear hW h6 hn
 go_enter Tryz.func168, Tryz.ntmps168
 go_upto_region 5 with fail
 refine zAD 6 (by kernel_rfl) (by kernel_rfl) ?_
 simp only [List.take_succ_cons, List.take_zero, List.drop_succ_cons, List.drop_zero]
 repeat (go_big_quiet_step (fail))
 refine wpQuiet_nil ?_
 rintro _ ⟨nq, rfl⟩
 obtain ⟨Q, hQ⟩ : ∃ Q, Q = (if cap = n then some (⟨g, off, none⟩ : Addr) else some ⟨g, off + n, none⟩) := ⟨_, rfl⟩
 rw [<- hQ]
 clear hQ hap
 have jGk := fun ty c2 => hcl.out nq ty c2
 simp only [List.replicate_succ, List.replicate_zero] at jGk
 have jE := zh (show Win ((w.drewN nq).setCells g (off + k) [.pointer none]) 141 1 (.slice (some ⟨g, off, none⟩) k cap) (some g) k (xs.take k) /\ Only (fun x => x = g) w ((w.drewN nq).setCells g (off + k) [.pointer none]) from by
  have hWd := hWk.out.kept ((Only.refl (fun _ => False) w).drewN nq) (fun _ _ h => h)
  have h1 := zEA hWd (by omega) (k := k) (by omega) (.pointer none)
  have h2 := h1.take (k := k) (by omega)
  rw [Nat.mul_one, List.take_set_of_le (Nat.le_refl _)] at h2
  exact ⟨h2, ((Only.refl (fun x => x = g) w).drewN nq).setCell (p := ⟨g, off + k, none⟩) (fun _ => rfl) _⟩)
 rcases Q with _ | q
 all_goals
  go_wp2
  go_ret
  exact ⟨rfl, jE.out⟩
section
variable {w w' : World} {c : KC} {m : KM} {s : KS}
theorem zM1 {js : List Bm} (k : Nat) : (rowC bmV js).take k = rowC bmV (js.take k) := by
 induction js generalizing k with
 | nil => simp [rowC]
 | cons x js ih =>
  cases k with
  | zero => simp [rowC]
  | succ k =>
   rw [show rowC bmV (x :: js) = ptr x.b :: rowC bmV js from rfl, List.take_succ_cons, ih, List.take_succ_cons]
   rfl
theorem KAt.jslice (h : KAt w c m s) {n : Nat} (hn : s.jobs.length = n + 1) : ∃ g off cap, m.oj = some g /\ m.vj = .slice (some ⟨g, off, none⟩) (n + 1) cap /\ n + 1 <= cap /\ cap <= maxLen /\ g ≠ m.k /\ Win w 141 1 (.slice (some ⟨g, off, none⟩) (n + 1) cap) (some g) (n + 1) (rowC bmV m.js) := by
 have hW : Win w 141 1 m.vj m.oj s.jobs.length (rowC bmV m.js) := (h.p 11).1
 rw [hn] at hW
 obtain ⟨g, off, cap, h1, h2, h3, h4, -⟩ := hW.at_ (by omega)
 rw [h1, h2] at hW
 exact ⟨g, off, cap, h1, h2, h3, h4, fun e => h.ap 11 0 (by decide) g (.inl h1) e, hW⟩
theorem KAt.popped (h : KAt w c m s) {n : Nat} (hn : s.jobs.length = n + 1) {b : Bm} (hb : m.js[n]? = some b) {g off cap : Nat} (hg : m.oj = some g) {w1 : World} (hW : Win w1 141 1 (.slice (some ⟨g, off, none⟩) n cap) (some g) n ((rowC bmV m.js).take n)) (ho : Only (fun x => x = g) w w1) :
  ∃ m', KT w c m (w1.setCell ⟨m.k, 14, none⟩ (.slice (some ⟨g, off, none⟩) n cap)) m' { s with jobs := s.jobs.take n } /\ m'.k = m.k /\ m'.js = m.js.take n /\ ∀ k, b.fp k -> ¬ kfp c m' k := by
 obtain ⟨hW0, hJ, hap⟩ := h.p 11
 have hjl := hJ.1
 refine ⟨{ m with vj := .slice (some ⟨g, off, none⟩) n cap, oj := some g, js := m.js.take n }, h.jobr (js := m.js.take n) (xs := s.jobs.take n) (Only.refl _ w) ⟨?_, ⟨?_, fun i b' x hb' hx => ?_, fun i j a d ha hd hij => ?_⟩, fun i x hx k hk => ?_⟩ (ho.mono (fun x _ e => .inl (e ▸ hg))) (fun k hk => ?_), rfl, rfl, fun k hk hkk => ?_⟩
 ·rw [zM1] at hW
  show Win _ 141 1 _ _ (s.jobs.take n).length (rowC bmV (m.js.take n))
  rw [List.length_take, hn, Nat.min_eq_left (by omega)]
  exact hW
 ·rw [List.length_take, List.length_take, hjl]
 ·by_cases hi : i < n
  ·rw [List.getElem?_take_of_lt hi] at hb' hx
   exact (hJ.2.1 i b' x hb' hx).kept ho (fun k hk e => hap i b' hb' k hk (by rw [hg, e]))
  ·rw [List.getElem?_take, if_neg hi] at hb'
   cases hb'
 ·by_cases hi : i < n
  ·by_cases hj : j < n
   ·rw [List.getElem?_take_of_lt hi] at ha
    rw [List.getElem?_take_of_lt hj] at hd
    exact hJ.2.2 i j a d ha hd hij
   ·rw [List.getElem?_take, if_neg hj] at hd; cases hd
  ·rw [List.getElem?_take, if_neg hi] at ha; cases ha
 ·by_cases hi : i < n
  ·have hx' : m.js[i]? = some x := by
    have := hx
    simp only at this
    rwa [List.getElem?_take_of_lt hi] at this
   have := hap i x hx' k hk
   rw [hg] at this
   exact this
  ·have hx' := hx
   simp only at hx'
   rw [List.getElem?_take, if_neg hi] at hx'
   cases hx'
 ·rcases hk with hk | ⟨x, hx, hk⟩
  ·exact .inl (.inl (hg.trans hk))
  ·exact .inl (.inr ⟨x, List.mem_of_mem_take hx, hk⟩)
 ·obtain ⟨i, hi⟩ := hkk
  have jGl : foot c m 11 k := .inr ⟨b, List.mem_of_getElem? hb, hk⟩
  by_cases h11 : i = 11
  ·subst h11
   rcases hi with hi | ⟨x, hx, hi⟩
   ·exact hap n b hb k hk (hg.trans hi)
   ·obtain ⟨j, hj⟩ := List.mem_iff_getElem?.1 hx
    have hjn : j < n := by
     have := (List.getElem?_eq_some_iff.1 hj).1
     have e := List.length_take (l := m.js) (i := n)
     simp only at this
     omega
    have hj' : m.js[j]? = some x := by
     have := hj
     simp only at this
     rwa [List.getElem?_take_of_lt hjn] at this
    exact hJ.2.2 j n x b hj' hb (by omega) k hi hk
  ·refine h.ap i 11 h11 k ?_ jGl
   match i, h11, hi with
   | 0, _, hi | 1, _, hi | 2, _, hi | 3, _, hi | 4, _, hi | 5, _, hi | 6, _, hi | 7, _, hi | 8, _, hi | 9, _, hi | 10, _, hi | 12, _, hi | 13, _, hi | 14, _, hi | 15, _, hi => exact hi
   | 11, h, _ => exact absurd rfl h
   | _ + 16, _, hi => exact hi.elim
end
