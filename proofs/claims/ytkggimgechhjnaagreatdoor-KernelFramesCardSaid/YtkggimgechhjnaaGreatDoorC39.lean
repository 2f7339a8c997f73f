import Derived.Test.YtkggimgechhjnaaGreatDoorC37
import Derived.Test.YtkggimgechhjnaaGreatDoorC38
import Derived.Test.YtkggimgechhjnaaGreatDoorCE
namespace Go.Proofs.YtkggimgechhjnaaGreatDoor
namespace Krn
open Go Go.RowKit Go.Maps Ring Band
structure Stp where
 sp : Int
 wh : Bool
 b : Nat
 jb : Nat
 p : Nat
 r : Int
 left : Int
 now : Int
 wi : Int
 ar : Bool
 ov : Bool
def Stp.s2 (y : Stp) : Int := min y.sp y.r
def Stp.s3 (y : Stp) : Int := if y.wh = true then min y.s2 y.left else y.s2
structure Stp.Ok (y : Stp) : Prop where
 sp : -1000000000000 <= y.sp /\ y.sp <= 1000000000000
 now : -1000000000000 <= y.now /\ y.now <= 1000000000000
 wi : -1000000000000 <= y.wi /\ y.wi <= 1000000000000
section
variable {w w' : World} {c : KC} {m : KM} {s : KS}
set_option maxRecDepth 100000 in
set_option maxHeartbeats 4000000 in
theorem zHN {k b6 : Nat} {till now0 : Int} {A : List Pil.Ev -> Value -> Nat -> World -> Prop} {N : Int -> Int -> World -> Prop} {B C D E F G : Stp -> World -> Prop} {Z : World -> Prop}
  (hlt : k < w.heap.size) (c11 : w.cell? ⟨k, 11, none⟩ = some (ptr b6)) (c19 : w.cell? ⟨k, 19, none⟩ = some (.int .i64 now0))
  (htake : ∀ W, Only (fun _ => False) w W -> Calls Tryz.prog 100 #[ptr b6, .int .i64 now0] W (fun e w' => ∃ out p cap, e = .returned (.slice p out.length cap) /\ A out (.slice p out.length cap) 0 w' /\ w'.cell? ⟨k, 11, none⟩ = some (ptr b6) /\ w'.cell? ⟨k, 19, none⟩ = some (.int .i64 now0)))
  (hA : ∀ out v i W, A out v i W -> out.length <= 900 /\ k < W.heap.size /\ ∃ h, Win W 40 5 v h out.length (rowC Pil.Ev.cells out))
  (hmeet : ∀ out v i x W W', out[i]? = some x -> A out v i W -> Only (fun _ => False) W W' -> Calls Tryz.prog 101 #[ptr k, x.val] W' (fun e w' => e = .returned (.tuple #[]) /\ A out v (i + 1) w'))
  (hch : ∀ out v W, A out v out.length W -> Calls Tryz.prog 102 #[ptr k] W (fun e w' => (∃ wh sp now, e = .returned (.bool wh) /\ N sp now w') ∨ ∃ y, e = .returned (.bool y.wh) /\ B y w'))
  (hN : ∀ sp now W, N sp now W -> Calls Tryz.prog 103 #[ptr k, .int .i64 till] W (RetI sp W) /\ Calls Tryz.prog 67 #[ptr k] W (fun e w' => e = .returned (.pointer none) /\ k < w'.heap.size /\ w'.cell? ⟨k, 19, none⟩ = some (.int .i64 now) /\ w'.frozen? ⟨k, 19, none⟩ = false /\ IntKind.i64.wrap (now + sp) = now + sp /\ Z (w'.setCell ⟨k, 19, none⟩ (.int .i64 (now + sp)))))
  (hB : ∀ y W, B y W -> y.Ok /\ Calls Tryz.prog 103 #[ptr k, .int .i64 till] W (RetI y.sp W) /\ Calls Tryz.prog 67 #[ptr k] W (fun e w' => e = .returned (ptr y.b) /\ C y w'))
  (hC : ∀ y W, C y W -> Calls Tryz.prog 104 #[ptr k, ptr y.b] W (ResV (D y)))
  (hD : ∀ y W, D y W -> k < W.heap.size /\ y.b < W.heap.size /\ W.cell? ⟨y.b, 0, none⟩ = some (ptr y.jb) /\ Calls Tryz.prog 105 #[ptr y.jb] W (RetI y.r W) /\ Calls Tryz.prog 106 #[ptr y.jb] W (DrewV (.tuple #[.int .i64 y.left, .bool y.ar]) W) /\ 0 <= y.r /\ 0 <= y.left)
  (hD1 : ∀ y W, D y W -> y.wh = false -> E y W)
  (hD2 : ∀ y W, D y W -> y.wh = true -> ∃ g off n cap, y.p < n /\ g < W.heap.size /\ W.cell? ⟨k, 17, none⟩ = some (.slice (some ⟨g, off, none⟩) n cap) /\ W.cell? ⟨y.b, 1, none⟩ = some (.int .i64 y.p) /\ W.cell? ⟨g, off + y.p * 13 + 9, none⟩ = some (.int .i64 y.wi) /\ W.frozen? ⟨g, off + y.p * 13 + 9, none⟩ = false /\ ∀ W', Only (fun _ => False) W W' -> E y (W'.setCell ⟨g, off + y.p * 13 + 9, none⟩ (.int .i64 (y.wi + y.s3))))
  (hE : ∀ y W, E y W -> y.b < W.heap.size /\ W.cell? ⟨y.b, 0, none⟩ = some (ptr y.jb) /\ Calls Tryz.prog 107 #[ptr y.jb, .int .i64 y.s3] W (fun e w' => (∃ z, e = .returned (.int .i64 z)) /\ F y w'))
  (hF : ∀ y W, F y W -> k < W.heap.size /\ W.cell? ⟨k, 19, none⟩ = some (.int .i64 y.now) /\ W.frozen? ⟨k, 19, none⟩ = false /\ G y (W.setCell ⟨k, 19, none⟩ (.int .i64 (y.now + y.s3))))
  (hG : ∀ y W, G y W -> y.b < W.heap.size /\ W.cell? ⟨y.b, 0, none⟩ = some (ptr y.jb) /\ Calls Tryz.prog 108 #[ptr y.jb] W (DrewV (.bool y.ov) W) /\ (y.ov = false -> ∀ q, Z (W.drewN q)) /\ (y.ov = true -> ∀ q, Calls Tryz.prog 109 #[ptr k, ptr y.b] (W.drewN q) (ResV Z))) :
  Calls Tryz.prog 54 #[ptr k, .int .i64 till] w (ResV Z) := by
 have hlk := hlt
 have htake' := Lib.hid htake
 have hA' := Lib.hid hA
 have hmeet' := Lib.hid hmeet
 have hch' := Lib.hid hch
 have hN' := Lib.hid hN
 have hB' := Lib.hid hB
 have hC' := Lib.hid hC
 have hD' := Lib.hid (And.intro hD (And.intro hD1 hD2))
 have hE' := Lib.hid hE
 have hF' := Lib.hid hF
 have hG' := Lib.hid hG
 clear hlt htake hA hmeet hch hN hB hC hD hD1 hD2 hE hF hG
 have hkeep := Lib.hid (fun W' (ho : Only (fun _ => False) w W') => show W'.cell? ⟨k, 11, none⟩ = some (ptr b6) /\ W'.cell? ⟨k, 19, none⟩ = some (.int .i64 now0) from ⟨ho.cell c11 (fun h => h), ho.cell c19 (fun h => h)⟩)
 unfold ptr at *
 go_enter Tryz.func54, Tryz.ntmps54
 go_upto_region 0 with fail
 go_cut [19, 20, 21] from 11 to 21 (fun l n i wd => ∃ out p cap, l = .slice p out.length cap /\ n = .int .i64 (out.length : Int) /\ i = .int .i64 0 /\ A out l 0 wd)
 case first =>
  go_region_held3 (fun W' => W'.cell? ⟨k, 11, none⟩ = some (.pointer (some ⟨b6, 0, none⟩)) /\ W'.cell? ⟨k, 19, none⟩ = some (.int .i64 now0))
   (first | exact hq1 | exact hkeep.out _ (by repeat (first | with_reducible exact Only.refl _ _ | with_reducible apply Only.drew)))
   (first | (go_at_call 100; (with_reducible refine (htake'.out _ (by repeat (first | with_reducible exact Only.refl _ _ | with_reducible apply Only.drew))).mono ?_); rintro _ w1 ⟨out, p, cap, rfl, hA1, hq1⟩))
  all_goals
   have hA2 := Lib.hid hA1
   clear hA1 hq1
   go_wp2_with fail
   go_meet
   case rel => exact ⟨_, _, _, rfl, rfl, rfl, hA2.out⟩
 obtain ⟨out, p, cap, rfl, rfl, rfl, hA0⟩ := hcut
 clear hlk c11 c19 htake' hkeep
 obtain ⟨n, hn⟩ : ∃ n, n = out.length := ⟨_, rfl⟩
 have hn' := Lib.hid hn
 obtain ⟨hn9, hlt0, -⟩ := hA'.out _ _ _ _ hA0
 have hst := Lib.hid hA0
 rw [<- hn] at hn9 hst ⊢
 obtain ⟨v, hv⟩ : ∃ v, v = Value.slice p n cap := ⟨_, rfl⟩
 rw [<- hv] at hst
 clear hn hA0
 go_wp2
 go_loopw [21] (fun i wr => ∃ j : Nat, j <= n /\ i = .int .i64 j /\ A out v j wr) (fun i _ => n - (intOf i).toNat)
 case atStart => exact ⟨0, Nat.zero_le _, rfl, hst.out⟩
 case round =>
  obtain ⟨j, hj, rfl, hAj⟩ := hrel
  obtain ⟨-, hkw, h, hW⟩ := hA'.out _ _ _ _ hAj
  by_cases hjn : j < n
  ·have hjn' : (j : Int) < (n : Int) := by omega
   obtain ⟨x, hx⟩ : ∃ x, out[j]? = some x := ⟨_, List.getElem?_eq_getElem (by have := hn'.out; omega)⟩
   rw [hv, hn'.out] at hW
   obtain ⟨g, off, cap', -, e1, -, -, -, hg, hc, -⟩ := zBI (f := Pil.Ev.cells) (fun _ => rfl) hW hx
   obtain ⟨rfl, -, rfl⟩ : p = some ⟨g, off, none⟩ /\ True /\ cap = cap' := by
    injection e1 with q1 q2 q3
    exact ⟨q1, trivial, q3⟩
   have hm := Lib.hid (hmeet'.out _ _ _ _ wr (wr.alloc (.cells x.cells.toArray 40)) hx hAj ((Only.refl _ _).alloc _))
   obtain ⟨T, K, a, b, C0⟩ := x
   unfold Pil.Ev.val Pil.Ev.cells at hm
   unfold Pil.Ev.cells at hc
   have x0 := hc 0 _ rfl
   have x1 := hc 1 _ rfl
   have x2 := hc 2 _ rfl
   have x3 := hc 3 _ rfl
   have x4 := hc 4 _ rfl
   rw [Nat.add_zero] at x0
   dsimp only at hm x0 x1 x2 x3 x4
   clear hc hW hAj hx e1
   subst hv
   go_wp2_with fail
   refine hm.out.mono ?_
   rintro e w1 ⟨rfl, hA1⟩
   have hA2 := Lib.hid hA1
   clear hA1
   go_wp2_with fail
   go_roundw
   case rel => exact ⟨j + 1, by omega, by go_num, hA2.out⟩
   case measure => simp [intOf]; omega
  ·obtain rfl : j = n := by omega
   have hch2 := Lib.hid (hch'.out out v wr (by rw [<- hn'.out]; exact hAj))
   clear hAj hW
   go_wp2_with fail
   refine hch2.out.mono ?_
   rintro e w1 (⟨wh, sp, now, rfl, hN1⟩ | ⟨y, rfl, hB1⟩)
   ·obtain ⟨h1, h2⟩ := hN'.out _ _ _ hN1
    have h1' := Lib.hid h1
    have h2' := Lib.hid h2
    clear h1 h2 hN1
    go_wp2_with fail
    refine h1'.out.mono ?_
    rintro e w2 ⟨rfl, rfl⟩
    go_wp2_with fail
    refine h2'.out.mono ?_
    rintro e w3 ⟨rfl, hk3, c19, f19, hwr, hZ⟩
    have hZ' := Lib.hid hZ
    clear hZ
    go_wp2_with fail
    go_end0
    exact ⟨rfl, by first | exact hZ'.out | (rw [hwr]; exact hZ'.out)⟩
   ·obtain ⟨hok, h1, h2⟩ := hB'.out _ _ hB1
    have h1' := Lib.hid h1
    have h2' := Lib.hid h2
    clear h1 h2 hB1
    obtain ⟨ysp, hysp⟩ : ∃ a, a = y.sp := ⟨_, rfl⟩
    obtain ⟨ywh, hywh⟩ : ∃ a, a = y.wh := ⟨_, rfl⟩
    obtain ⟨yb, hyb⟩ : ∃ a, a = y.b := ⟨_, rfl⟩
    obtain ⟨yjb, hyjb⟩ : ∃ a, a = y.jb := ⟨_, rfl⟩
    obtain ⟨yr, hyr⟩ : ∃ a, a = y.r := ⟨_, rfl⟩
    have hy' := Lib.hid (And.intro hysp (And.intro hywh (And.intro hyb (And.intro hyjb hyr))))
    rw [<- hysp] at h1'
    rw [<- hyb] at h2'
    rw [<- hywh]
    have hok' := Lib.hid hok
    clear hysp hywh hyb hyjb hyr hok
    go_wp2_with fail
    refine h1'.out.mono ?_
    rintro e w2 ⟨rfl, rfl⟩
    go_wp2_with fail
    refine h2'.out.mono ?_
    rintro e w3 ⟨rfl, hC3⟩
    have h3 := Lib.hid (hC'.out _ _ hC3)
    rw [<- hy'.out.2.2.1] at h3
    clear hC3
    go_wp2_with fail
    refine h3.out.mono ?_
    rintro e w4 ⟨rfl, hD4⟩
    have hD4' := Lib.hid hD4
    obtain ⟨hk4, hb4, c0, h4, h5, hrl0⟩ := hD'.out.1 _ _ hD4
    have hrl := Lib.hid hrl0
    rw [<- hy'.out.2.2.1] at c0 hb4
    rw [<- hy'.out.2.2.2.1] at c0 h4 h5
    rw [<- hy'.out.2.2.2.2] at h4
    have h4' := Lib.hid h4
    have h5' := Lib.hid h5
    clear hD4 h4 h5 hrl0 h1' h2' h3 hch2
    have hs2 : y.s2 = min ysp yr := by unfold Stp.s2; rw [hy'.out.1, hy'.out.2.2.2.2]
    obtain ⟨z, hz⟩ : ∃ z, z = y.s2 := ⟨_, rfl⟩
    rw [<- hz] at hs2
    have hz' := Lib.hid hz
    clear hz
    obtain ⟨ws, hws⟩ : ∃ ws, ws = w4 := ⟨_, rfl⟩
    go_upto_region 11 with fail
    go_cut [7] from 49 to 56 (fun v wd => v = .int .i64 z /\ wd = ws)
    case first =>
     go_wp2_with fail
     refine h4'.out.mono ?_
     rintro e w5 ⟨rfl, rfl⟩
     by_cases hle : ysp <= yr
     ·obtain rfl : z = ysp := by omega
      clear hs2
      go_wp2_with fail
      all_goals
       go_meet
       case rel => exact ⟨by first | rfl | (congr 1; omega), hws.symm⟩
     ·obtain rfl : z = yr := by omega
      clear hs2
      go_wp2_with fail
      all_goals
       go_meet
       case rel => exact ⟨by first | rfl | (congr 1; omega), hws.symm⟩
    obtain ⟨rfl, rfl⟩ := hcut
    subst hws
    clear h4' hs2
    obtain ⟨z3, hz3⟩ : ∃ z3, z3 = y.s3 := ⟨_, rfl⟩
    have hs3 : z3 = if ywh = true then min z y.left else z := by rw [hz3, hz'.out, hy'.out.2.1]; rfl
    have hz3' := Lib.hid hz3
    obtain ⟨yl, hyl⟩ : ∃ yl, yl = y.left := ⟨_, rfl⟩
    rw [<- hyl] at h5' hs3
    have hyl' := Lib.hid hyl
    clear hz3 hyl
    go_upto_if 56 with fail
    go_cut [7, 9, 10] from 57 to 85 (fun v7 _ _ wd => v7 = .int .i64 z3 /\ E y wd)
    case first =>
     cases ywh with
     | false =>
      rw [if_neg (by decide)] at hs3
      have hE1 := Lib.hid (hD'.out.2.1 _ _ hD4'.out hy'.out.2.1.symm)
      clear h5' hD4'
      go_wp2_with fail
      go_meet
      case rel => exact ⟨by rw [hs3], hE1.out⟩
     | true =>
      rw [if_pos rfl] at hs3
      obtain ⟨yp, hyp⟩ : ∃ yp, yp = y.p := ⟨_, rfl⟩
      obtain ⟨yw, hyw⟩ : ∃ yw, yw = y.wi := ⟨_, rfl⟩
      have hE2 := hD'.out.2.2 _ _ hD4'.out hy'.out.2.1.symm
      have hok := hok'.out
      rw [<- hyp, <- hyw, <- hy'.out.2.2.1, <- hz3'.out] at hE2
      obtain ⟨yg, yo, yn, yc, hpn, hgl, k17, b1, e9, f9, hfin⟩ := hE2
      have hfin' := Lib.hid hfin
      have hzb : -1000000000000 <= z3 /\ z3 <= 1000000000000 := by
       have h1 := hok.sp
       have h2 := hrl.out.1
       have h3 := hrl.out.2
       have h4 := hz'.out
       have h5 := hyl'.out
       unfold Stp.s2 at h4
       omega
      have hwb : -1000000000000 <= yw /\ yw <= 1000000000000 := by rw [hyw]; exact hok.wi
      have hwr : IntKind.i64.wrap (yw + z3) = yw + z3 := IntWalk.i64_in _ (by omega)
      have hkp := Lib.hid (fun W' (ho : Only (fun _ => False) wc W') => show W'.cell? ⟨k, 17, none⟩ = _ /\ W'.cell? ⟨yb, 1, none⟩ = _ /\ W'.cell? ⟨yg, yo + yp * 13 + 9, none⟩ = _ from ⟨ho.cell k17 (fun h => h), ho.cell b1 (fun h => h), ho.cell e9 (fun h => h)⟩)
      clear hfin hok hD4' hyp hyw
      go_wp2_with fail
      refine h5'.out.mono ?_
      rintro e w5 ⟨rfl, q, rfl⟩
      go_upto_region 14 with fail
      go_cut [7] from 65 to 67 (fun v wd => v = .int .i64 z3 /\ wd = wc.drewN q)
      case first =>
       by_cases hle : z <= yl
       ·obtain rfl : z3 = z := by omega
        clear hs3
        go_wp2_with fail
        all_goals
         go_meet
         case rel => exact ⟨by first | rfl | (congr 1; omega), rfl⟩
       ·obtain rfl : z3 = yl := by omega
        clear hs3
        go_wp2_with fail
        all_goals
         go_meet
         case rel => exact ⟨by first | rfl | (congr 1; omega), rfl⟩
      obtain ⟨rfl, rfl⟩ := hcut
      have hO5 : Only (fun _ => False) wc (wc.drewN q) := (Only.refl _ _).drewN _
      clear hs3
      obtain ⟨k17', b1', e9'⟩ := hkp.out _ hO5
      have f9' : (wc.drewN q).frozen? ⟨yg, yo + yp * 13 + 9, none⟩ = false := f9
      have hgl' : yg < (wc.drewN q).heap.size := hgl
      have hk5 : k < (wc.drewN q).heap.size := hk4
      have hb5 : yb < (wc.drewN q).heap.size := hb4
      obtain ⟨W5, hW5⟩ : ∃ W5, W5 = wc.drewN q := ⟨_, rfl⟩
      rw [<- hW5] at hO5 k17' b1' e9' f9' hgl' hk5 hb5 ⊢
      have hfin2 := Lib.hid (fun nq => hfin'.out (W5.drewN nq) (hO5.drewN nq))
      clear hW5 hkp hfin' k17 b1 e9 f9 hgl hO5 hk4 hb4
      go_upto_region 15 with fail
      refine zAD 17 (by kernel_rfl) (by kernel_rfl) ?_
      simp only [List.take_succ_cons, List.take_zero, List.drop_succ_cons, List.drop_zero]
      repeat (go_big_quiet_step (fail))
      refine wpQuiet_nil ?_
      rintro _ ⟨nq, rfl⟩
      go_wp2_with fail
      go_meet
      case rel => exact ⟨rfl, hfin2.out nq⟩
    obtain ⟨rfl, hE5⟩ := hcut
    obtain ⟨hb5, c5, h6⟩ := hE'.out _ _ hE5
    rw [<- hy'.out.2.2.1] at hb5 c5
    rw [<- hy'.out.2.2.2.1] at c5 h6
    rw [<- hz3'.out] at h6
    have h6' := Lib.hid h6
    have hok := hok'.out
    have hzb : ywh = true ∨ ywh = false := by cases ywh <;> simp
    have hzb : -1000000000000 <= z3 /\ z3 <= 1000000000000 := by
     have h1 := hok.sp
     have h2 := hrl.out.1
     have h3 := hrl.out.2
     have h4 := hz'.out
     have h5 := hyl'.out
     unfold Stp.s2 at h4
     rcases hzb with h | h
     ·rw [if_pos h] at hs3; omega
     ·rw [if_neg (by rw [h]; decide)] at hs3; omega
    have hnb := hok.now
    obtain ⟨yt, hyt⟩ : ∃ yt, yt = y.now := ⟨_, rfl⟩
    rw [<- hyt] at hnb
    have hyt' := Lib.hid hyt
    have hwr : IntKind.i64.wrap (yt + z3) = yt + z3 := IntWalk.i64_in _ (by omega)
    clear hE5 h6 hok hyt h5' hD4' hs3 c0 hk4 hb4
    go_wp2_with fail
    refine h6'.out.mono ?_
    rintro e w6 ⟨⟨zz, rfl⟩, hF6⟩
    obtain ⟨hk6, c19, f19, hG6⟩ := hF'.out _ _ hF6
    rw [<- hyt'.out] at c19 hG6
    rw [<- hz3'.out] at hG6
    obtain ⟨hb7, c7, h8, h9, h10⟩ := hG'.out _ _ hG6
    rw [<- hy'.out.2.2.1] at hb7 c7 h10
    rw [<- hy'.out.2.2.2.1] at c7 h8
    have h8' := Lib.hid h8
    have h9' := Lib.hid h9
    have h10' := Lib.hid h10
    clear hF6 hG6 h8 h9 h10 h6' hb5 c5
    go_wp2_with fail
    refine h8'.out.mono ?_
    rintro e w8 ⟨rfl, q8, rfl⟩
    cases ho : y.ov with
    | false =>
     have hZ := Lib.hid (h9'.out ho q8)
     clear h9' h10'
     go_wp2_with fail
     go_end0
     exact ⟨rfl, hZ.out⟩
    | true =>
     have hZ := Lib.hid (h10'.out ho q8)
     clear h9' h10'
     go_wp2_with fail
     refine hZ.out.mono ?_
     rintro e w9 ⟨rfl, hZ9⟩
     have hZ9' := Lib.hid hZ9
     clear hZ9
     go_wp2_with fail
     go_end0
     exact ⟨rfl, hZ9'.out⟩
end
theorem zIV {l : List Pil.En} {k k' : Nat} {x x' : Pil.En} (h : Pil.IsFirst l k x) (h' : Pil.IsFirst l k' x') : k = k' /\ x = x' := by
 have e : k = k' := by
  have h1 := (h.2 k' x' h'.1)
  have h2 := (h'.2 k x h.1)
  rcases Nat.lt_trichotomy k k' with hk | hk | hk
  ·have := h2.2 hk; omega
  ·exact hk
  ·have := h1.2 hk; omega
 subst e
 have := h.1
 rw [h'.1] at this
 exact ⟨rfl, (Option.some.inj this).symm⟩
theorem zHO {a : Int} : ∀ {out out2 : List Pil.Ev} {rs rs1 rs2 : List Pil.En}, Pil.Takes a rs out rs1 -> (∀ k x, Pil.IsFirst rs1 k x -> a < x.e.t) -> Pil.Takes a rs out2 rs2 -> (∀ k x, Pil.IsFirst rs2 k x -> a < x.e.t) -> out = out2 /\ rs1 = rs2
 | [], [], _, _, _, h1, _, h2, _ => ⟨rfl, (show _ = _ from h1).symm.trans h2⟩
 | [], e :: out2, rs, rs1, rs2, h1, s1, h2, _ => by
  obtain rfl : rs = rs1 := h1
  obtain ⟨k, x, g1, g2, g3, g4⟩ := h2
  have := s1 k x g1
  omega
 | e :: out, [], rs, rs1, rs2, h1, _, h2, s2 => by
  obtain rfl : rs = rs2 := h2
  obtain ⟨k, x, g1, g2, g3, g4⟩ := h1
  have := s2 k x g1
  omega
 | e :: out, e2 :: out2, rs, rs1, rs2, h1, s1, h2, s2 => by
  obtain ⟨k, x, g1, g2, g3, g4⟩ := h1
  obtain ⟨k', x', g1', g2', g3', g4'⟩ := h2
  obtain ⟨rfl, rfl⟩ := zIV g1 g1'
  obtain ⟨r1, r2⟩ := zHO g4 s1 g4' s2
  exact ⟨by rw [r1, <- g2, <- g2'], r2⟩
theorem zMV {j : Jz} (h : j.Ok) (z : Int) : (burnF j z).Ok := by
 have hg : 0 <= goneF j z /\ goneF j z <= j.rest := by
  unfold goneF
  have := h.r
  omega
 unfold burnF
 split
 ·exact h
 ·rename_i h0
  have hr := h.r
  have hl := h.l
  have hn := h.n
  have hu := h.u (by omega)
  refine ⟨by dsimp only; omega, by dsimp only; split <;> omega, ⟨hn.1, by dsimp only; split <;> omega⟩, fun hp => ?_⟩
  dsimp only at hp ⊢
  rw [if_neg (by omega)]
  exact hu
def KGo (w : World) (c : KC) (m : KM) (S : KS) (W : World) : Prop := ∃ m', KT w c m W m' S /\ m'.k = m.k
def meets (c : KC) (s : KS) (rs : List Pil.En) (out : List Pil.Ev) (i : Nat) : KS := (out.take i).foldl (meetF c) { s with ag := rs }
theorem zFK (c : KC) (s : KS) (rs : List Pil.En) {out : List Pil.Ev} {i : Nat} {x : Pil.Ev} (h : out[i]? = some x) : meets c s rs out (i + 1) = meetF c (meets c s rs out i) x := by
 unfold meets
 rw [List.take_add_one, List.foldl_append, h]
 rfl
def nowS (s : KS) (z : Int) : KS := { s with now := s.now + z }
def spanZ (x : Bj) (wh : Bool) (sp : Int) : Int := if wh = true then min (min sp x.j.rest) x.j.left else min sp x.j.rest
def withE (e : Et) (wh : Bool) (z : Int) : Et := if wh = true then { e with wi := e.wi + z } else e
def withS (s : KS) (p : Nat) (e : Et) (wh : Bool) (z : Int) : KS := if wh = true then { s with ents := s.ents.set p (withE e wh z) } else s
def burnS (s : KS) (i : Nat) (x : Bj) (z : Int) : KS := { s with jobs := s.jobs.set i { x with j := burnF x.j z } }
section
variable {w w' : World} {c : KC} {m : KM} {s : KS}
theorem KGo.nowr {S : KS} (h : KGo w c m S w') (z : Int) : KGo w c m (nowS S z) (w'.setCell ⟨m.k, 19, none⟩ (.int .i64 (S.now + z))) := by
 obtain ⟨m1, k1, e1⟩ := h
 rw [<- e1]
 exact ⟨m1, k1.trans (k1.1.nowr _), e1⟩
def Jt (w : World) (c : KC) (m : KM) (y0 : Stp) (i : Nat) (S : KS) (y : Stp) (W : World) : Prop :=
 ∃ m1 B, KT w c m W m1 S /\ m1.k = m.k /\ m1.js[i]? = some B /\ y = { y0 with b := B.b, jb := B.jb }
theorem KAt.topV {i : Nat} {B : Bm} (h : KAt w c m s) (hn : s.jobs.length = i + 1) (hB : m.js[i]? = some B) : topV m.js = ptr B.b := by
 unfold Krn.topV
 rw [List.getLast?_eq_getElem?, h.jlen, hn, Nat.add_sub_cancel, hB]
set_option maxHeartbeats 1000000 in
theorem zPF (h : KAt w c m s) {out : List Pil.Ev} {rs : List Pil.En} (hT : Pil.Takes s.now s.ag out rs) (hS : ∀ k x, Pil.IsFirst rs k x -> s.now < x.e.t) (hag : s.ag.length <= 900)
  (hev : ∀ i x, out[i]? = some x -> EvOk c (meets c s rs out i) x /\ (meets c s rs out i).tn <= 1000000 /\ (meets c s rs out i).ag.length <= 900)
  {S2 : KS} {wh : Bool} (hch : ∀ W m1, KAt W c m1 (meets c s rs out out.length) -> Calls Tryz.prog 102 #[ptr m1.k] W (fun e w' => e = .returned (.bool wh) /\ KGo W c m1 S2 w'))
  {till : Int} (hnow : 0 <= S2.now /\ S2.now <= 1000000000) (htill : 0 <= till /\ till <= 1000000000) (hags : ∀ x ∈ S2.ag, 0 <= x.e.t /\ x.e.t <= 1000000000)
  {S' : KS}
  (hz : S2.jobs = [] -> S' = nowS S2 (quietZ S2 till))
  (hjob : ∀ i x, S2.jobs.length = i + 1 -> S2.jobs[i]? = some x -> ∃ S3 x3 e3,
   (∀ W m1 B, KAt W c m1 S2 -> m1.js[i]? = some B -> Calls Tryz.prog 104 #[ptr m1.k, ptr B.b] W (KEnd W c m1 S3 (.tuple #[]))) /\
   S3.jobs.length = i + 1 /\ S3.jobs[i]? = some x3 /\ S3.ents[x3.p]? = some e3 /\ (-1000000000000 <= e3.wi /\ e3.wi <= 1000000000000) /\ S3.now = S2.now /\
   (overB (burnF x3.j (spanZ x3 wh (quietZ S2 till))) = false -> S' = nowS (burnS (withS S3 x3.p e3 wh (spanZ x3 wh (quietZ S2 till))) i x3 (spanZ x3 wh (quietZ S2 till))) (spanZ x3 wh (quietZ S2 till))) /\
   (overB (burnF x3.j (spanZ x3 wh (quietZ S2 till))) = true -> ∃ (fs : List Fr) (fr : Fr), S3.fs = fs ++ [fr] /\ fr.who = (x3.p : Int) /\ fs.length <= 1000 /\ c.nl <= 4096 /\ i <= 1000 /\ S3.tr.length <= 1000000000 /\
    S' = endF (nowS (burnS (withS S3 x3.p e3 wh (spanZ x3 wh (quietZ S2 till))) i x3 (spanZ x3 wh (quietZ S2 till))) (spanZ x3 wh (quietZ S2 till))) x3.p fs i (withE e3 wh (spanZ x3 wh (quietZ S2 till))) (burnF x3.j (spanZ x3 wh (quietZ S2 till))).fault)) :
  Calls Tryz.prog 54 #[ptr m.k, .int .i64 till] w (ResV (KGo w c m S')) := by
 have hq : -1000000000000 <= quietZ S2 till /\ quietZ S2 till <= 1000000000000 := by
  unfold quietZ
  split
  ·omega
  ·rename_i hne
   obtain ⟨x, hx, e⟩ := zCM hne
   have := hags x hx
   omega
 obtain ⟨A, hAd⟩ : ∃ A : List Pil.Ev -> Value -> Nat -> World -> Prop, ∀ o v i W, A o v i W ↔ (o = out /\ ∃ m1 g, KT w c m W m1 (meets c s rs out i) /\ m1.k = m.k /\ Win W 40 5 v g out.length (rowC Pil.Ev.cells out) /\ ∀ x, g = some x -> x < W.heap.size /\ ¬ kfp c m1 x) := ⟨_, fun _ _ _ _ => Iff.rfl⟩
 have hol : out.length <= 900 := by have := hT.len; omega
 have htake : ∀ W, Only (fun _ => False) w W -> Calls Tryz.prog 100 #[ptr m.b6, .int .i64 s.now] W (fun e w' => ∃ o p cap, e = .returned (.slice p o.length cap) /\ A o (.slice p o.length cap) 0 w' /\ w'.cell? ⟨m.k, 11, none⟩ = some (ptr m.b6) /\ w'.cell? ⟨m.k, 19, none⟩ = some (.int .i64 s.now)) := fun W hO => by
  have hW := h.new hO
  refine (Pil.take_any (show Pil.Ag W m.b6 m.o6 s.tn s.ag from hW.p 8) hag s.now).mono ?_
  rintro e w1 ⟨o, rs2, p, cap, g, rfl, hT2, hS2, hw, hg, hAg, hO1⟩
  obtain ⟨rfl, rfl⟩ := zHO hT hS hT2 hS2
  have k1 := hW.agd_ hAg hO1 (fun k hk => .inl hk)
  have kk := (h.ktNew hO).trans k1
  refine ⟨out, p, cap, rfl, (hAd _ _ _ _).2 ⟨rfl, m, g, kk, rfl, hw, fun x hx => ⟨hw.lt x hx, fun hk => ?_⟩⟩, zAA kk.1.root (i := 11) rfl, zAA kk.1.root (i := 19) rfl⟩
  have := hg x hx
  have := hW.klt x hk
  omega
 have hA : ∀ o v i W, A o v i W -> o.length <= 900 /\ m.k < W.heap.size /\ ∃ g, Win W 40 5 v g o.length (rowC Pil.Ev.cells o) := fun o v i W hA => by
  obtain ⟨rfl, m1, g, k1, e1, hw, hg⟩ := (hAd _ _ _ _).1 hA
  exact ⟨hol, e1 ▸ (k1.1.lt 0 m1.k rfl).1, g, hw⟩
 have hmeet : ∀ o v i x W W', o[i]? = some x -> A o v i W -> Only (fun _ => False) W W' -> Calls Tryz.prog 101 #[ptr m.k, x.val] W' (fun e w' => e = .returned (.tuple #[]) /\ A o v (i + 1) w') := fun o v i x W W' hx hA hO => by
  obtain ⟨rfl, m1, g, k1, e1, hw, hg⟩ := (hAd _ _ _ _).1 hA
  obtain ⟨g1, g2, g3⟩ := hev i x hx
  have k2 := k1.new hO
  rw [<- e1]
  refine (zPE k2.1 g1 g2 g3).mono ?_
  rintro e w9 ⟨he, m9, k9, e9, f9⟩
  refine ⟨he, (hAd _ _ _ _).2 ⟨rfl, m9, g, ?_, e9.trans e1, ?_, ?_⟩⟩
  ·rw [zFK c s rs hx]; exact k2.trans k9
  ·exact (hw.kept hO (fun _ _ h => h)).kept k9.2.1 (fun x hx hk => (hg x hx).2 hk)
  ·intro x hx
   obtain ⟨q1, q2⟩ := hg x hx
   have hs2 := Nat.lt_of_lt_of_le q1 hO.size
   exact ⟨Nat.lt_of_lt_of_le hs2 k9.2.1.size, k9.not hs2 q2⟩
 have hch2 : ∀ o v W, A o v o.length W -> Calls Tryz.prog 102 #[ptr m.k] W (fun e w' => e = .returned (.bool wh) /\ KGo w c m S2 w') := fun o v W hA => by
  obtain ⟨rfl, m1, g, k1, e1, hw, hg⟩ := (hAd _ _ _ _).1 hA
  have := hch W m1 k1.1
  rw [e1] at this
  refine this.mono ?_
  rintro e w9 ⟨he, m9, k9, e9⟩
  exact ⟨he, m9, k1.trans k9, e9.trans e1⟩
 have c11 := zAA h.root (i := 11) rfl
 have c19 := zAA h.root (i := 19) rfl
 by_cases hj0 : S2.jobs = []
 ·refine zHN (A := A) (N := fun sp now W => sp = quietZ S2 till /\ now = S2.now /\ KGo w c m S2 W) (B := fun _ _ => False) (C := fun _ _ => False) (D := fun _ _ => False) (E := fun _ _ => False) (F := fun _ _ => False) (G := fun _ _ => False) (h.lt 0 m.k rfl).1 c11 c19 htake hA hmeet
   (fun o v W hA => (hch2 o v W hA).mono fun e w9 ⟨he, hk⟩ => .inl ⟨wh, _, _, he, rfl, rfl, hk⟩) ?_ (fun _ _ h => h.elim) (fun _ _ h => h.elim) (fun _ _ h => h.elim) (fun _ _ h => h.elim) (fun _ _ h => h.elim) (fun _ _ h => h.elim) (fun _ _ h => h.elim) (fun _ _ h => h.elim)
  rintro sp now W ⟨rfl, rfl, m1, k1, e1⟩
  rw [<- e1]
  refine ⟨zHL k1.1 till hnow htill hags, (zDI k1.1).mono ?_⟩
  rintro e w9 ⟨he, n, rfl⟩
  have hjs : m1.js = [] := List.eq_nil_of_length_eq_zero (by rw [k1.1.jlen, hj0]; rfl)
  have k2 := k1.new ((Only.refl (fun _ => False) W).drewN n)
  refine ⟨by rw [he, hjs]; rfl, (k2.1.lt 0 m1.k rfl).1, zAA k2.1.root (i := 19) rfl, zAC k2.1.root 19, IntWalk.i64_in _ (by omega), ?_⟩
  rw [hz hj0]
  have := KGo.nowr (m := m) ⟨m1, k2, e1⟩ (quietZ S2 till)
  rw [e1]
  exact this
 ·obtain ⟨i, hi⟩ : ∃ i, S2.jobs.length = i + 1 := ⟨S2.jobs.length - 1, (Nat.sub_add_cancel (List.length_pos_iff.2 hj0)).symm⟩
  obtain ⟨x, hx⟩ : ∃ x, S2.jobs[i]? = some x := ⟨_, List.getElem?_eq_getElem (by omega)⟩
  obtain ⟨S3, x3, e3, hbeg, hi3, hx3, he3, hwi, hn3, hno, hov⟩ := hjob i x hi hx
  obtain ⟨z, hzz⟩ : ∃ z, z = spanZ x3 wh (quietZ S2 till) := ⟨_, rfl⟩
  rw [<- hzz] at hno hov
  have hy0 : ∃ y0 : Stp, y0.sp = quietZ S2 till /\ y0.wh = wh /\ y0.p = x3.p /\ y0.r = x3.j.rest /\ y0.left = x3.j.left /\ y0.now = S2.now /\ y0.wi = e3.wi /\ y0.ar = x3.j.armed /\ y0.ov = overB (burnF x3.j z) := ⟨⟨_, _, 0, 0, _, _, _, _, _, _, _⟩, rfl, rfl, rfl, rfl, rfl, rfl, rfl, rfl, rfl⟩
  obtain ⟨y0, y1, y2, y3, y4, y5, y6, y7, y8, y9⟩ := hy0
  have hs3 : ∀ b jb, ({ y0 with b := b, jb := jb } : Stp).s3 = z := fun b jb => by
   rw [hzz]
   unfold Stp.s3 Stp.s2 spanZ
   rw [y1, y2, y4, y5]
  obtain ⟨S4, h4⟩ : ∃ S4, S4 = withS S3 x3.p e3 wh z := ⟨_, rfl⟩
  obtain ⟨S5, h5⟩ : ∃ S5, S5 = burnS S4 i x3 z := ⟨_, rfl⟩
  obtain ⟨S6, h6⟩ : ∃ S6, S6 = nowS S5 z := ⟨_, rfl⟩
  rw [<- h4, <- h5, <- h6] at hno hov
  have hx4 : S4.jobs[i]? = some x3 := by rw [h4]; unfold withS; split <;> exact hx3
  have hl4 : S4.jobs.length = i + 1 := by rw [h4]; unfold withS; split <;> exact hi3
  have hx5 : S5.jobs[i]? = some { x3 with j := burnF x3.j z } := by rw [h5]; exact List.getElem?_set_self (by omega)
  have hl5 : S5.jobs.length = i + 1 := by rw [h5]; show (S4.jobs.set i _).length = _; rw [List.length_set]; exact hl4
  have hn5 : S5.now = S2.now := by rw [h5, <- hn3]; show S4.now = _; rw [h4]; unfold withS; split <;> rfl
  have he6 : S6.ents[x3.p]? = some (withE e3 wh z) := by
   rw [h6, h5]
   show S4.ents[x3.p]? = _
   rw [h4]
   unfold withS withE
   have hl := (List.getElem?_eq_some_iff.1 he3).1
   cases wh with
   | false => exact he3
   | true => exact List.getElem?_set_self hl
  refine zHN (A := A) (N := fun _ _ _ => False) (B := Jt w c m y0 i S2) (C := Jt w c m y0 i S2) (D := Jt w c m y0 i S3) (E := Jt w c m y0 i S4) (F := Jt w c m y0 i S5) (G := Jt w c m y0 i S6) (h.lt 0 m.k rfl).1 c11 c19 htake hA hmeet
   ?ch (fun _ _ _ h => h.elim) ?B ?C ?D ?D1 ?D2 ?E ?F ?G
  case ch =>
   refine fun o v W hA => (hch2 o v W hA).mono ?_
   rintro e w9 ⟨he, m1, k1, e1⟩
   obtain ⟨B, hB⟩ : ∃ B, m1.js[i]? = some B := ⟨_, List.getElem?_eq_getElem (by rw [k1.1.jlen, hi]; exact Nat.lt_succ_self i)⟩
   exact .inr ⟨{ y0 with b := B.b, jb := B.jb }, by rw [he]; show _ = Ending.returned (.bool y0.wh); rw [y2], m1, B, k1, e1, hB, rfl⟩
  case B =>
   rintro y W ⟨m1, B, k1, e1, hB, hy⟩
   have p1 : y.sp = quietZ S2 till := by rw [hy]; exact y1
   have p6 : y.now = S2.now := by rw [hy]; exact y6
   have p7 : y.wi = e3.wi := by rw [hy]; exact y7
   have pb : y.b = B.b := by rw [hy]
   refine ⟨⟨by rw [p1]; exact hq, by rw [p6]; omega, by rw [p7]; exact hwi⟩, ?_, ?_⟩
   ·rw [<- e1, p1]
    exact zHL k1.1 till hnow htill hags
   ·rw [<- e1]
    refine (zDI k1.1).mono ?_
    rintro e w9 ⟨he, n, rfl⟩
    exact ⟨by rw [he, k1.1.topV hi hB, pb], m1, B, k1.new ((Only.refl (fun _ => False) W).drewN n), e1, hB, hy⟩
  case C =>
   rintro y W ⟨m1, B, k1, e1, hB, rfl⟩
   rw [<- e1]
   refine (hbeg W m1 B k1.1 hB).mono ?_
   rintro e w9 ⟨he, m9, k9, e9, f9⟩
   exact ⟨he, m9, B, k1.trans k9, e9.trans e1, by rw [f9]; exact hB, rfl⟩
  case D =>
   rintro y W ⟨m1, B, k1, e1, hB, hy⟩
   obtain ⟨hb, hJ, hOk⟩ := k1.1.begun hB hx3
   have p4 : y.r = x3.j.rest := by rw [hy]; exact y4
   have p5 : y.left = x3.j.left := by rw [hy]; exact y5
   have p8 : y.ar = x3.j.armed := by rw [hy]; exact y8
   have pb : y.b = B.b := by rw [hy]
   have pj : y.jb = B.jb := by rw [hy]
   rw [p4, p5, p8, pb, pj, <- e1]
   exact ⟨(k1.1.lt 0 m1.k rfl).1, zAG hb, zAA hb (i := 0) rfl, zHD hJ, zL4 hJ, hOk.r.1, hOk.l.1⟩
  case D1 =>
   rintro y W ⟨m1, B, k1, e1, hB, rfl⟩ hw
   have hw' : wh = false := y2.symm.trans hw
   refine ⟨m1, B, ?_, e1, hB, rfl⟩
   rw [h4, hw']
   exact k1
  case D2 =>
   rintro y W ⟨m1, B, k1, e1, hB, hy⟩ hw
   have hw' : wh = true := by rw [<- hw, hy]; exact y2.symm
   obtain ⟨g, off, cap, n, g1, g2, g3, g4, g5, g6, g7, g8, g9⟩ := k1.1.entry he3
   obtain ⟨hb, hJ, hOk⟩ := k1.1.begun hB hx3
   have p3 : y.p = x3.p := by rw [hy]; exact y3
   have p7 : y.wi = e3.wi := by rw [hy]; exact y7
   have pz : y.s3 = z := by rw [hy]; exact hs3 _ _
   have pb : y.b = B.b := by rw [hy]
   rw [p3, p7, pz, pb, <- e1]
   refine ⟨g, off, n, cap, g4, g5, g7, zAA hb (i := 1) rfl, g8 9 _ rfl, g9 _, fun W' hO => ⟨m1, B, ?_, e1, hB, hy⟩⟩
   rw [h4, hw']
   have k2 := k1.new hO
   exact k2.trans (k2.1.entSet (j := 9) (y := { e3 with wi := e3.wi + z }) (u := .int .i64 (e3.wi + z)) he3 (by decide) rfl g2)
  case E =>
   rintro y W ⟨m1, B, k1, e1, hB, rfl⟩
   obtain ⟨hb, hJ, hOk⟩ := k1.1.begun hB hx4
   rw [hs3]
   refine ⟨zAG hb, zAA hb (i := 0) rfl, (zL6 hJ hOk z).mono ?_⟩
   rintro e w9 ⟨he, hJ9, hO9⟩
   refine ⟨⟨_, he⟩, m1, B, ?_, e1, hB, rfl⟩
   rw [h5]
   exact k1.trans (k1.1.bjJob hB hx4 hJ9 (zMV hOk z) hO9)
  case F =>
   rintro y W ⟨m1, B, k1, e1, hB, hy⟩
   have p6 : y.now = S5.now := by rw [hy, hn5]; exact y6
   have pz : y.s3 = z := by rw [hy]; exact hs3 _ _
   rw [pz, p6, <- e1]
   refine ⟨(k1.1.lt 0 m1.k rfl).1, zAA k1.1.root (i := 19) rfl, zAC k1.1.root 19, ⟨m1, B, ?_, e1, hB, hy⟩⟩
   rw [h6]
   exact k1.trans (k1.1.nowr _)
  case G =>
   rintro y W ⟨m1, B, k1, e1, hB, rfl⟩
   have hx6 : S6.jobs[i]? = some { x3 with j := burnF x3.j z } := by rw [h6]; exact hx5
   have hl6 : S6.jobs.length = i + 1 := by rw [h6]; exact hl5
   obtain ⟨hb, hJ, hOk⟩ := k1.1.begun hB hx6
   rw [show ({ y0 with b := B.b, jb := B.jb } : Stp).ov = _ from y9, <- e1]
   refine ⟨zAG hb, zAA hb (i := 0) rfl, zCD hJ, fun ho q => ?_, fun ho q => ?_⟩
   ·rw [hno ho]
    exact ⟨m1, k1.new ((Only.refl (fun _ => False) W).drewN q), e1⟩
   ·obtain ⟨fs, fr, q1, q2, q3, q4, q5, q6, q7⟩ := hov ho
    have hfs : S6.fs = fs ++ [fr] := by rw [h6, h5, <- q1]; show S4.fs = _; rw [h4]; unfold withS; split <;> rfl
    have htr : S6.tr.length <= 1000000000 := by rw [h6, h5]; show S4.tr.length <= _; rw [h4]; unfold withS; split <;> exact q6
    have k2 := k1.new ((Only.refl (fun _ => False) W).drewN q)
    refine (zRX k2.1 hl6 hB hx6 he6 hfs q2 q3 q4 q5 htr).mono ?_
    rintro e w9 ⟨he, m9, k9, e9, -⟩
    rw [q7]
    exact ⟨he, m9, k2.trans k9, e9.trans e1⟩
end
end Krn
end Go.Proofs.YtkggimgechhjnaaGreatDoor
