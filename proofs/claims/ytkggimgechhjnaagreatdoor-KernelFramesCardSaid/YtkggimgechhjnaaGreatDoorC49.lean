import Derived.Test.YtkggimgechhjnaaGreatDoorC48
import Derived.SizedLaws
import Derived.Handed
import Derived.Lib.LaidTab
import Derived.Stop.Joined
import Derived.Deep.Slices
import Derived.ChangeSame
namespace Go.Proofs.YtkggimgechhjnaaGreatDoor
namespace Krn
open Go Go.RowKit Go.Maps Ring Band
def TrueEnd (w : World) (e : Ending) (w' : World) : Prop := e = .returned (.bool true) /\ Only (fun _ => False) w w'
theorem zE6 {w w' : World} (hw : Words w) (h : Only (fun _ => False) w w') : Words w' := fun k s n h1 h2 => ⟨h.cell (hw k s n h1 h2).1 (fun h => h), h.cell (hw k s n h1 h2).2 (fun h => h)⟩
structure Ask (w : World) (c : ConfV) (d : ConfL) (pl : Tks) (A : Option Addr) (n cap : Nat) (N : Int) (cv : Value) (F : Bool) (CZ : Int) : Prop where
 fx : ∀ W, Only (fun _ => False) w W -> Calls Tryz.prog 9 #[] W (TrueEnd W)
 few : ∀ W, Only (fun _ => False) w W -> Calls Tryz.prog 10 #[cv, .slice A n cap, .int .i64 N] W (GrowV (.bool F) W)
 chk : F = true -> ∀ W, Only (fun _ => False) w W -> Calls Tryz.prog 11 #[cv] W (GrowI CZ W)
 new : F = true -> CZ = 0 -> ∀ W, Only (fun _ => False) w W -> Calls Tryz.prog 12 #[cv] W (KLNew W c d pl)
theorem zSC {w : World} (hw : Words w) {c : ConfV} {d : ConfL} {pl : Tks} (hC : ConfIn w c d pl) (A : Option Addr) (n cap : Nat) (N : Int) : Ask w c d pl A n cap N c.val (few18 c pl.ts n N) (confZ c d pl) := by
 have hsm : few18 c pl.ts n N = true -> fewB c pl.ts = true := fun h => by
  unfold few18 at h
  rw [Bool.and_eq_true] at h
  exact h.1
 refine ⟨fun W hO => zI4 W (zE6 hw hO), fun W hO => zNO (hC.new hO) A n cap N, fun hF W hO => ?_, fun hF hZ W hO => ?_⟩
 ·exact zFD ((hC.new hO).conf (hsm hF))
 ·exact zQB (zE6 hw hO) ((hC.new hO).conf (hsm hF)) hZ
theorem zSD {us : List (TaskV × List Opn)} {pl : Tks} (h : SameT us pl) {t : Nat} {tv : TaskV} {ops : List Opn} (ht : us[t]? = some (tv, ops)) : ∃ t0, pl.ts[t]? = some t0 /\ t0.fr = tv.fr := by
 have hlt := (List.getElem?_eq_some_iff.1 ht).1
 obtain ⟨⟨t0, l⟩, hp⟩ : ∃ y, pl[t]? = some y := ⟨_, List.getElem?_eq_getElem (by rw [<- h.1]; exact hlt)⟩
 obtain ⟨o, ho⟩ := h.2 t t0 l hp
 rw [ht] at ho
 cases ho
 exact ⟨t0, by unfold Tks.ts; rw [List.getElem?_map, hp]; rfl, rfl⟩
theorem zSE (c : KC) (s : KS) (x : Pil.Ev) : (evF c s x).now = s.now := by
 unfold evF
 split <;> rfl
set_option maxRecDepth 100000 in
set_option maxHeartbeats 8000000 in
theorem zK2 {w : World} (hw : Words w) {c : ConfV} {d : ConfL} {pl : Tks} (hC : ConfIn w c d pl) {A : Option Addr} {n cap : Nat} {l : List Pil.Ev} (hl : EvsAt w A l) (hln : l.length = n) {u : Nat} (hu : u <= 65535) :
  Calls Tryz.prog 6 #[c.val, .slice A n cap, .int .u16 u] w (TrueEnd w) := by
 obtain ⟨q, hq⟩ : ∃ q, q = w.heap.size := ⟨_, rfl⟩
 obtain ⟨W2, hW2⟩ : ∃ W2, W2 = w.alloc (.cells c.cells.toArray 27) := ⟨_, rfl⟩
 have hO2 : Only (fun _ => False) w W2 := by rw [hW2]; exact (Only.refl _ w).alloc _
 have b0 : W2.heap[q]? = some (.cells c.cells.toArray 27 (0, 0)) := by rw [hW2]; exact zAB _ _ hq.symm
 have hq' := Lib.hid hq
 have hcy := Lib.hid (fun W (ho : Only (fun _ => False) W2 W) => zQC (ho.heap b0 (fun h => h)))
 have hev := Lib.hid (fun W (ho : Only (fun _ => False) W2 W) => (hl.new hO2).new ho)
 have hCI := Lib.hid (fun W (ho : Only (fun _ => False) W2 W) => (hC.new hO2).new ho)
 obtain ⟨N, hN⟩ : ∃ N : Nat, N = u % 700 := ⟨_, rfl⟩
 have hN7 : N < 700 := by omega
 have hask := zSC (zE6 hw hO2) (hC.new hO2) A n cap (N : Int)
 obtain ⟨cv, hcv⟩ : ∃ cv, cv = c.val := ⟨_, rfl⟩
 rw [<- hcv] at hask ⊢
 obtain ⟨F, hF⟩ : ∃ F, F = few18 c pl.ts n N := ⟨_, rfl⟩
 obtain ⟨CZ, hCZ⟩ : ∃ CZ, CZ = confZ c d pl := ⟨_, rfl⟩
 rw [<- hF, <- hCZ] at hask
 obtain ⟨kfx0, kfe0, kch0, knw0⟩ := hask
 have kfx := Lib.hid kfx0
 have kfe := Lib.hid kfe0
 have kch := Lib.hid kch0
 have knw := Lib.hid knw0
 obtain ⟨Z, hZ⟩ : ∃ Z, Z = TrueEnd w := ⟨_, rfl⟩
 rw [<- hZ]
 have hyes := Lib.hid (fun W (ho : Only (fun _ => False) W2 W) => show Z (.returned (.bool true)) W from by rw [hZ]; exact ⟨rfl, hO2.trans' ho⟩)
 have hln' := Lib.hid hln
 have hFF := Lib.hid hF
 have hCZ' := Lib.hid hCZ
 have hNu : ((u : Int) % 700) = (N : Int) := by omega
 unfold ConfV.val at hcv
 subst hcv
 unfold CYv at hcy
 unfold ConfV.cells at hW2
 have hW2' := Lib.hid hW2
 clear hC hw hl hq hO2 b0 hW2 hF hCZ hZ kfx0 kfe0 kch0 knw0 hln hN
 obtain ⟨c0, wy, h, mi, ⟨mA, mn, mc⟩, g, ⟨cA, cn, cc⟩, ⟨eA, en, ec⟩, ⟨tA, tn, tc⟩, ⟨lA, ln, lc⟩⟩ := c
 dsimp only at *
 go_enter Tryz.func6, Tryz.ntmps6
 go_upto_region 1 with fail
 rw [<- hq'.out]
 rw [<- hW2'.out]
 have qfx := Lib.hid (kfx.out W2 (Only.refl _ _))
 go_wp2_with fail
 refine qfx.out.mono ?_
 rintro e w3 ⟨rfl, ho⟩
 have hO3 := Lib.hid ho
 obtain ⟨d0, d1, d2, d3, d4, d5, d6, d7, d8, d9, dl⟩ := hcy.out w3 ho
 clear ho qfx kfx
 go_upto_region 4 with fail
 have qfe := Lib.hid (kfe.out w3 hO3.out)
 clear kfe
 go_wp2_with fail
 refine qfe.out.mono ?_
 rintro e w4 ⟨rfl, ho⟩
 have hO4 := Lib.hid (hO3.out.trans' ho)
 clear ho qfe d0 d1 d2 d3 d4 d5 d6 d7 d8 d9 dl
 obtain ⟨d0, d1, d2, d3, d4, d5, d6, d7, d8, d9, dl⟩ := hcy.out w4 hO4.out
 clear hO3
 cases F with
 | false =>
  have hy := Lib.hid (hyes.out w4 hO4.out)
  go_wp2
  exact hy.out
 | true =>
  have qch := Lib.hid (kch.out rfl w4 hO4.out)
  clear kch
  go_wp2_with fail
  refine qch.out.mono ?_
  rintro e w5 ⟨rfl, ho⟩
  have hO5 := Lib.hid (hO4.out.trans' ho)
  clear ho qch d0 d1 d2 d3 d4 d5 d6 d7 d8 d9 dl hO4
  by_cases hz : CZ = 0
  ·subst hz
   obtain ⟨d0, d1, d2, d3, d4, d5, d6, d7, d8, d9, dl⟩ := hcy.out w5 hO5.out
   have qnw := Lib.hid (knw.out (by trivial) (by trivial) w5 hO5.out)
   clear knw
   go_wp2_with fail
   refine qnw.out.mono ?_
   rintro e w6 ⟨k, us, mo, rfl, hK, hS, hmo⟩
   clear qnw d0 d1 d2 d3 d4 d5 d6 d7 d8 d9 dl
   unfold ptr
   have hfew := hFF.out
   unfold few18 at hfew
   have hfew2 := hfew.symm
   simp only [Bool.and_eq_true, decide_eq_true_eq] at hfew2
   obtain ⟨hfb, -, -, hn40, -⟩ := hfew2
   have hcfg := zNN (mo := mo) ((hCI.out w5 hO5.out).conf hfb) hCZ'.out.symm hS
   obtain ⟨KK, hcc⟩ : ∃ KK, KK = kc ⟨c0, wy, h, mi, ⟨mA, mn, mc⟩, g, ⟨cA, cn, cc⟩, ⟨eA, en, ec⟩, ⟨tA, tn, tc⟩, ⟨lA, ln, lc⟩⟩ d pl us mo := ⟨_, rfl⟩
   have hts := Lib.hid (show ∀ (t : Nat) tv ops, KK.ts[t]? = some (tv, ops) -> ∃ t0, pl.ts[t]? = some t0 /\ t0.fr = tv.fr from by
    intro t tv ops ht
    rw [hcc] at ht
    exact zSD hS ht)
   rw [<- hcc] at hK hcfg
   have hcfg' := Lib.hid hcfg
   have hK0 := Lib.hid hK
   clear hK hS hmo hfew hfb hcc hcfg hFF hCZ'
   go_upto_region 7 with fail
   go_wp2
   go_loopw [40] (fun i wr => ∃ (j : Nat) (S : KS), j <= n /\ i = .int .i64 j /\ Hid (KL w5 KK k S wr) /\ Hid (KOk KK j S /\ S.now = 0)) (fun i _ => n - (intOf i).toNat)
   case atStart => exact ⟨0, ks0, Nat.zero_le _, rfl, hK0, Lib.hid ⟨KOk.first KK, rfl⟩⟩
   case round =>
    obtain ⟨j, S, hj, rfl, hKj, hSj⟩ := hrel
    by_cases hjn : j < n
    ·have hjn' : (j : Int) < (n : Int) := by omega
     obtain ⟨x, hx⟩ : ∃ x, l[j]? = some x := ⟨_, List.getElem?_eq_getElem (by have := hln'.out; omega)⟩
     obtain ⟨b, off, rfl, hb, x0, x1, x2, x3, x4⟩ := (hev.out wr (hO5.out.trans' hKj.out.only)) j x hx
     have qe := Lib.hid (zGP (hKj.out.new ((Only.refl _ wr).alloc (.cells #[.int .i64 x.t, .int .i64 x.k, .int .i64 x.a, .int .i64 x.b, .int .i64 x.c] 40))) x (by have h1 := hSj.out.1.n; have h2 := hSj.out.2; rw [h2] at h1; have h3 : (0 : Int).toNat = 0 := rfl; omega))
     unfold Pil.Ev.val ptr at qe
     have hSx := Lib.hid (show KOk KK (j + 1) (evF KK S x) /\ (evF KK S x).now = 0 from ⟨hSj.out.1.event x, by rw [zSE]; exact hSj.out.2⟩)
     clear hKj hSj hx
     go_wp2_with fail
     refine qe.out.mono ?_
     rintro e w7 ⟨rfl, hK7⟩
     have hK7' := Lib.hid hK7
     clear hK7 qe x0 x1 x2 x3 x4 hb
     go_wp2_with fail
     go_roundw
     case rel => exact ⟨j + 1, evF KK S x, by omega, by go_num, hK7', hSx⟩
     case measure => simp [intOf]; omega
    ·obtain rfl : j = n := by omega
     have hS0 := Lib.hid (show KOk KK j S /\ S.now <= ((0 : Nat) : Int) from ⟨hSj.out.1, by rw [hSj.out.2]; exact Int.le_refl _⟩)
     clear hSj hev hln'
     go_wp2
     go_loopw [12] (fun a wr => ∃ (m : Nat) (S : KS), m <= 1500 /\ a = .int .i64 m /\ Hid (KL w5 KK k S wr) /\ Hid (KOk KK j S /\ S.now <= (m : Int))) (fun a _ => N + 1 - (intOf a).toNat)
     case atStart => exact ⟨0, S, by omega, rfl, hKj, hS0⟩
     case round =>
      obtain ⟨m, S2, hm15, rfl, hKm, hSm⟩ := hrel
      by_cases hmN : m <= N
      ·have hmN' : (m : Int) <= (N : Int) := by omega
       have h0 := hSm.out.1.i.n0
       have qr := Lib.hid (zQA hKm.out hSm.out.1 hcfg'.out (by omega) hSm.out.2 (by omega))
       obtain ⟨hS3, hn3⟩ := zNI hcfg'.out ((m : Int) - S2.now).toNat S2 hSm.out.1 (by have := hSm.out.2; omega)
       obtain ⟨S3, hS3e⟩ : ∃ S3, S3 = runT KK ((m : Int) - S2.now).toNat S2 := ⟨_, rfl⟩
       rw [<- hS3e] at qr hS3 hn3
       have hS3' := Lib.hid hS3
       have hn3' := Lib.hid (show S3.now = (m : Int) by have := hSm.out.2; omega)
       unfold ptr at qr
       clear hKm hSm hS3e hS3 hn3 h0
       go_wp2_with fail
       refine qr.out.mono ?_
       rintro e w7 ⟨rfl, hK7⟩
       have hel : S3.ents.length <= 1000000000 := by have := hS3'.out.i.el; have := hS3'.out.i.n0; omega
       have hfl : S3.fs.length <= 64 := by have := hS3'.out.i.si.len; have := hS3'.out.i.si.few hcfg'.out; omega
       have qp := Lib.hid (zFM hK7 hel)
       have hK7' := Lib.hid hK7
       unfold ptr at qp
       clear hK7 qr
       go_wp2_with fail
       refine qp.out.mono ?_
       rintro e w8 ⟨v8, g8, rfl, hW8, -, hO8⟩
       obtain ⟨p8, cap8, rfl, -, -⟩ := hW8.form
       have hK8 := Lib.hid (hK7'.out.new hO8)
       have hW8' := Lib.hid hW8
       have qf := Lib.hid (zNM hK8.out (by omega))
       unfold ptr at qf
       clear hW8 hO8 hK7' qp
       go_wp2_with fail
       refine qf.out.mono ?_
       rintro e w9 ⟨v9, g9, rfl, hW9, -, hO9⟩
       obtain ⟨p9, cap9, rfl, -, -⟩ := hW9.form
       have hK9 := Lib.hid (hK8.out.new hO9)
       have hR9 := Lib.hid (hW8'.out.kept hO9 (fun _ _ h => h))
       have hF9 := Lib.hid hW9
       obtain ⟨rl, hrl⟩ : ∃ rl, rl = S3.ents.length := ⟨_, rfl⟩
       obtain ⟨fl, hfll⟩ : ∃ fl, fl = S3.fs.length := ⟨_, rfl⟩
       rw [<- hrl] at hR9 ⊢
       rw [<- hfll] at hF9 hfl ⊢
       have hrl' := Lib.hid hrl
       have hfl' := Lib.hid hfll
       clear hW9 hO9 hW8' hK8 qf hrl hfll hel
       go_wp2
       go_loopw [13, 65] (fun en i wr => ∃ jj : Nat, jj <= fl /\ i = .int .i64 jj /\ en = .int .i64 (deep (S3.fs.take jj)) /\ Hid (Only (fun _ => False) w9 wr)) (fun _ i _ => fl - (intOf i).toNat)
       case atStart => exact ⟨0, Nat.zero_le _, rfl, rfl, Lib.hid (Only.refl _ _)⟩
       case round =>
        obtain ⟨jj, hjf, rfl, rfl, hOw⟩ := hrel
        by_cases hjl : jj < fl
        ·have hjl2 : (jj : Int) < (fl : Int) := by omega
         obtain ⟨f, hf⟩ : ∃ f, S3.fs[jj]? = some f := ⟨_, List.getElem?_eq_getElem (by have := hfl'.out; omega)⟩
         obtain ⟨p, t, e, tv, ops, e1, e2, e3, e4, e5, e6, e7, e8, e9, e10, e11⟩ := zPV hS3'.out hf
         have hdn := zNQ hf
         have hdb := zNR hS3'.out.i.si.std jj
         obtain ⟨t0, ht0, ht0f⟩ := hts.out t tv ops e4
         have hWf := hF9.out.kept hOw.out (fun _ _ h => h)
         rw [hfl'.out] at hWf
         obtain ⟨gf, of, cf, -, hvf, -, -, -, hgf, hcf, -⟩ := zBI (f := Fr.cells) (fun _ => rfl) hWf hf
         have hWr := hR9.out.kept hOw.out (fun _ _ h => h)
         rw [hrl'.out] at hWr
         obtain ⟨gr, or, cr, -, hvr, -, -, hpl, hgr, hcrr, -⟩ := zBI (f := repC) zCO hWr e2
         obtain ⟨rfl, -, rfl⟩ : p9 = some ⟨gf, of, none⟩ /\ True /\ cap9 = cf := by
          injection hvf with q1 q2 q3
          exact ⟨q1, trivial, q3⟩
         obtain ⟨rfl, -, rfl⟩ : p8 = some ⟨gr, or, none⟩ /\ True /\ cap8 = cr := by
          injection hvr with q1 q2 q3
          exact ⟨q1, trivial, q3⟩
         obtain ⟨bt, ot, hA, hbt, hct⟩ := (hCI.out wr (hO5.out.trans' (hK9.out.new hOw.out).only)).t.at_ t t0 ht0
         have htl : t < tn := by
          have h1 := (hCI.out wr (hO5.out.trans' (hK9.out.new hOw.out).only)).t.len
          have h2 := (List.getElem?_eq_some_iff.1 ht0).1
          dsimp only at h1
          omega
         dsimp only at hA
         subst hA
         obtain ⟨who, base, size⟩ := f
         dsimp only at e1 e5 e6 e9 e10 hdn
         subst e1
         have z0 := hcf 0 _ rfl
         have z1 := hcf 1 _ rfl
         have z2 := hcf 2 _ rfl
         rw [Nat.add_zero] at z0
         dsimp only at z0 z1 z2
         have y0 := hcrr 0 _ rfl
         have y1 := hcrr 1 _ rfl
         have y2 := hcrr 2 _ rfl
         have y3 := hcrr 3 _ rfl
         have y4 := hcrr 4 _ rfl
         have y5 := hcrr 5 _ rfl
         have y6 := hcrr 6 _ rfl
         have y7 := hcrr 7 _ rfl
         have y8 := hcrr 8 _ rfl
         have y9 := hcrr 9 _ rfl
         have y10 := hcrr 10 _ rfl
         rw [Nat.add_zero, e3] at y0
         rw [e8] at y4
         rw [e6, e9] at y10
         have tf := hct.c4
         rw [ht0f, <- e5] at tf
         obtain ⟨d0, d1, d2, d3, d4, d5, d6, d7, d8, d9, dl⟩ := hcy.out wr (hO5.out.trans' (hK9.out.new hOw.out).only)
         obtain ⟨D, hD⟩ : ∃ D, D = deep (S3.fs.take jj) := ⟨_, rfl⟩
         rw [<- hD] at hdn hdb e9 y10 ⊢
         subst e9
         have hp0 : ¬ (p : Int) < 0 := by omega
         have hpl2 : ¬ (rl : Int) <= (p : Int) := by have := hrl'.out; omega
         have hpl3 : p < rl := by have := hrl'.out; omega
         have hst0 : ¬ e.st < 0 := by omega
         have hdn' := Lib.hid hdn
         have hsz : 0 <= size /\ size <= 4096 := e10
         have hDb : 0 <= base /\ base <= 4096 * 64 := by
          have : fl = S3.fs.length := hfl'.out
          omega
         have hgr' : gr < wr.heap.size := hgr
         clear hcf hcrr hvf hvr hct hWf hWr e2 e4 ht0 ht0f hdn hdb hf hD d0 d1 d2 d3 d4 d5 d6 d7 d9 e5 e6 e7 e8 e3
         go_upto_region 25 with fail
         go_quiet (fail)
         go_wp2_with fail
         go_roundw
         case rel => exact ⟨jj + 1, by omega, by go_num, by rw [hdn'.out], Lib.hid (hOw.out.trans' (by repeat (first | with_reducible exact Only.refl _ _ | with_reducible apply Only.drew | with_reducible apply Only.drewN | with_reducible apply Only.alloc)))⟩
         case measure => simp [intOf]; omega
        ·obtain rfl : jj = fl := by omega
         have hKw := Lib.hid (hK9.out.new hOw.out)
         have qk := Lib.hid (zNL hKw.out)
         have hpk : ¬ S3.pk < deep (S3.fs.take jj) := by
          rw [hfl'.out, List.take_length]
          have := hS3'.out.i.si.pk
          omega
         unfold ptr at qk
         clear hOw hK9 hR9 hF9
         go_wp2_with fail
         refine qk.out.mono ?_
         rintro e w10 ⟨rfl, hO10⟩
         have hKx := Lib.hid (hKw.out.new hO10)
         clear hO10 hKw qk
         go_wp2_with fail
         go_roundw
         case rel => exact ⟨m + (1 + N / 40), S3, by omega, by go_num, hKx, Lib.hid ⟨hS3'.out, by have := hn3'.out; omega⟩⟩
         case measure => simp [intOf]; omega
      ·have hmN' : ¬ (m : Int) <= (N : Int) := by omega
       have hy := Lib.hid (hyes.out wr (hO5.out.trans' hKm.out.only))
       go_wp2
       exact hy.out
  ·have hy := Lib.hid (hyes.out w5 hO5.out)
   go_wp2
   exact hy.out
end Krn
end Go.Proofs.YtkggimgechhjnaaGreatDoor
namespace Go.Proofs.YtkggimgechhjnaaGreatDoor
open Go
theorem zNS {P : Program} {w : World} : ∀ {l : List (String × DataW Unit)} {ps : List MemPlace}, DataW.LaidVars P w l ps -> ∀ n d, (n, d) ∈ l ->
  ∃ g t cs fuel p, P.globalNamed n = some g /\ (P.globals[g]?).map (·.type) = some t /\ w.var? P n = some cs /\ DataW.trod (fun _ => ()) P w 0 (fun _ => true) false fuel t cs.toList = some (d, p)
 | [], _, _, _, _, h => by cases h
 | (n', d') :: l, ps, h, n, d, hm => by
  obtain ⟨g, t, cs, fuel, p, q, h1, h2, h3, h4, h5, _⟩ := h
  rcases List.mem_cons.1 hm with e | e
  ·cases e
   exact ⟨g, t, cs, fuel, p, h1, h2, h3, h4⟩
  ·exact zNS h5 n d e
theorem zDM {H : Type} {enc : TypeId × Value -> H} {a : Assume} {C : Checked} {os : Os} {f : FuncId} {fn : Func} {s : ChangeSpec} {conds : List PathCond} {apart fresh handsOn again : Bool} {X : World -> Array Value -> Prop}
  (hX : ∀ (w w' : World) (args : Array Value), w.heap = w'.heap -> X w args -> X w' args)
  (own : ownKnob C.prog.godebug = none) (started : os.Started) (noInit : C.prog.inits.idxOf? f = none) (hfn : C.prog.funcs[f]? = some fn)
  (witness : ∃ (w : World) (tape : Tape) (i : Input), w.os = os /\ (w.forCall tape i).Shaped C.prog /\ i.vars = [] /\ Input.okWide C.prog (w.forCall tape i) .any w.heap.size f i /\
   ((s.pre enc C.prog fn conds apart (w.forCall tape i).memory i.args /\ X (w.forCall tape i).memory i.args) /\ sizedMet enc C.prog fn (OpenSpec.ofChange s) apart (w.forCall tape i).memory i.args) /\ a.holds C.prog (lone (Frame.enter C.prog f i.args .normal) [] (w.forCall tape i)))
  (contract : ∀ (W : World) (base : Nat) (args : Array Value) (ds gs : List (DataW H)) (before : List MemPlace),
   (∀ (j : Nat) t v, fn.params[j]? = some t -> args[j]? = some v -> Value.okWide C.prog W .any base t v) ->
   DataW.Whole enc C.prog fn.params.toList s.vars apart W args.toList ds gs before -> X W args -> W.ShapedOpen C.prog ->
   Calls C.prog f args W fun e W' => ∃ v, e = .returned v /\ s.post enc C.prog fn apart fresh handsOn again W args v W') :
  ReturnsInHanded a C os f .any (fun w args => (s.pre enc C.prog fn conds apart w args /\ X w args) /\ sizedMet enc C.prog fn (OpenSpec.ofChange s) apart w args) (s.post enc C.prog fn apart fresh handsOn again) := by
 refine returnsInHanded_of_calls own started noInit witness ?_
 intro w tape i _ hsh _ hok hpre _
 obtain ⟨_, _, _, fn', hfn', _, _, _, _, hval⟩ := hok
 obtain rfl : fn' = fn := Option.some.inj (hfn'.symm.trans hfn)
 obtain ⟨⟨⟨ds, gs, before, hw, _⟩, hx⟩, _⟩ := hpre
 refine (contract (w.forCall tape i) w.heap.size i.args ds gs before hval (DataW.Whole.of_heap (w' := w.forCall tape i) (by rfl) hw) (hX _ _ _ (by rfl) hx) hsh).mono fun e W' ⟨v, he, hp⟩ => ?_
 subst he
 exact ChangeSpec.post_blind hp
end Go.Proofs.YtkggimgechhjnaaGreatDoor
namespace Go.Proofs.YtkggimgechhjnaaGreatDoor
open Go Go.RowKit Go.ChangeShapes Go.WideShapes Go.Deep
section
variable {H : Type} {enc : TypeId × Value -> H} {P : Program} {w : World} {base : Nat} {spare : Nat -> Bool} {held : Bool}
theorem zNT {t e : TypeId} {fs : Array Field} {fuel : Nat} {cs : List Value} {x : DataW H × List MemPlace} (ht : P.underlying t = some (.slice e)) (he : P.underlying e = some (.struct fs)) (ce : P.cellsOf e = fs.size)
  (hone : ∀ (i : Nat) (f : Field), fs[i]? = some f -> f.offset = i /\ P.cellsOf f.type = 1) (h : DataW.trod enc P w base spare held fuel t cs = some x) :
  cs = [.slice none 0 0] ∨ ∃ (a : Addr) (len cap m n : Nat), cs = [.slice (some a) len cap] /\ len <= m /\
   ∀ i, i < m -> ∀ (j : Nat) (f : Field), fs[j]? = some f -> ∃ v y, w.cell? (a.add (i * fs.size + j)) = some v /\ DataW.trod enc P w base spare held n f.type [v] = some y := by
 rcases open_slice ht h with h0 | ⟨a, len, cap, m, n, D, Pl, rfl, hb, hl, hm, hmm, rfl, hx⟩
 ·exact .inl h0.1
 ·refine .inr ⟨a, len, cap, m, n - 1, rfl, by rw [hmm]; split <;> omega, fun i hi j f hf => ?_⟩
  obtain ⟨cs', h1, h2⟩ := hx i hi
  rw [ce] at h1
  obtain ⟨_, hlen, hcell⟩ := World.cells?_some h1
  obtain ⟨xs, k, hk, _, _, hxl, hff⟩ := DataW.trod_struct he h2
  have hk' : k = n - 1 := by omega
  subst hk'
  have hj : j < fs.size := (Array.getElem?_eq_some_iff.1 hf).1
  obtain ⟨ho, hc⟩ := hone j f hf
  have g := hff j f hf
  rw [ho, hc] at g
  have hjc : j < cs'.length := by omega
  have hsingle : (cs'.drop j).take 1 = [cs'[j]] := by
   rw [List.drop_eq_getElem_cons hjc]
   rfl
  rw [hsingle] at g
  have hxj : j < xs.length := by omega
  rw [List.getElem?_eq_getElem hxj] at g
  have hcj := hcell j hj
  rw [add_add, List.getElem?_eq_getElem hjc] at hcj
  exact ⟨cs'[j], xs[j], by simpa using hcj, g⟩
end
theorem zCX {H : Type} {enc : TypeId × Value -> H} {P : Program} {w : World} {base : Nat} {spare : Nat -> Bool} {held : Bool} {t e : TypeId} {fs : Array Field} {fuel : Nat} {A : Option Addr} {len cap : Nat} {x : DataW H × List MemPlace}
  (ht : P.underlying t = some (.slice e)) (he : P.underlying e = some (.struct fs)) (ce : P.cellsOf e = fs.size) (h0 : 0 < fs.size)
  (hone : ∀ (i : Nat) (f : Field), fs[i]? = some f -> f.offset = i /\ P.cellsOf f.type = 1 /\ P.underlying f.type = some (.int .i64)) (h : DataW.trod enc P w base spare held fuel t [.slice A len cap] = some x) :
  len <= cap /\ ∃ z : Nat -> Nat -> Int, ∀ i, i < len -> ∃ b off, A = some ⟨b, off, none⟩ /\ b < w.heap.size /\ ∀ j, j < fs.size -> w.cell? ⟨b, off + (i * fs.size + j), none⟩ = some (.int .i64 (z i j)) /\ (Lit.int .i64 (z i j)).wf = true := by
 have hcap : len <= cap := by
  rcases open_slice ht h with h0 | ⟨a, len', cap', m, n, D, Pl, hcs, hb, hl, hm, hmm, _, hx⟩
  ·have := h0.1
   simp at this
   omega
  ·simp at hcs
   omega
 refine ⟨hcap, ?_⟩
 rcases zNT ht he ce (fun i f hi => ⟨(hone i f hi).1, (hone i f hi).2.1⟩) h with hcs | ⟨a, l, c, m, n, hcs, hlm, hall⟩
 ·simp at hcs
  exact ⟨fun _ _ => 0, fun i hi => by omega⟩
 ·simp at hcs
  obtain ⟨rfl, rfl, rfl⟩ := hcs
  have each : ∀ i j, i < len -> j < fs.size -> ∃ z : Int, w.cell? (a.add (i * fs.size + j)) = some (.int .i64 z) /\ (Lit.int .i64 z).wf = true := by
   intro i j hi hj
   obtain ⟨v, y, h1, h2⟩ := hall i (by omega) j fs[j] (Array.getElem?_eq_getElem hj)
   obtain ⟨z, hz, _, hw⟩ := DataW.trod_int (hone j fs[j] (Array.getElem?_eq_getElem hj)).2.2 h2
   simp only [List.cons.injEq, and_true] at hz
   subst hz
   exact ⟨z, h1, hw⟩
  refine ⟨fun i j => if hi : i < len /\ j < fs.size then Classical.choose (each i j hi.1 hi.2) else 0, fun i hi => ?_⟩
  have hx : a = ⟨a.block, a.off, none⟩ := by
   obtain ⟨z, hz, _⟩ := each 0 0 (by omega) h0
   have h1 := zEG hz
   cases a with
   | mk b o s =>
    unfold Addr.add at h1
    simp at h1
    subst h1
    rfl
  have hb : a.block < w.heap.size := by
   obtain ⟨z, hz, _⟩ := each i 0 hi h0
   have := World.block_lt_of_cell? w _ hz
   rwa [add_block] at this
  refine ⟨a.block, a.off, congrArg some hx, hb, fun j hj => ?_⟩
  have hc := Classical.choose_spec (each i j hi hj)
  simp only [hi, hj, and_self, dif_pos]
  refine ⟨?_, hc.2⟩
  generalize Classical.choose (each i j hi hj) = z at hc ⊢
  have h1 := hc.1
  rw [hx, Addr.add_lit] at h1
  exact h1
end Go.Proofs.YtkggimgechhjnaaGreatDoor
namespace Go.Proofs.YtkggimgechhjnaaGreatDoor
namespace Krn
open Go Go.RowKit Go.Maps Ring Band
theorem c3e : Tryz.prog.cellsOf 3 = 1 := by kernel_rfl
theorem c23e : Tryz.prog.cellsOf 40 = 5 := by kernel_rfl
theorem zPW : ∃ fs : Array Field, Tryz.prog.underlying 40 = some (.struct fs) /\ fs.size = 5 /\ ∀ (i : Nat) (f : Field), fs[i]? = some f -> f.offset = i /\ Tryz.prog.cellsOf f.type = 1 /\ Tryz.prog.underlying f.type = some (.int .i64) := by
 refine ⟨_, Tryz.underlying40, rfl, fun i f hi => ?_⟩
 match i with
 | 0 => cases hi; exact ⟨rfl, c3e, Tryz.underlying3⟩
 | 1 => cases hi; exact ⟨rfl, c3e, Tryz.underlying3⟩
 | 2 => cases hi; exact ⟨rfl, c3e, Tryz.underlying3⟩
 | 3 => cases hi; exact ⟨rfl, c3e, Tryz.underlying3⟩
 | 4 => cases hi; exact ⟨rfl, c3e, Tryz.underlying3⟩
 | i + 5 => simp at hi
set_option maxRecDepth 100000 in
theorem evs_in {H : Type} {enc : TypeId × Value -> H} {w : World} {A : Option Addr} {len cap : Nat} {d : DataW H} {ps : List MemPlace} (h : DataW.Trod enc Tryz.prog w 0 (fun _ => true) true 28 (.slice A len cap) d ps) : ∃ l : List Pil.Ev, EvsAt w A l /\ l.length = len := by
 obtain ⟨fuel, hf⟩ := h
 obtain ⟨fs, he, hsz, hfs⟩ := zPW
 obtain ⟨hc, z, hz⟩ := zCX Tryz.underlying28 he (by rw [c23e, hsz]) (by omega) hfs hf
 rw [hsz] at hz
 refine ⟨(List.range len).map (fun i => ⟨z i 0, z i 1, z i 2, z i 3, z i 4⟩), fun k y hy => ?_, by simp⟩
 have hk := (List.getElem?_eq_some_iff.1 hy).1
 simp at hk
 rw [List.getElem?_map, List.getElem?_range hk] at hy
 simp only [Option.map_some, Option.some.injEq] at hy
 subst hy
 obtain ⟨b, off, hA, hb, hcell⟩ := hz k hk
 exact ⟨b, off, hA, hb, (hcell 0 (by omega)).1, (hcell 1 (by omega)).1, (hcell 2 (by omega)).1, (hcell 3 (by omega)).1, (hcell 4 (by omega)).1⟩
theorem u16_in {a : Int} (h : (Lit.int .u16 a).wf = true) : ∃ u : Nat, a = (u : Int) /\ u <= 65535 := by
 simp [Lit.wf] at h
 have h1 : IntKind.u16.min = 0 := by decide
 have h2 : IntKind.u16.max = 65535 := by decide
 rw [h1, h2] at h
 exact ⟨a.toNat, by omega, by omega⟩
theorem frames18 (c : ConfV) (A : Option Addr) (n cap : Nat) (a : Int) (w : World) (hw : Words w) (hc : ∃ d pl, ConfIn w c d pl) (hl : ∃ l : List Pil.Ev, EvsAt w A l /\ l.length = n) (ha : (Lit.int .u16 a).wf = true) :
  Calls Tryz.prog 6 #[c.val, .slice A n cap, .int .u16 a] w fun e w' => e = .returned (.bool true) /\ Below w.heap.size w w' := by
 obtain ⟨d, pl, hC⟩ := hc
 obtain ⟨l, h1, h2⟩ := hl
 obtain ⟨u, rfl, hu⟩ := u16_in ha
 exact (zK2 hw hC h1 h2 hu).mono fun e w' ⟨he, ho⟩ => ⟨he, ho.below (Nat.le_refl _) (fun _ h => h.elim)⟩
end Krn
end Go.Proofs.YtkggimgechhjnaaGreatDoor
