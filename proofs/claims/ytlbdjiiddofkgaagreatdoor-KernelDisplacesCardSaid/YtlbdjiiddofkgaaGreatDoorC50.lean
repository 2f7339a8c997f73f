import Derived.Test.YtlbdjiiddofkgaaGreatDoorC49
set_option maxRecDepth 100000
namespace Go.Proofs.YtlbdjiiddofkgaaGreatDoor
namespace Krn
open Go Go.RowKit Go.Maps Ring Band
theorem zSI {us : List (jA × List Opn)} {pl : Tks} (h : SameT us pl) {t : Nat} {tv : jA} {ops : List Opn} (ht : us[t]? = some (tv, ops)) : ∃ t0, pl.ts[t]? = some t0 /\ t0.fl = tv.fl /\ t0.p = tv.p := by
 have hlt := (List.getElem?_eq_some_iff.1 ht).1
 obtain ⟨⟨t0, l⟩, hp⟩ : ∃ y, pl[t]? = some y := ⟨_, List.getElem?_eq_getElem (by rw [<- h.1]; exact hlt)⟩
 obtain ⟨o, ho⟩ := h.2 t t0 l hp
 rw [ht] at ho
 cases ho
 exact ⟨t0, by unfold Tks.ts; rw [List.getElem?_map, hp]; rfl, rfl, rfl⟩
theorem zSJ {w0 wa wb : World} {c : KC} {k : Nat} {s : KS} {E : Nat} {till : Int} (h : KL w0 c k s wa) (ho : Only (fun _ => False) wa wb) (hs : KOk c E s) (hc : CfgOk c) (hE : E <= 100000) (h1 : s.now <= till) (h2 : till <= 3000) :
  Calls Tryz.prog 16 #[ptr k, .int .i64 till] wb (fun e w' => e = .returned (.int .i64 0) /\ KL w0 c k (runT c (till - s.now).toNat s) w' /\ ∀ T sz v hh n xs, Win wb T sz v hh n xs -> (∀ x, hh = some x -> wa.heap.size <= x) -> Win w' T sz v hh n xs) := by
 obtain ⟨m, a1, a2, a3, a4⟩ := h
 rw [<- a2, <- zH4 hs hc h1 h2]
 refine (zQB (a1.new ho) hs hc hE h1 h2).mono ?_
 rintro e w' ⟨he, m', g, g1⟩
 exact ⟨he, zJB a3 (a4.trans' ho) rfl g g1, fun T sz v hh n xs hW hn => hW.kept g.2.1 fun x hx hk => by
  have := hn x hx
  have := a1.klt x hk
  omega⟩
theorem zPX {w : World} {p : Option Addr} {cap was nl : Nat} {h : Option Nat} {a l : List Rc} (hW : Win w 60 7 (.slice p (was + nl) cap) h (was + nl) (rowC Rc.cells (a ++ l))) (ha : was = a.length) (hl : nl = l.length) :
  ∃ h', Win w 60 7 (.slice (if cap = was then p else p.map (·.add (was * 7))) nl (cap - was)) h' nl (rowC Rc.cells l) := by
 obtain ⟨h', h1, -⟩ := hW.drop (k := was) (by omega)
 refine ⟨h', ?_⟩
 rw [show was + nl - was = nl by omega] at h1
 have hd : (rowC Rc.cells (a ++ l)).drop (was * 7) = rowC Rc.cells l := by
  rw [zBY, List.drop_append_of_le_length (by rw [zBQ zJW, ha]; exact Nat.le_refl _), List.drop_eq_nil_of_le (by rw [zBQ zJW, ha]; exact Nat.le_refl _), List.nil_append]
 rw [hd] at h1
 exact h1
def TailEnd (w : World) (was nl : Nat) (l : List Rc) (e : Ending) (w' : World) : Prop :=
 ∃ p cap, e = .returned (.slice p (was + nl) cap) /\ was + nl <= cap /\ cap <= maxLen /\ (∃ h', Win w' 60 7 (.slice (if cap = was then p else p.map (·.add (was * 7))) nl (cap - was)) h' nl (rowC Rc.cells l)) /\ Only (fun _ => False) w w'
theorem zF9 {w0 w : World} {c : KC} {k : Nat} {s : KS} {E : Nat} (h : KL w0 c k s w) (hs : KOk c E s) (hc : CfgOk c) : ∃ (T L : Int) (ok : Bool), Calls Tryz.prog 20 #[ptr k] w (GrowV (.tuple #[.int .i64 T, .int .i64 L, .bool ok]) w) /\ ∀ r u, Dis c s r u -> ok = true /\ r.ta = T /\ L < (c.P u : Int) /\ ∃ t : Nat, T = (t : Int) := by
 rcases Nat.eq_zero_or_pos s.jobs.length with h0 | h0
 ·have hn := List.eq_nil_of_length_eq_zero h0
  refine ⟨0, 0, false, zJC h hn, fun r u hd => ?_⟩
  obtain ⟨i, x, e, t, tv, h1, -⟩ := hd.e
  rw [zBF hn] at h1
  cases h1
 ·obtain ⟨i, hi⟩ : ∃ i, s.jobs.length = i + 1 := ⟨s.jobs.length - 1, by omega⟩
  obtain ⟨x, f, t, tv, e, h1, h2, h3, h4, h5⟩ := hs.i.top hi
  refine ⟨e.ta, levF c s tv x, true, zTR h hi h2 h5.en h5.ta h5.ts hc.nl, fun r u hd => ?_⟩
  obtain ⟨i', x', e', t', tv', g1, g2, g3, g4, g5, g6, g7, g8⟩ := hd.e
  rw [h1] at g1
  cases g1
  have htt : t' = t := by have := h5.ta; omega
  subst htt
  rw [h5.ts] at g5
  cases g5
  exact ⟨rfl, g2, g8, t', h5.ta⟩
theorem zNU {c : KC} {s : KS} {r : Rc} {u : Nat} {pl : Tks} (hc : CfgOk c) (D : Dis c s r u) (hts : ∀ (t : Nat) tv ops, c.ts[t]? = some (tv, ops) -> ∃ t0, pl.ts[t]? = some t0 /\ t0.fl = tv.fl /\ t0.p = tv.p) :
  (∃ u0, pl.ts[u]? = some u0 /\ u0.p = (c.P u : Int)) /\ ∃ (t : Nat) (t0 : jA) (p : Nat) (e : Et), r.ta = (t : Int) /\ pl.ts[t]? = some t0 /\ s.ents[p]? = some e /\ e.ta = (t : Int) /\ e.jb = r.jb /\ e.wi <= t0.fl /\ (0 < t0.fl -> 1 <= e.wi) := by
 obtain ⟨⟨i, x, e, t, tv, h1, h2, h3, h4, h5, h6, h7, h8⟩, hu⟩ := D
 refine ⟨?_, ?_⟩
 ·obtain ⟨⟨tu, ou⟩, hx⟩ : ∃ y, c.ts[u]? = some y := ⟨_, List.getElem?_eq_getElem hu⟩
  obtain ⟨t0, g1, g2, g3⟩ := hts u tu ou hx
  exact ⟨t0, g1, by rw [g3]; exact (hc.t u tu ou hx).p.1⟩
 ·obtain ⟨t0, g1, g2, g3⟩ := hts t tv _ h5
  have he : s.ents[x.p]? = some e := by
   unfold topU at h1
   split at h1
   ·cases h1
   ·rename_i y hy
    split at h1
    ·cases h1
    ·rename_i e' he'
     injection h1 with h1
     injection h1 with a1 a2
     injection a2 with a2 a3
     subst a2 a3
     exact he'
  exact ⟨t, t0, x.p, e, by rw [h2, h4], g1, he, h4, h3.symm, by rw [g2]; exact h6, by rw [g2]; exact h7⟩
set_option maxHeartbeats 40000000 in
theorem zGX {w : World} (hw : Words w) {c : jD} {d : jL} {pl : Tks} (hC : ConfIn w c d pl) {A : Option Addr} {n cap : Nat} {l : List Pil.Ev} (hl : EvsAt w A l) (hln : l.length = n) {u : Nat} (hu : u <= 65535) :
  Calls Tryz.prog 4 #[c.val, .slice A n cap, .int .u16 u] w (TrueEnd w) := by
 obtain ⟨q, hq⟩ : ∃ q, q = w.heap.size := ⟨_, rfl⟩
 obtain ⟨W2, hW2⟩ : ∃ W2, W2 = w.alloc (.cells c.cells.toArray 27) := ⟨_, rfl⟩
 have hO2 : Only (fun _ => False) w W2 := by rw [hW2]; exact (Only.refl _ w).alloc _
 have b0 : W2.heap[q]? = some (.cells c.cells.toArray 27 (0, 0)) := by rw [hW2]; exact zAB _ _ hq.symm
 have hq' := zh hq
 have hcy := zh (fun W (ho : Only (fun _ => False) W2 W) => zQD (ho.heap b0 id))
 have hev := zh (fun W (ho : Only (fun _ => False) W2 W) => (hl.new hO2).new ho)
 have hCI := zh (fun W (ho : Only (fun _ => False) W2 W) => (hC.new hO2).new ho)
 obtain ⟨N, hN⟩ : ∃ N : Nat, N = u % 700 := ⟨_, rfl⟩
 have hN7 : N < 700 := by omega
 have jC7 := zSG (zE6 hw hO2) (hC.new hO2) A n cap (N : Int)
 obtain ⟨cv, hcv⟩ : ∃ cv, cv = c.val := ⟨_, rfl⟩
 rw [<- hcv] at jC7 ⊢
 obtain ⟨F, hF⟩ : ∃ F, F = few18 c pl.ts n N := ⟨_, rfl⟩
 obtain ⟨CZ, hCZ⟩ : ∃ CZ, CZ = confZ c d pl := ⟨_, rfl⟩
 rw [<- hF, <- hCZ] at jC7
 obtain ⟨jEl, jEm, jEn, jEo⟩ := jC7
 have kfx := zh jEl
 have kfe := zh jEm
 have kch := zh jEn
 have knw := zh jEo
 obtain ⟨Z, hZ⟩ : ∃ Z, Z = TrueEnd w := ⟨_, rfl⟩
 rw [<- hZ]
 have xN := zh (fun W (ho : Only (fun _ => False) W2 W) => show Z (.returned (.bool true)) W from by rw [hZ]; exact ⟨rfl, hO2.trans' ho⟩)
 have jAk := zh hln
 have hFF := zh hF
 have jEp := zh hCZ
 have hNu : ((u : Int) % 700) = (N : Int) := by omega
 unfold jD.val at hcv
 subst hcv
 unfold CYv at hcy
 unfold jD.cells at hW2
 have vH := zh hW2
 clear hC hw hl hq hO2 b0 hW2 hF hCZ hZ jEl jEm jEn jEo hln hN
 obtain ⟨c0, wy, h, mi, ⟨mA, mn, mc⟩, g, ⟨cA, cn, cc⟩, ⟨eA, en, ec⟩, ⟨tA, tn, tc⟩, ⟨lA, ln, lc⟩⟩ := c
 dsimp only at *
 go_enter Tryz.func4, Tryz.ntmps4
 go_upto_region 1 with fail
 rw [<- hq'.out]
 rw [<- vH.out]
 have qfx := zh (kfx.out W2 (Only.refl _ _))
 go_wp2_with fail
 refine qfx.out.mono ?_
 rintro e w3 ⟨rfl, ho⟩
 have hO3 := zh ho
 obtain ⟨d0, d1, d2, d3, d4, d5, d6, d7, d8, d9, dl⟩ := hcy.out w3 ho
 clear ho qfx kfx
 go_upto_region 4 with fail
 have qfe := zh (kfe.out w3 hO3.out)
 clear kfe
 go_wp2_with fail
 refine qfe.out.mono ?_
 rintro e w4 ⟨rfl, ho⟩
 have hO4 := zh (hO3.out.trans' ho)
 clear ho qfe d0 d1 d2 d3 d4 d5 d6 d7 d8 d9 dl
 obtain ⟨d0, d1, d2, d3, d4, d5, d6, d7, d8, d9, dl⟩ := hcy.out w4 hO4.out
 clear hO3
 cases F with
 | false =>
  have hy := zh (xN.out w4 hO4.out)
  go_wp2
  exact hy.out
 | true =>
  have qch := zh (kch.out rfl w4 hO4.out)
  clear kch
  go_wp2_with fail
  refine qch.out.mono ?_
  rintro e w5 ⟨rfl, ho⟩
  have hO5 := zh (hO4.out.trans' ho)
  clear ho qch d0 d1 d2 d3 d4 d5 d6 d7 d8 d9 dl hO4
  by_cases hz : CZ = 0
  rotate_left
  ·have hy := zh (xN.out w5 hO5.out)
   go_wp2
   exact hy.out

  subst hz
  obtain ⟨d0, d1, d2, d3, d4, d5, d6, d7, d8, d9, dl⟩ := hcy.out w5 hO5.out
  have qnw := zh (knw.out (by trivial) (by trivial) w5 hO5.out)
  clear knw
  go_wp2_with fail
  refine qnw.out.mono ?_
  rintro e w6 ⟨k, us, mo, rfl, hK, hS, hmo⟩
  clear qnw d0 d1 d2 d3 d4 d5 d6 d7 d8 d9 dl
  unfold ptr
  have jBs := hFF.out
  unfold few18 at jBs
  have jA9 := jBs.symm
  simp only [Bool.and_eq_true, decide_eq_true_eq] at jA9
  obtain ⟨hfb, -, -, jI7, -⟩ := jA9
  have zW := zNR (mo := mo) ((hCI.out w5 hO5.out).conf hfb) jEp.out.symm hS
  obtain ⟨KK, hcc⟩ : ∃ KK, KK = kc ⟨c0, wy, h, mi, ⟨mA, mn, mc⟩, g, ⟨cA, cn, cc⟩, ⟨eA, en, ec⟩, ⟨tA, tn, tc⟩, ⟨lA, ln, lc⟩⟩ d pl us mo := ⟨_, rfl⟩
  have hts := zh (show ∀ (t : Nat) tv ops, KK.ts[t]? = some (tv, ops) -> ∃ t0, pl.ts[t]? = some t0 /\ t0.fl = tv.fl /\ t0.p = tv.p from by
   intro t tv ops ht
   rw [hcc] at ht
   exact zSI hS ht)
  rw [<- hcc] at hK zW
  have xG := zh zW
  have hK0 := zh hK
  clear hK hS hmo jBs hfb hcc zW hFF jEp
  go_upto_region 7 with fail
  go_wp2
  go_loopw [48] (fun i wr => ∃ (j : Nat) (S : KS), j <= n /\ i = .int .i64 j /\ Hid (KL w5 KK k S wr) /\ Hid (KOk KK j S /\ S.now = 0)) (fun i _ => n - (intOf i).toNat)
  case atStart => exact ⟨0, ks0, Nat.zero_le _, rfl, hK0, zh ⟨KOk.first KK, rfl⟩⟩
  case round =>
   obtain ⟨j, S, hj, rfl, hKj, hSj⟩ := hrel
   by_cases hjn : j < n
   ·have jGf : (j : Int) < (n : Int) := by omega
    obtain ⟨x, hx⟩ : ∃ x, l[j]? = some x := ⟨_, List.getElem?_eq_getElem (by have := jAk.out; omega)⟩
    obtain ⟨b, off, rfl, hb, x0, x1, x2, x3, x4⟩ := (hev.out wr (hO5.out.trans' hKj.out.only)) j x hx
    have qe := zh (zGV (hKj.out.new ((Only.refl _ wr).alloc (.cells #[.int .i64 x.t, .int .i64 x.k, .int .i64 x.a, .int .i64 x.b, .int .i64 x.c] 40))) x (by have h1 := hSj.out.1.n; have h2 := hSj.out.2; rw [h2] at h1; have h3 : (0 : Int).toNat = 0 := rfl; omega))
    unfold Pil.Ev.val ptr at qe
    have hSx := zh (show KOk KK (j + 1) (evF KK S x) /\ (evF KK S x).now = 0 from ⟨hSj.out.1.event x, by rw [zSH]; exact hSj.out.2⟩)
    clear hKj hSj hx
    go_wp2_with fail
    refine qe.out.mono ?_
    rintro e w7 ⟨rfl, hK7⟩
    have jGw := zh hK7
    clear hK7 qe x0 x1 x2 x3 x4 hb
    go_wp2_with fail
    go_roundw
    case rel => exact ⟨j + 1, evF KK S x, by omega, by go_num, jGw, hSx⟩
    case measure => simp [intOf]; omega
   ·obtain rfl : j = n := by omega
    have hS0 := zh (show KOk KK j S /\ S.now <= (N : Int) from ⟨hSj.out.1, by rw [hSj.out.2]; omega⟩)
    clear hSj hev jAk
    go_wp2
    go_loopg [] ((N : Int) - S.now).toNat (fun r wr => ∃ S : KS, Hid (KL w5 KK k S wr) /\ Hid (KOk KK j S /\ S.now <= (N : Int)) /\ r = ((N : Int) - S.now).toNat)
    case atStart => exact ⟨S, hKj, hS0, rfl⟩
    case round =>
     obtain ⟨S2, hKm, hSm, hr⟩ := hrel
     have hr' := zh hr
     have qn := zh (zNQ hKm.out)
     unfold ptr at qn
     clear hr
     go_wp2_with fail
     refine qn.out.mono ?_
     rintro e w7 ⟨rfl, hO7⟩
     have hK7 := zh (hKm.out.new hO7)
     clear hKm hO7 qn
     by_cases hlt : S2.now < (N : Int)
     rotate_left
     ·have hy := zh (xN.out w7 (hO5.out.trans' hK7.out.only))
      go_wp2
      exact hy.out
     have h0 := hSm.out.1.i.n0
     obtain ⟨TP, LV, OK, qt0, jU⟩ := zF9 hK7.out hSm.out.1 xG.out
     have qt := zh qt0
     have vU := zh jU
     unfold ptr at qt
     clear qt0 jU
     go_wp2_with fail
     refine qt.out.mono ?_
     rintro e w8 ⟨rfl, hO8⟩
     have hK8 := zh (hK7.out.new hO8)
     have qa := zh (zGW hK8.out (by have := hSm.out.1.i.tr; omega))
     unfold ptr at qa
     clear hK7 hO8 qt
     go_wp2_with fail
     refine qa.out.mono ?_
     rintro e w9 ⟨v9, g9, rfl, hW9, -, hO9⟩
     obtain ⟨p9, jI8, rfl, -, -⟩ := hW9.form
     have hK9 := zh (hK8.out.new hO9)
     have qb := zh (zFN hK9.out (by have := hSm.out.1.i.el; omega))
     unfold ptr at qb
     clear hK8 hO9 hW9 qa
     go_wp2_with fail
     refine qb.out.mono ?_
     rintro e w10 ⟨v10, g10, rfl, jC8, jBa, zQ⟩
     obtain ⟨p10, jC9, rfl, -, -⟩ := jC8.form
     have jDa := zh (hK9.out.new zQ)
     have jEq := zh jC8
     have hfr := zh jBa
     have jBb := zh zQ
     have qc := zh (zNQ jDa.out)
     unfold ptr at qc
     have jEr := zh hK9.out
     clear hK9 zQ jC8 qb jBa
     go_wp2_with fail
     refine qc.out.mono ?_
     rintro e w11 ⟨rfl, jBu⟩
     have jGx := zh (jDa.out.new jBu)
     have jEs := zh (jEq.out.kept jBu (fun _ _ h => h))
     have qd := zh (zSJ jEr.out (jBb.out.trans' jBu) hSm.out.1 xG.out (till := S2.now + 1) (by omega) (by omega) (by omega))
     rw [show (S2.now + 1 - S2.now).toNat = 1 by omega] at qd
     obtain ⟨S3, jDb⟩ : ∃ S3, S3 = runT KK 1 S2 := ⟨_, rfl⟩
     have jEt : S3 = stepF KK (S2.now + 1) S2 := jDb
     obtain ⟨k1, k2, k3⟩ := hSm.out.1.step xG.out (till := S2.now + 1) (by omega) (by omega)
     obtain ⟨l3, hl3, jEu⟩ := zR7 (till := S2.now + 1) hSm.out.1 xG.out (by omega)
     rw [<- jEt] at k1 k2 k3 hl3
     rw [<- jDb] at qd
     have hS3 := zh k1
     have hn3 := zh (show S3.now = S2.now + 1 by omega)
     have jDc := zh hl3
     have jDd := zh jEu
     unfold ptr at qd
     clear jDa jBu jEq qc jDb jEt k1 k2 k3 hl3 jEu
     go_wp2_with fail
     refine qd.out.mono ?_
     rintro e w12 ⟨rfl, jBv, jEv⟩
     obtain ⟨nl, hnl⟩ : ∃ nl, nl = l3.length := ⟨_, rfl⟩
     obtain ⟨was, jBw⟩ : ∃ was, was = S2.tr.length := ⟨_, rfl⟩
     have hnt : S3.tr.length = was + nl := by rw [jDc.out, List.length_append, jBw, hnl]
     have jGy : S3.tr.length <= 1000000000 := by have := hS3.out.i.tr; have := hS3.out.i.n0; omega
     rw [hnt] at jGy
     have jBc := zh hnl
     have jGz := zh (show Only (fun _ => False) W2 w12 from hO5.out.trans' jBv.only)
     have yE := zh (fun W (hO : Only (fun _ => False) w12 W) => show Calls Tryz.prog 21 #[.pointer (some ⟨k, 0, none⟩)] W (TailEnd W was nl l3) from by
      refine (zGW (jBv.new hO) (by omega)).mono ?_
      rintro e w' ⟨v, g, rfl, h1, h2, h3⟩
      obtain ⟨p, cap, rfl, h4, h5⟩ := h1.form
      rw [hnt, jDc.out] at h1
      exact ⟨p, cap, by rw [hnt], by omega, h5, zPX h1 jBw hnl, h3⟩)
     rw [<- jBw]
     have jBd := zh jBv
     have hOr := zh (jEv _ _ _ _ _ _ jEs.out hfr.out)
     have jG0 := zh (show KOk KK j S3 /\ S3.now <= (N : Int) from ⟨hS3.out, by have := hn3.out; omega⟩)
     have yB := zh (show ∀ (p : Nat) e, S2.ents[p]? = some e -> ∀ (p' : Nat) e', S2.ents[p']? = some e' -> e.ta = e'.ta -> e.jb = e'.jb -> p = p' from fun p e he p' e' he' h1 h2 => hSm.out.1.i.ei.kd p p' e e' he he' h1 h2)
     have jG1 : S2.ents.length <= 1000000000 := by have := hSm.out.1.i.el; omega
     clear jBv qd jGx jBw hnl hnt jDc hS3 hSm jEv
     go_upto_region 19 with fail
     go_cut [80, 81, 82] from 77 to 82 (fun sl m i wd => ∃ PD cap, sl = .slice PD nl cap /\ m = .int .i64 (nl : Int) /\ i = .int .i64 0 /\ Hid (∃ h', Win wd 60 7 (.slice PD nl cap) h' nl (rowC Rc.cells l3)) /\ Hid (Only (fun _ => False) w12 wd))
     case first =>
      have qe := zh (yE.out w12 (Only.refl _ _))
      clear yE
      go_wp2_with fail
      refine qe.out.mono ?_
      rintro e w13 ⟨p, cp, rfl, hle, hmax, hW, hO⟩
      have hW' := zh hW
      have hO' := zh hO
      have hwi : (was : Int) <= (cp : Int) /\ (was : Int) <= ((was + nl : Nat) : Int) := by omega
      clear hW hO qe
      by_cases hcw : cp = was
      ·rw [if_pos hcw] at hW'
       have hc0 : cp - was = 0 := by omega
       go_wp2_with fail
       go_meet
       case rel =>
        rw [hc0] at hW'
        exact ⟨_, _, rfl, rfl, rfl, hW', hO'⟩
      ·rw [if_neg hcw] at hW'
       go_wp2_with fail
       go_meet
       case rel => exact ⟨_, _, rfl, rfl, rfl, hW', hO'⟩
     obtain ⟨PD, cp, rfl, rfl, rfl, hD, jEw⟩ := hcut
     have jG2 := zh (fun W (ho : Only (fun _ => False) w12 W) => jBd.out.new ho)
     clear jBd
     obtain ⟨rl, hrl⟩ : ∃ rl, rl = S2.ents.length := ⟨_, rfl⟩
     rw [<- hrl] at hOr jG1 ⊢
     have jB4 := zh hrl
     have jG3 := hOr
     clear hrl jEs hOr hfr jBb jEr
     go_wp2
     go_loopw [82] (fun i wr => ∃ a : Nat, a <= nl /\ i = .int .i64 a /\ Hid (Only (fun _ => False) wc wr)) (fun i _ => nl - (intOf i).toNat)
     case atStart => exact ⟨0, Nat.zero_le _, rfl, zh (Only.refl _ _)⟩
     case round =>
      obtain ⟨a, ha, rfl, hOa⟩ := hrel
      by_cases hal : a < nl
      rotate_left
      ·obtain rfl : a = nl := by omega
       go_wp2_with fail
       go_roundg ((N : Int) - S3.now).toNat
       case measure => have := hn3.out; have := hr'.out; omega
       case rel => exact ⟨S3, zh (jG2.out _ (jEw.out.trans' hOa.out)), jG0, rfl⟩
      have jI9 : (a : Int) < (nl : Int) := by omega
      obtain ⟨x, hx⟩ : ∃ x, l3[a]? = some x := ⟨_, List.getElem?_eq_getElem (by have := jBc.out; omega)⟩
      obtain ⟨hh, hWd⟩ := hD.out
      have hWx := hWd.kept hOa.out (fun _ _ h => h)
      rw [jBc.out] at hWx
      obtain ⟨gx, ox, cx, -, hvx, -, -, -, hgx, hcx, -⟩ := zBG (f := Rc.cells) zJW hWx hx
      obtain ⟨hPD, hcp⟩ : PD = some ⟨gx, ox, none⟩ /\ cp = cx := by
       injection hvx with q1 q2 q3
       exact ⟨q1, q3⟩
      have x0 := hcx 0 _ rfl
      have x1 := hcx 1 _ rfl
      have x2 := hcx 2 _ rfl
      have x3 := hcx 3 _ rfl
      have x4 := hcx 4 _ rfl
      have x5 := hcx 5 _ rfl
      have x6 := hcx 6 _ rfl
      rw [Nat.add_zero] at x0
      subst hPD
      clear hcx hvx hWx hWd hcp
      by_cases hk4 : x.k = 4
      rotate_left
      ·go_wp2_with fail
       go_roundw
       case rel => exact ⟨a + 1, by omega, by go_num, zh (hOa.out.trans' (by repeat (first | with_reducible exact Only.refl _ _ | with_reducible apply Only.drew | with_reducible apply Only.drewN | with_reducible apply Only.alloc)))⟩
       case measure => simp [intOf]; omega
      rw [hk4] at x1
      obtain ⟨u', D, hr3, jBk⟩ := jDd.out x (List.mem_of_getElem? hx) hk4
      obtain ⟨hOK, hTP, hLV, -⟩ := vU.out x u' D
      obtain ⟨⟨u0, hu0, hup⟩, tt, t0, pp, e0, hta, ht0, hep, hea, jEx, jEy, jEz⟩ := zNU xG.out D hts.out
      subst hOK
      obtain rfl : TP = (tt : Int) := by rw [<- hTP, hta]
      rw [hta] at x2
      have jG4 := zh jBk
      have jG5 := zh hr3
      have jG6 := zh (show ∀ (p : Nat) e, S2.ents[p]? = some e -> e.ta = (tt : Int) -> e.jb = x.jb -> e.wi <= t0.fl /\ (0 < t0.fl -> 1 <= e.wi) from by
       intro p e he h1 h2
       obtain rfl := yB.out p e he pp e0 hep (by rw [h1, hea]) (by rw [h2, jEx])
       rw [he] at hep
       injection hep with hep
       rw [hep]
       exact ⟨jEy, jEz⟩)
      have hPL : ¬ u0.p <= LV := by omega
      have hun : ¬ (u' : Int) < 0 := by omega
      have jE0 := zh ht0
      have jE1 := zh hu0
      have hx' := zh hx
      obtain ⟨X, hX⟩ : ∃ X, X = wr.heap.size := ⟨_, rfl⟩
      obtain ⟨WX, hWX⟩ : ∃ WX, WX = wr.alloc (.cells #[.int .i64 x.t, .int .i64 4, .int .i64 tt, .int .i64 x.jb, .int .i64 x.op, .int .i64 x.co, .int .i64 x.va] 60) := ⟨_, rfl⟩
      have jBx : Only (fun _ => False) wr WX := by rw [hWX]; exact (Only.refl _ wr).alloc _
      have hXh : WX.heap[X]? = some (.cells [Value.int .i64 x.t, .int .i64 4, .int .i64 tt, .int .i64 x.jb, .int .i64 x.op, .int .i64 x.co, .int .i64 x.va].toArray 60 (0, 0)) := by rw [hWX]; exact zAB _ _ hX.symm
      have hxv := zh (fun W (ho : Only (fun _ => False) WX W) => And.intro (Nat.lt_of_lt_of_le (zAG hXh) ho.size) (And.intro (ho.cell (zAA hXh (i := 2) rfl) id) (ho.cell (zAA hXh (i := 3) rfl) id)))
      have hOX := zh jBx
      have jDe := zh (jEw.out.trans' (hOa.out.trans' jBx))
      have jG7 := zh (hOa.out.trans' jBx)
      have hX' := zh hX
      have jG8 := zh hWX
      clear jBk hr3 D hTP hLV hup hta ht0 hep hea jEx jEy jEz hu0 hk4 hXh jBx hX hWX hx hD hOa
      go_upto_region 24 with fail
      rw [<- hX'.out]
      rw [<- jG8.out]
      clear x0 x1 x2 x3 x4 x5 x6
      go_cut [92, 93, 94] from 89 to 94 (fun sl m i wd => ∃ PE ce, sl = .slice PE nl ce /\ m = .int .i64 (nl : Int) /\ i = .int .i64 0 /\ Hid (∃ h', Win wd 60 7 (.slice PE nl ce) h' nl (rowC Rc.cells l3)) /\ Hid (Only (fun _ => False) WX wd))
      case first =>
       have qe := zh (yE.out WX jDe.out)
       clear yE
       go_wp2_with fail
       refine qe.out.mono ?_
       rintro e w13 ⟨p, cp2, rfl, hle, hmax, hW, hO⟩
       have hW' := zh hW
       have hO' := zh hO
       have hwi : (was : Int) <= (cp2 : Int) /\ (was : Int) <= ((was + nl : Nat) : Int) := by omega
       clear hW hO qe
       by_cases hcw : cp2 = was
       ·rw [if_pos hcw] at hW'
        have hc0 : cp2 - was = 0 := by omega
        go_wp2_with fail
        go_meet
        case rel =>
         rw [hc0] at hW'
         exact ⟨_, _, rfl, rfl, rfl, hW', hO'⟩
       ·rw [if_neg hcw] at hW'
        go_wp2_with fail
        go_meet
        case rel => exact ⟨_, _, rfl, rfl, rfl, hW', hO'⟩
      obtain ⟨PE, ce, rfl, rfl, rfl, hE, jBe⟩ := hcut
      go_wp2
      go_loopw [19, 94] (fun nx i wq => ∃ (z : Int) (a2 : Nat), a2 <= nl /\ i = .int .i64 a2 /\ nx = .int .i64 z /\ Hid ((z = -1 /\ ∀ (b : Nat) r, b < a2 -> l3[b]? = some r -> r.k ≠ 3) ∨ z = u') /\ Hid (Only (fun _ => False) wc wq)) (fun _ i _ => nl - (intOf i).toNat)
      case atStart => exact ⟨-1, 0, Nat.zero_le _, rfl, rfl, zh (Or.inl ⟨rfl, fun b r h => by omega⟩), zh (Only.refl _ _)⟩
      case round =>
       obtain ⟨z, a2, ha2, rfl, rfl, hz, hOb⟩ := hrel
       by_cases jJa : a2 < nl
       ·have jJb : (a2 : Int) < (nl : Int) := by omega
        obtain ⟨y, hy⟩ : ∃ y, l3[a2]? = some y := ⟨_, List.getElem?_eq_getElem (by have := jBc.out; omega)⟩
        obtain ⟨hh2, jE2⟩ := hE.out
        have jDf := jE2.kept hOb.out (fun _ _ h => h)
        rw [jBc.out] at jDf
        obtain ⟨gy, oy, cy, -, hvy, -, -, -, hgy, yX, -⟩ := zBG (f := Rc.cells) zJW jDf hy
        obtain ⟨hPE, hce⟩ : PE = some ⟨gy, oy, none⟩ /\ ce = cy := by
         injection hvy with q1 q2 q3
         exact ⟨q1, q3⟩
        have y0 := yX 0 _ rfl
        have y1 := yX 1 _ rfl
        have y2 := yX 2 _ rfl
        have y3 := yX 3 _ rfl
        have y4 := yX 4 _ rfl
        have y5 := yX 5 _ rfl
        have y6 := yX 6 _ rfl
        rw [Nat.add_zero] at y0
        subst hPE
        clear yX hvy jDf jE2 hce
        by_cases hk3 : y.k = 3
        ·have hyt := jG4.out y (List.mem_of_getElem? hy) hk3
         rw [hk3] at y1
         rw [hyt] at y2
         clear hk3 hyt hy
         go_wp2_with fail
         go_roundw
         case rel => exact ⟨_, a2 + 1, by omega, by go_num, rfl, zh (Or.inr rfl), zh (hOb.out.trans' (by repeat (first | with_reducible exact Only.refl _ _ | with_reducible apply Only.drew | with_reducible apply Only.drewN | with_reducible apply Only.alloc)))⟩
         case measure => simp [intOf]; omega
        ·have hz2 := zh (show (z = -1 /\ ∀ (b : Nat) r, b < a2 + 1 -> l3[b]? = some r -> r.k ≠ 3) ∨ z = u' from by
          rcases hz.out with ⟨h1, h2⟩ | h1
          ·refine Or.inl ⟨h1, fun b r hb hr => ?_⟩
           by_cases hba : b < a2
           ·exact h2 b r hba hr
           ·obtain rfl : b = a2 := by omega
            rw [hy] at hr
            cases hr
            exact hk3
          ·exact Or.inr h1)
         clear hy hz
         go_wp2_with fail
         go_roundw
         case rel => exact ⟨z, a2 + 1, by omega, by go_num, rfl, hz2, zh (hOb.out.trans' (by repeat (first | with_reducible exact Only.refl _ _ | with_reducible apply Only.drew | with_reducible apply Only.drewN | with_reducible apply Only.alloc)))⟩
         case measure => simp [intOf]; omega
       ·obtain rfl : a2 = nl := by omega
        obtain rfl : z = (u' : Int) := by
         rcases hz.out with ⟨h1, h2⟩ | h1
         ·obtain ⟨r', hm, hk⟩ := jG5.out
          obtain ⟨b, hb⟩ := List.getElem?_of_mem hm
          exact absurd hk (h2 b r' (by have := (List.getElem?_eq_some_iff.1 hb).1; have := jBc.out; omega) hb)
         ·exact h1
        clear hz
        have HO := zh (jGz.out.trans' (jDe.out.trans' (jBe.out.trans' hOb.out)))
        obtain ⟨hXl, v2, v3⟩ := hxv.out wr (jBe.out.trans' hOb.out)
        obtain ⟨bu, ou, hA, hbu, hcu⟩ := (hCI.out wr HO.out).t.at_ u' u0 jE1.out
        have hul : u' < tn := by
         have h1 := (hCI.out wr HO.out).t.len
         have h2 := (List.getElem?_eq_some_iff.1 jE1.out).1
         dsimp only at h1
         omega
        dsimp only at hA
        subst hA
        have tp := hcu.c0
        obtain ⟨d0, d1, d2, d3, d4, d5, d6, d7, d8, d9, dl⟩ := hcy.out wr HO.out
        have jG9 : ¬ u0.p <= LV := by omega
        have jHa : ¬ (u' : Int) < 0 := by omega
        clear hcu d0 d1 d2 d3 d4 d5 d6 d7 d9 hPL hun
        go_upto_region 30 with fail
        go_wp2_with fail
        clear v2 v3 tp d8 jG9 jHa
        go_loopw [128] (fun i ws => ∃ p : Nat, p <= rl /\ i = .int .i64 p /\ Hid (Only (fun _ => False) wr ws)) (fun i _ => rl - (intOf i).toNat)
        case atStart => exact ⟨0, Nat.zero_le _, rfl, zh (Only.refl _ _)⟩
        case round =>
         obtain ⟨p, hp, rfl, hOc⟩ := hrel
         by_cases hpl : p < rl
         rotate_left
         ·obtain rfl : p = rl := by omega
          go_wp2_with fail
          go_roundw
          case rel => exact ⟨a + 1, by omega, by go_num, zh (jG7.out.trans' (jBe.out.trans' (hOb.out.trans' (hOc.out.trans' (by repeat (first | with_reducible exact Only.refl _ _ | with_reducible apply Only.drew | with_reducible apply Only.drewN | with_reducible apply Only.alloc))))))⟩
          case measure => simp [intOf]; omega
         have jJc : (p : Int) < (rl : Int) := by omega
         obtain ⟨e, he⟩ : ∃ e, S2.ents[p]? = some e := ⟨_, List.getElem?_eq_getElem (by have := jB4.out; omega)⟩
         have hWe := jG3.out.kept (jDe.out.trans' (jBe.out.trans' (hOb.out.trans' hOc.out))) (fun _ _ h => h)
         rw [jB4.out] at hWe
         obtain ⟨ge, oe, ce2, -, hve, -, -, -, hge, wS, -⟩ := zBG (f := vZ) zCR hWe he
         obtain ⟨rfl, jDv⟩ : p10 = some ⟨ge, oe, none⟩ /\ jC9 = ce2 := by
          injection hve with q1 q2 q3
          exact ⟨q1, q3⟩
         have z0 := wS 0 _ rfl
         have z1 := wS 1 _ rfl
         have z2 := wS 2 _ rfl
         have z3 := wS 3 _ rfl
         have z4 := wS 4 _ rfl
         have z5 := wS 5 _ rfl
         have z6 := wS 6 _ rfl
         have z7 := wS 7 _ rfl
         have z8 := wS 8 _ rfl
         have z9 := wS 9 _ rfl
         have z10 := wS 10 _ rfl
         rw [Nat.add_zero] at z0
         have HO2 := HO.out.trans' hOc.out
         obtain ⟨jJd, v2, v3⟩ := hxv.out wr (jBe.out.trans' (hOb.out.trans' hOc.out))
         obtain ⟨bt, ot, hA2, hbt, hct⟩ := (hCI.out wr HO2).t.at_ tt t0 jE0.out
         have htl : tt < tn := by
          have h1 := (hCI.out wr HO2).t.len
          have h2 := (List.getElem?_eq_some_iff.1 jE0.out).1
          dsimp only at h1
          omega
         obtain ⟨rfl, rfl⟩ : bu = bt /\ ou = ot := by
          dsimp only at hA2
          injection hA2 with q1
          injection q1 with q1 q2
          exact ⟨q1, q2⟩
         have tf := hct.c5
         obtain ⟨d0, d1, d2, d3, d4, d5, d6, d7, d8, d9, dl⟩ := hcy.out wr HO2
         have hen := jG6.out p e he
         clear wS hve hWe he hct d0 d1 d2 d3 d4 d5 d6 d7 d9 hA2 jDv HO2
         by_cases h1 : e.ta = (tt : Int)
         rotate_left
         ·have g1 : (e.ta == (tt : Int)) = false := by simpa using h1
          clear hen
          obtain ⟨We, vQ⟩ : ∃ We, We = wr.alloc (.cells #[.int .i64 e.ta, .int .i64 e.jb, .int .i64 e.re, .int .i64 e.st, .int .i64 e.en, .bool e.fa, .int .i64 e.di, .int .i64 e.hi, .int .i64 e.mi, .int .i64 e.wi, .int .i64 e.ba] 65) := ⟨_, rfl⟩
          obtain ⟨Ye, hYe⟩ : ∃ Ye, Ye = wr.heap.size := ⟨_, rfl⟩
          have y4 := zh (show We.heap[Ye]? = some (.cells ([.int .i64 e.ta, .int .i64 e.jb, .int .i64 e.re, .int .i64 e.st, .int .i64 e.en, .bool e.fa, .int .i64 e.di, .int .i64 e.hi, .int .i64 e.mi, .int .i64 e.wi, .int .i64 e.ba] : List Value).toArray 65 (0, 0)) from by rw [vQ]; exact zAB _ _ hYe.symm)
          have hOe := zh (show Only (fun _ => False) wr We from by rw [vQ]; exact (Only.refl _ _).alloc _)
          replace vQ := zh vQ
          replace hYe := zh hYe
          go_upto_region 35 with fail
          rw [<- hYe.out]
          rw [<- vQ.out]
          have P0 := zAK (zAA y4.out (i := 0) rfl)
          have P1 := zAK (zAA y4.out (i := 1) rfl)
          have P9 := zAK (zAA y4.out (i := 9) rfl)
          have V2 := zAK (hOe.out.cell v2 id)
          have V3 := zAK (hOe.out.cell v3 id)
          have D8 := zAK (hOe.out.cell d8 id)
          have TF := zAK (hOe.out.cell tf id)
          have hex := zGA We
          clear z0 z1 z2 z3 z4 z5 z6 z7 z8 z9 z10 v2 v3 d8 tf
          refine zAW (by kernel_rfl) (by kernel_rfl) ?_
          repeat (go_big_quiet_step (fail))
          refine wpQuiet_nil ?_
          rintro _ ⟨xx, rfl⟩
          have hxx := zh xx.ok
          clear P0 P1 P9 V2 V3 D8 TF hex
          go_wp2_with fail
          go_roundw
          case rel => exact ⟨p + 1, by omega, by go_num, zh (hOc.out.trans' (hOe.out.trans' hxx.out))⟩
          case measure => simp [intOf]; omega
         rw [h1] at z0
         by_cases h2 : e.jb = x.jb
         rotate_left
         ·have g1 : (e.jb == x.jb) = false := by simpa using h2
          clear hen h1
          obtain ⟨We, vQ⟩ : ∃ We, We = wr.alloc (.cells #[.int .i64 (tt : Int), .int .i64 e.jb, .int .i64 e.re, .int .i64 e.st, .int .i64 e.en, .bool e.fa, .int .i64 e.di, .int .i64 e.hi, .int .i64 e.mi, .int .i64 e.wi, .int .i64 e.ba] 65) := ⟨_, rfl⟩
          obtain ⟨Ye, hYe⟩ : ∃ Ye, Ye = wr.heap.size := ⟨_, rfl⟩
          have y4 := zh (show We.heap[Ye]? = some (.cells ([.int .i64 (tt : Int), .int .i64 e.jb, .int .i64 e.re, .int .i64 e.st, .int .i64 e.en, .bool e.fa, .int .i64 e.di, .int .i64 e.hi, .int .i64 e.mi, .int .i64 e.wi, .int .i64 e.ba] : List Value).toArray 65 (0, 0)) from by rw [vQ]; exact zAB _ _ hYe.symm)
          have hOe := zh (show Only (fun _ => False) wr We from by rw [vQ]; exact (Only.refl _ _).alloc _)
          replace vQ := zh vQ
          replace hYe := zh hYe
          go_upto_region 35 with fail
          rw [<- hYe.out]
          rw [<- vQ.out]
          have P0 := zAK (zAA y4.out (i := 0) rfl)
          have P1 := zAK (zAA y4.out (i := 1) rfl)
          have P9 := zAK (zAA y4.out (i := 9) rfl)
          have V2 := zAK (hOe.out.cell v2 id)
          have V3 := zAK (hOe.out.cell v3 id)
          have D8 := zAK (hOe.out.cell d8 id)
          have TF := zAK (hOe.out.cell tf id)
          have hex := zGA We
          clear z0 z1 z2 z3 z4 z5 z6 z7 z8 z9 z10 v2 v3 d8 tf
          refine zAW (by kernel_rfl) (by kernel_rfl) ?_
          repeat (go_big_quiet_step (fail))
          refine wpQuiet_nil ?_
          rintro _ ⟨xx, rfl⟩
          have hxx := zh xx.ok
          clear P0 P1 P9 V2 V3 D8 TF hex
          go_wp2_with fail
          go_roundw
          case rel => exact ⟨p + 1, by omega, by go_num, zh (hOc.out.trans' (hOe.out.trans' hxx.out))⟩
          case measure => simp [intOf]; omega
         obtain ⟨k1, k2⟩ := hen h1 h2
         rw [h2] at z1
         have k3 : ¬ t0.fl < e.wi := by omega
         by_cases h3 : 0 < t0.fl
         ·have k4 : ¬ e.wi = 0 := by omega
          have g1 : decide (t0.fl < e.wi) = false := decide_eq_false k3
          have g2 : decide (0 < t0.fl) = true := decide_eq_true h3
          have g3 : (e.wi == 0) = false := by simpa using k4
          clear hen h1 h2 k1 k2
          obtain ⟨We, vQ⟩ : ∃ We, We = wr.alloc (.cells #[.int .i64 (tt : Int), .int .i64 x.jb, .int .i64 e.re, .int .i64 e.st, .int .i64 e.en, .bool e.fa, .int .i64 e.di, .int .i64 e.hi, .int .i64 e.mi, .int .i64 e.wi, .int .i64 e.ba] 65) := ⟨_, rfl⟩
          obtain ⟨Ye, hYe⟩ : ∃ Ye, Ye = wr.heap.size := ⟨_, rfl⟩
          have y4 := zh (show We.heap[Ye]? = some (.cells ([.int .i64 (tt : Int), .int .i64 x.jb, .int .i64 e.re, .int .i64 e.st, .int .i64 e.en, .bool e.fa, .int .i64 e.di, .int .i64 e.hi, .int .i64 e.mi, .int .i64 e.wi, .int .i64 e.ba] : List Value).toArray 65 (0, 0)) from by rw [vQ]; exact zAB _ _ hYe.symm)
          have hOe := zh (show Only (fun _ => False) wr We from by rw [vQ]; exact (Only.refl _ _).alloc _)
          replace vQ := zh vQ
          replace hYe := zh hYe
          go_upto_region 35 with fail
          rw [<- hYe.out]
          rw [<- vQ.out]
          have P0 := zAK (zAA y4.out (i := 0) rfl)
          have P1 := zAK (zAA y4.out (i := 1) rfl)
          have P9 := zAK (zAA y4.out (i := 9) rfl)
          have V2 := zAK (hOe.out.cell v2 id)
          have V3 := zAK (hOe.out.cell v3 id)
          have D8 := zAK (hOe.out.cell d8 id)
          have TF := zAK (hOe.out.cell tf id)
          have hex := zGA We
          clear z0 z1 z2 z3 z4 z5 z6 z7 z8 z9 z10 v2 v3 d8 tf
          refine zAW (by kernel_rfl) (by kernel_rfl) ?_
          repeat (go_big_quiet_step (fail))
          refine wpQuiet_nil ?_
          rintro _ ⟨xx, rfl⟩
          have hxx := zh xx.ok
          clear P0 P1 P9 V2 V3 D8 TF hex
          go_wp2_with fail
          go_roundw
          case rel => exact ⟨p + 1, by omega, by go_num, zh (hOc.out.trans' (hOe.out.trans' hxx.out))⟩
          case measure => simp [intOf]; omega
         ·have g1 : decide (t0.fl < e.wi) = false := decide_eq_false k3
          have g2 : decide (0 < t0.fl) = false := decide_eq_false h3
          clear hen h1 h2 k1 k2
          obtain ⟨We, vQ⟩ : ∃ We, We = wr.alloc (.cells #[.int .i64 (tt : Int), .int .i64 x.jb, .int .i64 e.re, .int .i64 e.st, .int .i64 e.en, .bool e.fa, .int .i64 e.di, .int .i64 e.hi, .int .i64 e.mi, .int .i64 e.wi, .int .i64 e.ba] 65) := ⟨_, rfl⟩
          obtain ⟨Ye, hYe⟩ : ∃ Ye, Ye = wr.heap.size := ⟨_, rfl⟩
          have y4 := zh (show We.heap[Ye]? = some (.cells ([.int .i64 (tt : Int), .int .i64 x.jb, .int .i64 e.re, .int .i64 e.st, .int .i64 e.en, .bool e.fa, .int .i64 e.di, .int .i64 e.hi, .int .i64 e.mi, .int .i64 e.wi, .int .i64 e.ba] : List Value).toArray 65 (0, 0)) from by rw [vQ]; exact zAB _ _ hYe.symm)
          have hOe := zh (show Only (fun _ => False) wr We from by rw [vQ]; exact (Only.refl _ _).alloc _)
          replace vQ := zh vQ
          replace hYe := zh hYe
          go_upto_region 35 with fail
          rw [<- hYe.out]
          rw [<- vQ.out]
          have P0 := zAK (zAA y4.out (i := 0) rfl)
          have P1 := zAK (zAA y4.out (i := 1) rfl)
          have P9 := zAK (zAA y4.out (i := 9) rfl)
          have V2 := zAK (hOe.out.cell v2 id)
          have V3 := zAK (hOe.out.cell v3 id)
          have D8 := zAK (hOe.out.cell d8 id)
          have TF := zAK (hOe.out.cell tf id)
          have hex := zGA We
          clear z0 z1 z2 z3 z4 z5 z6 z7 z8 z9 z10 v2 v3 d8 tf
          refine zAW (by kernel_rfl) (by kernel_rfl) ?_
          repeat (go_big_quiet_step (fail))
          refine wpQuiet_nil ?_
          rintro _ ⟨xx, rfl⟩
          have hxx := zh xx.ok
          clear P0 P1 P9 V2 V3 D8 TF hex
          go_wp2_with fail
          go_roundw
          case rel => exact ⟨p + 1, by omega, by go_num, zh (hOc.out.trans' (hOe.out.trans' hxx.out))⟩
          case measure => simp [intOf]; omega