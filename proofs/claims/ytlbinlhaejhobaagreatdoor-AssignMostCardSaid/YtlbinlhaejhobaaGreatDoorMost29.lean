/- AssignMost, walked. Written by mka29.py. -/
import Derived.Test.YtlbinlhaejhobaaGreatDoorNone29
namespace Go.Proofs.YtlbinlhaejhobaaGreatDoor
namespace Twn
open Go Go.RowKit Krn Asn Pre Adm
open Bch (GrowU)

set_option maxRecDepth 100000 in
set_option maxHeartbeats 8000000 in
theorem most29_any {w : World} {c : ConfV} {d : ConfL} {pl : Tks} (hw : Words w) (hC : ConfIn w c d pl) {A : Option Addr} {n cap : Nat} {T : List Int} (hT0 : IntsAt w ⟨A, n, cap⟩ T) {b8 : Nat} (hb8 : b8 ≤ 255) :
    Calls Tryz.prog 6 #[c.val, .slice A n cap, .int .u8 (b8 : Int)] w (GrowB true w) := by
  obtain ⟨q, hq⟩ : ∃ q, q = w.heap.size := ⟨_, rfl⟩
  obtain ⟨W2, hW2⟩ : ∃ W2, W2 = w.alloc (.cells c.cells.toArray 27) := ⟨_, rfl⟩
  have hO2 : Only (fun _ => False) w W2 := by rw [hW2]; exact (Only.refl _ w).alloc _
  have b0 : W2.heap[q]? = some (.cells c.cells.toArray 27 (0, 0)) := by rw [hW2]; exact heap_new_at _ _ hq.symm
  have hs2 : W2.heap.size = q + 1 := by rw [hW2, hq]; simp
  have hq' := Lib.hid hq
  have hcy := Lib.hid (fun W (ho : Only (fun _ => False) W2 W) => cyv_of (ho.heap b0 (fun h => h)))
  obtain ⟨cv, hcv⟩ : ∃ cv, cv = c.val := ⟨_, rfl⟩
  have kfx := Lib.hid (fixed29_any (hw.new hO2))
  have kfe := Lib.hid (fun W (ho : Only (fun _ => False) W2 W) => show Calls Tryz.prog 25 #[cv] W (FewEnd c pl W) from by rw [hcv]; exact few29_any (hC.new (hO2.trans' ho)))
  obtain ⟨OK, hOK⟩ : ∃ P : Prop, P = (fewB c pl.ts = true ∧ ∀ (i : Nat) t, pl.ts[i]? = some t → t.pe ≤ 1500) := ⟨_, rfl⟩
  unfold FewEnd at kfe
  rw [← hOK] at kfe
  have hcf := Lib.hid (fun (h : OK) W (ho : Only (fun _ => False) W2 W) => show Cf0 W c d pl from by
    rw [hOK] at h
    exact few_cf0 (hw.new (hO2.trans' ho)) (hC.new (hO2.trans' ho)) h.1)
  have hpe := Lib.hid (fun (h : OK) => show ∀ (i : Nat) t, pl.ts[i]? = some t → t.pe ≤ 1500 from by rw [hOK] at h; exact h.2)
  have hlen := ts_len hC
  have hTn : T.length = n := hT0.len
  have kse := Lib.hid (fun (h : OK) W (ho : Only (fun _ => False) W2 W) => show Calls Tryz.prog 31 #[cv] W (SrEnd c d pl W) from by rw [hcv]; exact search_any (hcf.out h W ho))
  obtain ⟨P0, hP0⟩ : ∃ b, b = passT c d pl (prio pl.ts) := ⟨_, rfl⟩
  obtain ⟨PT, hPT⟩ : ∃ b, b = pasB c d pl T := ⟨_, rfl⟩
  have kpl := Lib.hid (fun (h : OK) (hn : n ≤ 30) W (ho : Only (fun _ => False) W2 W) => show Calls Tryz.prog 28 #[cv, .slice A n cap] W (GrowB PT W) from by
    rw [hcv, hPT]
    exact rpasses_any (hcf.out h W ho) (hpe.out h) (hT0.new (hO2.trans' ho)) (by omega))
  obtain ⟨HB, hHB⟩ : ∃ P : List Int → Prop, P = fun B => B.length = c.ta.n ∧ ∀ k, k < c.ta.n → Hi c d pl k (B.getD k 0) := ⟨_, rfl⟩
  have hn0 := Lib.hid (fun (hp : P0 = true) => show 0 < c.ta.n ∧ c.ta.n ≤ 8 from by
    rw [hP0] at hp
    have h1 := ((passT_iff hlen _).1 hp).1
    have h2 := h1.counts
    exact ⟨h1.n0, by omega⟩)
  have kpb := Lib.hid (fun (h : OK) (hp : P0 = true) B (hB : HB B) W (ho : Only (fun _ => False) W2 W) p cp hh (hW : Win W 3 1 (.slice p c.ta.n cp) hh c.ta.n (icells B)) => show Calls Tryz.prog 28 #[cv, .slice p c.ta.n cp] W (GrowB true W) from by
    rw [hcv]
    rw [hHB] at hB
    have h1 := rpasses_any (hcf.out h W ho) (hpe.out h) (ints_of (x := ⟨p, c.ta.n, cp⟩) hW) (by have := (hcf.out h W ho).n; omega)
    have e : pasB c d pl B = true := by rw [pasB_pass hlen hB.1 (fun i _ => rfl)]; exact best_pass hlen (by rw [← hP0]; exact hp) hB.2
    rwa [e] at h1)
  have kp1 := Lib.hid (fun (h : OK) (hp : P0 = true) B (hB : HB B) k (hk : k < c.ta.n) W (ho : Only (fun _ => False) W2 W) p cp hh (hW : Win W 3 1 (.slice p c.ta.n cp) hh c.ta.n (icells (B.set k (B.getD k 0 + 1)))) => show Calls Tryz.prog 28 #[cv, .slice p c.ta.n cp] W (GrowB false W) from by
    rw [hcv]
    rw [hHB] at hB
    have h1 := rpasses_any (hcf.out h W ho) (hpe.out h) (ints_of (x := ⟨p, c.ta.n, cp⟩) hW) (by have := (hcf.out h W ho).n; omega)
    have e : pasB c d pl (B.set k (B.getD k 0 + 1)) = false := by
      cases hq : pasB c d pl (B.set k (B.getD k 0 + 1)) with
      | false => rfl
      | true =>
        rw [pasB_pass hlen (by rw [List.length_set]; exact hB.1) (fun i _ => rfl)] at hq
        have := best_most hlen hB.2 hq hk
        rw [getD_set (by rw [hB.1]; exact hk), if_pos rfl] at this
        omega
    rwa [e] at h1)
  have hmo := Lib.hid (fun (hp : PT = true) B (hB : HB B) => show n = c.ta.n ∧ ∀ i y z, i < n → T[i]? = some y → B[i]? = some z → ¬ z < y from by
    rw [hPT] at hp
    rw [hHB] at hB
    have hn' : n = c.ta.n := by unfold pasB at hp; simp at hp; omega
    refine ⟨hn', fun i y z hi hy hz hlt => ?_⟩
    rw [pasB_pass hlen (by omega) (fun i _ => rfl)] at hp
    have := best_most hlen hB.2 hp (k := i) (by omega)
    rw [List.getD_eq_getElem?_getD, List.getD_eq_getElem?_getD, hy, hz] at this
    simp at this
    omega)
  have hTa := Lib.hid (fun W (ho : Only (fun _ => False) W2 W) k (hk : k < n) => show ∃ z b off, T[k]? = some z ∧ A = some ⟨b, off, none⟩ ∧ b < W.heap.size ∧ W.cell? ⟨b, off + k, none⟩ = some (.int .i64 z) from by
    obtain ⟨z, hz⟩ : ∃ z, T[k]? = some z := ⟨_, List.getElem?_eq_getElem (by omega)⟩
    obtain ⟨b, off, q1, q2, q3⟩ := (hT0.new (hO2.trans' ho)).at_ k z hz
    exact ⟨z, b, off, hz, q1, q2, q3⟩)
  have hHBl := Lib.hid (fun (hp : P0 = true) B (hB : HB B) k (hk : k < c.ta.n) => show 0 ≤ B.getD k 0 ∧ B.getD k 0 ≤ 63 from by
    rw [hHB] at hB
    rw [hP0] at hp
    obtain ⟨h1, h2, -⟩ := hB.2 k hk
    have := lo_63 hlen hp k hk
    omega)
  unfold SrEnd at kse
  rw [← hP0] at kse
  have hHBi := Lib.hid (fun B (h1 : B.length = c.ta.n) (h2 : ∀ k, k < c.ta.n → Hi c d pl k (B.getD k 0)) => show HB B from by rw [hHB]; exact ⟨h1, h2⟩)
  obtain ⟨HI, hHI⟩ : ∃ P, P = Hi c d pl := ⟨_, rfl⟩
  rw [← hHI] at kse hHBi
  obtain ⟨Z, hZ⟩ : ∃ Z, Z = GrowB true w := ⟨_, rfl⟩
  rw [← hZ]
  have hfin := Lib.hid (fun W (ho : Only (fun _ => False) W2 W) => show Z (.returned (.bool true)) W from by rw [hZ]; exact ⟨rfl, hO2.trans' ho⟩)
  rw [← hcv]
  unfold ConfV.val at hcv
  subst hcv
  unfold CYv at hcy
  unfold ConfV.cells at hW2
  have hW2' := Lib.hid hW2
  have hs2' := Lib.hid hs2
  clear hw hC hT0 hTn hlen hq hO2 b0 hW2 hs2 hOK hP0 hPT hHB hHI hZ hcf hpe
  obtain ⟨c0, wy, h, mi, ⟨mA, mn, mc⟩, g, ⟨cA, cn, cc⟩, ⟨eA, en, ec⟩, ⟨tA, tn, tc⟩, ⟨lA, ln, lc⟩⟩ := c
  dsimp only at *
  obtain ⟨d0, d1, d2, d3, d4, d5, d6, d7, d8, d9, dl⟩ := hcy.out W2 (Only.refl _ _)
  go_enter Tryz.func6, Tryz.ntmps6
  go_upto_region 1 with fail
  rw [← hq'.out]
  rw [← hW2'.out]
  go_wp2_with fail
  refine kfx.out.mono ?_
  rintro e w3 ⟨rfl, ho⟩
  have hO3 := Lib.hid ho
  clear ho kfx d0 d1 d2 d3 d4 d5 d6 d7 d8 d9 dl
  obtain ⟨d0, d1, d2, d3, d4, d5, d6, d7, d8, d9, dl⟩ := hcy.out w3 hO3.out
  go_wp2_with fail
  refine (kfe.out w3 hO3.out).mono ?_
  rintro e w4 ⟨b, rfl, hb, ho⟩
  have hO4 := Lib.hid (hO3.out.trans' ho)
  clear ho kfe d0 d1 d2 d3 d4 d5 d6 d7 d8 d9 dl
  have hb' := Lib.hid hb
  clear hb
  cases b with
  | false =>
    have hf := Lib.hid (hfin.out w4 hO4.out)
    go_wp2
    exact hf.out
  | true =>
    have hok := hb'.out rfl
    by_cases hn30 : (30 : Int) < (n : Int)
    · have hf := Lib.hid (hfin.out w4 hO4.out)
      clear hok
      go_wp2
      exact hf.out
    have ks := Lib.hid (kse.out hok w4 hO4.out)
    have kp := Lib.hid (kpl.out hok (by omega))
    have kb := Lib.hid (kpb.out hok)
    have k1 := Lib.hid (kp1.out hok)
    clear hok hb' kse kpl kpb kp1
    obtain ⟨d0, d1, d2, d3, d4, d5, d6, d7, d8, d9, dl⟩ := hcy.out w4 hO4.out
    go_wp2_with fail
    refine ks.out.mono ?_
    rintro e w5 ⟨ho, hs1, hs2b⟩
    have hO5 := Lib.hid (hO4.out.trans' ho)
    clear ho d0 d1 d2 d3 d4 d5 d6 d7 d8 d9 dl ks
    cases P0 with
    | false =>
      obtain rfl := hs1 rfl
      have hf := Lib.hid (hfin.out w5 hO5.out)
      clear hs1 hs2b kp kb k1
      go_wp2
      exact hf.out
    | true =>
      obtain ⟨p, cp, hh, B, rfl, hW, -, hBH⟩ := hs2b rfl
      obtain ⟨ht0, ht8⟩ := hn0.out rfl
      have hBl : B.length = tn := by have := hW.1; simpa [icells] using this
      have hB := Lib.hid (hHBi.out B hBl hBH)
      have hA5 := Lib.hid (fun W (h : Only (fun _ => False) w5 W) => hW.kept h (fun _ _ h => h))
      have kb2 := Lib.hid (fun W (ho : Only (fun _ => False) w5 W) => kb.out rfl B hB.out W (hO5.out.trans' ho) _ _ _ (hA5.out W ho))
      have k12 := Lib.hid (fun k hk W (ho : Only (fun _ => False) w5 W) => k1.out rfl B hB.out k hk W (hO5.out.trans' ho))
      have hBl' := Lib.hid hBl
      have hB63 := Lib.hid (fun k hk => hHBl.out rfl B hB.out k hk)
      clear hHBl hHBi
      clear hs1 hs2b kb k1 hW hBH hBl hn0
      have hTT : ((tn : Int) != (tn : Int)) = false := by simp
      obtain ⟨d0, d1, d2, d3, d4, d5, d6, d7, d8, d9, dl⟩ := hcy.out w5 hO5.out
      go_wp2_with fail
      refine (kb2.out w5 (Only.refl _ _)).mono ?_
      rintro e w6 ⟨rfl, ho⟩
      have hO6 := Lib.hid ho
      clear ho d0 d1 d2 d3 d4 d5 d6 d7 d8 d9 dl kb2
      obtain ⟨d0, d1, d2, d3, d4, d5, d6, d7, d8, d9, dl⟩ := hcy.out w6 (hO5.out.trans' hO6.out)
      go_wp2_with fail
      refine (kp.out w6 (hO5.out.trans' hO6.out)).mono ?_
      rintro e w7 ⟨rfl, ho⟩
      have hO7 := Lib.hid (hO6.out.trans' ho)
      clear ho d0 d1 d2 d3 d4 d5 d6 d7 d8 d9 dl kp hTT
      go_upto_if 46 with fail
      go_cut [9] from 46 to 61 (fun _ wd => Only (fun _ => False) w5 wd)
      case first =>
        cases PT with
        | false =>
          go_wp2
          go_meet
          case rel => exact hO7.out
        | true =>
          obtain ⟨hnt, hle⟩ := hmo.out rfl B hB.out
          have hle' := Lib.hid hle
          clear hle
          subst hnt
          go_wp2
          go_loopw [9, 49] (fun _ i wr => ∃ k : Nat, i = .int .i64 k ∧ k ≤ n ∧ Hid (Only (fun _ => False) w5 wr)) (fun _ i _ => n - (intOf i).toNat)
          case atStart => exact ⟨0, rfl, Nat.zero_le _, hO7⟩
          case round =>
            obtain ⟨k, rfl, hk, hO⟩ := hrel
            obtain ⟨ws, hws⟩ : ∃ ws : World, ws = wr := ⟨_, rfl⟩
            subst hws
            by_cases hkn : k < n
            · have hkn' : (k : Int) < (n : Int) := by omega
              obtain ⟨y, b, off, hy, rfl, hb, hc⟩ := hTa.out ws (hO5.out.trans' hO.out) k hkn
              obtain ⟨g5, o5, c5, e5, v5, -, -, hl5, hc5, -⟩ := (hA5.out ws hO.out).at_ ht0
              injection v5 with v5 _ v5'
              subst v5 v5'
              obtain ⟨z, hz⟩ : ∃ z, B[k]? = some z := ⟨_, List.getElem?_eq_getElem (by rw [hBl'.out]; exact hkn)⟩
              have hcz := hc5 k (.int .i64 z) (by unfold icells; rw [List.getElem?_map, hz]; rfl)
              have hng : ¬ z < y := by have := hle'.out k y z hkn hy hz; omega
              clear hy hz hc5
              go_upto_region 14 with fail
              go_quiet (fail)
              go_wp2
              go_roundw
              case rel => exact ⟨k + 1, by go_num, by omega, Lib.hid (hO.out.trans' ((Only.refl _ ws).drewN _))⟩
              case measure => simp [intOf]; omega
            · obtain rfl : k = n := by omega
              have hkn' : ¬ (k : Int) < (k : Int) := by omega
              go_wp2
              go_meet
              case rel => exact hO.out
      obtain ⟨w8, hw8⟩ : ∃ w8 : World, w8 = wc := ⟨_, rfl⟩
      subst hw8
      have hO8 := Lib.hid hcut
      clear hcut hmo hTa
      obtain ⟨kk, hkk⟩ : ∃ kk, kk = b8 % tn := ⟨_, rfl⟩
      have hkt : kk < tn := by rw [hkk]; exact Nat.mod_lt _ ht0
      have hrem : (b8 : Int) % (tn : Int) = (kk : Int) := by rw [hkk]; exact (Int.natCast_emod _ _).symm
      have htne : tn ≠ 0 := by omega
      obtain ⟨z, hz⟩ : ∃ z, B[kk]? = some z := ⟨_, List.getElem?_eq_getElem (by rw [hBl'.out]; exact hkt)⟩
      have hgz : B.getD kk 0 = z := by rw [List.getD_eq_getElem?_getD, hz]; rfl
      have hz63 := hB63.out kk hkt
      rw [hgz] at hz63
      have hw1 : IntKind.i64.wrap (z + 1) = z + 1 := IntWalk.i64_in _ (by omega)
      have hxl := Lib.hid (show (icells B).length = tn * 1 from by unfold icells; rw [List.length_map, hBl'.out, Nat.mul_one])
      have hxo := Lib.hid (icells_one B)
      have hsr := Lib.hid ((hA5.out (w8.alloc (.cells #[] 3)) (hO8.out.alloc _)).src)
      have hxz : (icells B)[kk]? = some (.int .i64 z) := by unfold icells; rw [List.getElem?_map, hz]; rfl
      have hxs : (icells B).set kk (.int .i64 (z + 1)) = icells (B.set kk (B.getD kk 0 + 1)) := by unfold icells; rw [List.map_set, hgz]
      have hxz' := Lib.hid hxz
      have hxs' := Lib.hid hxs
      obtain ⟨XS, hXS⟩ : ∃ X, X = icells B := ⟨_, rfl⟩
      rw [← hXS] at hxl hxo hsr hxz' hxs'
      have k13 := Lib.hid (k12.out kk hkt)
      clear hkk hz hgz hxz hxs hXS hBl' hB63 hB k12
      go_upto_region 19 with (at_builtin; refine wpList_append_win rfl _ _ 24 rfl 3 (.int .i64 0) 1 8 Tryz.underlying24 infoI rfl (by decide) rfl (Win.empty (w8.alloc (.cells #[] 3)) 3 1 (some ⟨w8.heap.size, 0, none⟩)) p tn cp rfl XS hxl.out hsr.out hxo.out (by unfold maxLen; omega) (by omega) ?_; intro v' w9 h9 hW9 hO9 hh9; rw [Nat.zero_add, List.nil_append] at hW9; obtain ⟨pN, cN, hvN, -, -⟩ := hW9.out.form; subst hvN)
      have hO89 : Only (fun _ => False) w8 w9 := ((Only.refl (fun _ => False) w8).alloc (.cells #[] 3)).trans hO9.out (fun _ _ e => by cases e)
      have hh9' := Lib.hid (show ∀ g, h9 = some g → w8.heap.size ≤ g from fun g hg => by
        rcases hh9.out with e | ⟨g', e, hg'⟩
        · rw [e] at hg; cases hg
        · rw [e] at hg; cases hg; exact Nat.le_trans (Only.size (S := fun _ => False) ((Only.refl _ w8).alloc _)) hg')
      have hWn := hW9.out
      obtain ⟨g5, o5, c5, e5, v5, -, -, hl5, hc5, hf5⟩ := hWn.at_ ht0
      injection v5 with v5 _ v5'
      subst v5 v5' e5
      have hcz := hc5 kk _ hxz'.out
      have hset := win_setCell (k := kk) hWn ht0 (by omega) (.int .i64 (z + 1))
      rw [hxs'.out] at hset
      have hset' := Lib.hid hset
      have hfz := hf5 (o5 + kk)
      have hO10 := Lib.hid (show Only (fun _ => False) w8 (w9.setCell ⟨g5, o5 + kk, none⟩ (.int .i64 (z + 1))) from hO89.trans ((Only.refl (fun b => b = g5) w9).setCell (p := ⟨g5, o5 + kk, none⟩) (fun _ => rfl) _) (fun y hy e => by have := hh9'.out g5 rfl; omega))
      clear hset hWn hc5 hf5 hO89 hW9 hO9 hh9 hh9' hxz' hxs' hxl hxo hsr
      go_upto_region 20 with fail
      obtain ⟨w10, hw10⟩ : ∃ W, W = w9.setCell ⟨g5, o5 + kk, none⟩ (.int .i64 (z + 1)) := ⟨_, rfl⟩
      rw [← hw10] at hset' hO10 ⊢
      clear hw10 hcz hfz hl5
      have hO11 := Lib.hid (hO8.out.trans' hO10.out)
      obtain ⟨d0, d1, d2, d3, d4, d5, d6, d7, d8, d9, dl⟩ := hcy.out w10 (hO5.out.trans' hO11.out)
      go_wp2_with fail
      refine (k13.out w10 hO11.out _ _ _ hset'.out).mono ?_
      rintro e w12 ⟨rfl, ho⟩
      have hf := Lib.hid (hfin.out w12 (hO5.out.trans' (hO11.out.trans' ho)))
      clear ho d0 d1 d2 d3 d4 d5 d6 d7 d8 d9 dl
      go_wp2
      exact hf.out
theorem most29_law (c : ConfV) (a : Option Addr) (len cap : Nat) (z : Nat → Int) (b : Int) (W : World) (hw : Words W) (g0 : ∃ (dd : ConfL) (pl : Tks), ConfIn W c dd pl) (g1 : IntRow .i64 W a len z ∧ len ≤ cap ∧ cap ≤ maxLen) (g2 : (Lit.int .u8 b).wf = true) :
    Calls Tryz.prog 6 #[c.val, .slice a len cap, .int .u8 b] W fun e w' => e = .returned (.bool true) ∧ Below W.heap.size W w' := by
  obtain ⟨dd, pl, hC⟩ := g0
  obtain ⟨b8, rfl, hb8⟩ : ∃ n : Nat, b = n ∧ n ≤ 255 := by
    exact nat_of (M := 255) (by decide) (by decide) g2
  exact (most29_any hw hC (ints_row g1.1 g1.2.1) hb8).mono fun e w' ⟨he, hO⟩ => ⟨he, hO.below (Nat.le_refl _) (fun _ h => h.elim)⟩
end Twn
end Go.Proofs.YtlbinlhaejhobaaGreatDoor
