/- AssignLower, walked. Written by mka29.py. -/
import Derived.Test.YtlbinlhaejhobaaGreatDoorNone29
namespace Go.Proofs.YtlbinlhaejhobaaGreatDoor
namespace Twn
open Go Go.RowKit Krn Asn Pre Adm
open Bch (GrowU)

set_option maxRecDepth 100000 in
set_option maxHeartbeats 8000000 in
theorem low29_any {w : World} {c : ConfV} {d : ConfL} {pl : Tks} (hw : Words w) (hC : ConfIn w c d pl) {A : Option Addr} {n cap : Nat} {T : List Int} (hT0 : IntsAt w ⟨A, n, cap⟩ T) {A8 : Option Addr} {n8 cap8 : Nat} {z8 : Nat → Int} (h8 : IntRow .u8 w A8 n8 z8) :
    Calls Tryz.prog 7 #[c.val, .slice A n cap, .slice A8 n8 cap8] w (GrowB true w) := by
  obtain ⟨q, hq⟩ : ∃ q, q = w.heap.size := ⟨_, rfl⟩
  obtain ⟨W2, hW2⟩ : ∃ W2, W2 = w.alloc (.cells c.cells.toArray 27) := ⟨_, rfl⟩
  have hO2 : Only (fun _ => False) w W2 := by rw [hW2]; exact (Only.refl _ w).alloc _
  have b0 : W2.heap[q]? = some (.cells c.cells.toArray 27 (0, 0)) := by rw [hW2]; exact heap_new_at _ _ hq.symm
  have hs2 : W2.heap.size = q + 1 := by rw [hW2, hq]; simp
  have hq' := Lib.hid hq
  have hcy := Lib.hid (fun W (ho : Only (fun _ => False) W2 W) => cyv_of (ho.heap b0 (fun h => h)))
  obtain ⟨cv, hcv⟩ : ∃ cv, cv = c.val := ⟨_, rfl⟩
  have kfx := Lib.hid (fixed29_any (hw.new hO2))
  have kfe := Lib.hid (fun W (ho : Only (fun _ => False) W2 W) => show Calls Tryz.prog 25 #[cv] W (FewEnd c pl W) from by rw [hcv]; exact few29_any (hC.new (hO2.trans' ho)))
  obtain ⟨OK, hOK⟩ : ∃ P : Prop, P = (fewB c pl.ts = true ∧ ∀ (i : Nat) t, pl.ts[i]? = some t → t.pe ≤ 1500) := ⟨_, rfl⟩
  unfold FewEnd at kfe
  rw [← hOK] at kfe
  have hcf := Lib.hid (fun (h : OK) W (ho : Only (fun _ => False) W2 W) => show Cf0 W c d pl from by
    rw [hOK] at h
    exact few_cf0 (hw.new (hO2.trans' ho)) (hC.new (hO2.trans' ho)) h.1)
  have hpe := Lib.hid (fun (h : OK) => show ∀ (i : Nat) t, pl.ts[i]? = some t → t.pe ≤ 1500 from by rw [hOK] at h; exact h.2)
  have hlen := ts_len hC
  have hTn : T.length = n := hT0.len
  obtain ⟨PT, hPT⟩ : ∃ b, b = pasB c d pl T := ⟨_, rfl⟩
  have kpl := Lib.hid (fun (h : OK) (hn : n ≤ 30) W (ho : Only (fun _ => False) W2 W) => show Calls Tryz.prog 27 #[cv, .slice A n cap] W (GrowB PT W) from by
    rw [hcv, hPT]
    exact passes_any (hcf.out h W ho) (hT0.new (hO2.trans' ho)) (by omega))
  obtain ⟨LL, hLL⟩ : ∃ P : List Int → Prop, P = fun L => L.length = n ∧ ∀ i, i < n → prio pl.ts i ≤ L.getD i 0 ∧ L.getD i 0 ≤ T.getD i 0 := ⟨_, rfl⟩
  have hb0 := Lib.hid (fun (hp : PT = true) => show n = c.ta.n ∧ LL T ∧ ∀ i, i < n → 0 ≤ prio pl.ts i ∧ T.getD i 0 ≤ 63 from by
    rw [hPT] at hp
    have hn' : n = c.ta.n := by unfold pasB at hp; simp at hp; omega
    rw [pasB_pass hlen (by omega) (fun i _ => rfl)] at hp
    obtain ⟨q1, -, q3⟩ := (passT_iff hlen _).1 hp
    rw [hLL]
    refine ⟨hn', ⟨hTn, fun i hi => ⟨(q3 i (by omega)).1, Int.le_refl _⟩⟩, fun i hi => ⟨?_, (q3 i (by omega)).2.1⟩⟩
    obtain ⟨⟨t, l⟩, hp2⟩ : ∃ x, pl[i]? = some x := ⟨_, List.getElem?_eq_getElem (by omega)⟩
    have := q1.nums (i := i) (by omega) (t := thF (prio pl.ts) i t) (l := l) (by rw [chg_at, hp2]; rfl)
    rw [prio_at' hp2]
    exact this.1.1)
  have hLs := Lib.hid (fun L k x (h : LL L) (hk : k < n) (h1 : prio pl.ts k ≤ x) (h2 : x ≤ L.getD k 0) => show LL (L.set k x) from by
    rw [hLL] at *
    refine ⟨by rw [List.length_set]; exact h.1, fun i hi => ?_⟩
    rw [getD_set (by rw [h.1]; exact hk)]
    by_cases e : i = k
    · subst e; rw [if_pos rfl]; have := h.2 i hi; omega
    · rw [if_neg e]; exact h.2 i hi)
  have hLg := Lib.hid (fun L k (h : LL L) (hk : k < n) => show L.length = n ∧ prio pl.ts k ≤ L.getD k 0 ∧ L.getD k 0 ≤ T.getD k 0 from by rw [hLL] at h; exact ⟨h.1, h.2 k hk⟩)
  have kpf := Lib.hid (fun (h : OK) (hp : PT = true) L (hL : LL L) W (ho : Only (fun _ => False) W2 W) p cp hh (hW : Win W 3 1 (.slice p n cp) hh n (icells L)) => show Calls Tryz.prog 27 #[cv, .slice p n cp] W (GrowB true W) from by
    rw [hcv]
    have hn := (hb0.out hp).1
    have h1 := passes_any (hcf.out h W ho) (ints_of (x := ⟨p, n, cp⟩) hW) (by have := (hcf.out h W ho).n; omega)
    rw [hLL] at hL
    rw [hPT] at hp
    have e : pasB c d pl L = true := by
      rw [pasB_pass hlen (by omega) (fun i _ => rfl)] at hp
      rw [pasB_pass hlen (by omega) (fun i _ => rfl)]
      exact passT_lower hlen hp (fun k hk => hL.2 k (by omega))
    rwa [e] at h1)
  have hta := Lib.hid (fun W (ho : Only (fun _ => False) W2 W) x (hx : x < c.ta.n) => show ∃ b off t, c.ta.A = some ⟨b, off, none⟩ ∧ b < W.heap.size ∧ W.cell? ⟨b, off + x * 7, none⟩ = some (.int .i64 (prio pl.ts x)) ∧ t = t from by
    have hT := (hC.new (hO2.trans' ho)).t
    obtain ⟨t, ht⟩ : ∃ t, pl.ts[x]? = some t := ⟨_, List.getElem?_eq_getElem (by rw [hT.len]; exact hx)⟩
    obtain ⟨b, off, hA, hb, hCe⟩ := hT.at_ x t ht
    exact ⟨b, off, (), hA, hb, by rw [prio_at ht]; exact hCe.c0, rfl⟩)
  have h8a := Lib.hid (fun W (ho : Only (fun _ => False) W2 W) k (hk : k < n8) => show ∃ y : Nat, ∃ b off, z8 k = (y : Int) ∧ y ≤ 255 ∧ A8 = some ⟨b, off, none⟩ ∧ b < W.heap.size ∧ W.cell? ⟨b, off + k, none⟩ = some (.int .u8 (y : Int)) from by
    obtain ⟨⟨b, off, hA, hc, hb⟩, hwf⟩ := h8 k hk
    obtain ⟨y, hy, hy2⟩ := nat_of (M := 255) (by decide) (by decide) hwf
    have ho' := hO2.trans' ho
    exact ⟨y, b, off, hy, hy2, hA, Nat.lt_of_lt_of_le hb ho'.size, by rw [← hy]; exact ho'.cell hc (fun h => h)⟩)
  have hTs := Lib.hid (fun W (ho : Only (fun _ => False) W2 W) => show 0 < n → ∃ ad, A = some ad ∧ ∀ j u, (icells T)[j]? = some u → W.cell? (ad.add j) = some u from ints_src (x := ⟨A, n, cap⟩) (hT0.new (hO2.trans' ho)))
  obtain ⟨PP, hPP⟩ : ∃ P, P = prio pl.ts := ⟨_, rfl⟩
  rw [← hPP] at hLs hLg hta hb0
  obtain ⟨Z, hZ⟩ : ∃ Z, Z = GrowB true w := ⟨_, rfl⟩
  rw [← hZ]
  have hfin := Lib.hid (fun W (ho : Only (fun _ => False) W2 W) => show Z (.returned (.bool true)) W from by rw [hZ]; exact ⟨rfl, hO2.trans' ho⟩)
  rw [← hcv]
  unfold ConfV.val at hcv
  subst hcv
  unfold CYv at hcy
  unfold ConfV.cells at hW2
  have hW2' := Lib.hid hW2
  have hs2' := Lib.hid hs2
  have hTn' := Lib.hid hTn
  clear hw hC hT0 hTn hlen hq hO2 b0 hW2 hs2 hOK hPT hLL hPP hZ hcf hpe h8
  obtain ⟨c0, wy, h, mi, ⟨mA, mn, mc⟩, g, ⟨cA, cn, cc⟩, ⟨eA, en, ec⟩, ⟨tA, tn, tc⟩, ⟨lA, ln, lc⟩⟩ := c
  dsimp only at *
  obtain ⟨d0, d1, d2, d3, d4, d5, d6, d7, d8, d9, dl⟩ := hcy.out W2 (Only.refl _ _)
  go_enter Tryz.func7, Tryz.ntmps7
  go_upto_region 1 with fail
  rw [← hq'.out]
  rw [← hW2'.out]
  go_wp2_with fail
  refine kfx.out.mono ?_
  rintro e w3 ⟨rfl, ho⟩
  have hO3 := Lib.hid ho
  clear ho kfx d0 d1 d2 d3 d4 d5 d6 d7 d8 d9 dl
  obtain ⟨d0, d1, d2, d3, d4, d5, d6, d7, d8, d9, dl⟩ := hcy.out w3 hO3.out
  go_wp2_with fail
  refine (kfe.out w3 hO3.out).mono ?_
  rintro e w4 ⟨b, rfl, hb, ho⟩
  have hO4 := Lib.hid (hO3.out.trans' ho)
  clear ho kfe d0 d1 d2 d3 d4 d5 d6 d7 d8 d9 dl
  have hb' := Lib.hid hb
  clear hb
  cases b with
  | false =>
    have hf := Lib.hid (hfin.out w4 hO4.out)
    go_wp2
    exact hf.out
  | true =>
    have hok := hb'.out rfl
    by_cases hn30 : (30 : Int) < (n : Int)
    · have hf := Lib.hid (hfin.out w4 hO4.out)
      clear hok
      go_wp2
      exact hf.out
    have kp := Lib.hid (kpl.out hok (by omega) w4 hO4.out)
    have kf := Lib.hid (kpf.out hok)
    clear hok hb' kpl kpf
    obtain ⟨d0, d1, d2, d3, d4, d5, d6, d7, d8, d9, dl⟩ := hcy.out w4 hO4.out
    go_wp2_with fail
    refine kp.out.mono ?_
    rintro e w5 ⟨rfl, ho⟩
    have hO5 := Lib.hid (hO4.out.trans' ho)
    clear ho d0 d1 d2 d3 d4 d5 d6 d7 d8 d9 dl kp
    cases PT with
    | false =>
      have hf := Lib.hid (hfin.out w5 hO5.out)
      go_wp2
      exact hf.out
    | true =>
      obtain ⟨hnt, hLT, hP63⟩ := hb0.out rfl
      have hLT' := Lib.hid hLT
      have hP63' := Lib.hid hP63
      have kf2 := Lib.hid (kf.out rfl)
      clear hLT hP63 hb0 kf
      subst hnt
      have hxl := Lib.hid (show (icells T).length = n * 1 from by unfold icells; rw [List.length_map, hTn'.out, Nat.mul_one])
      have hxo := Lib.hid (icells_one T)
      have hsr := Lib.hid (hTs.out (w5.alloc (.cells #[] 3)) (hO5.out.alloc _))
      obtain ⟨XT, hXT⟩ : ∃ X, X = icells T := ⟨_, rfl⟩
      rw [← hXT] at hxl hxo hsr
      have hXT' := Lib.hid hXT
      clear hXT hTs
      go_upto_region 6 with (at_builtin; refine wpList_append_win rfl _ _ 24 rfl 3 (.int .i64 0) 1 8 Tryz.underlying24 infoI rfl (by decide) rfl (Win.empty (w5.alloc (.cells #[] 3)) 3 1 (some ⟨w5.heap.size, 0, none⟩)) A n cap rfl XT hxl.out hsr.out hxo.out (by unfold maxLen; omega) (by omega) ?_; intro v' w9 h9 hW9 hO9 hh9; rw [Nat.zero_add, List.nil_append] at hW9; obtain ⟨pN, cN, hvN, -, -⟩ := hW9.out.form; subst hvN)
      have hO89 := Lib.hid (show Only (fun _ => False) w5 w9 from ((Only.refl (fun _ => False) w5).alloc (.cells #[] 3)).trans hO9.out (fun _ _ e => by cases e))
      have hh9' := Lib.hid (show ∀ g, h9 = some g → w5.heap.size ≤ g from fun g hg => by
        rcases hh9.out with e | ⟨g', e, hg'⟩
        · rw [e] at hg; cases hg
        · rw [e] at hg; cases hg; exact Nat.le_trans (Only.size (S := fun _ => False) ((Only.refl _ w5).alloc _)) hg')
      rw [hXT'.out] at hW9
      clear hO9 hh9 hxl hxo hsr hXT'
      go_wp2
      go_loopw [8, 30] (fun _ i wr => ∃ (k : Nat) (L : List Int), i = .int .i64 k ∧ k ≤ n ∧ Hid (LL L) ∧ Hid (Win wr 3 1 (.slice pN n cN) h9 n (icells L)) ∧ Hid (Only (fun _ => False) w5 wr)) (fun _ i _ => n - (intOf i).toNat)
      case atStart => exact ⟨0, T, rfl, Nat.zero_le _, hLT', hW9, hO89⟩
      case round =>
        obtain ⟨k, L, rfl, hk, hL, hW, hO⟩ := hrel
        obtain ⟨ws, hws⟩ : ∃ ws : World, ws = wr := ⟨_, rfl⟩
        subst hws
        by_cases hkn : k < n
        · have hkn' : (k : Int) < (n : Int) := by omega
          by_cases hk8 : k < n8
          · have hk8' : (k : Int) < (n8 : Int) := by omega
            obtain ⟨y, b8, off8, -, hy, rfl, hb8, hc8⟩ := h8a.out ws (hO5.out.trans' hO.out) k hk8
            obtain ⟨tb, toff, -, rfl, htb, htc, -⟩ := hta.out ws (hO5.out.trans' hO.out) k hkn
            obtain ⟨d0, d1, d2, d3, d4, d5, d6, d7, d8, d9, dl⟩ := hcy.out ws (hO5.out.trans' hO.out)
            obtain ⟨g5, o5, c5, e5, v5, -, -, hl5, hc5, hf5⟩ := hW.out.at_ (by omega)
            injection v5 with v5 _ v5'
            subst v5 v5' e5
            obtain ⟨hLl, hL1, hL2⟩ := hLg.out L k hL.out hkn
            have hp63 := hP63'.out k hkn
            obtain ⟨x, hx⟩ : ∃ x, L[k]? = some x := ⟨_, List.getElem?_eq_getElem (by omega)⟩
            have hgx : L.getD k 0 = x := by rw [List.getD_eq_getElem?_getD, hx]; rfl
            rw [hgx] at hL1 hL2
            have hcx := hc5 k (.int .i64 x) (by unfold icells; rw [List.getElem?_map, hx]; rfl)
            obtain ⟨P, hP⟩ : ∃ P, P = PP k := ⟨_, rfl⟩
            rw [← hP] at htc hL1 hp63
            obtain ⟨tk, htk⟩ : ∃ t, t = T.getD k 0 := ⟨_, rfl⟩
            rw [← htk] at hL2 hp63
            have hw1 : IntKind.i64.wrap (x - (y : Int)) = x - (y : Int) := IntWalk.i64_in _ (by omega)
            obtain ⟨m, hm⟩ : ∃ m, m = max (x - (y : Int)) P := ⟨_, rfl⟩
            have hLn := Lib.hid (hLs.out L k m hL.out hkn (by rw [← hP]; omega) (by rw [hgx]; omega))
            have hset := Lib.hid (fun nq => win_setCell (k := k) (hW.out.kept ((Only.refl (fun _ => False) ws).drewN nq) (fun _ _ h => h)) (by omega) (by omega) (.int .i64 m))
            rw [show (icells L).set k (.int .i64 m) = icells (L.set k m) from by unfold icells; rw [List.map_set]] at hset
            have hO9 := Lib.hid (fun nq => show Only (fun _ => False) w5 ((ws.drewN nq).setCell ⟨g5, o5 + k, none⟩ (.int .i64 m)) from (hO.out.drewN nq).trans ((Only.refl (fun b => b = g5) (ws.drewN nq)).setCell (p := ⟨g5, o5 + k, none⟩) (fun _ => rfl) _) (fun y hy e => by have := hh9'.out g5 rfl; omega))
            have hfz := hf5 (o5 + k)
            have hm' := Lib.hid hm
            clear hc5 hf5 hLl hx hgx hP htk hL1 hL2 hp63 hm
            go_upto_region 10 with fail
            refine wp_region_quiet_tail_lit 20 (by kernel_rfl) (by kernel_rfl) ?_
            simp only [List.take_succ_cons, List.take_zero, List.drop_succ_cons, List.drop_zero]
            repeat (go_big_quiet_step (fail))
            refine wpQuiet_nil ?_
            rintro _ ⟨nq, rfl⟩
            go_wp2
            go_roundw
            case rel => exact ⟨k + 1, L.set k m, by go_num, by omega, hLn, by rw [← hm'.out]; exact Lib.hid (hset.out nq), by rw [← hm'.out]; exact Lib.hid (hO9.out nq)⟩
            case measure => simp [intOf]; omega
          · have hk8' : ¬ (k : Int) < (n8 : Int) := by omega
            go_wp2
            go_roundw
            case rel => exact ⟨k + 1, L, by go_num, by omega, hL, hW, hO⟩
            case measure => simp [intOf]; omega
        · obtain rfl : k = n := by omega
          have hkn' : ¬ (k : Int) < (k : Int) := by omega
          obtain ⟨d0, d1, d2, d3, d4, d5, d6, d7, d8, d9, dl⟩ := hcy.out ws (hO5.out.trans' hO.out)
          go_wp2_with fail
          refine (kf2.out L hL.out ws (hO5.out.trans' hO.out) _ _ _ hW.out).mono ?_
          rintro e w7 ⟨rfl, ho⟩
          have hf := Lib.hid (hfin.out w7 (hO5.out.trans' (hO.out.trans' ho)))
          clear ho d0 d1 d2 d3 d4 d5 d6 d7 d8 d9 dl
          go_wp2
          exact hf.out
theorem low29_law (c : ConfV) (a : Option Addr) (len cap : Nat) (z : Nat → Int) (a8 : Option Addr) (len8 cap8 : Nat) (z8 : Nat → Int) (W : World) (hw : Words W) (g0 : ∃ (dd : ConfL) (pl : Tks), ConfIn W c dd pl) (g1 : IntRow .i64 W a len z ∧ len ≤ cap ∧ cap ≤ maxLen) (g2 : IntRow .u8 W a8 len8 z8 ∧ len8 ≤ cap8 ∧ cap8 ≤ maxLen) :
    Calls Tryz.prog 7 #[c.val, .slice a len cap, .slice a8 len8 cap8] W fun e w' => e = .returned (.bool true) ∧ Below W.heap.size W w' := by
  obtain ⟨dd, pl, hC⟩ := g0
  exact (low29_any hw hC (ints_row g1.1 g1.2.1) g2.1).mono fun e w' ⟨he, hO⟩ => ⟨he, hO.below (Nat.le_refl _) (fun _ h => h.elim)⟩
end Twn
end Go.Proofs.YtlbinlhaejhobaaGreatDoor
