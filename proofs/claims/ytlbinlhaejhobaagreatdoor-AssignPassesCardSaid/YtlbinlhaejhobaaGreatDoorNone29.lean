/- AssignNone, walked. Written by mka29.py. -/
import Derived.Test.YtlbinlhaejhobaaGreatDoorG29
namespace Go.Proofs.YtlbinlhaejhobaaGreatDoor
namespace Twn
open Go Go.RowKit Krn Asn Pre Adm
open Bch (GrowU)

theorem nat_of {kd : IntKind} {M : Nat} (h1 : kd.min = 0) (h2 : kd.max = M) {z : Int} (h : (Lit.int kd z).wf = true) : ∃ b : Nat, z = b ∧ b ≤ M := by
  simp [Lit.wf] at h
  simp only [h1, h2] at h
  exact ⟨z.toNat, by omega, by omega⟩
theorem ints_row {w : World} {A : Option Addr} {n cap : Nat} {z : Nat → Int} (h : IntRow .i64 w A n z) (hc : n ≤ cap) : IntsAt w ⟨A, n, cap⟩ ((List.range n).map z) := by
  refine ⟨by simp, hc, fun k y hy => ?_⟩
  rw [List.getElem?_map] at hy
  by_cases hk : k < n
  · rw [List.getElem?_range hk] at hy
    obtain rfl : z k = y := by simpa using hy
    obtain ⟨⟨b, off, hA, hcell, hb⟩, -⟩ := h k hk
    exact ⟨b, off, hA, hb, hcell⟩
  · rw [List.getElem?_eq_none (l := List.range n) (by simp; omega)] at hy
    simp at hy
set_option maxRecDepth 100000 in
set_option maxHeartbeats 8000000 in
theorem none29_any {w : World} {c : ConfV} {d : ConfL} {pl : Tks} (hw : Words w) (hC : ConfIn w c d pl) {A : Option Addr} {n cap : Nat} {T : List Int} (hT0 : IntsAt w ⟨A, n, cap⟩ T) :
    Calls Tryz.prog 5 #[c.val, .slice A n cap] w (GrowB true w) := by
  obtain ⟨q, hq⟩ : ∃ q, q = w.heap.size := ⟨_, rfl⟩
  obtain ⟨W2, hW2⟩ : ∃ W2, W2 = w.alloc (.cells c.cells.toArray 27) := ⟨_, rfl⟩
  have hO2 : Only (fun _ => False) w W2 := by rw [hW2]; exact (Only.refl _ w).alloc _
  have b0 : W2.heap[q]? = some (.cells c.cells.toArray 27 (0, 0)) := by rw [hW2]; exact heap_new_at _ _ hq.symm
  have hs2 : W2.heap.size = q + 1 := by rw [hW2, hq]; simp
  have hq' := Lib.hid hq
  have hcy := Lib.hid (fun W (ho : Only (fun _ => False) W2 W) => cyv_of (ho.heap b0 (fun h => h)))
  obtain ⟨cv, hcv⟩ : ∃ cv, cv = c.val := ⟨_, rfl⟩
  have kfx := Lib.hid (fixed29_any (hw.new hO2))
  have kfe := Lib.hid (fun W (ho : Only (fun _ => False) W2 W) => show Calls Tryz.prog 25 #[cv] W (FewEnd c pl W) from by rw [hcv]; exact few29_any (hC.new (hO2.trans' ho)))
  obtain ⟨OK, hOK⟩ : ∃ P : Prop, P = (fewB c pl.ts = true ∧ ∀ (i : Nat) t, pl.ts[i]? = some t → t.pe ≤ 1500) := ⟨_, rfl⟩
  unfold FewEnd at kfe
  rw [← hOK] at kfe
  have hcf := Lib.hid (fun (h : OK) W (ho : Only (fun _ => False) W2 W) => show Cf0 W c d pl from by
    rw [hOK] at h
    exact few_cf0 (hw.new (hO2.trans' ho)) (hC.new (hO2.trans' ho)) h.1)
  have hpe := Lib.hid (fun (h : OK) => show ∀ (i : Nat) t, pl.ts[i]? = some t → t.pe ≤ 1500 from by rw [hOK] at h; exact h.2)
  have hlen := ts_len hC
  have kse := Lib.hid (fun (h : OK) W (ho : Only (fun _ => False) W2 W) => show Calls Tryz.prog 31 #[cv] W (SrEnd c d pl W) from by rw [hcv]; exact search_any (hcf.out h W ho))
  have kle := Lib.hid (fun (h : OK) W (ho : Only (fun _ => False) W2 W) => show Calls Tryz.prog 29 #[cv] W (LeastEnd pl c.ta.n W) from by rw [hcv]; exact least_any (hcf.out h W ho))
  obtain ⟨P0, hP0⟩ : ∃ b, b = passT c d pl (prio pl.ts) := ⟨_, rfl⟩
  obtain ⟨LO, hLO⟩ : ∃ L, L = pl.ts.map (·.p) := ⟨_, rfl⟩
  have kpl := Lib.hid (fun (h : OK) (hn : n ≤ 30) (hp : P0 = false) W (ho : Only (fun _ => False) W2 W) => show Calls Tryz.prog 28 #[cv, .slice A n cap] W (GrowB false W) from by
    rw [hcv]
    have h1 := rpasses_any (hcf.out h W ho) (hpe.out h) (hT0.new (hO2.trans' ho)) (by omega)
    have e : pasB c d pl T = false := by
      unfold pasB
      have := passT_none hlen (T := fun i => T.getD i 0) (by rw [← hP0]; exact hp)
      unfold passT at this
      rw [show thL T = thF (fun i => T.getD i 0) from rfl, this, Bool.and_false]
    rwa [e] at h1)
  have kpo := Lib.hid (fun (h : OK) (hp : P0 = false) W (ho : Only (fun _ => False) W2 W) p cp hh (hW : Win W 3 1 (.slice p c.ta.n cp) hh c.ta.n (icells LO)) => show Calls Tryz.prog 28 #[cv, .slice p c.ta.n cp] W (GrowB false W) from by
    rw [hcv]
    have h1 := rpasses_any (hcf.out h W ho) (hpe.out h) (ints_of (x := ⟨p, c.ta.n, cp⟩) hW) (by have := (hcf.out h W ho).n; omega)
    have e : pasB c d pl LO = false := by rw [hLO, pasB_pass hlen (lo_len hlen) (fun i _ => lo_getD i), ← hP0]; exact hp
    rwa [e] at h1)
  unfold LeastEnd at kle
  rw [← hLO] at kle
  unfold SrEnd at kse
  rw [← hP0] at kse
  obtain ⟨Z, hZ⟩ : ∃ Z, Z = GrowB true w := ⟨_, rfl⟩
  rw [← hZ]
  have hfin := Lib.hid (fun W (ho : Only (fun _ => False) W2 W) => show Z (.returned (.bool true)) W from by rw [hZ]; exact ⟨rfl, hO2.trans' ho⟩)
  rw [← hcv]
  unfold ConfV.val at hcv
  subst hcv
  unfold CYv at hcy
  unfold ConfV.cells at hW2
  have hW2' := Lib.hid hW2
  have hs2' := Lib.hid hs2
  clear hw hC hT0 hlen hq hO2 b0 hW2 hs2 hOK hP0 hLO hZ hcf hpe
  obtain ⟨c0, wy, h, mi, ⟨mA, mn, mc⟩, g, ⟨cA, cn, cc⟩, ⟨eA, en, ec⟩, ⟨tA, tn, tc⟩, ⟨lA, ln, lc⟩⟩ := c
  dsimp only at *
  obtain ⟨d0, d1, d2, d3, d4, d5, d6, d7, d8, d9, dl⟩ := hcy.out W2 (Only.refl _ _)
  go_enter Tryz.func5, Tryz.ntmps5
  go_upto_region 1 with fail
  rw [← hq'.out]
  rw [← hW2'.out]
  go_wp2_with fail
  refine kfx.out.mono ?_
  rintro e w3 ⟨rfl, ho⟩
  have hO3 := Lib.hid ho
  clear ho kfx d0 d1 d2 d3 d4 d5 d6 d7 d8 d9 dl
  obtain ⟨d0, d1, d2, d3, d4, d5, d6, d7, d8, d9, dl⟩ := hcy.out w3 hO3.out
  go_wp2_with fail
  refine (kfe.out w3 hO3.out).mono ?_
  rintro e w4 ⟨b, rfl, hb, ho⟩
  have hO4 := Lib.hid (hO3.out.trans' ho)
  clear ho kfe d0 d1 d2 d3 d4 d5 d6 d7 d8 d9 dl
  have hb' := Lib.hid hb
  clear hb
  cases b with
  | false =>
    have hf := Lib.hid (hfin.out w4 hO4.out)
    go_wp2
    exact hf.out
  | true =>
    have hok := hb'.out rfl
    by_cases hn30 : (30 : Int) < (n : Int)
    · have hf := Lib.hid (hfin.out w4 hO4.out)
      clear hok
      go_wp2
      exact hf.out
    have ks := Lib.hid (kse.out hok w4 hO4.out)
    have kl := Lib.hid (kle.out hok)
    have kp := Lib.hid (kpl.out hok (by omega))
    have ko := Lib.hid (kpo.out hok)
    clear hok hb' kse kle kpl kpo
    obtain ⟨d0, d1, d2, d3, d4, d5, d6, d7, d8, d9, dl⟩ := hcy.out w4 hO4.out
    go_wp2_with fail
    refine ks.out.mono ?_
    rintro e w5 ⟨ho, hs1, hs2b⟩
    have hO5 := Lib.hid (hO4.out.trans' ho)
    clear ho d0 d1 d2 d3 d4 d5 d6 d7 d8 d9 dl ks
    cases P0 with
    | true =>
      obtain ⟨p, cp, hh, B, rfl, -, -, -⟩ := hs2b rfl
      have hf := Lib.hid (hfin.out w5 hO5.out)
      clear hs1 hs2b kl kp ko
      go_wp2
      exact hf.out
    | false =>
      obtain rfl := hs1 rfl
      have kp2 := Lib.hid (kp.out rfl)
      have ko2 := Lib.hid (ko.out rfl)
      clear hs1 hs2b kp ko
      obtain ⟨d0, d1, d2, d3, d4, d5, d6, d7, d8, d9, dl⟩ := hcy.out w5 hO5.out
      go_upto_region 8 with fail
      go_cut [4] from 23 to 33 (fun v wd => v = .bool true ∧ Only (fun _ => False) w5 wd)
      case first =>
        go_region_held3 (fun W0 => W0.cell? ⟨q, 0, none⟩ = some (.int .i64 c0) ∧ W0.cell? ⟨q, 1, none⟩ = some (.int .i64 wy) ∧ W0.cell? ⟨q, 2, none⟩ = some (.int .i64 h) ∧ W0.cell? ⟨q, 3, none⟩ = some (.int .i64 mi) ∧ W0.cell? ⟨q, 4, none⟩ = some (.slice mA mn mc) ∧ W0.cell? ⟨q, 5, none⟩ = some (.int .i64 g) ∧ W0.cell? ⟨q, 6, none⟩ = some (.slice cA cn cc) ∧ W0.cell? ⟨q, 7, none⟩ = some (.slice eA en ec) ∧ W0.cell? ⟨q, 8, none⟩ = some (.slice tA tn tc) ∧ W0.cell? ⟨q, 9, none⟩ = some (.slice lA ln lc) ∧ q < W0.heap.size)
          (exact hcy.out _ (hO5.out.trans' (by repeat (first | with_reducible assumption | with_reducible exact Only.refl _ _ | with_reducible apply Only.drew | with_reducible apply Only.alloc))))
          (first
            | (go_at_call 29; (with_reducible refine (kl.out _ (hO5.out.trans' (by repeat (first | with_reducible assumption | with_reducible exact Only.refl _ _ | with_reducible apply Only.drew | with_reducible apply Only.alloc)))).mono ?_); rintro _ w6 ⟨p6, c6, h6, rfl, hW6, -, ho6⟩; have hO6 : Only (fun _ => False) w5 w6 := Only.trans' (by repeat (first | with_reducible assumption | with_reducible exact Only.refl _ _ | with_reducible apply Only.drew | with_reducible apply Only.alloc)) ho6; have hA6 := Lib.hid (fun W (h : Only (fun _ => False) w6 W) => hW6.kept h (fun _ _ h => h)); clear hW6)
            | (go_at_call 28; (with_reducible refine (ko2.out _ (hO5.out.trans' (by repeat (first | with_reducible assumption | with_reducible exact Only.refl _ _ | with_reducible apply Only.drew | with_reducible apply Only.alloc))) _ _ _ (hA6.out _ (by repeat (first | with_reducible assumption | with_reducible exact Only.refl _ _ | with_reducible apply Only.drew | with_reducible apply Only.alloc)))).mono ?_); rintro _ w7 ⟨rfl, ho7⟩; have hO7 : Only (fun _ => False) w5 w7 := Only.trans' (by repeat (first | with_reducible assumption | with_reducible exact Only.refl _ _ | with_reducible apply Only.drew | with_reducible apply Only.alloc)) ho7)
            | (go_at_call 28; (with_reducible refine (kp2.out _ (hO5.out.trans' (by repeat (first | with_reducible assumption | with_reducible exact Only.refl _ _ | with_reducible apply Only.drew | with_reducible apply Only.alloc)))).mono ?_); rintro _ w8 ⟨rfl, ho8⟩; have hO8 : Only (fun _ => False) w5 w8 := Only.trans' (by repeat (first | with_reducible assumption | with_reducible exact Only.refl _ _ | with_reducible apply Only.drew | with_reducible apply Only.alloc)) ho8))
        all_goals
          go_wp2
          go_meet
          case rel => exact ⟨rfl, (by repeat (first | with_reducible assumption | with_reducible exact Only.refl _ _ | with_reducible apply Only.drew | with_reducible apply Only.alloc))⟩
      obtain ⟨rfl, hOc⟩ := hcut
      have hf := Lib.hid (hfin.out _ (hO5.out.trans' hOc))
      clear hOc d0 d1 d2 d3 d4 d5 d6 d7 d8 d9 dl
      go_wp2
      exact hf.out
theorem none29_law (c : ConfV) (a : Option Addr) (len cap : Nat) (z : Nat → Int) (W : World) (hw : Words W) (g0 : ∃ (dd : ConfL) (pl : Tks), ConfIn W c dd pl) (g1 : IntRow .i64 W a len z ∧ len ≤ cap ∧ cap ≤ maxLen) :
    Calls Tryz.prog 5 #[c.val, .slice a len cap] W fun e w' => e = .returned (.bool true) ∧ Below W.heap.size W w' := by
  obtain ⟨dd, pl, hC⟩ := g0
  exact (none29_any hw hC (ints_row g1.1 g1.2.1)).mono fun e w' ⟨he, hO⟩ => ⟨he, hO.below (Nat.le_refl _) (fun _ h => h.elim)⟩
end Twn
end Go.Proofs.YtlbinlhaejhobaaGreatDoor
