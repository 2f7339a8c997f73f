/- FloatingMost, walked. Written by mka29.py. -/
import Derived.Test.YtlbinlhaejhobaaGreatDoorF30
namespace Go.Proofs.YtlbinlhaejhobaaGreatDoor
namespace Twn
open Go Go.RowKit Krn Asn Pre Adm
open Bch (GrowU)

theorem nat_of30 {kd : IntKind} {M : Nat} (h1 : kd.min = 0) (h2 : kd.max = M) {z : Int} (h : (Lit.int kd z).wf = true) : ∃ b : Nat, z = b ∧ b ≤ M := by
  simp [Lit.wf] at h
  simp only [h1, h2] at h
  exact ⟨z.toNat, by omega, by omega⟩
set_option maxRecDepth 100000 in
set_option maxHeartbeats 8000000 in
theorem fm30_any {w : World} {c : ConfV} {d : ConfL} {pl : Tks} (hw : Words w) (hC : ConfIn w c d pl) {b8 le : Nat} (hb8 : b8 ≤ 255) (hle : le ≤ 4294967295) :
    Calls Tryz.prog 8 #[c.val, .int .u8 (b8 : Int), .int .u32 (le : Int)] w (GrowB true w) := by
  obtain ⟨q, hq⟩ : ∃ q, q = w.heap.size := ⟨_, rfl⟩
  obtain ⟨W2, hW2⟩ : ∃ W2, W2 = w.alloc (.cells c.cells.toArray 27) := ⟨_, rfl⟩
  have hO2 : Only (fun _ => False) w W2 := by rw [hW2]; exact (Only.refl _ w).alloc _
  have b0 : W2.heap[q]? = some (.cells c.cells.toArray 27 (0, 0)) := by rw [hW2]; exact heap_new_at _ _ hq.symm
  have hs2 : W2.heap.size = q + 1 := by rw [hW2, hq]; simp
  have hq' := Lib.hid hq
  have hcy := Lib.hid (fun W (ho : Only (fun _ => False) W2 W) => cyv_of (ho.heap b0 (fun h => h)))
  obtain ⟨cv, hcv⟩ : ∃ cv, cv = c.val := ⟨_, rfl⟩
  have kfx := Lib.hid (fixed30_any (hw.new hO2))
  have kfe := Lib.hid (fun W (ho : Only (fun _ => False) W2 W) => show Calls Tryz.prog 33 #[cv] W (FewEnd c pl W) from by rw [hcv]; exact few30_any (hC.new (hO2.trans' ho)))
  obtain ⟨OK, hOK⟩ : ∃ P : Prop, P = (fewB c pl.ts = true ∧ ∀ (i : Nat) t, pl.ts[i]? = some t → t.pe ≤ 1500) := ⟨_, rfl⟩
  unfold FewEnd at kfe
  rw [← hOK] at kfe
  have hcf := Lib.hid (fun (h : OK) W (ho : Only (fun _ => False) W2 W) => show Cf0 W c d pl from by
    rw [hOK] at h
    exact few_cf0 (hw.new (hO2.trans' ho)) (hC.new (hO2.trans' ho)) h.1)
  have hpe := Lib.hid (fun (h : OK) => show ∀ (i : Nat) t, pl.ts[i]? = some t → t.pe ≤ 1500 from by rw [hOK] at h; exact h.2)
  have hlen := ts_len hC
  obtain ⟨kk, hkk⟩ : ∃ kk, kk = b8 % c.ta.n := ⟨_, rfl⟩
  have hkt := Lib.hid (fun (h : c.ta.n ≠ 0) => show kk < c.ta.n ∧ (b8 : Int) % (c.ta.n : Int) = (kk : Int) from ⟨by rw [hkk]; exact Nat.mod_lt _ (by omega), by rw [hkk]; exact (Int.natCast_emod _ _).symm⟩)
  have kmo := Lib.hid (fun (h : OK) (h2 : c.ta.n ≠ 0) W (ho : Only (fun _ => False) W2 W) => show Calls Tryz.prog 34 #[cv, .int .i64 (kk : Int)] W (MoEnd c d pl kk W) from by rw [hcv]; exact most_any (hcf.out h W ho) (hkt.out h2).1)
  obtain ⟨PF, hPF⟩ : ∃ f, f = passF c d pl kk := ⟨_, rfl⟩
  have kad := Lib.hid (fun (h : OK) (h2 : c.ta.n ≠ 0) W (ho : Only (fun _ => False) W2 W) x b (hb : PF x = b) => show Calls Tryz.prog 35 #[cv, .int .i64 (kk : Int), .int .i64 x] W (GrowB b W) from by rw [hcv, ← hb, hPF]; exact radmit_any (hcf.out h W ho) (hpe.out h) (hkt.out h2).1 x)
  obtain ⟨MO, hMO⟩ : ∃ P, P = Mo c d pl kk := ⟨_, rfl⟩
  unfold MoEnd at kmo
  rw [← hMO] at kmo
  have hmo := Lib.hid (fun (h2 : c.ta.n ≠ 0) m ok (h : MO m ok) => show (ok = false ∧ m = 0 ∧ PF 0 = false) ∨ ∃ mm : Nat, ok = true ∧ m = (mm : Int) ∧ mm ≤ 1048576 ∧ PF (mm : Int) = true ∧ (mm < 1048576 → PF ((mm : Int) + 1) = false) ∧ PF ((le % (mm + 1) : Nat) : Int) = true from by
    rw [hMO] at h
    rw [hPF]
    rcases h with h | ⟨h1, h3, h4, h5, h6⟩
    · exact .inl h
    · refine .inr ⟨m.toNat, h1, by omega, by omega, by rw [show (m.toNat : Int) = m by omega]; exact h5, fun hlt => by rw [show (m.toNat : Int) = m by omega]; exact h6 (by omega), ?_⟩
      have hlt := Nat.mod_lt le (show 0 < m.toNat + 1 by omega)
      exact passF_lower (hkt.out h2).1 hlen (by omega) (by omega) h5)
  obtain ⟨Z, hZ⟩ : ∃ Z, Z = GrowB true w := ⟨_, rfl⟩
  rw [← hZ]
  have hfin := Lib.hid (fun W (ho : Only (fun _ => False) W2 W) => show Z (.returned (.bool true)) W from by rw [hZ]; exact ⟨rfl, hO2.trans' ho⟩)
  rw [← hcv]
  unfold ConfV.val at hcv
  subst hcv
  unfold CYv at hcy
  unfold ConfV.cells at hW2
  have hW2' := Lib.hid hW2
  have hs2' := Lib.hid hs2
  have hle' := Lib.hid hle
  clear hw hC hlen hq hO2 b0 hW2 hs2 hOK hZ hcf hpe hkk hPF hMO hle
  obtain ⟨c0, wy, h, mi, ⟨mA, mn, mc⟩, g, ⟨cA, cn, cc⟩, ⟨eA, en, ec⟩, ⟨tA, tn, tc⟩, ⟨lA, ln, lc⟩⟩ := c
  dsimp only at *
  obtain ⟨d0, d1, d2, d3, d4, d5, d6, d7, d8, d9, dl⟩ := hcy.out W2 (Only.refl _ _)
  go_enter Tryz.func8, Tryz.ntmps8
  go_upto_region 1 with fail
  rw [← hq'.out]
  rw [← hW2'.out]
  go_wp2_with fail
  refine kfx.out.mono ?_
  rintro e w3 ⟨rfl, ho⟩
  have hO3 := Lib.hid ho
  clear ho kfx d0 d1 d2 d3 d4 d5 d6 d7 d8 d9 dl
  obtain ⟨d0, d1, d2, d3, d4, d5, d6, d7, d8, d9, dl⟩ := hcy.out w3 hO3.out
  go_wp2_with fail
  refine (kfe.out w3 hO3.out).mono ?_
  rintro e w4 ⟨b, rfl, hb, ho⟩
  have hO4 := Lib.hid (hO3.out.trans' ho)
  clear ho kfe d0 d1 d2 d3 d4 d5 d6 d7 d8 d9 dl
  have hb' := Lib.hid hb
  clear hb
  obtain ⟨d0, d1, d2, d3, d4, d5, d6, d7, d8, d9, dl⟩ := hcy.out w4 hO4.out
  cases b with
  | false =>
    have hf := Lib.hid (hfin.out w4 hO4.out)
    clear d0 d1 d2 d3 d4 d5 d6 d7 d8 d9 dl
    go_wp2
    exact hf.out
  | true =>
    have hok := hb'.out rfl
    by_cases ht0 : tn = 0
    · have hte : ((tn : Int) == 0) = true := by simp [ht0]
      have hf := Lib.hid (hfin.out w4 hO4.out)
      clear hok ht0
      go_wp2
      exact hf.out
    · have hte : ((tn : Int) == 0) = false := by simp [ht0]
      obtain ⟨hkn, hrem⟩ := hkt.out ht0
      have km := Lib.hid (kmo.out hok ht0)
      have ka := Lib.hid (kad.out hok ht0)
      have hm := Lib.hid (hmo.out ht0)
      clear hok hb' kmo kad hmo hkt
      go_wp2_with fail
      refine (km.out w4 hO4.out).mono ?_
      rintro e w5 ⟨m, ok, rfl, hmm, ho⟩
      have hO5 := Lib.hid (hO4.out.trans' ho)
      have hcs := hm.out m ok hmm
      clear ho hmm km hm hte d0 d1 d2 d3 d4 d5 d6 d7 d8 d9 dl
      obtain ⟨d0, d1, d2, d3, d4, d5, d6, d7, d8, d9, dl⟩ := hcy.out w5 hO5.out
      rcases hcs with ⟨rfl, rfl, hp⟩ | ⟨mm, rfl, hmm, hm9, hp1, hp2, hp3⟩
      · have k0 := Lib.hid (ka.out w5 hO5.out 0 false hp)
        clear hp
        go_wp2_with fail
        refine k0.out.mono ?_
        rintro e w6 ⟨rfl, ho⟩
        have hf := Lib.hid (hfin.out w6 (hO5.out.trans' ho))
        clear ho d0 d1 d2 d3 d4 d5 d6 d7 d8 d9 dl
        go_wp2
        exact hf.out
      · rw [← hmm] at hp1 hp2
        have k0 := Lib.hid (ka.out w5 hO5.out m true hp1)
        have hp2' := Lib.hid (fun (h : mm < 1048576) => hp2 h)
        have hp3' := Lib.hid hp3
        have n1 : decide (m < 0) = false := decide_eq_false (by omega)
        have n2 : decide (1048576 < m) = false := decide_eq_false (by omega)
        have hw1 : IntKind.i64.wrap (m + 1) = m + 1 := IntWalk.i64_in _ (by omega)
        have hm9' := Lib.hid hm9
        have hmm' := Lib.hid hmm
        clear hp1 hp2 hp3 hm9 hmm
        go_wp2_with fail
        refine k0.out.mono ?_
        rintro e w6 ⟨rfl, ho⟩
        have hO6 := Lib.hid (hO5.out.trans' ho)
        clear ho k0 d0 d1 d2 d3 d4 d5 d6 d7 d8 d9 dl
        obtain ⟨d0, d1, d2, d3, d4, d5, d6, d7, d8, d9, dl⟩ := hcy.out w6 hO6.out
        have hrest := Lib.hid (fun W (ho : Only (fun _ => False) w6 W) => show Calls Tryz.prog 35 #[.agg #[.int .i64 c0, .int .i64 wy, .int .i64 h, .int .i64 mi, .slice mA mn mc, .int .i64 g, .slice cA cn cc, .slice eA en ec, .slice tA tn tc, .slice lA ln lc], .int .i64 (kk : Int), .int .i64 ((le % (mm + 1) : Nat) : Int)] W (GrowB true W) from ka.out W (hO6.out.trans' ho) _ true hp3'.out)
        have hrem2 : (le : Int) % (m + 1) = ((le % (mm + 1) : Nat) : Int) := by rw [Int.natCast_emod, show ((mm + 1 : Nat) : Int) = m + 1 from by have := hmm'.out; omega]
        have hne2 : m + 1 ≠ 0 := by have := hmm'.out; omega
        obtain ⟨rr, hrr⟩ : ∃ r, r = le % (mm + 1) := ⟨_, rfl⟩
        rw [← hrr] at hrest hrem2
        have hwl : IntKind.i64.wrap (le : Int) = (le : Int) := IntWalk.i64_in _ (by have := hle'.out; omega)
        clear hrr hp3'
        by_cases h20 : mm < 1048576
        · have n3 : decide (m < 1048576) = true := decide_eq_true (by have := hmm'.out; omega)
          have k1 := Lib.hid (ka.out w6 hO6.out _ false (hp2'.out h20))
          clear ka hp2' h20
          go_wp2_with fail
          refine k1.out.mono ?_
          rintro e w7 ⟨rfl, ho⟩
          have hO7 := Lib.hid ho
          clear ho k1 d0 d1 d2 d3 d4 d5 d6 d7 d8 d9 dl
          obtain ⟨d0, d1, d2, d3, d4, d5, d6, d7, d8, d9, dl⟩ := hcy.out w7 (hO6.out.trans' hO7.out)
          have p0 := wd_cell d0
          have p1 := wd_cell d1
          have p2 := wd_cell d2
          have p3 := wd_cell d3
          have p4 := wd_cell d4
          have p5 := wd_cell d5
          have p6 := wd_cell d6
          have p7 := wd_cell d7
          have p8 := wd_cell d8
          have p9 := wd_cell d9
          have hex := wd_ex w7
          have r1 := Lib.hid (fun (y : Wd w7) => Calls.wd (x := y) (hrest.out y.W (hO7.out.trans' y.ok)))
          go_upto_region 11 with fail
          refine wp_region_wd (by kernel_rfl) (by kernel_rfl) ?_
          repeat (go_big_quiet_step (first | (go_at_call 35; with_reducible exact r1.out _)))
          refine wpQuiet_nil ?_
          rintro _ ⟨v, rfl⟩
          have hf := Lib.hid (hfin.out v.W (hO6.out.trans' (hO7.out.trans' v.ok)))
          clear hex r1 p0 p1 p2 p3 p4 p5 p6 p7 p8 p9 d0 d1 d2 d3 d4 d5 d6 d7 d8 d9 dl
          go_wp2
          exact hf.out
        · have n3 : decide (m < 1048576) = false := decide_eq_false (by have := hmm'.out; omega)
          have hO7 := Lib.hid (Only.refl (fun _ => False) w6)
          obtain ⟨w7, hw7⟩ : ∃ w7 : World, w7 = w6 := ⟨_, rfl⟩
          subst hw7
          clear ka hp2' h20 d0 d1 d2 d3 d4 d5 d6 d7 d8 d9 dl
          obtain ⟨d0, d1, d2, d3, d4, d5, d6, d7, d8, d9, dl⟩ := hcy.out w7 (hO6.out.trans' hO7.out)
          have p0 := wd_cell d0
          have p1 := wd_cell d1
          have p2 := wd_cell d2
          have p3 := wd_cell d3
          have p4 := wd_cell d4
          have p5 := wd_cell d5
          have p6 := wd_cell d6
          have p7 := wd_cell d7
          have p8 := wd_cell d8
          have p9 := wd_cell d9
          have hex := wd_ex w7
          have r1 := Lib.hid (fun (y : Wd w7) => Calls.wd (x := y) (hrest.out y.W (hO7.out.trans' y.ok)))
          go_upto_region 11 with fail
          refine wp_region_wd (by kernel_rfl) (by kernel_rfl) ?_
          repeat (go_big_quiet_step (first | (go_at_call 35; with_reducible exact r1.out _)))
          refine wpQuiet_nil ?_
          rintro _ ⟨v, rfl⟩
          have hf := Lib.hid (hfin.out v.W (hO6.out.trans' (hO7.out.trans' v.ok)))
          clear hex r1 p0 p1 p2 p3 p4 p5 p6 p7 p8 p9 d0 d1 d2 d3 d4 d5 d6 d7 d8 d9 dl
          go_wp2
          exact hf.out
theorem fm30_law (c : ConfV) (a b : Int) (W : World) (hw : Words W) (g0 : ∃ (dd : ConfL) (pl : Tks), ConfIn W c dd pl) (g1 : (Lit.int .u8 a).wf = true) (g2 : (Lit.int .u32 b).wf = true) :
    Calls Tryz.prog 8 #[c.val, .int .u8 a, .int .u32 b] W fun e w' => e = .returned (.bool true) ∧ Below W.heap.size W w' := by
  obtain ⟨dd, pl, hC⟩ := g0
  obtain ⟨b8, rfl, hb8⟩ : ∃ n : Nat, a = n ∧ n ≤ 255 := nat_of30 (M := 255) (by decide) (by decide) g1
  obtain ⟨le, rfl, hle⟩ : ∃ n : Nat, b = n ∧ n ≤ 4294967295 := nat_of30 (M := 4294967295) (by decide) (by decide) g2
  exact (fm30_any hw hC hb8 hle).mono fun e w' ⟨he, hO⟩ => ⟨he, hO.below (Nat.le_refl _) (fun _ h => h.elim)⟩
end Twn
end Go.Proofs.YtlbinlhaejhobaaGreatDoor
