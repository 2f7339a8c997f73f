/- floating: Most, All. Written by mkmst.py. -/
import Derived.Test.YtlbinlhaejhobaaGreatDoorFlo
import Derived.Laws.EntriesVeiled
namespace Go.Proofs.YtlbinlhaejhobaaGreatDoor
namespace Twn
open Go Go.RowKit Krn Asn Pre Adm

set_option maxRecDepth 100000 in
set_option maxHeartbeats 8000000 in
theorem mo1_any {w : World} {c : ConfV} {d : ConfL} {pl : Tks} (h0 : Cf0 w c d pl) {qc qt i : Nat} (hc : w.heap[qc]? = some (.cells c.cells.toArray 27 (0, 0))) (ht : w.heap[qt]? = some (.cells [Value.int .i64 (i : Int)].toArray 3 (0, 0))) (hi : i < c.ta.n) (x : Int) :
    Calls Tryz.prog 64 #[.int .i64 x, .pointer (some ⟨qc, 0, none⟩), .pointer (some ⟨qt, 0, none⟩)] w (GrowB (passF c d pl i x) w) := by
  have hcy := Lib.hid (cyv_of hc)
  have t0 := row_cell ht (i := 0) rfl
  have tl := row_lt ht
  obtain ⟨cv, hcv⟩ : ∃ cv, cv = c.val := ⟨_, rfl⟩
  have kw := Lib.hid (show Calls Tryz.prog 39 #[cv, .int .i64 (i : Int), .int .i64 x] w (FwEnd c d pl (i : Int) x w) from by rw [hcv]; exact fwith_any h0 (i : Int) x)
  have hfw : fwF c.ta.n (i : Int) x = flF i x := by
    unfold fwF hasI
    rw [decide_eq_true (by omega), if_pos rfl]
    rw [show ((i : Int)).toNat = i by omega]
  unfold FwEnd at kw
  rw [hfw] at kw
  obtain ⟨AV, hAV⟩ : ∃ b, b = passF c d pl i x := ⟨_, rfl⟩
  have kad := Lib.hid (fun W c' us tb tp (h : CfAt w (flF i x) c c' d pl us tb tp W) => show Calls Tryz.prog 15 #[c'.val] W (GrowB AV W) from by
    rw [hAV]
    unfold passF
    rw [← h.admB]
    exact admitted_any (h0.wo.new h.tw.only) (h.conf h0.C) (h.confAt h0.C h0.A))
  rw [← hAV]
  obtain ⟨Z, hZ⟩ : ∃ Z, Z = GrowB AV w := ⟨_, rfl⟩
  rw [← hZ]
  have hfin := Lib.hid (fun W (ho : Only (fun _ => False) w W) => show Z (.returned (.bool AV)) W from by rw [hZ]; exact ⟨rfl, ho⟩)
  unfold ConfV.val at hcv
  subst hcv
  unfold CYv at hcy
  unfold ConfV.val at kad
  clear h0 hc ht hi hfw hAV hZ
  obtain ⟨c0, wy, h, mi, ⟨mA, mn, mc⟩, g, ⟨cA, cn, cc⟩, ⟨eA, en, ec⟩, ⟨tA, tn, tc⟩, ⟨lA, ln, lc⟩⟩ := c
  dsimp only at *
  obtain ⟨d0, d1, d2, d3, d4, d5, d6, d7, d8, d9, dl⟩ := hcy.out
  go_enter Tryz.func64, Tryz.ntmps64
  go_wp2_with fail
  refine kw.out.mono ?_
  rintro e w3 ⟨c', us, tb, tp, rfl, hF⟩
  have hF' := Lib.hid hF
  clear hF d0 d1 d2 d3 d4 d5 d6 d7 d8 d9 dl t0 tl kw
  unfold ConfV.val
  go_wp2_with fail
  refine (kad.out _ _ _ _ _ hF'.out).mono ?_
  rintro e w4 ⟨rfl, ho⟩
  have hf := Lib.hid (hfin.out w4 (hF'.out.tw.only.trans' ho))
  clear ho
  go_wp2
  exact hf.out
theorem mo2_any {w : World} {X2 i : Nat} {cap : Array Value} {b : Bool} (h2 : w.cell? ⟨X2, 0, none⟩ = some (.func (.func 64) #[] cap)) (hi : i ≤ 100000000) (hc : Calls Tryz.prog 64 (#[.int .i64 ((i + 1 : Nat) : Int)] ++ cap) w (GrowB b w)) :
    Calls Tryz.prog 66 #[.int .i64 i, .pointer (some ⟨X2, 0, none⟩)] w (GrowB (!b) w) := by
  obtain ⟨Z, hZ⟩ : ∃ Z, Z = GrowB (!b) w := ⟨_, rfl⟩
  rw [← hZ]
  have hZ' := Lib.hid hZ
  have hc' := Lib.hid hc
  clear hc hZ
  go_enter Tryz.func66, Tryz.ntmps66
  go_wp2_with fail
  rw [show ((i : Int) + 1) = ((i + 1 : Nat) : Int) by omega]
  refine hc'.out.mono ?_
  rintro e w' ⟨rfl, ho⟩
  have ho' := Lib.hid ho
  clear ho
  go_wp2
  rw [hZ'.out]
  exact ⟨rfl, ho'.out⟩
def SearchEnd (pp : Nat → Bool) (n : Nat) (w : World) (e : Ending) (w' : World) : Prop :=
  ∃ s : Nat, e = .returned (.int .i64 s) ∧ Only (fun _ => False) w w' ∧ s ≤ n ∧ (s = 0 ∨ pp (s - 1) = false) ∧ (s = n ∨ pp s = true)
theorem search_any30 {w : World} {X2 n : Nat} {pp : Nat → Bool} (hn : n ≤ 100000000) (hc : ∀ W, Only (fun _ => False) w W → ∀ i, i < n → Calls Tryz.prog 66 #[.int .i64 i, .pointer (some ⟨X2, 0, none⟩)] W (GrowB (pp i) W)) :
    Calls Tryz.prog 65 #[.int .i64 n, .func (.func 66) #[] #[.pointer (some ⟨X2, 0, none⟩)]] w (SearchEnd pp n w) := by
  obtain ⟨Z, hZ⟩ : ∃ Z, Z = SearchEnd pp n w := ⟨_, rfl⟩
  rw [← hZ]
  have hZ' := Lib.hid hZ
  have hc' := Lib.hid hc
  clear hc hZ
  go_enter Tryz.func65, Tryz.ntmps65
  go_wp2
  go_loopw [5, 6, 7] (fun u5 u6 _ wr => ∃ lo hi : Nat, u5 = .int .i64 lo ∧ u6 = .int .i64 hi ∧ lo ≤ hi ∧ hi ≤ n ∧ Hid (Only (fun _ => False) w wr) ∧ Hid ((lo = 0 ∨ pp (lo - 1) = false) ∧ (hi = n ∨ pp hi = true))) (fun u5 u6 _ _ => (intOf u6 - intOf u5).toNat)
  case atStart => exact ⟨0, n, rfl, rfl, Nat.zero_le _, Nat.le_refl _, Only.refl _ _, Lib.hid ⟨.inl rfl, .inl rfl⟩⟩
  case round =>
    obtain ⟨lo, hi, rfl, rfl, hlh, hin, hO, hI⟩ := hrel
    by_cases hlt : lo < hi
    · have hq := Lib.hid (hc'.out wr hO.out ((lo + hi) / 2) (by omega))
      rw [show (((lo + hi) / 2 : Nat) : Int) = ((lo : Int) + (hi : Int)) / 2 by omega] at hq
      obtain ⟨b, hb⟩ : ∃ b, b = pp ((lo + hi) / 2) := ⟨_, rfl⟩
      rw [← hb] at hq
      have hb' := Lib.hid hb
      clear hb
      go_wp2_with fail
      refine hq.out.mono ?_
      rintro e w' ⟨rfl, ho⟩
      have ho' := Lib.hid (hO.out.trans' ho)
      clear ho
      cases b
      · go_wp2
        go_roundw
        case rel => exact ⟨(lo + hi) / 2 + 1, hi, by rw [show ((lo : Int) + (hi : Int)) / 2 + 1 = (((lo + hi) / 2 + 1 : Nat) : Int) by omega], rfl, by omega, hin, ho', Lib.hid ⟨.inr (by rw [Nat.add_sub_cancel]; exact hb'.out.symm), hI.out.2⟩⟩
        case measure => simp [intOf]; omega
      · go_wp2
        go_roundw
        case rel => exact ⟨lo, (lo + hi) / 2, rfl, by rw [show ((lo : Int) + (hi : Int)) / 2 = (((lo + hi) / 2 : Nat) : Int) by omega], by omega, by omega, ho', Lib.hid ⟨hI.out.1, .inr hb'.out.symm⟩⟩
        case measure => simp [intOf]; omega
    · obtain rfl : hi = lo := by omega
      go_wp2
      rw [hZ'.out]
      exact ⟨hi, rfl, hO.out, hin, hI.out⟩

def MoEnd (c : ConfV) (d : ConfL) (pl : Tks) (i : Nat) (w : World) (e : Ending) (w' : World) : Prop := ∃ (m : Int) (ok : Bool), e = .returned (.tuple #[.int .i64 m, .bool ok]) ∧ Mo c d pl i m ok ∧ Only (fun _ => False) w w'
theorem mo_search {c : ConfV} {d : ConfL} {pl : Tks} {i s : Nat} (h0 : passF c d pl i 0 = true) (h5 : s ≤ 1048576) (h6 : s = 0 ∨ (!passF c d pl i ((s - 1 + 1 : Nat) : Int)) = false) (h7 : s = 1048576 ∨ (!passF c d pl i ((s + 1 : Nat) : Int)) = true) : Mo c d pl i (s : Int) true := by
  refine .inr ⟨rfl, by omega, by omega, ?_, fun hlt => ?_⟩
  · rcases h6 with rfl | h6
    · exact h0
    · by_cases e : s = 0
      · subst e; exact h0
      · rw [show s - 1 + 1 = s by omega] at h6
        simpa using h6
  · rcases h7 with rfl | h7
    · exact absurd hlt (by decide)
    · have : ((s + 1 : Nat) : Int) = (s : Int) + 1 := by omega
      rw [this] at h7
      simpa using h7
set_option maxRecDepth 100000 in
set_option maxHeartbeats 8000000 in
theorem most_any {w : World} {c : ConfV} {d : ConfL} {pl : Tks} (h0 : Cf0 w c d pl) {i : Nat} (hi : i < c.ta.n) :
    Calls Tryz.prog 34 #[c.val, .int .i64 (i : Int)] w (MoEnd c d pl i w) := by
  have hmf : ∀ (fn : Fn) (first cap : Array Value) (w : World), (Instr.makeFunc fn first cap).run Tryz.prog w = .ok (.func fn first cap) w := fun _ _ _ _ => rfl
  obtain ⟨q, hq⟩ : ∃ q, q = w.heap.size := ⟨_, rfl⟩
  obtain ⟨W2, hW2⟩ : ∃ W2, W2 = (w.alloc (.cells c.cells.toArray 27)).alloc (.cells #[.int .i64 (i : Int)] 3) := ⟨_, rfl⟩
  have hO2 : Only (fun _ => False) w W2 := by rw [hW2]; exact ((Only.refl _ w).alloc _).alloc _
  have b0 : W2.heap[q]? = some (.cells c.cells.toArray 27 (0, 0)) := by rw [hW2]; exact heap_kept_alloc (heap_new_at _ _ hq.symm) _
  have b1 : W2.heap[q + 1]? = some (.cells [Value.int .i64 (i : Int)].toArray 3 (0, 0)) := by rw [hW2]; exact heap_new_at _ _ (by simp [hq])
  have hs2 : W2.heap.size = q + 1 + 1 := by rw [hW2, hq]; simp
  have hcy := Lib.hid (fun W (ho : Only (fun _ => False) W2 W) => cyv_of (ho.heap b0 (fun h => h)))
  have hty := Lib.hid (fun W (ho : Only (fun _ => False) W2 W) => show W.cell? ⟨q + 1, 0, none⟩ = some (.int .i64 (i : Int)) ∧ q + 1 < W.heap.size from ⟨row_cell (ho.heap b1 (fun h => h)) (i := 0) rfl, row_lt (ho.heap b1 (fun h => h))⟩)
  obtain ⟨cv, hcv⟩ : ∃ cv, cv = c.val := ⟨_, rfl⟩
  have kha := Lib.hid (fun W => show Calls Tryz.prog 63 #[cv, .int .i64 (i : Int)] W (GrowB true W) from by
    rw [hcv]
    have := fhas_any W c (i : Int)
    rwa [show hasI c.ta.n (i : Int) = true from by unfold hasI; simp; omega] at this)
  obtain ⟨FV, hFV⟩ : ∃ v : Value, v = .func (.func 64) #[] #[.pointer (some ⟨q, 0, none⟩), .pointer (some ⟨q + 1, 0, none⟩)] := ⟨_, rfl⟩
  obtain ⟨PF, hPF⟩ : ∃ f, f = passF c d pl i := ⟨_, rfl⟩
  have km1 := Lib.hid (fun W (ho : Only (fun _ => False) W2 W) x => show Calls Tryz.prog 64 #[.int .i64 x, .pointer (some ⟨q, 0, none⟩), .pointer (some ⟨q + 1, 0, none⟩)] W (GrowB (PF x) W) from by rw [hPF]; exact mo1_any (h0.new (hO2.trans' ho)) (ho.heap b0 (fun h => h)) (ho.heap b1 (fun h => h)) hi x)
  have kse := Lib.hid (fun W X (ho : Only (fun _ => False) W2 W) (hX : W.heap[X]? = some (.cells [Value.func (.func 64) #[] #[.pointer (some ⟨q, 0, none⟩), .pointer (some ⟨q + 1, 0, none⟩)]].toArray 85 (0, 0))) => search_any30 (w := W) (X2 := X) (n := 1048576) (pp := fun j => !(PF ((j + 1 : Nat) : Int))) (by omega) (fun W3 ho3 j hj => mo2_any (row_cell (ho3.heap hX (fun h => h)) (i := 0) rfl) (by omega) (km1.out W3 (ho.trans' ho3) _)))
  obtain ⟨Z, hZ⟩ : ∃ Z, Z = MoEnd c d pl i w := ⟨_, rfl⟩
  rw [← hZ]
  have hf0 := Lib.hid (fun (hp : PF 0 = false) W (ho : Only (fun _ => False) W2 W) => show Z (.returned (.tuple #[.int .i64 0, .bool false])) W from by
    rw [hZ]
    rw [hPF] at hp
    exact ⟨0, false, rfl, .inl ⟨rfl, rfl, hp⟩, hO2.trans' ho⟩)
  have hf1 := Lib.hid (fun (hp : PF 0 = true) W (ho : Only (fun _ => False) W2 W) (s : Nat) (h5 : s ≤ 1048576) (h6 : s = 0 ∨ (!PF ((s - 1 + 1 : Nat) : Int)) = false) (h7 : s = 1048576 ∨ (!PF ((s + 1 : Nat) : Int)) = true) => show Z (.returned (.tuple #[.int .i64 (s : Int), .bool true])) W from by
    rw [hZ]
    rw [hPF] at hp h6 h7
    exact ⟨s, true, rfl, mo_search hp h5 h6 h7, hO2.trans' ho⟩)
  rw [← hcv]
  unfold ConfV.val at hcv
  subst hcv
  unfold CYv at hcy
  unfold ConfV.cells at hW2
  have hq' := Lib.hid hq
  have hW2' := Lib.hid hW2
  have hs2' := Lib.hid hs2
  unfold SearchEnd at kse
  clear h0 hi hq hO2 b0 b1 hW2 hs2 hZ hPF hFV FV
  obtain ⟨c0, wy, h, mi, ⟨mA, mn, mc⟩, g, ⟨cA, cn, cc⟩, ⟨eA, en, ec⟩, ⟨tA, tn, tc⟩, ⟨lA, ln, lc⟩⟩ := c
  dsimp only at *
  obtain ⟨d0, d1, d2, d3, d4, d5, d6, d7, d8, d9, dl⟩ := hcy.out W2 (Only.refl _ _)
  go_enter Tryz.func34, Tryz.ntmps34
  obtain ⟨e0, el⟩ := hty.out W2 (Only.refl _ _)
  go_upto_region 1 with fail
  rw [← hq'.out]
  rw [← hW2'.out]
  go_wp2_with fail
  refine (kha.out W2).mono ?_
  rintro e w3 ⟨rfl, ho⟩
  have hO3 := Lib.hid ho
  clear ho e0 el d0 d1 d2 d3 d4 d5 d6 d7 d8 d9 dl kha
  go_upto_region 4 with fail
  obtain ⟨X, hX⟩ : ∃ X, X = w3.heap.size := ⟨_, rfl⟩
  obtain ⟨w4, hw4⟩ : ∃ W, W = w3.alloc (.cells #[.func (.func 64) #[] #[.pointer (some ⟨q, 0, none⟩), .pointer (some ⟨q + 1, 0, none⟩)]] 85) := ⟨_, rfl⟩
  rw [← hw4, ← hX]
  have hX4 := Lib.hid (show w4.heap[X]? = some (.cells [Value.func (.func 64) #[] #[.pointer (some ⟨q, 0, none⟩), .pointer (some ⟨q + 1, 0, none⟩)]].toArray 85 (0, 0)) from by rw [hw4, hX]; exact heap_new_at _ _ rfl)
  have hO4 := Lib.hid (show Only (fun _ => False) W2 w4 from by rw [hw4]; exact hO3.out.alloc _)
  clear hw4 hX
  have hfit0 := Lib.hid (km1.out w4 hO4.out 0)
  obtain ⟨b0, hb0⟩ : ∃ b0, b0 = PF 0 := ⟨_, rfl⟩
  rw [← hb0] at hfit0 hf0 hf1
  have x0 := row_cell hX4.out (i := 0) rfl
  have xl := row_lt hX4.out
  clear hb0
  go_wp2_with fail
  refine hfit0.out.mono ?_
  rintro e w5 ⟨rfl, ho⟩
  have hO5 := Lib.hid ho
  clear ho x0 xl hfit0
  cases b0 with
  | false =>
    have hf := Lib.hid (hf0.out rfl w5 (hO4.out.trans' hO5.out))
    go_wp2
    exact hf.out
  | true =>
    have hX5 := Lib.hid (hO5.out.heap hX4.out (fun h => h))
    have ks := Lib.hid (kse.out w5 X (hO4.out.trans' hO5.out) hX5.out)
    have hf2 := Lib.hid (hf1.out rfl)
    clear kse hf1 hf0 km1
    go_wp2_with fail
    refine ks.out.mono ?_
    rintro e w6 ⟨s, rfl, ho, h5, h6, h7⟩
    have hf := Lib.hid (hf2.out w6 ((hO4.out.trans' hO5.out).trans' ho) s h5 h6 h7)
    clear ho h5 h6 h7 ks
    go_wp2
    exact hf.out
end Twn
end Go.Proofs.YtlbinlhaejhobaaGreatDoor
