/- preempt: how long a lower job keeps another one from going on. -/
import Derived.Test.YtdoimkmhincmmaaPre3
import Derived.Test.YtdoimkmhincmmaaCopp
namespace Go.Proofs.Ytdoimkmhincmmaa
namespace Pre
open Go Go.RowKit Rca Sct Lin Lck Cst Rld
open Bch (U sA sC sA_le sC_le GrowU)

def sumS (us : List Nat) : Nat := us.foldl sA 0
theorem sumS_le (us : List Nat) : sumS us ≤ 18446744073709551615 := by
  have key : ∀ (L : List Nat) (s : Nat), s ≤ 18446744073709551615 → L.foldl sA s ≤ 18446744073709551615 := by
    intro L
    induction L with
    | nil => intro s h; exact h
    | cons x L ih => intro s _; exact ih _ (sA_le _ _)
  exact key us 0 (by omega)
theorem sumS_snoc {us : List Nat} {j x : Nat} (h : us[j]? = some x) : sumS (us.take (j + 1)) = sA (sumS (us.take j)) x := by
  unfold sumS
  rw [Bch.take_snoc h, List.foldl_append]
  rfl
set_option maxRecDepth 100000 in
set_option maxHeartbeats 2000000 in
theorem satSum_any {w : World} {A : Option Addr} {n cap : Nat} {hh : Option Nat} {us : List Nat} (hW : Win w 28 1 (.slice A n cap) hh n (us.map Bch.uU)) (hl : us.length = n) (hn9 : n ≤ 1000000) (hb : ∀ x ∈ us, x ≤ 18446744073709551615) :
    Calls Try.prog 55 #[.slice A n cap] w (GrowU (sumS us) w) := by
  obtain ⟨Z, hZ⟩ : ∃ Z, Z = GrowU (sumS us) w := ⟨_, rfl⟩
  rw [← hZ]
  have hZ' := Lib.hid hZ
  have hW' := Lib.hid (fun W (ho : Only (fun _ => False) w W) => hW.kept ho (fun _ _ h => h))
  have hl' := Lib.hid hl
  have hb' := Lib.hid hb
  have hT0 := Lib.hid (show sumS (us.take 0) = 0 from rfl)
  clear hW hl hb hZ
  go_enter Try.func55, Try.ntmps55
  go_wp2
  go_loopw [3, 5, 8] (fun u5 _ i wr => ∃ k : Nat, i = .int .i64 k ∧ k ≤ n ∧ u5 = U (sumS (us.take k)) ∧ Hid (Only (fun _ => False) w wr)) (fun _ _ i _ => n - (intOf i).toNat)
  case atStart => exact ⟨0, rfl, Nat.zero_le _, by rw [hT0.out]; rfl, Lib.hid (Only.refl _ _)⟩
  case round =>
    obtain ⟨k, rfl, hk, rfl, hO⟩ := hrel
    obtain ⟨ws, hws⟩ : ∃ ws : World, ws = wr := ⟨_, rfl⟩
    subst hws
    obtain ⟨S, hS⟩ : ∃ S, S = sumS (us.take k) := ⟨_, rfl⟩
    have hS9 : S ≤ 18446744073709551615 := by rw [hS]; exact sumS_le _
    rw [← hS]
    by_cases hkn : k < n
    · have hkn' : (k : Int) < n := by omega
      obtain ⟨x, hx⟩ : ∃ x, us[k]? = some x := ⟨_, List.getElem?_eq_getElem (by have := hl'.out; omega)⟩
      obtain ⟨g, off, rfl, cx, cxl⟩ := cell_at (hW'.out ws hO.out) (Bch.uU_at hx)
      unfold Bch.uU at cx
      have hsu := Lib.hid (show sumS (us.take (k + 1)) = sA S x by rw [sumS_snoc hx, hS])
      have q2 := Lib.hid (fun W => Bch.add_any S x W hS9 (hb'.out x (List.mem_of_getElem? hx)))
      obtain ⟨V, hV⟩ : ∃ V, V = sA S x := ⟨_, rfl⟩
      rw [← hV] at hsu q2
      clear hx hS hV
      go_wp2_with fail
      refine (q2.out _).mono ?_
      rintro e w5 ⟨rfl, hw5⟩
      subst hw5
      go_wp2
      go_roundw
      case rel => exact ⟨k + 1, by go_num, by omega, by rw [hsu.out], hO⟩
      case measure => simp [intOf]; omega
    · obtain rfl : k = n := by omega
      have hfin := Lib.hid (show Z (.returned (U S)) ws from by rw [hZ'.out, hS, List.take_of_length_le (by have := hl'.out; omega)]; exact ⟨rfl, hO.out⟩)
      clear hS
      go_wp2
      exact hfin.out
theorem lonZ_le (th : Int) (z : Nat → Int) (n : Nat) {l : List Opn} (h mi lev : Int) (hl : l.length ≤ 1000) : 0 ≤ lonZ th z n l h mi lev ∧ lonZ th z n l h mi lev ≤ 1073741824000 := by
  have h1 := (lonU_bound (costK_le l h mi) (LV := levK th z n l) (lev := lev) l.length).1
  unfold lonZ
  omega
/-- How long a job keeps off a priority above its Threshold. -/
def kepU (s : Nat) (fl : Int) : Nat := if ofU fl = 0 then s else sA (sA (sA 0 (ofU fl)) s) s
theorem kepU_le {s : Nat} {fl : Int} (h : s ≤ 18446744073709551615) : kepU s fl ≤ 18446744073709551615 := by
  unfold kepU
  split
  · exact h
  · exact sA_le _ _
set_option maxRecDepth 100000 in
set_option maxHeartbeats 2000000 in
theorem kept_any {w : World} {c : ConfV} {d : ConfL} {pl : Tks} (hC : ConfIn w c d pl) (hen : c.ce.n ≤ 4096) {i : Nat} {t : TaskV} {l : List Opn} (hi : pl[i]? = some (t, l)) (hl9 : l.length ≤ 1000) (htn : c.ta.n ≤ 1000000) (lev : Int) :
    Calls Try.prog 32 #[c.val, .int .i64 (i : Int), .int .i64 lev] w (GrowU (kepU (lonZ t.th (ceZ d.ce) c.ce.n l c.h c.mi lev).toNat t.fl) w) := by
  obtain ⟨q, hq⟩ : ∃ q, q = w.heap.size := ⟨_, rfl⟩
  obtain ⟨W2, hW2⟩ : ∃ W2, W2 = w.alloc (.cells c.cells.toArray 27) := ⟨_, rfl⟩
  have hO2 : Only (fun _ => False) w W2 := by rw [hW2]; exact (Only.refl _ w).alloc _
  have b0 : W2.heap[q]? = some (.cells c.cells.toArray 27 (0, 0)) := by rw [hW2]; exact heap_new_at _ _ hq.symm
  have hq' := Lib.hid hq
  have clon := Lib.hid (longest_any (hC.new hO2) hen hi hl9 htn lev)
  obtain ⟨hz0, hz9⟩ := lonZ_le t.th (ceZ d.ce) c.ce.n c.h c.mi lev hl9
  obtain ⟨z, hz⟩ : ∃ z, z = lonZ t.th (ceZ d.ce) c.ce.n l c.h c.mi lev := ⟨_, rfl⟩
  rw [← hz] at clon hz0 hz9 ⊢
  have cof := Lib.hid (fun W => satOf_any z W)
  rw [ofU_small (by omega)] at cof
  obtain ⟨s, hs⟩ : ∃ s, s = z.toNat := ⟨_, rfl⟩
  have hs9 : s ≤ 18446744073709551615 := by omega
  rw [← hs] at cof ⊢
  have cof2 := Lib.hid (fun W => satOf_any t.fl W)
  obtain ⟨F, hF⟩ : ∃ F, F = ofU t.fl := ⟨_, rfl⟩
  have hF9 : F ≤ 18446744073709551615 := by rw [hF]; exact ofU_le _
  rw [← hF] at cof2
  have hcy := Lib.hid (fun W (ho : Only (fun _ => False) W2 W) => show W.heap[q]? = some (.cells c.cells.toArray 27 (0, 0)) ∧ Only (fun _ => False) w W from ⟨ho.heap b0 (fun h => h), hO2.trans' ho⟩)
  have hta := Lib.hid (fun W (h : Only (fun _ => False) w W) => (hC.new h).t.at_ i t (ts_some hi))
  have hilt : (i : Int) < c.ta.n := by
    have h1 := hC.t.len
    unfold Tks.ts at h1
    rw [List.length_map] at h1
    have := (List.getElem?_eq_some_iff.1 hi).1
    omega
  obtain ⟨Z, hZ⟩ : ∃ Z, Z = GrowU (kepU s t.fl) w := ⟨_, rfl⟩
  rw [← hZ]
  have hZ0 := Lib.hid (fun (h : F = 0) W (ho : Only (fun _ => False) w W) => show Z (.returned (U s)) W from by rw [hZ, kepU, ← hF, if_pos h]; exact ⟨rfl, ho⟩)
  have hZ1 := Lib.hid (fun (h : ¬ F = 0) W (ho : Only (fun _ => False) w W) => show Z (.returned (U (sumS [F, s, s]))) W from by rw [hZ, kepU, ← hF, if_neg h]; exact ⟨rfl, ho⟩)
  have d0 := row_cell b0 (i := 0) rfl
  have d1 := row_cell b0 (i := 1) rfl
  have d2 := row_cell b0 (i := 2) rfl
  have d3 := row_cell b0 (i := 3) rfl
  have d4 := row_cell b0 (i := 4) rfl
  have d5 := row_cell b0 (i := 5) rfl
  have d6 := row_cell b0 (i := 6) rfl
  have d7 := row_cell b0 (i := 7) rfl
  have d8 := row_cell b0 (i := 8) rfl
  have d9 := row_cell b0 (i := 9) rfl
  have dl := row_lt b0
  unfold ConfV.val at clon ⊢
  unfold ConfV.cells at hW2 hcy
  have hW2' := Lib.hid hW2
  clear hC hi hZ hq hO2 b0 hW2 hz hs hF
  obtain ⟨c0, wy, h, mi, ⟨mA, mn, mc⟩, g, ⟨cA, cn, cc⟩, ⟨eA, en, ec⟩, ⟨tA, tn, tc⟩, ⟨lA, ln, lc⟩⟩ := c
  dsimp only at *
  go_enter Try.func32, Try.ntmps32
  go_upto_region 1 with fail
  rw [← hq'.out]
  rw [← hW2'.out]
  go_wp2_with fail
  refine clon.out.mono ?_
  rintro e w4 ⟨rfl, ho⟩
  have hO4 := Lib.hid ho
  clear ho d0 d1 d2 d3 d4 d5 d6 d7 d8 d9 dl clon
  go_wp2_with fail
  refine (cof.out _).mono ?_
  rintro e w5 ⟨rfl, hw5⟩
  subst hw5
  obtain ⟨b4, hOw4⟩ := hcy.out w5 hO4.out
  have d8 := row_cell b4 (i := 8) rfl
  have dl := row_lt b4
  obtain ⟨b, off, hA, hb, hCe⟩ := hta.out w5 hOw4
  have f5 := hCe.c5
  subst hA
  have hOw4' := Lib.hid hOw4
  clear b4 hOw4 hCe
  go_wp2_with fail
  refine (cof2.out _).mono ?_
  rintro e w6 ⟨rfl, hw6⟩
  subst hw6
  clear d8 dl f5 hb
  by_cases hF0 : F = 0
  · have hf := Lib.hid (hZ0.out hF0 w6 hOw4'.out)
    subst hF0
    go_wp2
    exact hf.out
  · have hne : ((F : Int) == 0) = false := by simpa using hF0
    have hf := Lib.hid (hZ1.out hF0)
    clear hF0
    obtain ⟨w7, hw7⟩ : ∃ w7, w7 = w6.alloc (.cells #[U F, U s, U s] 28) := ⟨_, rfl⟩
    have hO7 : Only (fun _ => False) w6 w7 := by rw [hw7]; exact (Only.refl _ _).alloc _
    have hb7 : w7.heap[w6.heap.size]? = some (.cells #[U F, U s, U s] 28 (0, 0)) := by rw [hw7]; exact heap_new_at _ _ rfl
    have csum := Lib.hid (satSum_any (us := [F, s, s]) (Win.of_row (L := [U F, U s, U s]) hb7 rfl (show 3 ≤ maxLen by decide)) rfl (by decide) (by simp; omega))
    obtain ⟨V, hV⟩ : ∃ V, V = sumS [F, s, s] := ⟨_, rfl⟩
    rw [← hV] at csum hf
    have hO7' := Lib.hid (hOw4'.out.trans' hO7)
    have hw7' := Lib.hid hw7
    clear hV hb7 hO7 hw7
    go_wp2_with fail
    rw [← hw7'.out]
    refine csum.out.mono ?_
    rintro e w8 ⟨rfl, ho⟩
    have hf2 := Lib.hid (hf.out w8 (hO7'.out.trans' ho))
    clear ho
    go_wp2
    exact hf2.out
end Pre
end Go.Proofs.Ytdoimkmhincmmaa
