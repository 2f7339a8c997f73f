/- floating: All. Written by mkfal.py. -/
import Derived.Test.YtlbinlhaejhobaaGreatDoorMst
namespace Go.Proofs.YtlbinlhaejhobaaGreatDoor
namespace Twn
open Go Go.RowKit Krn Asn Pre Adm

def FaEnd (c : ConfV) (d : ConfL) (pl : Tks) (w : World) (e : Ending) (w' : World) : Prop :=
  Only (fun _ => False) w w' ∧ ((e = .returned (.tuple #[.slice none 0 0, .bool false]) ∧ ∃ i, i < c.ta.n ∧ Mo c d pl i 0 false) ∨ (∃ A cap h B, e = .returned (.tuple #[.slice A c.ta.n cap, .bool true]) ∧ Win w' 3 1 (.slice A c.ta.n cap) h c.ta.n (icells B) ∧ (∀ g, h = some g → w.heap.size ≤ g) ∧ ∀ i, i < c.ta.n → Mo c d pl i (B.getD i 0) true))
set_option maxRecDepth 100000 in
set_option maxHeartbeats 8000000 in
theorem fall_any {w : World} {c : ConfV} {d : ConfL} {pl : Tks} (h0 : Cf0 w c d pl) :
    Calls Tryz.prog 36 #[c.val] w (FaEnd c d pl w) := by
  obtain ⟨q, hq⟩ : ∃ q, q = w.heap.size := ⟨_, rfl⟩
  obtain ⟨W2, hW2⟩ : ∃ W2, W2 = w.alloc (.cells c.cells.toArray 27) := ⟨_, rfl⟩
  have hO2 : Only (fun _ => False) w W2 := by rw [hW2]; exact (Only.refl _ w).alloc _
  have b0 : W2.heap[q]? = some (.cells c.cells.toArray 27 (0, 0)) := by rw [hW2]; exact heap_new_at _ _ hq.symm
  have hs2 : W2.heap.size = q + 1 := by rw [hW2, hq]; simp
  have hq' := Lib.hid hq
  have hcy := Lib.hid (fun W (ho : Only (fun _ => False) W2 W) => cyv_of (ho.heap b0 (fun h => h)))
  obtain ⟨cv, hcv⟩ : ∃ cv, cv = c.val := ⟨_, rfl⟩
  have hn9 := h0.n
  have kmo := Lib.hid (fun W (ho : Only (fun _ => False) W2 W) i (hi : i < c.ta.n) => show Calls Tryz.prog 34 #[cv, .int .i64 (i : Int)] W (MoEnd c d pl i W) from by rw [hcv]; exact most_any (h0.new (hO2.trans' ho)) hi)
  unfold MoEnd at kmo
  obtain ⟨MO, hMO⟩ : ∃ P, P = Mo c d pl := ⟨_, rfl⟩
  rw [← hMO] at kmo
  have hm0 := Lib.hid (fun i m (h : MO i m false) => show m = 0 from by
    rw [hMO] at h
    rcases h with ⟨-, h, -⟩ | ⟨h, -⟩
    · exact h
    · cases h)
  obtain ⟨Z, hZ⟩ : ∃ Z, Z = FaEnd c d pl w := ⟨_, rfl⟩
  rw [← hZ]
  have hf0 := Lib.hid (fun i (hi : i < c.ta.n) (hp : MO i 0 false) W (ho : Only (fun _ => False) W2 W) => show Z (.returned (.tuple #[.slice none 0 0, .bool false])) W from by
    rw [hZ]
    rw [hMO] at hp
    exact ⟨hO2.trans' ho, .inl ⟨rfl, i, hi, hp⟩⟩)
  have hf1 := Lib.hid (fun W (ho : Only (fun _ => False) W2 W) A cap hh B (hW : Win W 3 1 (.slice A c.ta.n cap) hh c.ta.n (icells B)) (hg : ∀ g, hh = some g → q + 1 ≤ g) (hB : ∀ k, k < c.ta.n → MO k (B.getD k 0) true) => show Z (.returned (.tuple #[.slice A c.ta.n cap, .bool true])) W from by
    rw [hZ]
    rw [hMO] at hB
    exact ⟨hO2.trans' ho, .inr ⟨A, cap, hh, B, rfl, hW, fun g hg' => by have := hg g hg'; omega, hB⟩⟩)
  have hmk := Lib.hid (fun W => run_make_list (P := Tryz.prog) W 24 3 (.int .i64 0) 8 rfl infoI rfl c.ta.n (by omega) (by omega))
  have hW0 := Lib.hid (fun W => show Win (World.alloc W (.cells (List.replicate c.ta.n (.int .i64 0)).toArray 3)) 3 1 (.slice (some ⟨W.heap.size, 0, none⟩) c.ta.n c.ta.n) (some W.heap.size) c.ta.n (icells (List.replicate c.ta.n 0)) from by
    rw [show icells (List.replicate c.ta.n 0) = List.replicate c.ta.n (.int .i64 0) from by unfold icells; rw [List.map_replicate]]
    exact Win.of_row (heap_new_at _ _ rfl) (by simp) (by unfold maxLen; omega))
  rw [← hcv]
  unfold ConfV.val at hcv
  subst hcv
  unfold CYv at hcy
  unfold ConfV.cells at hW2
  have hW2' := Lib.hid hW2
  have hs2' := Lib.hid hs2
  clear h0 hq hO2 b0 hW2 hs2 hZ hMO
  obtain ⟨c0, wy, h, mi, ⟨mA, mn, mc⟩, g, ⟨cA, cn, cc⟩, ⟨eA, en, ec⟩, ⟨tA, tn, tc⟩, ⟨lA, ln, lc⟩⟩ := c
  dsimp only at *
  obtain ⟨d0, d1, d2, d3, d4, d5, d6, d7, d8, d9, dl⟩ := hcy.out W2 (Only.refl _ _)
  go_enter Tryz.func36, Tryz.ntmps36
  go_upto_region 1 with fail
  rw [← hq'.out]
  rw [← hW2'.out]
  have hm := hmk.out W2
  obtain ⟨G, hG⟩ : ∃ G, G = W2.heap.size := ⟨_, rfl⟩
  have hW3 := hW0.out W2
  obtain ⟨w5, hw5⟩ : ∃ W, W = W2.alloc (.cells (List.replicate tn (.int .i64 0)).toArray 3) := ⟨_, rfl⟩
  rw [← hw5, ← hG] at hm hW3
  have hO5 := Lib.hid (show Only (fun _ => False) W2 w5 from by rw [hw5]; exact (Only.refl _ _).alloc _)
  have hW3' := Lib.hid hW3
  have hGq := Lib.hid (show q + 1 ≤ G from by have := hs2'.out; omega)
  clear hW3 hw5 hmk hW0 hG
  go_upto_region 2 with fail
  clear d0 d1 d2 d3 d4 d5 d6 d7 d8 d9 dl hm
  go_wp2
  go_loopw [5, 6, 7, 14] (fun _ _ _ i wr => ∃ (k : Nat) (B : List Int), i = .int .i64 k ∧ k ≤ tn ∧ Hid (B.length = tn ∧ ∀ j, j < k → MO j (B.getD j 0) true) ∧ Hid (Win wr 3 1 (.slice (some ⟨G, 0, none⟩) tn tn) (some G) tn (icells B)) ∧ Hid (Only (fun _ => False) W2 wr)) (fun _ _ _ i _ => tn - (intOf i).toNat)
  case atStart => exact ⟨0, List.replicate tn 0, rfl, Nat.zero_le _, Lib.hid ⟨by simp, fun j hj => by omega⟩, hW3', hO5⟩
  case round =>
    obtain ⟨k, B, rfl, hk, hB, hW, hO⟩ := hrel
    obtain ⟨ws, hws⟩ : ∃ ws : World, ws = wr := ⟨_, rfl⟩
    subst hws
    by_cases hkn : k < tn
    · have hkn' : (k : Int) < (tn : Int) := by omega
      obtain ⟨d0, d1, d2, d3, d4, d5, d6, d7, d8, d9, dl⟩ := hcy.out ws hO.out
      go_wp2_with fail
      refine (kmo.out ws hO.out k hkn).mono ?_
      rintro e w8 ⟨x, ok, rfl, hx, ho⟩
      have hO8 := Lib.hid (hO.out.trans' ho)
      cases ok with
      | false =>
        obtain rfl := hm0.out k x hx
        have hf := Lib.hid (hf0.out k hkn hx w8 hO8.out)
        clear ho hx d0 d1 d2 d3 d4 d5 d6 d7 d8 d9 dl
        go_wp2
        exact hf.out
      | true =>
        have hW8 := hW.out.kept ho (fun _ _ h => h)
        obtain ⟨g5, o5, cc5, e5, v5, -, -, hl5, hc5, hf5⟩ := hW8.at_ (by omega)
        obtain ⟨u0, hu0⟩ : ∃ u, (icells B)[k]? = some u := ⟨_, List.getElem?_eq_getElem (by rw [hW8.1]; omega)⟩
        have hGk := hc5 k u0 hu0
        injection v5 with v5 _ v5'
        cases v5
        subst v5'
        rw [Nat.zero_add] at hGk
        have hset := win_setCell (k := k) hW8 (by omega) (by omega) (.int .i64 x)
        rw [Nat.zero_add, show (icells B).set k (.int .i64 x) = icells (B.set k x) from by unfold icells; rw [List.map_set]] at hset
        have hset' := Lib.hid hset
        have hO9 := Lib.hid (show Only (fun _ => False) W2 (w8.setCell ⟨G, k, none⟩ (.int .i64 x)) from hO8.out.trans ((Only.refl (fun b => b = G) w8).setCell (p := ⟨G, k, none⟩) (fun _ => rfl) _) (fun y hy e => by have := hGq.out; have := hs2'.out; omega))
        have hB9 := Lib.hid (show (B.set k x).length = tn ∧ ∀ j, j < k + 1 → MO j ((B.set k x).getD j 0) true from ⟨by rw [List.length_set]; exact hB.out.1, fun j hj => by
          rw [List.getD_eq_getElem?_getD]
          by_cases e : j = k
          · subst e; rw [List.getElem?_set_self (by have := hB.out.1; omega)]; exact hx
          · rw [List.getElem?_set_ne (fun h => e h.symm), ← List.getD_eq_getElem?_getD]; exact hB.out.2 j (by omega)⟩)
        have hfz := hf5 k
        clear ho hW8 hset hx hf5 hc5 hu0 d0 d1 d2 d3 d4 d5 d6 d7 d8 d9 dl
        go_wp2
        go_roundw
        case rel => exact ⟨k + 1, B.set k x, by go_num, by omega, hB9, hset', hO9⟩
        case measure => simp [intOf]; omega
    · obtain rfl : k = tn := by omega
      have hkn' : ¬ (k : Int) < (k : Int) := by omega
      have hf := Lib.hid (hf1.out ws hO.out _ _ _ _ hW.out (fun g hg => by cases hg; exact hGq.out) hB.out.2)
      go_wp2
      exact hf.out
end Twn
end Go.Proofs.YtlbinlhaejhobaaGreatDoor
