/- The cache's Access: a used block is moved to its row's front. -/
import Derived.Test.YtbjpnjgkpkfngaaLru
namespace Go.Proofs.Ytbjpnjgkpkfngaa
open Go Go.RowKit

def AccEnd (r R M S W : Nat) (G : Nat → List Int) (b : Nat) (w : World) (e : Ending) (w' : World) : Prop :=
  e = .returned (.tuple #[.bool (decide ((b : Int) ∈ G (b % S))), .int .i64 0]) ∧ CacheAt w' r R M S W (upd G (b % S) (acc W (G (b % S)) b)) ∧ Only (fun k => k = R ∨ k = M) w w'

/-- Behind the copy and the two stores. -/
theorem acc_end {w w2 : World} {r R M S W s n : Nat} {G : Nat → List Int} {L : List Value} {a : Nat} {b : Int} {g' : List Int} (h : CacheAt w r R M S W G) (hs : s < S) (hL : L.length = S * W)
    (hLc : ∀ i, i < S → ∀ j x, (G i)[j]? = some x → L[i * W + j]? = some (.int .i64 x)) (ha : a < W) (han : a ≤ (G s).length)
    (hg : g' = b :: ((G s).take a ++ (G s).drop (a + 1)) ∨ g' = b :: (G s).take a) (hgl : g'.length = n) (hnW : n ≤ W)
    (h2 : w2.heap[M]? = some (.cells (splice L (s * W + 1) ((L.drop (s * W)).take a)).toArray 3 (0, 0))) (ho : Only (fun k => k = M) w w2) :
    CacheAt ((w2.setCell ⟨M, s * W, none⟩ (.int .i64 b)).setCell ⟨R, s, none⟩ (rowV M W s n)) r R M S W (upd G s g') ∧ Only (fun k => k = R ∨ k = M) w ((w2.setCell ⟨M, s * W, none⟩ (.int .i64 b)).setCell ⟨R, s, none⟩ (rowV M W s n)) := by
  obtain ⟨n1, n2, n3⟩ := h.ne
  have hsw : s * W + W ≤ S * W := by
    have := Nat.mul_le_mul_right W (show s + 1 ≤ S from hs)
    rw [Nat.succ_mul] at this
    exact this
  have hM1 : (w2.setCell ⟨M, s * W, none⟩ (.int .i64 b)).heap[M]? = some (.cells (moved L (s * W) a b).toArray 3 (0, 0)) := row_set h2 (s * W) _
  have hR1 : (w2.setCell ⟨M, s * W, none⟩ (.int .i64 b)).heap[R]? = some (.cells (rowsL M S W G).toArray 34 (0, 0)) := heap_kept_set (ho.heap h.rows (by exact n3)) (by exact n3) _
  have hr1 := heap_kept_set (ho.heap h.root (by exact n2)) (p := ⟨M, s * W, none⟩) (by exact n2) (.int .i64 b)
  refine ⟨⟨h.hS, h.hW, heap_kept_set hr1 (p := ⟨R, s, none⟩) (by exact n1) _, ?_, fun i hi => ?_, moved L (s * W) a b, heap_kept_set hM1 (p := ⟨R, s, none⟩) (by exact n3.symm) _, ?_, ?_⟩, ?_⟩
  · rw [← rows_upd M S W s G g' hs, hgl]
    exact row_set hR1 s _
  · unfold upd
    split
    · omega
    · exact h.len i hi
  · rw [moved_len (by omega), hL]
  · exact moved_row hL hs ha h.len han hLc g' hg
  · exact ((ho.mono (fun x _ hx => .inr hx)).setCell (p := ⟨M, s * W, none⟩) (fun _ => .inr rfl) _).setCell (p := ⟨R, s, none⟩) (fun _ => .inl rfl) _

theorem moved_cells {L : List Value} {o a n : Nat} {g : List Int} (hn : g.length = n) (ha : a ≤ n) (hc : ∀ j x, g[j]? = some x → L[o + j]? = some (.int .i64 x)) :
    ∀ v ∈ (L.drop o).take a, v.oneCell' = true := by
  intro v hv
  obtain ⟨j, hj⟩ := List.getElem?_of_mem hv
  rw [List.getElem?_take] at hj
  split at hj
  · rename_i hja
    rw [List.getElem?_drop] at hj
    obtain ⟨x, hx⟩ : ∃ x, g[j]? = some x := ⟨_, List.getElem?_eq_getElem (by omega)⟩
    rw [hc j x hx] at hj
    cases hj
    rfl
  · cases hj

set_option maxRecDepth 100000 in
set_option maxHeartbeats 1000000 in
theorem access_found {w : World} {r R M S W : Nat} {G : Nat → List Int} (h : CacheAt w r R M S W G) (b : Nat) (hb : b ≤ 255) (hin : (b : Int) ∈ G (b % S)) : Calls Try.prog 7 #[.pointer (some ⟨r, 0, none⟩), .int .i64 b] w (AccEnd r R M S W G b w) := by
  obtain ⟨s, hs⟩ : ∃ s, s = b % S := ⟨_, rfl⟩
  have hsS : s < S := by rw [hs]; exact Nat.mod_lt _ (by have := h.hS.1; omega)
  have hS2 := h.hS.2
  have q1 := Lib.hid (isBlock_any b w)
  rw [show isB (b : Int) = true by simp [isB]; omega] at q1
  have q2 := Lib.hid (of_any h b hb)
  unfold AccEnd
  rw [← hs] at q2 hin ⊢
  have c0 := row_cell h.root (i := 0) rfl
  have c1 := row_cell h.rows (rowsL_at M S W G s hsS)
  obtain ⟨n, hn⟩ : ∃ n, (G s).length = n := ⟨_, rfl⟩
  have hnW : n ≤ W := by rw [← hn]; exact h.len s hsS
  have hW1 := h.hW.1
  have hW2 := h.hW.2
  have q3 := Lib.hid (index_any (w := w) (B := M) (off := s * W) (cap := W) (g := G s) (fun j x hx => h.cell hsS hx) hn (by omega) b)
  obtain ⟨a, ha⟩ : ∃ a, a = (G s).idxOf (b : Int) := ⟨_, rfl⟩
  have han : a < n := by rw [ha, ← hn]; exact List.idxOf_lt_length_iff.2 hin
  rw [show idxZ (G s) b = (a : Int) by unfold idxZ; rw [if_pos hin, ha]] at q3
  unfold rowV at c1
  rw [hn] at c1
  obtain ⟨L, hL, hLl, hLc⟩ := h.room
  have z1 : ((s : Int) == -1) = false := by simp
  have z2 : ((a : Int) != -1) = true := by simp
  rw [decide_eq_true hin]
  obtain ⟨H, hH⟩ : ∃ H : World → Prop, H = fun w' => CacheAt w' r R M S W (upd G s (acc W (G s) b)) ∧ Only (fun k => k = R ∨ k = M) w w' := ⟨_, rfl⟩
  have hend : (fun e w' => e = Ending.returned (.tuple #[.bool true, .int .i64 0]) ∧ CacheAt w' r R M S W (upd G s (acc W (G s) b)) ∧ Only (fun k => k = R ∨ k = M) w w') = fun e w' => e = Ending.returned (.tuple #[.bool true, .int .i64 0]) ∧ H w' := by rw [hH]
  rw [hend]
  have hsw : s * W + W ≤ S * W := by
    have := Nat.mul_le_mul_right W (show s + 1 ≤ S from hsS)
    rw [Nat.succ_mul] at this
    exact this
  have hfin := Lib.hid (show ∀ w2 : World, w2.heap[M]? = some (.cells (splice L (s * W + 1) ((L.drop (s * W)).take a)).toArray 3 (0, 0)) → Only (fun k => k = M) w w2 → H ((w2.setCell ⟨M, s * W, none⟩ (.int .i64 b)).setCell ⟨R, s, none⟩ (.slice (some ⟨M, s * W, none⟩) n W)) from fun w2 h2 ho => by
    rw [hH]
    exact acc_end h hsS hLl hLc (by omega) (by omega) (.inl (by rw [acc_in hin, ← ha])) (by
      rw [acc_in hin, ← ha, List.length_cons, List.length_append, List.length_take, List.length_drop]
      omega) hnW h2 ho)
  have hlen : ((L.drop (s * W)).take a).length = a := by rw [List.length_take, List.length_drop]; omega
  have hcp := fun dp dCap (hdp : 0 < a → dp = some (⟨M, s * W + 1, none⟩ : Addr)) => run_copy_only (P := Try.prog) w 34 34 3 3 Try.underlying34 (by kernel_rfl) dp (some ⟨M, s * W, none⟩) a dCap n W M (s * W + 1) L 3 hL ((L.drop (s * W)).take a) (by rw [hlen]; show a = min n a; omega) (fun h0 => ⟨hdp (by rw [hlen] at h0; exact h0), _, rfl, fun j v hj => row_src (L := L) hL (s * W) a j v hj⟩) (by rw [hlen]; omega) (moved_cells (L := L) (o := s * W) (a := a) hn (by omega) (fun j x hx => hLc s hsS j x hx))
  rw [hlen] at hcp
  have hRr := Lib.hid h.rows
  have hr := Lib.hid h.root
  have hne := h.ne
  have hne' := Lib.hid hne
  have hsl : s < (rowsL M S W G).length := by unfold rowsL; simpa using hsS
  have hsl' := Lib.hid hsl
  have hswl : s * W < L.length := by omega
  have hbig : s * W + W ≤ L.length := by omega
  have hcp' := Lib.hid hcp
  clear h hs hin hn ha hL hLl hLc hend hH hlen hne hsl hcp
  by_cases hWe : W = 1
  · subst hWe
    obtain rfl : a = 0 := by omega
    obtain rfl : n = 1 := by omega
    rw [Nat.mul_one] at q3 c1 hfin hswl hbig hcp'
    obtain ⟨w2, hrun, hw2, hO2⟩ := hcp'.out (some ⟨M, s, none⟩) 0 (fun h => by omega)
    have hw2' := Lib.hid hw2
    have hO2' := Lib.hid hO2
    have e1 : w2.cell? ⟨r, 0, none⟩ = some (.slice (some ⟨R, 0, none⟩) S S) := row_cell (hO2.heap hr.out hne'.out.2.1) rfl
    have f1 : w2.frozen? ⟨M, s, none⟩ = false := row_free hw2 _
    have f2 : w2.frozen? ⟨R, s, none⟩ = false := row_free (hO2.heap hRr.out hne'.out.2.2) _
    have e2 : ∃ u, w2.cell? ⟨M, s, none⟩ = some u := ⟨_, row_cell hw2 (List.getElem?_eq_getElem (by rw [length_splice _ _ _ (by rw [List.length_take, List.length_drop]; omega)]; omega))⟩
    have e3 : ∃ u, w2.cell? ⟨R, s, none⟩ = some u := ⟨_, row_cell (hO2.heap hRr.out hne'.out.2.2) (List.getElem?_eq_getElem hsl'.out)⟩
    obtain ⟨u2, e2⟩ := e2
    obtain ⟨u3, e3⟩ := e3
    have hd1 : (M = r) = False := by have := hne'.out; simp; omega
    have hd2 : (M = R) = False := by have := hne'.out; simp; omega
    have hd3 : (R = r) = False := by have := hne'.out; simp; omega
    clear hw2 hO2
    go_enter Try.func7, Try.ntmps7
    go_wp2_with (first | (go_at_call 12; refine q1.out.mono ?_; rintro e w' ⟨rfl, rfl⟩) | (go_at_call 11; refine q2.out.mono ?_; rintro e w' ⟨rfl, rfl⟩) | (go_at_call 13; refine q3.out.mono ?_; rintro e w' ⟨rfl, rfl⟩))
    go_ret2
    exact ⟨rfl, hfin.out w2 hw2'.out hO2'.out⟩
  · obtain ⟨w2, hrun, hw2, hO2⟩ := hcp'.out (some ⟨M, s * W + 1, none⟩) (W - 1) (fun _ => rfl)
    have hw2' := Lib.hid hw2
    have hO2' := Lib.hid hO2
    have e1 : w2.cell? ⟨r, 0, none⟩ = some (.slice (some ⟨R, 0, none⟩) S S) := row_cell (hO2.heap hr.out hne'.out.2.1) rfl
    have f1 : w2.frozen? ⟨M, s * W, none⟩ = false := row_free hw2 _
    have f2 : w2.frozen? ⟨R, s, none⟩ = false := row_free (hO2.heap hRr.out hne'.out.2.2) _
    have e2 : ∃ u, w2.cell? ⟨M, s * W, none⟩ = some u := ⟨_, row_cell hw2 (List.getElem?_eq_getElem (by rw [length_splice _ _ _ (by rw [List.length_take, List.length_drop]; omega)]; omega))⟩
    have e3 : ∃ u, w2.cell? ⟨R, s, none⟩ = some u := ⟨_, row_cell (hO2.heap hRr.out hne'.out.2.2) (List.getElem?_eq_getElem hsl'.out)⟩
    obtain ⟨u2, e2⟩ := e2
    obtain ⟨u3, e3⟩ := e3
    have hd1 : (M = r) = False := by have := hne'.out; simp; omega
    have hd2 : (M = R) = False := by have := hne'.out; simp; omega
    have hd3 : (R = r) = False := by have := hne'.out; simp; omega
    clear hw2 hO2
    go_enter Try.func7, Try.ntmps7
    go_wp2_with (first | (go_at_call 12; refine q1.out.mono ?_; rintro e w' ⟨rfl, rfl⟩) | (go_at_call 11; refine q2.out.mono ?_; rintro e w' ⟨rfl, rfl⟩) | (go_at_call 13; refine q3.out.mono ?_; rintro e w' ⟨rfl, rfl⟩))
    go_ret2
    exact ⟨rfl, hfin.out w2 hw2'.out hO2'.out⟩
set_option maxRecDepth 100000 in
set_option maxHeartbeats 1000000 in
theorem access_new {w : World} {r R M S W : Nat} {G : Nat → List Int} (h : CacheAt w r R M S W G) (b : Nat) (hb : b ≤ 255) (hin : ¬ (b : Int) ∈ G (b % S)) : Calls Try.prog 7 #[.pointer (some ⟨r, 0, none⟩), .int .i64 b] w (AccEnd r R M S W G b w) := by
  obtain ⟨s, hs⟩ : ∃ s, s = b % S := ⟨_, rfl⟩
  have hsS : s < S := by rw [hs]; exact Nat.mod_lt _ (by have := h.hS.1; omega)
  have hS2 := h.hS.2
  have q1 := Lib.hid (isBlock_any b w)
  rw [show isB (b : Int) = true by simp [isB]; omega] at q1
  have q2 := Lib.hid (of_any h b hb)
  unfold AccEnd
  rw [← hs] at q2 hin ⊢
  have c0 := row_cell h.root (i := 0) rfl
  have c1 := row_cell h.rows (rowsL_at M S W G s hsS)
  obtain ⟨n, hn⟩ : ∃ n, (G s).length = n := ⟨_, rfl⟩
  have hnW : n ≤ W := by rw [← hn]; exact h.len s hsS
  have hW1 := h.hW.1
  have hW2 := h.hW.2
  have q3 := Lib.hid (index_any (w := w) (B := M) (off := s * W) (cap := W) (g := G s) (fun j x hx => h.cell hsS hx) hn (by omega) b)
  obtain ⟨a, ha⟩ : ∃ a, a = min n (W - 1) := ⟨_, rfl⟩
  have han : a ≤ n := by omega
  have haW : a < W := by omega
  have hmin : min ((n : Int) + 1) (W : Int) = (a : Int) + 1 := by omega
  rw [show idxZ (G s) b = -1 by unfold idxZ; rw [if_neg hin]] at q3
  unfold rowV at c1
  rw [hn] at c1
  obtain ⟨L, hL, hLl, hLc⟩ := h.room
  have z1 : ((s : Int) == -1) = false := by simp
  rw [decide_eq_false hin]
  obtain ⟨H, hH⟩ : ∃ H : World → Prop, H = fun w' => CacheAt w' r R M S W (upd G s (acc W (G s) b)) ∧ Only (fun k => k = R ∨ k = M) w w' := ⟨_, rfl⟩
  have hend : (fun e w' => e = Ending.returned (.tuple #[.bool false, .int .i64 0]) ∧ CacheAt w' r R M S W (upd G s (acc W (G s) b)) ∧ Only (fun k => k = R ∨ k = M) w w') = fun e w' => e = Ending.returned (.tuple #[.bool false, .int .i64 0]) ∧ H w' := by rw [hH]
  rw [hend]
  have hsw : s * W + W ≤ S * W := by
    have := Nat.mul_le_mul_right W (show s + 1 ≤ S from hsS)
    rw [Nat.succ_mul] at this
    exact this
  have hfin := Lib.hid (show ∀ w2 : World, w2.heap[M]? = some (.cells (splice L (s * W + 1) ((L.drop (s * W)).take a)).toArray 3 (0, 0)) → Only (fun k => k = M) w w2 → H ((w2.setCell ⟨M, s * W, none⟩ (.int .i64 b)).setCell ⟨R, s, none⟩ (.slice (some ⟨M, s * W, none⟩) (a + 1) W)) from fun w2 h2 ho => by
    rw [hH]
    have hac : acc W (G s) (b : Int) = (b : Int) :: (G s).take a := by
      rw [acc_out hin hW1]
      congr 1
      by_cases h1 : n ≤ W - 1
      · rw [List.take_of_length_le (by omega), List.take_of_length_le (by omega)]
      · rw [show a = W - 1 by omega]
    exact acc_end h hsS hLl hLc haW (by omega) (.inr hac) (by
      rw [hac, List.length_cons, List.length_take]
      omega) (by omega) h2 ho)
  have hlen : ((L.drop (s * W)).take a).length = a := by rw [List.length_take, List.length_drop]; omega
  have hcp := fun dp dCap (hdp : 0 < a → dp = some (⟨M, s * W + 1, none⟩ : Addr)) => run_copy_only (P := Try.prog) w 34 34 3 3 Try.underlying34 (by kernel_rfl) dp (some ⟨M, s * W, none⟩) a dCap (a + 1) W M (s * W + 1) L 3 hL ((L.drop (s * W)).take a) (by rw [hlen]; show a = min (a + 1) a; omega) (fun h0 => ⟨hdp (by rw [hlen] at h0; exact h0), _, rfl, fun j v hj => row_src (L := L) hL (s * W) a j v hj⟩) (by rw [hlen]; omega) (moved_cells (L := L) (o := s * W) (a := a) hn (by omega) (fun j x hx => hLc s hsS j x hx))
  rw [hlen] at hcp
  have hRr := Lib.hid h.rows
  have hr := Lib.hid h.root
  have hne := h.ne
  have hne' := Lib.hid hne
  have hsl : s < (rowsL M S W G).length := by unfold rowsL; simpa using hsS
  have hsl' := Lib.hid hsl
  have hswl : s * W < L.length := by omega
  have hbig : s * W + W ≤ L.length := by omega
  have hcp' := Lib.hid hcp
  clear h hs hin hn ha hL hLl hLc hend hH hlen hne hsl hcp
  by_cases hWe : W = 1
  · subst hWe
    obtain rfl : a = 0 := by omega
    rw [Nat.mul_one] at q3 c1 hfin hswl hbig hcp'
    clear hmin
    have hn01 : n = 0 ∨ n = 1 := by omega
    rcases hn01 with rfl | rfl
    · have hmx : max (1 : Int) 0 = 1 := by decide
      have hm1 : min (1 : Int) 1 = 1 := by decide
      have hm2 : min (2 : Int) 1 = 1 := by decide
      obtain ⟨w2, hrun, hw2, hO2⟩ := hcp'.out (some ⟨M, s, none⟩) 0 (fun h => by omega)
      have hw2' := Lib.hid hw2
      have hO2' := Lib.hid hO2
      have e1 : w2.cell? ⟨r, 0, none⟩ = some (.slice (some ⟨R, 0, none⟩) S S) := row_cell (hO2.heap hr.out hne'.out.2.1) rfl
      have f1 : w2.frozen? ⟨M, s, none⟩ = false := row_free hw2 _
      have f2 : w2.frozen? ⟨R, s, none⟩ = false := row_free (hO2.heap hRr.out hne'.out.2.2) _
      have e2 : ∃ u, w2.cell? ⟨M, s, none⟩ = some u := ⟨_, row_cell hw2 (List.getElem?_eq_getElem (by rw [length_splice _ _ _ (by rw [List.length_take, List.length_drop]; omega)]; omega))⟩
      have e3 : ∃ u, w2.cell? ⟨R, s, none⟩ = some u := ⟨_, row_cell (hO2.heap hRr.out hne'.out.2.2) (List.getElem?_eq_getElem hsl'.out)⟩
      obtain ⟨u2, e2⟩ := e2
      obtain ⟨u3, e3⟩ := e3
      have hd1 : (M = r) = False := by have := hne'.out; simp; omega
      have hd2 : (M = R) = False := by have := hne'.out; simp; omega
      have hd3 : (R = r) = False := by have := hne'.out; simp; omega
      clear hw2 hO2
      go_enter Try.func7, Try.ntmps7
      go_wp2_with (first | (go_at_call 12; refine q1.out.mono ?_; rintro e w' ⟨rfl, rfl⟩) | (go_at_call 11; refine q2.out.mono ?_; rintro e w' ⟨rfl, rfl⟩) | (go_at_call 13; refine q3.out.mono ?_; rintro e w' ⟨rfl, rfl⟩))
      go_ret2
      exact ⟨rfl, hfin.out w2 hw2'.out hO2'.out⟩
    · have hmx : max (1 : Int) 0 = 1 := by decide
      have hm1 : min (1 : Int) 1 = 1 := by decide
      have hm2 : min (2 : Int) 1 = 1 := by decide
      obtain ⟨w2, hrun, hw2, hO2⟩ := hcp'.out (some ⟨M, s, none⟩) 0 (fun h => by omega)
      have hw2' := Lib.hid hw2
      have hO2' := Lib.hid hO2
      have e1 : w2.cell? ⟨r, 0, none⟩ = some (.slice (some ⟨R, 0, none⟩) S S) := row_cell (hO2.heap hr.out hne'.out.2.1) rfl
      have f1 : w2.frozen? ⟨M, s, none⟩ = false := row_free hw2 _
      have f2 : w2.frozen? ⟨R, s, none⟩ = false := row_free (hO2.heap hRr.out hne'.out.2.2) _
      have e2 : ∃ u, w2.cell? ⟨M, s, none⟩ = some u := ⟨_, row_cell hw2 (List.getElem?_eq_getElem (by rw [length_splice _ _ _ (by rw [List.length_take, List.length_drop]; omega)]; omega))⟩
      have e3 : ∃ u, w2.cell? ⟨R, s, none⟩ = some u := ⟨_, row_cell (hO2.heap hRr.out hne'.out.2.2) (List.getElem?_eq_getElem hsl'.out)⟩
      obtain ⟨u2, e2⟩ := e2
      obtain ⟨u3, e3⟩ := e3
      have hd1 : (M = r) = False := by have := hne'.out; simp; omega
      have hd2 : (M = R) = False := by have := hne'.out; simp; omega
      have hd3 : (R = r) = False := by have := hne'.out; simp; omega
      clear hw2 hO2
      go_enter Try.func7, Try.ntmps7
      go_wp2_with (first | (go_at_call 12; refine q1.out.mono ?_; rintro e w' ⟨rfl, rfl⟩) | (go_at_call 11; refine q2.out.mono ?_; rintro e w' ⟨rfl, rfl⟩) | (go_at_call 13; refine q3.out.mono ?_; rintro e w' ⟨rfl, rfl⟩))
      go_ret2
      exact ⟨rfl, hfin.out w2 hw2'.out hO2'.out⟩
  · by_cases hnw : n < W
    · obtain rfl : a = n := by omega
      have hmx : max ((a : Int) + 1) 0 = (a : Int) + 1 := by omega
      have hnw' : (a : Int) + 1 ≤ (W : Int) := by omega
      clear hmin
      obtain ⟨w2, hrun, hw2, hO2⟩ := hcp'.out (some ⟨M, s * W + 1, none⟩) (W - 1) (fun _ => rfl)
      have hw2' := Lib.hid hw2
      have hO2' := Lib.hid hO2
      have e1 : w2.cell? ⟨r, 0, none⟩ = some (.slice (some ⟨R, 0, none⟩) S S) := row_cell (hO2.heap hr.out hne'.out.2.1) rfl
      have f1 : w2.frozen? ⟨M, s * W, none⟩ = false := row_free hw2 _
      have f2 : w2.frozen? ⟨R, s, none⟩ = false := row_free (hO2.heap hRr.out hne'.out.2.2) _
      have e2 : ∃ u, w2.cell? ⟨M, s * W, none⟩ = some u := ⟨_, row_cell hw2 (List.getElem?_eq_getElem (by rw [length_splice _ _ _ (by rw [List.length_take, List.length_drop]; omega)]; omega))⟩
      have e3 : ∃ u, w2.cell? ⟨R, s, none⟩ = some u := ⟨_, row_cell (hO2.heap hRr.out hne'.out.2.2) (List.getElem?_eq_getElem hsl'.out)⟩
      obtain ⟨u2, e2⟩ := e2
      obtain ⟨u3, e3⟩ := e3
      have hd1 : (M = r) = False := by have := hne'.out; simp; omega
      have hd2 : (M = R) = False := by have := hne'.out; simp; omega
      have hd3 : (R = r) = False := by have := hne'.out; simp; omega
      clear hw2 hO2
      go_enter Try.func7, Try.ntmps7
      go_wp2_with (first | (go_at_call 12; refine q1.out.mono ?_; rintro e w' ⟨rfl, rfl⟩) | (go_at_call 11; refine q2.out.mono ?_; rintro e w' ⟨rfl, rfl⟩) | (go_at_call 13; refine q3.out.mono ?_; rintro e w' ⟨rfl, rfl⟩))
      go_ret2
      exact ⟨rfl, hfin.out w2 hw2'.out hO2'.out⟩
    · obtain rfl : a = W - 1 := by omega
      obtain rfl : n = W := by omega
      rw [show n - 1 + 1 = n by omega] at hcp' hfin
      have hmx : max (n : Int) 0 = (n : Int) := by omega
      have hnw' : (n : Int) < (n : Int) + 1 := by omega
      clear hmin
      obtain ⟨w2, hrun, hw2, hO2⟩ := hcp'.out (some ⟨M, s * n + 1, none⟩) (n - 1) (fun _ => rfl)
      have hw2' := Lib.hid hw2
      have hO2' := Lib.hid hO2
      have e1 : w2.cell? ⟨r, 0, none⟩ = some (.slice (some ⟨R, 0, none⟩) S S) := row_cell (hO2.heap hr.out hne'.out.2.1) rfl
      have f1 : w2.frozen? ⟨M, s * n, none⟩ = false := row_free hw2 _
      have f2 : w2.frozen? ⟨R, s, none⟩ = false := row_free (hO2.heap hRr.out hne'.out.2.2) _
      have e2 : ∃ u, w2.cell? ⟨M, s * n, none⟩ = some u := ⟨_, row_cell hw2 (List.getElem?_eq_getElem (by rw [length_splice _ _ _ (by rw [List.length_take, List.length_drop]; omega)]; omega))⟩
      have e3 : ∃ u, w2.cell? ⟨R, s, none⟩ = some u := ⟨_, row_cell (hO2.heap hRr.out hne'.out.2.2) (List.getElem?_eq_getElem hsl'.out)⟩
      obtain ⟨u2, e2⟩ := e2
      obtain ⟨u3, e3⟩ := e3
      have hd1 : (M = r) = False := by have := hne'.out; simp; omega
      have hd2 : (M = R) = False := by have := hne'.out; simp; omega
      have hd3 : (R = r) = False := by have := hne'.out; simp; omega
      clear hw2 hO2
      go_enter Try.func7, Try.ntmps7
      go_wp2_with (first | (go_at_call 12; refine q1.out.mono ?_; rintro e w' ⟨rfl, rfl⟩) | (go_at_call 11; refine q2.out.mono ?_; rintro e w' ⟨rfl, rfl⟩) | (go_at_call 13; refine q3.out.mono ?_; rintro e w' ⟨rfl, rfl⟩))
      go_ret2
      exact ⟨rfl, hfin.out w2 hw2'.out hO2'.out⟩
end Go.Proofs.Ytbjpnjgkpkfngaa
