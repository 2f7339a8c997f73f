/- edf: when each is done. -/
import Derived.Test.YtkolbaadakhciaaEStw
namespace Go.Proofs.Ytkolbaadakhciaa
namespace Edf
open Go Go.RowKit

/-- When a work is done. -/
def FinAt (l : List Wk) (i e : Nat) : Prop := (cs l i = 0 ∧ e = rl l i) ∨ (0 < cs l i ∧ 0 < e ∧ goes l (e - 1) = some i ∧ lef l e i = 0)
theorem lef_still {l : List Wk} {i a : Nat} : ∀ {b : Nat}, a ≤ b → (∀ j, a ≤ j → j < b → goes l j ≠ some i) → lef l b i = lef l a i := by
  intro b
  induction b with
  | zero => intro h _; obtain rfl : a = 0 := by omega
            rfl
  | succ b ih =>
    intro h hg
    by_cases e : a = b + 1
    · rw [e]
    · rw [lef_succ, if_neg (hg b (by omega) (by omega))]
      exact ih (by omega) (fun j h1 h2 => hg j h1 (by omega))
def endsOf (_l : List Wk) (E : List Nat) (S : List Str) : List Nat := S.foldl (fun E s => E.set s.p s.e) E
theorem endsOf_len (l : List Wk) (E : List Nat) (S : List Str) : (endsOf l E S).length = E.length := by
  unfold endsOf
  induction S generalizing E with
  | nil => rfl
  | cons s S ih => rw [List.foldl_cons, ih, List.length_set]
theorem endsOf_take {l : List Wk} {E : List Nat} {S : List Str} {k : Nat} {s : Str} (h : S[k]? = some s) : endsOf l E (S.take (k + 1)) = (endsOf l E (S.take k)).set s.p s.e := by
  unfold endsOf
  rw [List.take_add_one, h, List.foldl_append]
  rfl
/-- The last stretch of each tells its end. -/
theorem endsOf_last {l : List Wk} {t : Nat} {S : List Str} {E : List Nat} (hE : E.length = l.length) (h : Told l t S) : ∀ k, k ≤ S.length → ∀ i, i < l.length →
    ((∀ s ∈ S.take k, s.p ≠ i) ∧ (endsOf l E (S.take k))[i]? = E[i]?) ∨ (∃ s ∈ S.take k, s.p = i ∧ (endsOf l E (S.take k))[i]? = some s.e ∧ ∀ s' ∈ S.take k, s'.p = i → s'.e ≤ s.e) := by
  intro k
  induction k with
  | zero => intro _ i _; left; exact ⟨by simp, rfl⟩
  | succ k ih =>
    intro hk i hi
    obtain ⟨s, hs⟩ : ∃ s, S[k]? = some s := ⟨S[k], List.getElem?_eq_getElem (by omega)⟩
    have htk : S.take (k + 1) = S.take k ++ [s] := by rw [List.take_add_one, hs]; rfl
    have hlen : (endsOf l E (S.take k)).length = l.length := by rw [endsOf_len, hE]
    have hrow : ∀ a ∈ S.take k, a.e ≤ s.f := by
      have h1 : (S.take k ++ [s]).Pairwise fun a b => a.e ≤ b.f := by rw [← htk]; exact h.row.sublist (List.take_sublist _ _)
      exact fun a ha => (List.pairwise_append.1 h1).2.2 a ha s (by simp)
    have hsf := (h.ok s (List.mem_of_getElem? hs)).1
    rw [endsOf_take hs, htk]
    by_cases e : s.p = i
    · right
      refine ⟨s, by simp, e, ?_, fun s' hs' _ => ?_⟩
      · rw [e, List.getElem?_set_self (by omega)]
      · rcases List.mem_append.1 hs' with hs' | hs'
        · have := hrow s' hs'; omega
        · rw [List.mem_singleton.1 hs']; exact Nat.le_refl _
    · rw [List.getElem?_set_ne e]
      rcases ih (by omega) i hi with ⟨h1, h2⟩ | ⟨s0, h0, h1, h2, h3⟩
      · left
        refine ⟨fun s' hs' => ?_, h2⟩
        rcases List.mem_append.1 hs' with hs' | hs'
        · exact h1 s' hs'
        · rw [List.mem_singleton.1 hs']; exact e
      · right
        refine ⟨s0, List.mem_append_left _ h0, h1, h2, fun s' hs' hp => ?_⟩
        rcases List.mem_append.1 hs' with hs' | hs'
        · exact h3 s' hs' hp
        · rw [List.mem_singleton.1 hs'] at hp; exact absurd hp e
theorem ends_fin {l : List Wk} {t : Nat} {S : List Str} {E : List Nat} (hE : E.length = l.length) (hE0 : ∀ i, i < l.length → E[i]? = some (rl l i)) (h : Told l t S) (hz : ∀ q, q < l.length → lef l t q = 0) : ∀ i, i < l.length → ∃ e, (endsOf l E S)[i]? = some e ∧ FinAt l i e := by
  intro i hi
  have h1 := endsOf_last hE h S.length (Nat.le_refl _) i hi
  rw [List.take_length] at h1
  rcases h1 with ⟨h1, h2⟩ | ⟨s, h0, h1, h2, h3⟩
  · refine ⟨_, h2.trans (hE0 i hi), .inl ⟨?_, rfl⟩⟩
    have h4 := lef_still (l := l) (i := i) (Nat.zero_le t) (fun j _ hj hg => by
      obtain ⟨s, hs, hp, -⟩ := h.all j hj i hg
      exact h1 s hs hp)
    rw [hz i hi] at h4
    exact h4.symm
  · obtain ⟨g1, g2, g3, g4⟩ := h.ok s h0
    have g5 := g4 (s.e - 1) (by omega) (by omega)
    rw [h1] at g5
    refine ⟨_, h2, .inr ⟨?_, by omega, g5, ?_⟩⟩
    · have := (goes_some g5).2.2.1
      have := lef_le l (s.e - 1) i
      omega
    · have h4 := lef_still (l := l) (i := i) g2 (fun j j1 j2 hg => by
        obtain ⟨s', hs', hp, f1, f2⟩ := h.all j j2 i hg
        have := h3 s' hs' hp
        omega)
      rw [hz i hi] at h4
      exact h4.symm

def firstE (l : List Wk) (n k : Nat) : List Nat := (List.range k).map (rl l) ++ List.replicate (n - k) 0
theorem firstE_len {l : List Wk} {n k : Nat} (hk : k ≤ n) : (firstE l n k).length = n := by simp [firstE]; omega
theorem firstE_set {l : List Wk} {n k : Nat} (hk : k < n) : (firstE l n k).set k (rl l k) = firstE l n (k + 1) := by
  unfold firstE
  have hl : ((List.range k).map (rl l)).length = k := by simp
  rw [List.set_append_right _ _ (by omega), hl, Nat.sub_self, show n - k = n - (k + 1) + 1 by omega, List.replicate_succ, List.set_cons_zero, List.range_succ, List.map_append]
  simp
theorem firstE_end {l : List Wk} {n i : Nat} (hi : i < n) : (firstE l n n)[i]? = some (rl l i) := by
  unfold firstE
  rw [List.getElem?_append_left (by simpa using hi), List.getElem?_map, List.getElem?_range hi]
  rfl
theorem info3' : (Try.prog.info? 3).map (fun i => (i.zero, i.size, i.bytes)) = some (some (.int .i64 0), 1, 8) := info3
theorem dat_zeros (n : Nat) : List.replicate n (Value.int .i64 0) = dat (List.replicate n 0) := by unfold dat; rw [List.map_replicate]; rfl

def RunEnd (w : World) (l : List Wk) (e : Ending) (w' : World) : Prop :=
  ∃ X E, e = .returned (.slice (some ⟨X, 0, none⟩) l.length l.length) ∧ w.heap.size ≤ X ∧ w'.heap[X]? = some (.cells (dat E).toArray 3 (0, 0)) ∧ E.length = l.length ∧ (∀ i, i < l.length → ∃ e, E[i]? = some e ∧ FinAt l i e) ∧ Only (fun _ => False) w w'

set_option maxRecDepth 100000 in
set_option maxHeartbeats 4000000 in
theorem run_any {N : Nat} (hS : Sorts N) {A : Option Addr} {n cap : Nat} {raws : List RW} {w : World} (hr : WRow w A raws) (hn : raws.length = n) (hnN : n ≤ N) (hn9 : n ≤ 3900) :
    Calls Try.prog 25 #[.slice A n cap] w (RunEnd w (raws.map clampW)) := by
  obtain ⟨Z, hZ⟩ : ∃ Z, Z = RunEnd w (raws.map clampW) := ⟨_, rfl⟩
  rw [← hZ]
  have hZ' := Lib.hid hZ
  have hmk := Lib.hid (fun W => run_make_list (P := Try.prog) W 44 3 (.int .i64 0) 8 Try.underlying44 info3 rfl n (by omega) (by omega))
  obtain ⟨l, hl⟩ : ∃ l, l = raws.map clampW := ⟨_, rfl⟩
  have hll : l.length = n := by rw [hl, List.length_map, hn]
  have hlr : ∀ k x, raws[k]? = some x → rl l k = near x.r := fun k x hx => by
    unfold rl
    rw [hl, List.getElem?_map, hx]
    rfl
  obtain ⟨W1, hW1⟩ : ∃ W1, W1 = w.alloc (.cells (Array.replicate n (Value.int .i64 0)) 3) := ⟨_, rfl⟩
  obtain ⟨X, hX⟩ : ∃ X, X = w.heap.size := ⟨_, rfl⟩
  have b0 : W1.heap[X]? = some (.cells (dat (firstE l n 0)).toArray 3 (0, 0)) := by
    rw [hW1]
    refine (heap_new_at _ _ hX.symm).trans ?_
    rw [← List.toArray_replicate, dat_zeros]
    simp [firstE]
  have hO1 : Only (fun _ => False) w W1 := by rw [hW1]; exact (Only.refl _ w).alloc _
  have qst := Lib.hid (fun W (ho : Only (fun _ => False) w W) => show Calls Try.prog 37 #[.slice A n cap] W (StEnd W l) from by rw [hl]; exact stretches_any hS (hr.new ho) hn hnN hn9)
  have hr' := Lib.hid hr
  have hn' := Lib.hid hn
  have hll' := Lib.hid hll
  have hlr' := Lib.hid hlr
  have hW1' := Lib.hid hW1
  have hX' := Lib.hid hX
  have b0' := Lib.hid b0
  have hO1' := Lib.hid hO1
  rw [← hl] at hZ'
  have qn := Lib.hid near_any
  clear hZ hr hn hl hll hlr hW1 hX b0 hO1 hS
  have hmk1 := hmk.out
  go_enter Try.func25, Try.ntmps25
  go_upto_region 2 with fail
  rw [← hX'.out]
  rw [← hW1'.out]
  clear hmk1
  go_wp2
  go_loopw [4, 5, 13] (fun _ _ i wr => ∃ k : Nat, i = .int .i64 (k : Int) ∧ k ≤ n ∧ Hid (wr.heap[X]? = some (.cells (dat (firstE l n k)).toArray 3 (0, 0))) ∧ Hid (Only (fun _ => False) w wr)) (fun _ _ i _ => (n - intOf i).toNat)
  case atStart => exact ⟨0, rfl, Nat.zero_le _, b0', hO1'⟩
  case round =>
    obtain ⟨k, rfl, hk, hB, hO⟩ := hrel
    by_cases hkn : k < n
    · have hkn' : (k : Int) < n := by omega
      obtain ⟨x, hx⟩ : ∃ y, raws[k]? = some y := ⟨_, List.getElem?_eq_getElem (by have := hn'.out; omega)⟩
      obtain ⟨b, off, rfl, hb, c0, c1, c2⟩ := (hr'.out.new hO.out) k x hx
      have hlk := Lib.hid (hlr'.out k x hx)
      have hset := Lib.hid (show ((wr.setCell ⟨X, k, none⟩ (.int .i64 (near x.r : Int))).alloc (.cells #[.int .i64 x.r, .int .i64 x.c, .int .i64 x.d] 53)).heap[X]? = some (.cells (dat (firstE l n (k + 1))).toArray 3 (0, 0)) from by
        have h1 := heap_kept_alloc (row_set hB.out k (.int .i64 (near x.r : Int))) (.cells #[.int .i64 x.r, .int .i64 x.c, .int .i64 x.d] 53)
        rw [dat_set, ← hlk.out, firstE_set hkn] at h1
        rw [← hlk.out]
        exact h1)
      have hOv := Lib.hid (show Only (fun _ => False) w ((wr.setCell ⟨X, k, none⟩ (.int .i64 (near x.r : Int))).alloc (.cells #[.int .i64 x.r, .int .i64 x.c, .int .i64 x.d] 53)) from by
        have hXX := hX'.out
        exact (hO.out.setCell (p := ⟨X, k, none⟩) (fun h => by simp at h; omega) _).alloc _)
      obtain ⟨u, hu⟩ : ∃ u, (firstE l n k)[k]? = some u := ⟨_, List.getElem?_eq_getElem (by rw [firstE_len (by omega)]; exact hkn)⟩
      have e0 := row_cell hB.out (dat_at hu)
      have e1 := row_free hB.out k
      have hXl := row_lt hB.out
      have hXn : X ≠ wr.heap.size := by omega
      clear hx hu
      go_wp2_with (go_at_call 36; refine (qn.out _ _).mono ?_; rintro e w9 ⟨rfl, hw⟩; subst hw)
      go_roundw
      case rel => exact ⟨k + 1, by go_num, by omega, hset, hOv⟩
      case measure => simp [intOf]; omega
    · obtain rfl : k = n := by omega
      have q2 := Lib.hid (qst.out wr hO.out)
      have hXl := row_lt hB.out
      have hE0 := firstE_len (l := l) (Nat.le_refl k)
      clear qst hmk qn
      go_wp2_with fail
      refine q2.out.mono ?_
      rintro e W2 ⟨v, h, S, t, rfl, hW, hh, hT, hz, hSl, hO2⟩
      obtain ⟨P, cp, hv, hcp, hcm⟩ := hW.form
      subst hv
      obtain ⟨sn, hsn⟩ : ∃ s, s = S.length := ⟨_, rfl⟩
      rw [← hsn] at hcp hW ⊢
      have hW' := Lib.hid hW
      have hh' := Lib.hid hh
      have hT' := Lib.hid hT
      have hz' := Lib.hid hz
      have hsn' := Lib.hid hsn
      have hB2 := Lib.hid (hO2.heap hB.out (fun h => h))
      have hOw := Lib.hid (hO.out.trans' hO2)
      have hne := Lib.hid (show ∀ g, h = some g → g ≠ X from fun g hg e => by have := hh g hg; omega)
      have hsn9 : sn ≤ 1048576 * 3900 := by have := hll'.out; omega
      have hE0' := Lib.hid hE0
      clear hW hh hT hz hsn hO2 hSl hB hO hXl hE0 q2
      go_wp2
      go_loopw [7, 28] (fun _ i wq => ∃ k2 : Nat, i = .int .i64 (k2 : Int) ∧ k2 ≤ sn ∧ Hid (wq.heap[X]? = some (.cells (dat (endsOf l (firstE l k k) (S.take k2))).toArray 3 (0, 0))) ∧ Hid (Only (fun k => k = X) W2 wq)) (fun _ i _ => (sn - intOf i).toNat)
      case atStart => exact ⟨0, rfl, Nat.zero_le _, hB2, Only.refl _ _⟩
      case round =>
        obtain ⟨k2, rfl, hk2, hB, hO⟩ := hrel
        by_cases hks : k2 < sn
        · have hks' : (k2 : Int) < sn := by omega
          obtain ⟨s, hs⟩ : ∃ y, S[k2]? = some y := ⟨_, List.getElem?_eq_getElem (by have := hsn'.out; omega)⟩
          have hWr := hW'.out.kept hO.out (fun g hg e => hne.out g hg e)
          rw [hsn'.out] at hWr
          obtain ⟨g, off, cap2, hg, hPv, -, -, hi, hgl, hcell, -⟩ := Krn.win_row (f := Str.cells) str_len hWr hs
          rw [← hsn'.out] at hPv
          cases hPv
          have c0 := hcell 0 _ rfl
          have c1 := hcell 1 _ rfl
          have c2 := hcell 2 _ rfl
          rw [Nat.add_zero] at c0
          obtain ⟨s1, s2, s3, -⟩ := hT'.out.ok s (List.mem_of_getElem? hs)
          have hlen : (endsOf l (firstE l k k) (S.take k2)).length = k := by rw [endsOf_len]; exact hE0'.out
          have hsk : s.p < k := by have := hll'.out; omega
          have hsk' : (s.p : Int) < k := by omega
          obtain ⟨u, hu⟩ : ∃ u, (endsOf l (firstE l k k) (S.take k2))[s.p]? = some u := ⟨_, List.getElem?_eq_getElem (by omega)⟩
          have e0 := row_cell hB.out (dat_at hu)
          have e1 := row_free hB.out s.p
          have hXl := row_lt hB.out
          have hXn : X ≠ wr.heap.size := by omega
          have hset := Lib.hid (show ((wr.setCell ⟨X, s.p, none⟩ (.int .i64 (s.e : Int))).alloc (.cells #[.int .i64 (s.p : Int), .int .i64 (s.f : Int), .int .i64 (s.e : Int)] 71)).heap[X]? = some (.cells (dat (endsOf l (firstE l k k) (S.take (k2 + 1)))).toArray 3 (0, 0)) from by
            have h1 := heap_kept_alloc (row_set hB.out s.p (.int .i64 (s.e : Int))) (.cells #[.int .i64 (s.p : Int), .int .i64 (s.f : Int), .int .i64 (s.e : Int)] 71)
            rw [dat_set, ← endsOf_take hs] at h1
            exact h1)
          have hOv := Lib.hid (show Only (fun k => k = X) W2 ((wr.setCell ⟨X, s.p, none⟩ (.int .i64 (s.e : Int))).alloc (.cells #[.int .i64 (s.p : Int), .int .i64 (s.f : Int), .int .i64 (s.e : Int)] 71)) from
            (hO.out.setCell (p := ⟨X, s.p, none⟩) (fun _ => rfl) _).alloc _)
          clear hs hu hWr hcell s1 s2 s3 hlen
          go_wp2
          go_roundw
          case rel => exact ⟨k2 + 1, by go_num, by omega, hset, hOv⟩
          case measure => simp [intOf]; omega
        · obtain rfl : k2 = sn := by omega
          have hfin := Lib.hid (show Z (.returned (.slice (some ⟨X, 0, none⟩) k k)) wr from by
            rw [hZ'.out]
            have h1 := hB.out
            rw [hsn'.out, List.take_length] at h1
            refine ⟨X, endsOf l (firstE l k k) S, by rw [hll'.out], by rw [hX'.out]; exact Nat.le_refl _, h1, by rw [endsOf_len, hE0'.out, hll'.out], ?_, ?_⟩
            · exact ends_fin (by rw [hE0'.out, hll'.out]) (fun i hi => firstE_end (by rw [← hll'.out]; exact hi)) hT'.out hz'.out
            · exact hOw.out.trans hO.out (fun x hx e => by have := hX'.out; omega))
          go_wp2
          exact hfin.out
end Edf
end Go.Proofs.Ytkolbaadakhciaa
