/- edf: the places that take a tick, by their releases. -/
import Derived.Test.YtkolbaadakhciaaEStb
namespace Go.Proofs.Ytkolbaadakhciaa
namespace Edf
open Go Go.RowKit

set_option maxRecDepth 100000 in
theorem isort_none (P : Option Addr) (cap q : Nat) (w : World) :
    Calls Try.prog 58 #[.slice P 0 cap, .int .i64 0, .int .i64 0, .func (.func 50) #[] #[.pointer (some ⟨q, 0, none⟩)]] w fun e w' => e = .returned (.tuple #[]) ∧ w' = w := by
  go_enter Try.func58, Try.ntmps58
  go_wp2
  go_loopw [8] (fun i wr => i = .int .i64 1 ∧ wr = w) (fun _ _ => 0)
  case atStart => exact ⟨rfl, rfl⟩
  case round =>
    obtain ⟨rfl, rfl⟩ := hrel
    go_wp2
    go_end0
    exact ⟨rfl, rfl⟩
set_option maxRecDepth 100000 in
theorem sort_none (P : Option Addr) (cap q : Nat) (w : World) :
    Calls Try.prog 49 #[.slice P 0 cap, .func (.func 50) #[] #[.pointer (some ⟨q, 0, none⟩)]] w fun e w' => e = .returned (.tuple #[]) ∧ w' = w := by
  have h1 : Calls Try.prog 55 #[.slice P 0 cap, .int .i64 0, .func (.func 50) #[] #[.pointer (some ⟨q, 0, none⟩)]] w fun e w' => e = .returned (.tuple #[]) ∧ w' = w := by
    have h2 := Lib.hid (isort_none P cap q w)
    go_enter Try.func55, Try.ntmps55
    go_wp2
    go_loopw [7, 8] (fun a b wr => a = .int .i64 0 ∧ b = .int .i64 20 ∧ wr = w) (fun _ _ _ => 0)
    case atStart => exact ⟨rfl, rfl, rfl⟩
    case round =>
      obtain ⟨rfl, rfl, rfl⟩ := hrel
      go_wp2_with fail
      refine h2.out.mono ?_
      rintro e w9 ⟨rfl, rfl⟩
      go_wp2
      go_loopw [6] (fun a wr => a = .int .i64 20 ∧ wr = w9) (fun _ _ => 0)
      case atStart => exact ⟨rfl, rfl⟩
      case round =>
        obtain ⟨rfl, rfl⟩ := hrel
        go_wp2
        go_end0
        exact ⟨rfl, rfl⟩
  have h1' := Lib.hid h1
  clear h1
  go_enter Try.func49, Try.ntmps49
  go_wp2_with fail
  refine h1'.out.mono ?_
  rintro e w9 ⟨rfl, rfl⟩
  go_wp2
  go_end0
  exact ⟨rfl, rfl⟩

theorem win_rowW {w : World} {g off n cap : Nat} {h : Option Nat} {L : List Nat} (hW : Win w 3 1 (.slice (some ⟨g, off, none⟩) n cap) h n (dat L)) (h0 : 0 < n) :
    h = some g ∧ ∃ pre post, pre.length = off ∧ RowW w g pre post L ∧ ∀ w' L', L'.length = n → RowW w' g pre post L' → Win w' 3 1 (.slice (some ⟨g, off, none⟩) n cap) h n (dat L') := by
  obtain ⟨hl, p, cap', hv, h1, h2, h3⟩ := hW
  cases hv
  rcases h3 with h3 | ⟨g', off', R, hg, hp, hh, h4, h5⟩
  · omega
  · cases hp
    have hlen : off + n * 1 ≤ R.length := by omega
    have e1 : R = R.take off ++ (dat L ++ R.drop (off + n)) := by
      rw [← h5, Nat.mul_one, ← List.drop_drop, List.take_append_drop, List.take_append_drop]
    have hpl : (R.take off).length = off := by simp; omega
    refine ⟨hg, R.take off, R.drop (off + n), hpl, ?_, fun w' L' hL' hR' => ?_⟩
    · unfold RowW
      rw [← e1]
      exact hh
    · refine ⟨by rw [dat_length, hL', Nat.mul_one], _, _, rfl, h1, h2, .inr ⟨g, off, _, hg, rfl, hR', ?_, ?_⟩⟩
      · rw [List.length_append, List.length_append, dat_length, hL', hpl, List.length_drop]
        omega
      · rw [List.drop_append_of_le_length (by omega), List.drop_eq_nil_of_le (by omega), List.nil_append, Nat.mul_one, ← hL', ← dat_length L', List.take_left]

def ByrEnd (w : World) (l : List Wk) (e : Ending) (w' : World) : Prop :=
  ∃ v h L, e = .returned v ∧ Win w' 3 1 v h L.length (dat L) ∧ (∀ g, h = some g → w.heap.size ≤ g) ∧ List.Perm L (busy l) ∧ Sorted (fun k => (rl l k : Int)) L ∧ Only (fun _ => False) w w'

/-- What the sort of n places may be asked. -/
def Sorts (N : Nat) : Prop := ∀ {w : World} {g q n off cap : Nat} {pre post : List Value} {L : List Nat} {p : Nat → Int} {M : Nat → Prop}, CmpOk w g q p M → (∀ x ∈ L, M x) → pre.length = off → L.length = n → n ≤ N → RowW w g pre post L →
    Calls Try.prog 49 #[.slice (some ⟨g, off, none⟩) n cap, .func (.func 50) #[] #[.pointer (some ⟨q, 0, none⟩)]] w (SortEnd w g pre post L p)
theorem sorts_19 : Sorts 19 := fun hc hM hp hL hn hg => sort_small hc hM hp hL (by omega) hg

set_option maxRecDepth 100000 in
set_option maxHeartbeats 4000000 in
theorem byr_any {N : Nat} (hS : Sorts N) {w : World} {b n : Nat} {l : List Wk} (hb : w.heap[b]? = some (.cells (wkCells l).toArray 53 (0, 0))) (hn : l.length = n) (hnN : n ≤ N) (hn9 : n ≤ 4000) :
    Calls Try.prog 42 #[.slice (some ⟨b, 0, none⟩) n n] w (ByrEnd w l) := by
  obtain ⟨Z, hZ⟩ : ∃ Z, Z = ByrEnd w l := ⟨_, rfl⟩
  rw [← hZ]
  have hZ' := Lib.hid hZ
  obtain ⟨W1, hW1⟩ : ∃ W1, W1 = w.alloc (.cells #[.slice (some ⟨b, 0, none⟩) n n] 40) := ⟨_, rfl⟩
  obtain ⟨q, hq⟩ : ∃ q, q = w.heap.size := ⟨_, rfl⟩
  have q0 : W1.heap[q]? = some (.cells [Value.slice (some ⟨b, 0, none⟩) n n].toArray 40 (0, 0)) := by rw [hW1]; exact heap_new_at _ _ hq.symm
  have hO1 : Only (fun _ => False) w W1 := by rw [hW1]; exact (Only.refl _ w).alloc _
  have b1 := hO1.heap hb (fun h => h)
  have q0' := Lib.hid q0
  have b1' := Lib.hid b1
  have hO1' := Lib.hid hO1
  have hn' := Lib.hid hn
  have hW1' := Lib.hid hW1
  have hq' := Lib.hid hq
  have c0 := row_cell q0 (i := 0) rfl
  clear hZ hb hO1 q0 b1 hW1 hq hn
  go_enter Try.func42, Try.ntmps42
  go_upto_region 2 with fail
  rw [← hq'.out]
  rw [← hW1'.out]
  go_wp2
  go_loopw [3, 4, 5, 8] (fun v _ _ i wr => ∃ (k : Nat) (h : Option Nat), i = .int .i64 k ∧ k ≤ n ∧ Hid (Win wr 3 1 v h (busyTo l k).length (dat (busyTo l k))) ∧ Hid (∀ g, h = some g → W1.heap.size ≤ g) ∧ Hid (Only (fun _ => False) W1 wr)) (fun _ _ _ i _ => (n - intOf i).toNat)
  case atStart => exact ⟨0, none, rfl, Nat.zero_le _, Win.nil _ _ _, Lib.hid (fun g h => by cases h), Only.refl _ _⟩
  case round =>
    obtain ⟨k, h, rfl, hk, hW, hf, hO⟩ := hrel
    obtain ⟨P, cap, hv, hcap, hcm⟩ := hW.out.form
    subst hv
    by_cases hkn : k < n
    · have hkn' : (k : Int) < n := by omega
      obtain ⟨x, hx⟩ : ∃ y, l[k]? = some y := ⟨_, List.getElem?_eq_getElem (by have := hn'.out; omega)⟩
      obtain ⟨x0, x1, x2⟩ := wk_row (hO.out.heap b1'.out (fun h => h)) hx
      have hbt := busyTo_succ l k
      rw [(cs_at hx).1] at hbt
      have hbl := busyTo_len l k
      clear hx
      by_cases hc : 0 < x.c
      · rw [if_pos hc] at hbt
        have hc' : (0 : Int) < (x.c : Int) := by omega
        have hbt' := Lib.hid hbt
        obtain ⟨m, hm⟩ : ∃ m, m = (busyTo l k).length := ⟨_, rfl⟩
        obtain ⟨B, hB⟩ : ∃ B, B = busyTo l k := ⟨_, rfl⟩
        rw [← hm, ← hB] at hW
        rw [← hm] at hbl hcap ⊢
        rw [← hB] at hbt' hm
        have hm' := Lib.hid hm
        clear hbt hB hm
        go_wp2_with (at_builtin; (refine wpList_append_win rfl _ _ 44 rfl 3 (Value.int .i64 0) 1 8 Try.underlying44 info3 rfl (by decide) rfl (hW.out.kept (((Only.refl (fun _ => False) _).alloc _).alloc _) (fun _ _ h => h)) _ 1 1 rfl [.int .i64 (k : Int)] rfl (fun _ => ⟨_, rfl, row_one (heap_new_at _ _ (by simp))⟩) (by simp [Value.oneCell']) (by unfold maxLen; omega) (by omega) ?_; intro v4 w6 h4 hW4 hO4 hh4; have hst := Lib.hid (step_fresh ((hO.out.alloc (.cells #[.int .i64 (x.r : Int), .int .i64 (x.c : Int), .int .i64 (x.d : Int)] 53)).alloc (.cells #[.int .i64 (k : Int)] 3)) hO4.out hf.out hh4.out)))
        go_roundw
        case rel =>
          refine ⟨k + 1, h4, by go_num, by omega, ?_, Lib.hid hst.out.2, Lib.hid hst.out.1⟩
          rw [hbt'.out, List.length_append, dat_append, ← hm'.out]
          exact hW4
        case measure => simp [intOf]; omega
      · rw [if_neg hc] at hbt
        have hc' : ¬ (0 : Int) < (x.c : Int) := by omega
        have hbt' := Lib.hid hbt
        obtain ⟨m, hm⟩ : ∃ m, m = (busyTo l k).length := ⟨_, rfl⟩
        rw [← hm] at hW hcap hbl ⊢
        have hm' := Lib.hid hm
        clear hbt hm
        go_wp2
        go_roundw
        case rel =>
          refine ⟨k + 1, h, by go_num, by omega, ?_, hf, hO.out.alloc _⟩
          rw [hbt'.out, ← hm'.out]
          exact hW.out.kept ((Only.refl (fun _ => False) _).alloc _) (fun _ _ h => h)
        case measure => simp [intOf]; omega
    · obtain rfl : k = n := by omega
      have hbz : busyTo l k = busy l := by unfold busyTo busy; rw [hn'.out]
      rw [hbz] at hW hcap ⊢
      have hlen : (busy l).length ≤ k := by rw [← hbz]; exact busyTo_len l k
      clear hbz
      have hmf : ∀ (fn : Fn) (first cap : Array Value) (w : World), (Instr.makeFunc fn first cap).run Try.prog w = .ok (.func fn first cap) w := fun _ _ _ _ => rfl
      obtain ⟨m, hm⟩ : ∃ m, m = (busy l).length := ⟨_, rfl⟩
      rw [← hm] at hW hcap hlen ⊢
      have hm' := Lib.hid hm
      clear hm
      by_cases h0 : m = 0
      · subst h0
        have hs := Lib.hid (sort_none P cap q wr)
        have hb0 : busy l = [] := List.eq_nil_of_length_eq_zero hm'.out.symm
        have hfin := Lib.hid (show Z (.returned (.slice P 0 cap)) wr from by
          rw [hZ'.out]
          refine ⟨_, h, busy l, rfl, by rw [← hm'.out]; exact hW.out, fun g hg => Nat.le_trans hO1'.out.size (hf.out g hg), List.Perm.refl _, by rw [hb0]; exact List.Pairwise.nil, hO1'.out.trans' hO.out⟩)
        go_wp2_with (go_at_call 49; with_reducible refine hs.out.mono ?_; rintro e w9 ⟨rfl, hw⟩; subst hw)
        exact hfin.out
      · obtain ⟨g, off, cap2, hg, hPv, -⟩ := hW.out.at_ (by omega)
        cases hPv
        obtain ⟨hgg, pre, post, hpre, hR, hback⟩ := win_rowW hW.out (by omega)
        have hgl := hf.out g hgg
        have hgne : ∀ k, k < W1.heap.size → k ≠ g := fun k hk e => by omega
        have hcmp : CmpOk wr g q (fun k => (rl l k : Int)) (fun y => y < k) := fun W hW x y hx hy => by
          have h1 := hW.heap (hO.out.heap q0'.out (fun h => h)) (hgne _ (row_lt q0'.out))
          have h2 := hW.heap (hO.out.heap b1'.out (fun h => h)) (hgne _ (row_lt b1'.out))
          exact cmp_rel h1 h2 hn'.out hx hy
        have hs := Lib.hid (hS (cap := cap) hcmp (fun x hx => by have := (busy_mem.1 hx).1; have := hn'.out; omega) hpre hm'.out.symm (by omega) hR)
        have hfin := Lib.hid (fun w9 (h9 : SortEnd wr g pre post (busy l) (fun k => (rl l k : Int)) (.returned (.tuple #[])) w9) => show Z (.returned (.slice (some ⟨g, off, none⟩) m cap)) w9 from by
          obtain ⟨-, L', h1, h2, h3, h4⟩ := h9
          have hl' : L'.length = m := by rw [h1.length_eq]; exact hm'.out.symm
          rw [hZ'.out]
          refine ⟨_, h, L', rfl, by rw [hl']; exact hback w9 L' hl' h3, fun g hg => Nat.le_trans hO1'.out.size (hf.out g hg), h1, h2, ?_⟩
          exact (hO1'.out.trans' hO.out).trans h4 (fun x hx e => by
            have := hO1'.out.size
            omega))
        clear hback hR hcmp hS
        go_wp2_with (go_at_call 49; refine hs.out.mono ?_; intro e w9 h9; have he := h9.1; subst he; have hz := Lib.hid (hfin.out w9 h9); clear h9)
        exact hz.out
end Edf
end Go.Proofs.Ytkolbaadakhciaa
