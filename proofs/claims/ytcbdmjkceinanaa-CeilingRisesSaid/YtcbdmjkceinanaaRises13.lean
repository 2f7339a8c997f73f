/- CeilingRises' walk. -/
import Derived.Test.YtcbdmjkceinanaaFixed13
namespace Go.Proofs.Ytcbdmjkceinanaa
open Go Go.RowKit

set_option maxRecDepth 100000 in
theorem rises_long (A : Option Addr) (n cap : Nat) (who base : Int) (w : World) (hl : 30 < n) :
    Calls Try.prog 4 #[.slice A n cap, .int .i64 who, .int .i64 base] w fun e w' => e = .returned (.bool true) ∧ Below w.heap.size w w' := by
  go_enter Try.func4, Try.ntmps4
  go_wp2_with (go_at_call 7; refine (fixed13_any _).mono ?_; rintro e w1 ⟨rfl, hb1⟩; have hb1' := Lib.hid hb1; clear hb1)
  go_ret
  exact ⟨rfl, hb1'.out⟩

/-- The first k are who's, the others free. -/
def Up (w : World) (B b g n : Nat) (z : Nat → Int) (who : Int) (k : Nat) (ws : World) : Prop :=
  ∃ h d, LkAt ws b g n z h d ∧ (∀ i, i < n → d i = decide (i < k)) ∧ (∀ i, i < k → h i = who) ∧ B ≤ g ∧ Only (fun x => B ≤ x) w ws
theorem yes_all (n : Nat) : (pick (fun _ => true) n).length = n := by
  unfold pick
  have : (List.range n).filter (fun _ => true) = List.range n := List.filter_eq_self.2 (fun _ _ => rfl)
  rw [this, List.length_range]

section
variable {w ws : World} {B b g n k : Nat} {z : Nat → Int} {who : Int}
theorem mine_up {h : Nat → Int} {d : Nat → Bool} (h1 : ∀ i, i < n → d i = decide (i < k)) (h2 : ∀ i, i < k → h i = who) : ∀ i, i < n → mine h d who i = decide (i < k) := fun i hi => by
  unfold mine
  rw [h1 i hi]
  by_cases hk : i < k
  · rw [h2 i hk]; simp [hk]
  · simp [hk]
theorem Up.only (H : Up w B b g n z who k ws) : Only (fun x => B ≤ x) w ws := by
  obtain ⟨_, _, _, _, _, _, h⟩ := H
  exact h
theorem Up.lock (H : Up w B b g n z who k ws) (hk : k < n) : Calls Try.prog 9 #[.pointer (some ⟨b, 0, none⟩), .int .i64 k, .int .i64 who] ws fun e w' => e = .returned (.int .i64 0) ∧ Up w B b g n z who (k + 1) w' := by
  obtain ⟨h, d, h1, h2, h3, h4, h5⟩ := H
  refine (lock_free h1 hk (by rw [h2 k hk]; simp) who).mono fun e w' ⟨e1, e2, e3⟩ => ⟨e1, _, _, e2, fun i hi => ?_, fun i hi => ?_, h4, h5.trans e3 (fun x _ e => by subst e; exact h4)⟩
  · by_cases hik : i = k
    · subst hik
      rw [upd_self]
      simp
    · rw [upd_ne _ _ hik, h2 i hi]
      congr 1
      simp only [eq_iff_iff]
      omega
  · by_cases hik : i = k
    · subst hik
      rw [upd_self]
    · rw [upd_ne _ _ hik, h3 i (by omega)]
theorem Up.level (H : Up w B b g n z who k ws) (hn : n ≤ 30) (hk : k ≤ n) (base : Int) : Calls Try.prog 14 #[.pointer (some ⟨b, 0, none⟩), .int .i64 who, .int .i64 base] ws fun e w' => e = .returned (.int .i64 (lev base z (fun _ => true) k)) ∧ ws = w' := by
  obtain ⟨h, d, h1, h2, h3, h4, h5⟩ := H
  refine (level_any h1 (by omega) who base).mono fun e w' ⟨e1, e2⟩ => ⟨?_, e2⟩
  have hm := mine_up h2 h3
  rw [lev_cut hk (fun i a c => by rw [hm i c]; simp; omega), lev_congr (z' := z) (q := fun _ => true) (fun _ _ => rfl) (fun i hi => by rw [hm i (by omega)]; simp [hi])] at e1
  exact e1
theorem Up.free (H : Up w B b g n z who n ws) (hn : n ≤ 30) (base : Int) : Calls Try.prog 11 #[.pointer (some ⟨b, 0, none⟩), .int .i64 who] ws fun e w' => e = .returned (.int .i64 (n : Int)) ∧ Calls Try.prog 14 #[.pointer (some ⟨b, 0, none⟩), .int .i64 who, .int .i64 base] w' (fun e w'' => e = .returned (.int .i64 base) ∧ w' = w'') ∧ Only (fun x => B ≤ x) w w' := by
  obtain ⟨h, d, h1, h2, h3, h4, h5⟩ := H
  have hm := mine_up h2 h3
  refine (free_any h1 (by omega) who).mono fun e w' ⟨e1, e2, e3⟩ => ⟨?_, ?_, h5.trans e3 (fun x _ e => by subst e; exact h4)⟩
  · rw [pick_congr (q := fun _ => true) (fun i hi => by rw [hm i hi]; simp [hi]), yes_all] at e1
    exact e1
  · refine (level_any e2 (by omega) who base).mono fun e w' ⟨e1, e2⟩ => ⟨?_, e2⟩
    rw [lev_none (fun i hi => ?_)] at e1
    · exact e1
    · have e0 : offD d (mine h d who) i = false := if_pos (by rw [hm i hi]; simp [hi])
      show (offD d (mine h d who) i && decide (offH h (mine h d who) i = who)) = false
      rw [e0]
      rfl
end

set_option maxRecDepth 100000 in
theorem rises_any (A : Option Addr) (n cap : Nat) (z : Nat → Int) (who base : Int) (w : World) (hn : n ≤ 30) (hA : Row w A n (fun i => .int .i64 (z i))) :
    Calls Try.prog 4 #[.slice A n cap, .int .i64 who, .int .i64 base] w fun e w' => e = .returned (.bool true) ∧ Below w.heap.size w w' := by
  have hA' := Lib.hid hA
  clear hA
  go_enter Try.func4, Try.ntmps4
  go_wp2_with (go_at_call 7; refine (fixed13_any _).mono ?_; rintro e w1 ⟨rfl, hb1⟩; have hb1' := Lib.hid hb1; clear hb1)
  refine (new_any w1 A n cap z (by omega) (hA'.out.below hb1'.out (Nat.le_refl _))).mono ?_
  rintro e w2 ⟨rfl, h2, o2⟩
  obtain ⟨b, hb⟩ : ∃ b, b = w1.heap.size + 1 := ⟨_, rfl⟩
  obtain ⟨g, hg⟩ : ∃ g, g = w1.heap.size := ⟨_, rfl⟩
  obtain ⟨B, hB⟩ : ∃ B, B = w.heap.size := ⟨_, rfl⟩
  rw [← hb, ← hg] at h2
  rw [← hb]
  have hU : Up w B b g n z who 0 w2 := ⟨_, _, h2, fun _ _ => rfl, fun i hi => absurd hi (by omega), by have := hb1'.out.size; omega, (Only.of_new hb1'.out _).trans o2 (fun _ _ h => h.elim)⟩
  have hU' := Lib.hid hU
  have hB' := Lib.hid hB
  clear h2 o2 hb hg hB hb1' hU
  go_wp2
  go_loopw [8, 22] (fun v i wr => ∃ k : Nat, k ≤ n ∧ i = .int .i64 k ∧ v = .int .i64 (lev base z (fun _ => true) k) ∧ Up w B b g n z who k wr) (fun _ i _ => n - (intOf i).toNat)
  case atStart => exact ⟨0, Nat.zero_le _, rfl, rfl, hU'.out⟩
  case round =>
    clear hU'
    obtain ⟨k, hk, rfl, rfl, hU⟩ := hrel
    obtain ⟨ws, hws⟩ : ∃ ws : World, ws = wr := ⟨_, rfl⟩
    subst hws
    by_cases hkn : k < n
    · have hkn' : (k : Int) < (n : Int) := by omega
      obtain ⟨ba, off, rfl, hc, _⟩ := (hA'.out.only hU.only (fun _ h => by have := hB'.out; omega)) k hkn
      replace hc : ws.cell? ⟨ba, off + k, none⟩ = some (.int .i64 (z k)) := hc
      have hlk := Lib.hid (hU.lock hkn)
      have hlev := Lib.hid (fun u (hu : Up w B b g n z who (k + 1) u) => hu.level hn (by omega) base)
      have hs := lev_yes (base := base) (z := z) (p := fun _ => true) (k := k) rfl
      obtain ⟨v, hv⟩ : ∃ v, v = lev base z (fun _ => true) k := ⟨_, rfl⟩
      obtain ⟨v', hv'⟩ : ∃ v', v' = lev base z (fun _ => true) (k + 1) := ⟨_, rfl⟩
      obtain ⟨x, hx⟩ : ∃ x, x = z k := ⟨_, rfl⟩
      rw [← hv, ← hv', ← hx] at hs
      rw [← hx] at hc
      rw [← hv]
      rw [← hv'] at hlev
      have hv1 := Lib.hid hv'
      clear hU hv hv' hx
      by_cases hvx : x ≤ v
      · obtain rfl : v' = v := by omega
        have n1 : ¬ v' < x := by omega
        clear hs
        go_wp2_with (first | (go_at_call 9; refine hlk.out.mono ?_; rintro e w3 ⟨rfl, hU3⟩; have hU3' := Lib.hid hU3; have hl3 := Lib.hid (hlev.out _ hU3); clear hU3) | (go_at_call 14; refine hl3.out.mono ?_; rintro e w' ⟨rfl, hw⟩; subst hw))
        all_goals
          go_roundw
          case rel => exact ⟨k + 1, by omega, by go_num, by rw [← hv1.out], hU3'.out⟩
          case measure => simp [intOf]; omega
      · obtain rfl : v' = x := by omega
        have n1 : ¬ v' < v := by omega
        have n2 : (v' == v) = false := by simp; omega
        clear hs
        go_wp2_with (first | (go_at_call 9; refine hlk.out.mono ?_; rintro e w3 ⟨rfl, hU3⟩; have hU3' := Lib.hid hU3; have hl3 := Lib.hid (hlev.out _ hU3); clear hU3) | (go_at_call 14; refine hl3.out.mono ?_; rintro e w' ⟨rfl, hw⟩; subst hw))
        all_goals
          go_roundw
          case rel => exact ⟨k + 1, by omega, by go_num, by rw [← hv1.out], hU3'.out⟩
          case measure => simp [intOf]; omega
    · obtain rfl : k = n := by omega
      have hf := Lib.hid (hU.free hn base)
      clear hU hA'
      go_wp2_with fail
      refine hf.out.mono ?_
      rintro e w3 ⟨rfl, hl3, o3⟩
      have hl3' := Lib.hid hl3
      have o3' := Lib.hid o3
      clear hl3 o3
      go_wp2_with fail
      refine hl3'.out.mono ?_
      rintro e w' ⟨rfl, hw⟩
      subst hw
      go_wp2
      go_ret
      exact ⟨rfl, o3'.out.below (Nat.le_refl _) (fun k h => by have := hB'.out; omega)⟩

theorem rises (A : Option Addr) (n cap : Nat) (z : Nat → Int) (who base : Int) (w : World) (hA : IntRow .i64 w A n z) (_ : (Lit.int .i64 who).wf = true) (_ : (Lit.int .i64 base).wf = true) :
    Calls Try.prog 4 #[.slice A n cap, .int .i64 who, .int .i64 base] w fun e w' => e = .returned (.bool true) ∧ Below w.heap.size w w' := by
  by_cases hl : 30 < n
  · exact rises_long A n cap who base w hl
  · exact rises_any A n cap z who base w (by omega) hA.row
end Go.Proofs.Ytcbdmjkceinanaa
