/- Levels; freeing all. -/
import Derived.Test.YtdoimkmhincmmaaLkLockRows
namespace Go.Proofs.Ytdoimkmhincmmaa
namespace Lck
open Lin Go Go.RowKit

/-! ### Level -/
/-- The greatest of base and the ceilings of those of the first k that p holds of. -/
def lev (base : Int) (z : Nat → Int) (p : Nat → Bool) : Nat → Int
  | 0 => base
  | k + 1 => if p k = true then max (lev base z p k) (z k) else lev base z p k
theorem lev_zero (base : Int) (z : Nat → Int) (p : Nat → Bool) : lev base z p 0 = base := rfl
theorem lev_yes {base : Int} {z : Nat → Int} {p : Nat → Bool} {k : Nat} (h : p k = true) : lev base z p (k + 1) = max (lev base z p k) (z k) := if_pos h
theorem lev_no {base : Int} {z : Nat → Int} {p : Nat → Bool} {k : Nat} (h : p k = false) : lev base z p (k + 1) = lev base z p k := if_neg (by rw [h]; decide)
theorem lev_congr {base : Int} {z z' : Nat → Int} {p q : Nat → Bool} {n : Nat} (hz : ∀ i, i < n → z i = z' i) (h : ∀ i, i < n → p i = q i) : lev base z p n = lev base z' q n := by
  induction n with
  | zero => rfl
  | succ n ih =>
    have e := ih (fun i hi => hz i (by omega)) (fun i hi => h i (by omega))
    cases hp : q n with
    | true => rw [lev_yes hp, lev_yes ((h n (by omega)).trans hp), e, hz n (by omega)]
    | false => rw [lev_no hp, lev_no ((h n (by omega)).trans hp), e]
theorem lev_none {base : Int} {z : Nat → Int} {p : Nat → Bool} {n : Nat} (h : ∀ i, i < n → p i = false) : lev base z p n = base := by
  induction n with
  | zero => rfl
  | succ n ih => rw [lev_no (h n (by omega)), ih (fun i hi => h i (by omega))]
/-- Those behind k don't count, where p holds of none of them. -/
theorem lev_cut {base : Int} {z : Nat → Int} {p : Nat → Bool} {k n : Nat} (hk : k ≤ n) (h : ∀ i, k ≤ i → i < n → p i = false) : lev base z p n = lev base z p k := by
  induction n with
  | zero =>
    obtain rfl : k = 0 := by omega
    rfl
  | succ n ih =>
    by_cases hkn : k = n + 1
    · rw [hkn]
    · rw [lev_no (h n (by omega) (by omega)), ih (by omega) (fun i h1 h2 => h i h1 (by omega))]

theorem level_nil (who base : Int) (w : World) : Calls Try.prog 92 #[.pointer none, .int .i64 who, .int .i64 base] w fun e w' => e = .returned (.int .i64 base) ∧ w = w' := by
  go_enter Try.func92, Try.ntmps92
  go_wp2_with (go_at_call 100; refine (len_nil _).mono ?_; rintro e w' ⟨rfl, rfl⟩)
  go_loopw [12, 7] (fun i v wr => i = .int .i64 0 ∧ v = .int .i64 base ∧ w = wr) (fun _ _ _ => 0)
  case atStart => exact ⟨rfl, rfl, rfl⟩
  case round =>
    obtain ⟨rfl, rfl, rfl⟩ := hrel
    go_wp2
    go_ret
    exact ⟨rfl, rfl⟩
theorem level_any {w : World} {b g n : Nat} {z h : Nat → Int} {d : Nat → Bool} (H : LkAt w b g n z h d) (hn : n ≤ 4096) (who base : Int) : Calls Try.prog 92 #[.pointer (some ⟨b, 0, none⟩), .int .i64 who, .int .i64 base] w fun e w' => e = .returned (.int .i64 (lev base z (mine h d who) n)) ∧ w = w' := by
  have hl := Lib.hid (len_any H.cell)
  have H' := Lib.hid H
  have c0 := H.cell
  obtain ⟨p, hp⟩ : ∃ p, p = mine h d who := ⟨_, rfl⟩
  rw [← hp]
  have hp' := Lib.hid hp
  clear H hp
  obtain ⟨R, hR⟩ : ∃ R, R = lev base z p n := ⟨_, rfl⟩
  rw [← hR]
  have hR' := Lib.hid hR
  clear hR
  go_enter Try.func92, Try.ntmps92
  go_wp2_with (go_at_call 100; refine hl.out.mono ?_; rintro e w' ⟨rfl, rfl⟩)
  go_loopw [12, 7] (fun i v wr => ∃ k : Nat, k ≤ n ∧ i = .int .i64 k ∧ v = .int .i64 (lev base z p k) ∧ w = wr) (fun i _ _ => n - (intOf i).toNat)
  case atStart => exact ⟨0, Nat.zero_le _, rfl, rfl, rfl⟩
  case round =>
    obtain ⟨k, hk, rfl, rfl, rfl⟩ := hrel
    by_cases hkn : k < n
    · have hkn' : (k : Int) < (n : Int) := by omega
      have hb := Lib.hid (heldby_any H'.out hkn who)
      rw [← hp'.out] at hb
      obtain ⟨c1, _, _, _, _⟩ := H'.out.cells hkn
      obtain ⟨t, ht⟩ : ∃ t, t = p k := ⟨_, rfl⟩
      rw [← ht] at hb
      obtain ⟨v, hv⟩ : ∃ v, v = lev base z p k := ⟨_, rfl⟩
      rw [← hv]
      have ht' := Lib.hid ht
      have hv' := Lib.hid hv
      obtain ⟨x, hx⟩ : ∃ x, x = z k := ⟨_, rfl⟩
      rw [← hx] at c1
      have hx' := Lib.hid hx
      clear ht hv hx
      cases t with
      | true =>
        have hs := lev_yes (base := base) (z := z) ht'.out.symm
        rw [← hv'.out, ← hx'.out] at hs
        by_cases hvx : x ≤ v
        · have hs' := Lib.hid (show lev base z p (k + 1) = v by omega)
          clear hs
          go_wp2_with (go_at_call 101; refine hb.out.mono ?_; rintro e w' ⟨rfl, hw⟩; subst hw)
          all_goals
            go_roundw
            case rel => exact ⟨k + 1, by omega, by go_num, by rw [hs'.out], trivial⟩
            case measure => simp [intOf]; omega
        · have hs' := Lib.hid (show lev base z p (k + 1) = x by omega)
          clear hs
          go_wp2_with (go_at_call 101; refine hb.out.mono ?_; rintro e w' ⟨rfl, hw⟩; subst hw)
          all_goals
            go_roundw
            case rel => exact ⟨k + 1, by omega, by go_num, by rw [hs'.out], trivial⟩
            case measure => simp [intOf]; omega
      | false =>
        have hs' := Lib.hid (show lev base z p (k + 1) = v by rw [hv'.out]; exact lev_no ht'.out.symm)
        go_wp2_with (go_at_call 101; refine hb.out.mono ?_; rintro e w' ⟨rfl, hw⟩; subst hw)
        go_roundw
        case rel => exact ⟨k + 1, by omega, by go_num, by rw [hs'.out], trivial⟩
        case measure => simp [intOf]; omega
    · obtain rfl : k = n := by omega
      go_wp2
      go_ret
      exact ⟨by rw [hR'.out]; rfl, rfl⟩

/-! ### Free -/
def frH (h : Nat → Int) (l : List Nat) : Nat → Int := fun j => if j ∈ l then 0 else h j
def frD (d : Nat → Bool) (l : List Nat) : Nat → Bool := fun j => if j ∈ l then false else d j
theorem frH_step (h : Nat → Int) (l : List Nat) (i : Nat) : upd (frH h l) i 0 = frH h (l ++ [i]) := by
  funext j
  unfold frH
  by_cases hj : j = i
  · subst hj
    rw [upd_self, if_pos (by simp)]
  · rw [upd_ne _ _ hj]
    by_cases hl : j ∈ l
    · rw [if_pos hl, if_pos (by simp [hl])]
    · rw [if_neg hl, if_neg (by simp [hl, hj])]
theorem frD_step (d : Nat → Bool) (l : List Nat) (i : Nat) : upd (frD d l) i false = frD d (l ++ [i]) := by
  funext j
  unfold frD
  by_cases hj : j = i
  · subst hj
    rw [upd_self, if_pos (by simp)]
  · rw [upd_ne _ _ hj]
    by_cases hl : j ∈ l
    · rw [if_pos hl, if_pos (by simp [hl])]
    · rw [if_neg hl, if_neg (by simp [hl, hj])]
/-- What is left when those that p holds of are free. -/
def offH (h : Nat → Int) (p : Nat → Bool) : Nat → Int := fun j => if p j = true then 0 else h j
def offD (d : Nat → Bool) (p : Nat → Bool) : Nat → Bool := fun j => if p j = true then false else d j
def FreeEnd (w : World) (b g n : Nat) (z h : Nat → Int) (d : Nat → Bool) (p : Nat → Bool) (e : Ending) (w' : World) : Prop :=
  e = .returned (.int .i64 ((pick p n).length : Int)) ∧ LkAt w' b g n z (offH h p) (offD d p) ∧ Only (fun k => k = g) w w'
/-- On the way: the first k of the list are free. -/
def Fre (w : World) (b g n : Nat) (z h : Nat → Int) (d : Nat → Bool) (l : List Nat) (m : Nat) (v : Value) (h' : Option Nat) (k : Nat) (wr : World) : Prop :=
  LkAt wr b g n z (frH h (l.take k)) (frD d (l.take k)) ∧ Win wr 3 1 v h' m (intV l) ∧ (∀ q, h' = some q → q ≠ g) ∧ Only (fun k => k = g) w wr
end Lck
end Go.Proofs.Ytdoimkmhincmmaa
