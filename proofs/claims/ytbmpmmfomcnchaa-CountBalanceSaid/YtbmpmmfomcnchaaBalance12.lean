/- CountBalance's walk: a count is what was given and taken. -/
import Derived.Test.YtbmpmmfomcnchaaFixed12
namespace Go.Proofs.Ytbmpmmfomcnchaa
open Go Go.RowKit

/-- One count on the way: its value v, its most M. -/
def Way (w : World) (B0 b g M v : Nat) (wr : World) : Prop :=
  ∃ f m : Nat → Nat, CountsAt wr b g 1 f m ∧ m 0 = M ∧ f 0 = v ∧ B0 ≤ g ∧ Only (fun x => B0 ≤ x) w wr

section
variable {w ws : World} {B0 b g M v : Nat}
theorem Way.only (h : Way w B0 b g M v ws) : Only (fun x => B0 ≤ x) w ws := by
  obtain ⟨_, _, _, _, _, _, h⟩ := h
  exact h
theorem Way.bound (h : Way w B0 b g M v ws) : v ≤ M := by
  obtain ⟨f, m, h1, rfl, rfl, _⟩ := h
  exact (h1.ok 0 (by decide)).1
theorem Way.value (h : Way w B0 b g M v ws) : Calls Try.prog 18 #[.pointer (some ⟨b, 0, none⟩), .int .i64 0] ws fun e w' => e = .returned (.tuple #[.int .i64 v, .int .i64 0]) ∧ ws = w' := by
  obtain ⟨f, m, h1, rfl, rfl, _⟩ := h
  exact value_yes h1 (i := 0) (by decide)
theorem Way.take0 (h : Way w B0 b g M 0 ws) : Calls Try.prog 16 #[.pointer (some ⟨b, 0, none⟩), .int .i64 0] ws fun e w' => e = .returned (.tuple #[.int .i64 0, .int .i64 8]) ∧ ws = w' := by
  obtain ⟨f, m, h1, rfl, h2, _⟩ := h
  exact take_none h1 (i := 0) (by decide) h2
theorem Way.take (h : Way w B0 b g M (v + 1) ws) : Calls Try.prog 16 #[.pointer (some ⟨b, 0, none⟩), .int .i64 0] ws fun e w' => e = .returned (.tuple #[.int .i64 v, .int .i64 0]) ∧ Way w B0 b g M v w' := by
  obtain ⟨f, m, h1, h2, h3, h4, h5⟩ := h
  exact (take_some h1 (i := 0) (by decide) h3).mono fun e w' ⟨e1, e2, e3⟩ => ⟨e1, _, m, e2, h2, upd_self _ _ _, h4, h5.trans e3 (fun x _ hx => by subst hx; exact h4)⟩
theorem Way.full (h : Way w B0 b g M M ws) : Calls Try.prog 17 #[.pointer (some ⟨b, 0, none⟩), .int .i64 0] ws fun e w' => e = .returned (.tuple #[.int .i64 M, .int .i64 7]) ∧ Way w B0 b g M M w' := by
  obtain ⟨f, m, h1, h2, h3, h4, h5⟩ := h
  refine (give_full h1 (i := 0) (by decide) (by rw [h2, h3])).mono fun e w' ⟨e1, k, e2⟩ => ?_
  subst e2
  exact ⟨h3 ▸ e1, f, m, h1.drewN k, h2, h3, h4, h5.drewN k⟩
theorem Way.give (h : Way w B0 b g M v ws) (hv : v < M) : Calls Try.prog 17 #[.pointer (some ⟨b, 0, none⟩), .int .i64 0] ws fun e w' => e = .returned (.tuple #[.int .i64 ((v + 1 : Nat) : Int), .int .i64 0]) ∧ Way w B0 b g M (v + 1) w' := by
  obtain ⟨f, m, h1, rfl, rfl, h4, h5⟩ := h
  exact (give_some h1 (i := 0) (by decide) hv).mono fun e w' ⟨e1, e2, e3⟩ => ⟨e1, _, m, e2, rfl, upd_self _ _ _, h4, h5.trans e3 (fun x _ hx => by subst hx; exact h4)⟩
end

theorem balance_long (most : Int) (A : Option Addr) (len cap : Nat) (w : World) (hl : 200 < len) :
    Calls Try.prog 6 #[.int .u8 most, .slice A len cap] w fun e w' => e = .returned (.bool true) ∧ Below w.heap.size w w' := by
  go_enter Try.func6, Try.ntmps6
  go_wp2_with (go_at_call 14; refine (fixed12_any _).mono ?_; rintro e w1 ⟨rfl, hb1⟩; have hb1' := Lib.hid hb1; clear hb1)
  go_ret
  exact ⟨rfl, hb1'.out⟩

theorem balance_any (most : Int) (A : Option Addr) (len cap : Nat) (zs : Nat → Bool) (w : World) (hr : 0 ≤ most ∧ most ≤ 255) (hl : len ≤ 200) (hA : Row w A len (fun i => .bool (zs i))) :
    Calls Try.prog 6 #[.int .u8 most, .slice A len cap] w fun e w' => e = .returned (.bool true) ∧ Below w.heap.size w w' := by
  obtain ⟨M, hM, hM1, hM8⟩ : ∃ M : Nat, 1 + most % 8 = (M : Int) ∧ 1 ≤ M ∧ M ≤ 8 := ⟨(1 + most % 8).toNat, by omega, by omega, by omega⟩
  obtain ⟨hr0, hr1⟩ := hr
  have hA' := Lib.hid hA
  clear hA
  go_enter Try.func6, Try.ntmps6
  go_wp2_with (go_at_call 14; refine (fixed12_any _).mono ?_; rintro e w1 ⟨rfl, hb1⟩; have hb1' := Lib.hid hb1; clear hb1)
  have hnew := new_one (w1.alloc (.cells #[.int .i64 M] 3)) M 1 (g := w1.heap.size) (heap_alloc_new _ _)
  refine hnew.mono ?_
  rintro e w2 ⟨b, g, m, rfl, hC, hm, B1, B2, ho2⟩
  have hW : Way w w.heap.size b g M 0 w2 := by
    have hs := hb1'.out.size
    refine ⟨_, m, hC, ?_, rfl, ?_, (((Only.of_new hb1'.out _).alloc _).trans ho2 (fun _ _ h => h.elim))⟩
    · rw [hm 0 (by decide)]
      show mostN (M : Int) = M
      unfold mostN
      rw [if_neg (by omega)]
      omega
    · rw [alloc_size] at B2
      omega
  obtain ⟨B0, hB0⟩ : ∃ B0, B0 = w.heap.size := ⟨_, rfl⟩
  rw [← hB0] at hW
  have hW' := Lib.hid hW
  have hB0' := Lib.hid hB0
  clear hnew hC hm B1 B2 ho2 hW hb1' hB0
  go_wp2
  go_loopw [7, 9, 10, 11, 12, 13, 14, 15, 30] (fun n _ _ _ _ _ _ _ i wr => ∃ k v : Nat, k ≤ len ∧ i = .int .i64 k ∧ n = .int .i64 v ∧ Way w B0 b g M v wr) (fun _ _ _ _ _ _ _ _ i _ => len - (intOf i).toNat)
  case atStart => exact ⟨0, 0, Nat.zero_le _, rfl, rfl, hW'.out⟩
  case round =>
    clear hW'
    obtain ⟨k, v, hk, rfl, rfl, hW⟩ := hrel
    obtain ⟨ws, hws⟩ : ∃ ws : World, ws = wr := ⟨_, rfl⟩
    subst hws
    have hO := hW.only
    have hvM := hW.bound
    have hRowk := Lib.hid (hA'.out.only hO (fun _ h => by have := hB0'.out; omega))
    have hW' := Lib.hid hW
    clear hW
    by_cases hlt : k < len
    · obtain ⟨ba, off, rfl, hc, _⟩ := hRowk.out k hlt
      replace hc : ws.cell? ⟨ba, off + k, none⟩ = some (.bool (zs k)) := hc
      generalize zs k = t at hc
      clear hO hRowk
      cases t
      · -- give
        by_cases hvm : v = M
        · subst hvm
          have hg := Lib.hid hW'.out.full
          go_wp2_with (first | (go_at_call 17; refine hg.out.mono ?_; rintro e w3 ⟨rfl, hW3⟩; have hW3' := Lib.hid hW3; have hval := Lib.hid hW3.value; clear hW3) | (go_at_call 18; refine hval.out.mono ?_; rintro e w4 ⟨rfl, hw⟩; subst hw))
          go_roundw
          case rel => exact ⟨k + 1, v, by omega, by go_num, rfl, hW3'.out⟩
          case measure => simp [intOf]; omega
        · have hg := Lib.hid (hW'.out.give (by omega))
          have hv1 : v + 1 ≤ M := by omega
          go_wp2_with (first | (go_at_call 17; refine hg.out.mono ?_; rintro e w3 ⟨rfl, hW3⟩; have hW3' := Lib.hid hW3; have hval := Lib.hid hW3.value; clear hW3) | (go_at_call 18; refine hval.out.mono ?_; rintro e w4 ⟨rfl, hw⟩; subst hw))
          go_roundw
          case rel => exact ⟨k + 1, v + 1, by omega, by go_num, by go_num, hW3'.out⟩
          case measure => simp [intOf]; omega
      · cases v with
        | zero =>
          have hg := Lib.hid hW'.out.take0
          have hval := Lib.hid hW'.out.value
          go_wp2_with (first | (go_at_call 16; refine hg.out.mono ?_; rintro e w3 ⟨rfl, hw⟩; subst hw) | (go_at_call 18; refine hval.out.mono ?_; rintro e w4 ⟨rfl, hw⟩; subst hw))
          go_roundw
          case rel => exact ⟨k + 1, 0, by omega, by go_num, rfl, hW'.out⟩
          case measure => simp [intOf]; omega
        | succ v =>
          have hg := Lib.hid hW'.out.take
          go_wp2_with (first | (go_at_call 16; refine hg.out.mono ?_; rintro e w3 ⟨rfl, hW3⟩; have hW3' := Lib.hid hW3; have hval := Lib.hid hW3.value; clear hW3) | (go_at_call 18; refine hval.out.mono ?_; rintro e w4 ⟨rfl, hw⟩; subst hw))
          go_roundw
          case rel => exact ⟨k + 1, v, by omega, by go_num, by go_num, hW3'.out⟩
          case measure => simp [intOf]; omega
    · have hO' := Lib.hid hO
      clear hRowk hO hA' hW'
      go_wp2
      go_ret
      exact ⟨rfl, hO'.out.below (by have := hB0'.out; omega) (fun _ h => by have := hB0'.out; omega)⟩

theorem balance (most : Int) (A : Option Addr) (len cap : Nat) (zs : Nat → Bool) (w : World) (hr : (Lit.int .u8 most).wf = true) (hA : Row w A len (fun i => .bool (zs i))) :
    Calls Try.prog 6 #[.int .u8 most, .slice A len cap] w fun e w' => e = .returned (.bool true) ∧ Below w.heap.size w w' := by
  by_cases hl : 200 < len
  · exact balance_long most A len cap w hl
  · exact balance_any most A len cap zs w (bounds_u8 hr) (by omega) hA
end Go.Proofs.Ytbmpmmfomcnchaa
