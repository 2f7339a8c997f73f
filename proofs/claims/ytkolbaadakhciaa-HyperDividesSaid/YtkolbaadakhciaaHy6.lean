/- HyperTells, HyperDivides: the walks. -/
import Derived.Test.YtkolbaadakhciaaHy5
import Derived.Test.YtkolbaadakhciaaRowed
import Derived.Test.YtkolbaadakhciaaFlat
namespace Go.Proofs.Ytkolbaadakhciaa
namespace Hyp
open Go Go.RowKit
open Bch (U sA sM sA_le sM_le ret_u mul_any add_any mul64_any)

theorem nat_of {z : Int} (h : (Lit.int .u64 z).wf = true) : ∃ n : Nat, z = (n : Int) ∧ n ≤ 18446744073709551615 := by
  have := bounds_u64 h
  exact ⟨z.toNat, by omega, by omega⟩
theorem urow_in {w : World} {A : Option Addr} {len : Nat} {f : Nat → Int} (h : IntRow .u64 w A len f) : ∃ l : List Nat, l.length = len ∧ URow w A l ∧ ∀ x ∈ l, x ≤ 18446744073709551615 := by
  refine ⟨(List.range len).map (fun k => (f k).toNat), by simp, fun k x hx => ?_, fun x hx => ?_⟩
  · obtain ⟨hk, hx'⟩ := List.getElem?_eq_some_iff.1 hx
    have hk' : k < len := by simpa using hk
    simp at hx'
    obtain ⟨⟨b, off, rfl, hc, hl⟩, hw⟩ := h k hk'
    obtain ⟨n, hn, -⟩ := nat_of hw
    have : x = n := by omega
    rw [this]
    exact ⟨b, off, rfl, by rw [hc, hn], hl⟩
  · obtain ⟨k, hk, rfl⟩ := List.mem_map.1 hx
    have hk' : k < len := by simpa using hk
    obtain ⟨n, hn, h9⟩ := nat_of (h k hk').2
    omega

set_option maxRecDepth 100000 in
set_option maxHeartbeats 4000000 in
theorem tells (a0 a1 : Int) (A : Option Addr) (len cap : Nat) (f : Nat → Int) (w : World) (h0 : (Lit.int .u64 a0).wf = true) (h1 : (Lit.int .u64 a1).wf = true) (hr : IntRow .u64 w A len f) :
    Calls Try.prog 3 #[.int .u64 a0, .int .u64 a1, .slice A len cap] w fun e w' => e = .returned (.bool true) ∧ Below w.heap.size w w' := by
  obtain ⟨a, rfl, ha⟩ := nat_of h0
  obtain ⟨b, rfl, hb⟩ := nat_of h1
  obtain ⟨l, hl, hu, hl9⟩ := urow_in hr
  obtain ⟨Z, hZ⟩ : ∃ Z : Ending → World → Prop, Z = fun e w' => e = .returned (.bool true) ∧ Below w.heap.size w w' := ⟨_, rfl⟩
  rw [← hZ]
  have hfin := Lib.hid (fun W (ho : Only (fun _ => False) w W) => show Z (.returned (.bool true)) W from by rw [hZ]; exact ⟨rfl, ho.below (Nat.le_refl _) (fun _ h => h.elim)⟩)
  have qf := Lib.hid fixed_any
  have hl' := Lib.hid hl
  have hu' := Lib.hid hu
  have hl9' := Lib.hid hl9
  clear hZ hr h0 h1 hl hu hl9
  by_cases h60 : 60 < len
  · have h60' : (60 : Int) < len := by omega
    go_enter Try.func3, Try.ntmps3
    go_wp2_with (go_at_call 10; with_reducible refine (qf.out _).mono ?_; rintro e w1 ⟨rfl, h1⟩; have h1' := Lib.hid h1; clear h1)
    exact hfin.out _ h1'.out
  have h60' : ¬ (60 : Int) < len := by omega
  obtain ⟨D, hD⟩ : ∃ D : Nat → Nat, D = fun k => allS (l.take k) := ⟨_, rfl⟩
  have hD' := Lib.hid hD
  have hD0' := Lib.hid (show 1 = D 0 by rw [hD]; rfl)
  have hDn' := Lib.hid (show allS l = D len by rw [hD, ← hl'.out]; simp)
  clear hD
  go_enter Try.func3, Try.ntmps3
  go_wp2_with (go_at_call 10; with_reducible refine (qf.out _).mono ?_; rintro e w1 ⟨rfl, h1⟩; have h1' := Lib.hid h1; clear h1)
  go_loopw [7, 9, 17] (fun u3 _ u8 wr => ∃ k : Nat, u3 = U (D k) ∧ u8 = .int .i64 k ∧ k ≤ len ∧ Hid (Only (fun _ => False) w wr)) (fun _ _ i _ => (len - intOf i).toNat)
  case atStart => exact ⟨0, by rw [← hD0'.out]; rfl, rfl, Nat.zero_le _, h1'.out⟩
  case round =>
    obtain ⟨k, rfl, rfl, hk, hO⟩ := hrel
    by_cases hkn : k < len
    · have hkn' : (k : Int) < len := by omega
      obtain ⟨x, hx⟩ : ∃ y, l[k]? = some y := ⟨_, List.getElem?_eq_getElem (by have := hl'.out; omega)⟩
      obtain ⟨b, off, rfl, c0, hbl⟩ := (hu'.out.new hO.out) k x hx
      have hxb := hl9'.out x (List.mem_of_getElem? hx)
      have hstep : D (k + 1) = lcmS (D k) x := by rw [hD'.out]; exact allS_take hx
      have hDk : D k ≤ 18446744073709551615 := by rw [hD'.out]; exact allS_le _
      have q1 : Hid (∀ W, Calls Try.prog 11 #[U (D k), U x] W fun e w' => e = .returned (U (D (k + 1))) ∧ Only (fun _ => False) W w') := by
        rw [hstep]; exact fun W => rlcm_any (D k) x W hDk hxb
      by_cases ht : D k = 18446744073709551615
      · have ht' : ((D k : Int) != 18446744073709551615) = false := by simp; omega
        by_cases hx0 : x = 0
        · have hx1 : ((x : Int) == 0) = true := by simpa using hx0
          clear hstep hDk hxb ht hx0
          go_wp2_with (go_at_call 11; with_reducible refine (q1.out _).mono ?_; rintro e w2 ⟨rfl, h2⟩; have h2' := Lib.hid h2; clear h2)
          go_roundw
          case rel => exact ⟨k + 1, rfl, by go_num, by omega, hO.out.trans' h2'.out⟩
          case measure => simp [intOf]; omega
        · have hx1 : ((x : Int) == 0) = false := by simpa using hx0
          have hs : D (k + 1) = D k := by rw [hstep, ht]; exact lcmS_top hx0
          have hs' := Lib.hid hs
          clear hstep hDk hxb ht hx0 hs q1
          go_wp2
          go_roundw
          case rel => exact ⟨k + 1, by rw [hs'.out], by go_num, by omega, hO.out⟩
          case measure => simp [intOf]; omega
      · have ht' : ((D k : Int) != 18446744073709551615) = true := by simp; omega
        clear hstep hDk hxb ht
        go_wp2_with (go_at_call 11; with_reducible refine (q1.out _).mono ?_; rintro e w2 ⟨rfl, h2⟩; have h2' := Lib.hid h2; clear h2)
        go_roundw
        case rel => exact ⟨k + 1, rfl, by go_num, by omega, hO.out.trans' h2'.out⟩
        case measure => simp [intOf]; omega
    · obtain rfl : k = len := by omega
      have q1 := Lib.hid (fun W => show Calls Try.prog 12 #[U a, U b] W fun e w' => e = .returned (U (Nat.gcd a b)) ∧ Only (fun _ => False) W w' from gcd_any a b W ha hb)
      have q2 := Lib.hid (fun W => show Calls Try.prog 13 #[U a, U b] W fun e w' => e = .returned (U (Nat.gcd a b)) ∧ Only (fun _ => False) W w' from rgcd_any a b W ha hb)
      have q3 := Lib.hid (fun W => show Calls Try.prog 14 #[U a, U b] W fun e w' => e = .returned (U (lcmS a b)) ∧ Only (fun _ => False) W w' from lcm_any a b W ha hb)
      have q4 := Lib.hid (fun W => show Calls Try.prog 11 #[U a, U b] W fun e w' => e = .returned (U (lcmS a b)) ∧ Only (fun _ => False) W w' from rlcm_any a b W ha hb)
      have q5 : Hid (∀ W, Only (fun _ => False) w W → Calls Try.prog 15 #[.slice A k cap] W fun e w' => e = .returned (U (D k)) ∧ Only (fun _ => False) W w') := by
        rw [← hDn'.out]; exact fun W ho => all_any (hu'.out.new ho) hl'.out (by omega) hl9'.out
      obtain ⟨g, hg⟩ : ∃ g, g = Nat.gcd a b := ⟨_, rfl⟩
      obtain ⟨m, hm⟩ : ∃ m, m = lcmS a b := ⟨_, rfl⟩
      rw [← hg] at q1 q2
      rw [← hm] at q3 q4
      clear hg hm
      obtain ⟨n, hn⟩ : ∃ n, n = D k := ⟨_, rfl⟩
      rw [← hn] at q5 ⊢
      clear hn
      go_wp2_with (first | (go_at_call 12; with_reducible refine (q1.out _).mono ?_; rintro e w2 ⟨rfl, h2⟩; have h2' := Lib.hid h2; clear h2) | (go_at_call 13; with_reducible refine (q2.out _).mono ?_; rintro e w3 ⟨rfl, h3⟩; have h3' := Lib.hid h3; clear h3) | (go_at_call 14; with_reducible refine (q3.out _).mono ?_; rintro e w4 ⟨rfl, h4⟩; have h4' := Lib.hid h4; clear h4) | (go_at_call 11; with_reducible refine (q4.out _).mono ?_; rintro e w5 ⟨rfl, h5⟩; have h5' := Lib.hid ((((hO.out.trans' h2'.out).trans' h3'.out).trans' h4'.out).trans' h5); clear h5) | (go_at_call 15; with_reducible refine (q5.out _ h5'.out).mono ?_; rintro e w6 ⟨rfl, h6⟩; have h6' := Lib.hid h6; clear h6))
      exact hfin.out _ (h5'.out.trans' h6'.out)
end Hyp
end Go.Proofs.Ytkolbaadakhciaa
