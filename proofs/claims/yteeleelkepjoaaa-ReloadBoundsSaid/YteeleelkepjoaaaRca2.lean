/- The reference's cache: ages, accesses, twins. -/
import Derived.Test.YteeleelkepjoaaaRca
import Derived.Test.YteeleelkepjoaaaTail
namespace Go.Proofs.Yteeleelkepjoaaa
namespace Rca
open Go Go.RowKit

/-- Where a number stands first in a row; -1: nowhere. -/
def ageZ (R : List Nat) (b : Nat) : Int := if b ∈ R then (R.idxOf b : Int) else -1
/-- An answer, new blocks at most. -/
def AnsI (z : Int) (w : World) (e : Ending) (w' : World) : Prop := e = .returned (.int .i64 z) ∧ Only (fun _ => False) w w'

set_option maxRecDepth 100000 in
set_option maxHeartbeats 2000000 in
theorem age_any {w : World} {a S W : Nat} {h : Option Nat} {U : List Nat} (H : RC w a S W h U) (hS : 0 < S) (hU : U.length ≤ 1000000) (hW : W ≤ 1000) (b : Nat) (hb : b ≤ 255) :
    Calls Try.prog 32 #[.pointer (some ⟨a, 0, none⟩), .int .i64 (b : Int)] w (AnsI (ageZ (rowL S W (b % S) U) b) w) := by
  obtain ⟨R, hR⟩ : ∃ R, R = rowL S W (b % S) U := ⟨_, rfl⟩
  rw [← hR]
  obtain ⟨Z, hZ⟩ : ∃ Z, Z = AnsI (ageZ R b) w := ⟨_, rfl⟩
  rw [← hZ]
  have hZ' := Lib.hid hZ
  have hRl := Lib.hid hR
  have q1 := row_any H hS hU hW (b % S)
  rw [← hR] at q1
  have hm : (b : Int) % (S : Int) = ((b % S : Nat) : Int) := by omega
  have q1' := Lib.hid q1
  obtain ⟨p, c, hbx, _⟩ := H.box
  have c0 := row_cell hbx (i := 0) rfl
  have hlt := row_lt hbx
  have hS' : (S : Int) ≠ 0 := by omega
  have hS2 : (0 : Int) < (S : Int) := by omega
  have hl0 : ¬ (b : Int) < 0 := by omega
  have hl1 : ¬ (255 : Int) < (b : Int) := by omega
  clear hR q1 hbx hZ H
  go_enter Try.func32, Try.ntmps32
  go_wp2_with fail
  rw [hm]
  clear hm
  go_wp2_with fail
  refine q1'.out.mono ?_
  rintro e w1 ⟨q, cq, hq, rfl, hW1, hf, hO⟩
  obtain ⟨n, hn⟩ : ∃ n, n = R.length := ⟨_, rfl⟩
  rw [← hn] at hW1 ⊢
  have hn9 : n ≤ 1000 := by
    rw [hn, hRl.out]
    rw [rowL_eq]
    have := List.length_take_le W (Lru.D S (b % S) U.reverse)
    omega
  have hn' := Lib.hid hn
  have hW1' := Lib.hid hW1
  have hO' := Lib.hid hO
  clear hn hW1 hO hf c0
  go_wp2
  go_loopw [22] (fun i wr => ∃ k : Nat, k ≤ n ∧ i = .int .i64 k ∧ b ∉ R.take k ∧ w1 = wr) (fun i _ => n - (intOf i).toNat)
  case atStart => exact ⟨0, Nat.zero_le _, rfl, by simp, rfl⟩
  case round =>
    obtain ⟨k, hk, rfl, hno, rfl⟩ := hrel
    have hno' := Lib.hid hno
    clear hno
    by_cases hkn : k < n
    · obtain ⟨x, hx⟩ : ∃ x, R[k]? = some x := ⟨_, List.getElem?_eq_getElem (by have := hn'.out; omega)⟩
      obtain ⟨g2, goff2, capp2, _, hv2, _, _, hgl2, hgc2, _⟩ := hW1'.out.at_ (by omega)
      cases hv2
      have g1 := hgc2 k _ (dat_at hx)
      have hkn2 : (k : Int) < (n : Int) := by omega
      have hx' := Lib.hid hx
      clear hgc2 hx
      by_cases hxb : x = b
      · have e3 : ((x : Int) == (b : Int)) = true := beq_iff_eq.2 (by omega)
        have hfin : Z (Ending.returned (.int .i64 (k : Int))) w1 := by
          rw [hZ'.out]
          refine ⟨?_, hO'.out⟩
          have hmem : b ∈ R := hxb ▸ List.mem_of_getElem? hx'.out
          unfold ageZ
          rw [if_pos hmem]
          congr 3
          obtain ⟨hk9, e9⟩ := List.getElem?_eq_some_iff.1 hx'.out
          have h1 := List.idxOf_append (l₁ := R.take k) (l₂ := R.drop k) (a := b)
          rw [List.take_append_drop, if_neg hno'.out, List.drop_eq_getElem_cons hk9, e9, hxb, List.idxOf_cons_self, List.length_take] at h1
          omega
        have hfin' := Lib.hid hfin
        clear hfin hxb
        go_wp2
        exact hfin'.out
      · have e3 : ((x : Int) == (b : Int)) = false := beq_eq_false_iff_ne.2 (by omega)
        have hno2 := Lib.hid (show b ∉ R.take (k + 1) from fun h => by
          rcases (mem_take_one hx'.out).1 h with h | h
          · exact hno'.out h
          · exact hxb h)
        clear hxb
        go_wp2
        go_roundw
        case rel => exact ⟨k + 1, by omega, by go_num, hno2.out, by simp⟩
        case measure => simp [intOf]; omega
    · obtain rfl : k = n := by omega
      have hkn2 : ¬ (k : Int) < (k : Int) := by omega
      have hfin : Z (Ending.returned (.int .i64 (-1))) w1 := by
        rw [hZ'.out]
        refine ⟨?_, hO'.out⟩
        have := hno'.out
        rw [hn'.out, List.take_length] at this
        unfold ageZ
        rw [if_neg this]
      have hfin' := Lib.hid hfin
      clear hfin
      go_wp2
      exact hfin'.out
theorem age_hit {S W b : Nat} {U : List Nat} : (decide (ageZ (rowL S W (b % S) U) b ≥ 0)) = Lru.hitB S W U.reverse b := by
  unfold ageZ Lru.hitB
  rw [rowL_eq]
  by_cases h : b ∈ (Lru.D S (b % S) U.reverse).take W
  · rw [if_pos h]; simp [h]
  · rw [if_neg h]; simp [h]
end Rca
end Go.Proofs.Yteeleelkepjoaaa
