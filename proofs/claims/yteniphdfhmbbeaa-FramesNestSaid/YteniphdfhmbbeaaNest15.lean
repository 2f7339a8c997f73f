/- FramesNest's walk. -/
import Derived.Test.YteniphdfhmbbeaaFixed15
namespace Go.Proofs.Yteniphdfhmbbeaa
open Go Go.RowKit

/-- The first k frames. -/
def nest (zs : Nat → Int) : Nat → List Fr
  | 0 => []
  | k + 1 => nest zs k ++ [⟨k, deep (nest zs k), zs k⟩]
theorem nest_len (zs : Nat → Int) (k : Nat) : (nest zs k).length = k := by
  induction k with
  | zero => rfl
  | succ k ih => rw [nest, List.length_append, ih]; rfl
theorem nest_deep (zs : Nat → Int) (k : Nat) : deep (nest zs (k + 1)) = deep (nest zs k) + zs k := by rw [nest, deep_append, deep_one]

set_option maxRecDepth 100000 in
theorem nest_long (A : Option Addr) (len cap : Nat) (w : World) (hl : 200 < len) :
    Calls Try.prog 4 #[.slice A len cap] w fun e w' => e = .returned (.bool true) ∧ Below w.heap.size w w' := by
  go_enter Try.func4, Try.ntmps4
  go_wp2_with (go_at_call 5; refine (fixed15_any _).mono ?_; rintro e w1 ⟨rfl, hb1⟩; have hb1' := Lib.hid hb1; clear hb1)
  go_ret
  exact ⟨rfl, hb1'.out⟩

set_option maxRecDepth 100000 in
set_option maxHeartbeats 2000000 in
theorem nest_any (A : Option Addr) (len cap : Nat) (zs : Nat → Int) (w : World) (hl : len ≤ 200) (hA : IntRow .u8 w A len zs) :
    Calls Try.prog 4 #[.slice A len cap] w fun e w' => e = .returned (.bool true) ∧ Below w.heap.size w w' := by
  have hA' := Lib.hid hA.row
  have hz := Lib.hid (fun j (hj : j < len) => bounds_u8 (hA.wf hj))
  clear hA
  obtain ⟨B, hB⟩ : ∃ B, B = w.heap.size := ⟨_, rfl⟩
  rw [← hB]
  have hBw := Lib.hid hB
  go_enter Try.func4, Try.ntmps4
  go_wp2_with (go_at_call 5; refine (fixed15_any _).mono ?_; rintro e w1 ⟨rfl, hb1⟩; have hb1' := Lib.hid hb1; clear hb1)
  refine (snew_any w1).mono ?_
  rintro e w2 ⟨rfl, h2⟩
  have hO1 : Only (fun x => B ≤ x) w w1 := Only.of_new hb1'.out _
  have hR : Rung w B w1.heap.size 0 [] w2 := Rung.first ⟨rfl, h2⟩ hO1 (by have := hb1'.out.size; omega)
  obtain ⟨b, hb⟩ : ∃ b, b = w1.heap.size := ⟨_, rfl⟩
  rw [← hb] at hR ⊢
  have hR' := Lib.hid hR
  clear h2 hO1 hb hb1' hR hB
  go_wp2
  go_loopw [4, 5, 6, 7, 8, 18] (fun s _ _ _ _ i wr => ∃ k : Nat, k ≤ len ∧ i = .int .i64 k ∧ s = .int .i64 (deep (nest zs k)) ∧ Rung w B b (deep (nest zs k)) (nest zs k) wr) (fun _ _ _ _ _ i _ => len - (intOf i).toNat)
  case atStart => exact ⟨0, Nat.zero_le _, rfl, rfl, hR'.out⟩
  case round =>
    clear hR'
    obtain ⟨k, hk, rfl, rfl, hR⟩ := hrel
    obtain ⟨ws, hws⟩ : ∃ ws : World, ws = wr := ⟨_, rfl⟩
    subst hws
    have hO := hR.only
    have hsz := hO.size
    have hBsz : B ≤ ws.heap.size := by have := hBw.out; omega
    have hRowk := Lib.hid (hA'.out.only hO (fun _ h => by have := hBw.out; omega))
    obtain ⟨d, hd⟩ : ∃ d, d = deep (nest zs k) := ⟨_, rfl⟩
    have hbd := stand_bound hR.stand
    rw [nest_len] at hbd
    rw [← hd] at hR hbd ⊢
    by_cases hlt : k < len
    · obtain ⟨ba, off, rfl, hc, _⟩ := hRowk.out k hlt
      replace hc : ws.cell? ⟨ba, off + k, none⟩ = some (.int .u8 (zs k)) := hc
      have hzk := hz.out k hlt
      have hput := Lib.hid (hR.push hBsz (by rw [nest_len]; omega) (k : Int) (size := zs k) hzk.1 (by omega))
      rw [← hd] at hput
      obtain ⟨z, hz'⟩ : ∃ z, z = zs k := ⟨_, rfl⟩
      have hnx := nest_deep zs k
      have hnn : nest zs (k + 1) = nest zs k ++ [⟨k, d, z⟩] := by rw [nest, ← hd, hz']
      rw [← hz'] at hc hput hzk hnx
      rw [← hd] at hnx
      have hwr : IntKind.i64.wrap (d + z) = d + z := IntWalk.i64_in _ (by omega)
      have hwz : IntKind.i64.wrap z = z := IntWalk.i64_in _ (by omega)
      have hE := Lib.hid (And.intro hnx hnn)
      clear hR hO hsz hBsz hd hz' hnx hnn
      go_wp2_with (go_at_call 8; refine hput.out.mono ?_; rintro e w3 ⟨rfl, hR3⟩; have hR3' := Lib.hid hR3; clear hR3)
      go_roundw
      case rel =>
        refine ⟨k + 1, by omega, by go_num, by rw [hE.out.1], ?_⟩
        have := hR3'.out
        rw [Int.max_eq_right (by omega)] at this
        rw [hE.out.1, hE.out.2]
        exact this
      case measure => simp [intOf]; omega
    · obtain rfl : k = len := by omega
      have hR' := Lib.hid hR
      have hd' := Lib.hid hd
      clear hRowk hR hO hsz hBsz hd
      go_wp2
      go_loopw [9] (fun i ws => ∃ j : Nat, j ≤ k ∧ i = .int .i64 ((j : Int) - 1) ∧ Rung w B b d (nest zs j) ws) (fun i _ => (intOf i + 1).toNat)
      case atStart => exact ⟨k, Nat.le_refl _, rfl, hR'.out⟩
      case round =>
        clear hR'
        obtain ⟨j, hj, rfl, hR⟩ := hrel
        obtain ⟨ws, hws⟩ : ∃ ws : World, ws = wr := ⟨_, rfl⟩
        subst hws
        cases j with
        | zero =>
          have hR' := hR
          have q1 := Lib.hid (hR.depth (by simp [nest]))
          clear hR
          go_wp2_with fail
          refine q1.out.mono ?_
          rintro e w3 ⟨rfl, h3⟩
          have hR3 := hR'.new h3
          clear hR' h3 q1
          go_wp2_with fail
          refine hR3.peak.mono ?_
          rintro e w' ⟨rfl, hw⟩
          subst hw
          go_wp2_with fail
          refine (hR3.popNone 0).mono ?_
          rintro e w4 ⟨rfl, hR4⟩
          have hR4' := Lib.hid hR4
          clear hR3 hR4
          go_wp2
          go_ret
          exact ⟨rfl, hR4'.out.only.below (Nat.le_of_eq hBw.out) (fun k h => h)⟩
        | succ j =>
          have q1 := Lib.hid (Rung.pop (fs := nest zs j) (x := ⟨j, deep (nest zs j), zs j⟩) hR (by rw [nest_len]; omega) (who := (j : Int)) rfl)
          have e1 : ((j + 1 : Nat) : Int) - 1 = (j : Int) := by omega
          have e2 : (0 : Int) ≤ (j : Int) := by omega
          rw [e1]
          clear hR
          go_wp2_with (go_at_call 7; refine q1.out.mono ?_; rintro e w3 ⟨rfl, hR3⟩; have hR3' := Lib.hid hR3; clear hR3)
          go_roundw
          case rel => exact ⟨j, by omega, rfl, hR3'.out⟩
          case measure => simp [intOf]

theorem nest_law (A : Option Addr) (len cap : Nat) (zs : Nat → Int) (w : World) (hA : IntRow .u8 w A len zs) :
    Calls Try.prog 4 #[.slice A len cap] w fun e w' => e = .returned (.bool true) ∧ Below w.heap.size w w' := by
  by_cases hl : 200 < len
  · exact nest_long A len cap w hl
  · exact nest_any A len cap zs w (by omega) hA
end Go.Proofs.Yteniphdfhmbbeaa
