/- Releases of one task: Periodic, where it is asked. -/
import Derived.Test.YtgfgjbbpochiiaaDoorSz
import Derived.Test.YtgfgjbbpochiiaaDoorIter
import Derived.Test.YtgfgjbbpochiiaaDoorWinIn
namespace Go.Proofs.YtgfgjbbpochiiaaDoor
open Go Go.RowKit Go.Shelf
attribute [local go_sem] Oper.semAt_some

def encI (x : Int) : Array Value := #[.int .i64 x]
def pm (k : Nat) : List Int := (List.range k).map fun (i : Nat) => (4 * (i : Int) : Int)
theorem pm_succ (k : Nat) : pm (k + 1) = pm k ++ [4 * (k : Int)] := by simp [pm, List.range_succ]
theorem pm_pre {k : Nat} (h : k < 3) : pm k ++ [4 * (k : Int)] <+: pm 3 := by
  rw [← pm_succ]
  match k, h with
  | 0, _ => exact ⟨[4, 8], rfl⟩
  | 1, _ => exact ⟨[8], rfl⟩
  | 2, _ => exact ⟨[], rfl⟩

set_option maxRecDepth 100000 in
set_option maxHeartbeats 2000000 in
theorem mult_iter {w0 : World} {B C : Nat} (hB : w0.cell? ⟨B, 0, none⟩ = some (.int .i64 4)) (hC : w0.cell? ⟨C, 0, none⟩ = some (.int .i64 9)) :
    Iterates Tryd.prog 48 #[.pointer (some ⟨B, 0, none⟩), .pointer (some ⟨C, 0, none⟩)] encI (pm 3) (fun k => k = B ∨ k = C) w0 := fun ly J Jx W hW hJ hJx hY h0 => by
  have cB := hW.cell hB (fun h => h (.inl rfl))
  have cC := hW.cell hC (fun h => h (.inr rfl))
  have hJ' := Lib.hid hJ
  have h0' := Lib.hid h0
  have hcB := Lib.hid cB
  have hcC := Lib.hid cC
  have hBl := Lib.hid (World.block_lt_of_cell? W _ cB)
  have hCl := Lib.hid (World.block_lt_of_cell? W _ cC)
  clear hJ hJx hB hC hW h0 cB cC
  refine callsIn_wide (n := 4) |>.1 ?_
  refine callsIn_of_wp Tryd.func48 rfl trivial ?_ rfl
  simp only [Tryd.ntmps48, List.size_toArray, List.length_cons, List.length_nil, Nat.reduceAdd, Nat.reduceSub, Array.replicate_succ, Array.replicate_zero, List.push_toArray, List.append_toArray, List.nil_append, List.cons_append]
  gi_wp2
  gi_loopw [4] (fun i wr => ∃ (k : Nat) (X : Nat → Prop), k ≤ 3 ∧ i = .int .i64 (4 * (k : Int)) ∧ J X (pm k) wr ∧ Only (fun k => ¬ (k = B ∨ k = C)) W wr) (fun i _ => 12 - (intOf i).toNat)
  case atStart => exact ⟨0, fun _ => False, Nat.zero_le _, rfl, h0'.out, Only.refl _ W⟩
  case round =>
    obtain ⟨k, X, hk, rfl, hj, hO⟩ := hrel
    obtain ⟨ws, hws⟩ : ∃ ws : World, ws = wr := ⟨_, rfl⟩
    subst hws
    have cB := hO.cell hcB.out (fun h => h (.inl rfl))
    have cC := hO.cell hcC.out (fun h => h (.inr rfl))
    have lB := Nat.lt_of_lt_of_le hBl.out hO.size
    have lC := Nat.lt_of_lt_of_le hCl.out hO.size
    have hj' := Lib.hid hj
    have hO' := Lib.hid hO
    clear hj hO
    have h0k : (0 : Int) ≤ 4 * (k : Int) := by omega
    by_cases hk3 : k < 3
    · have hlt : 4 * (k : Int) < 9 := by omega
      obtain ⟨fn, tmps, assign, body, hy, hR⟩ := hY X (pm k) (4 * (k : Int)) ws hj'.out (pm_pre hk3)
      unfold encI at hy
      gi_wp2_with fail
      refine hR.mono ?_
      rintro e W7 (⟨rfl, hJ7, hk7⟩ | ⟨rfl, hJx7, -⟩)
      · have hend := Lib.hid (And.intro hJ7 hk7)
        have hO7 := hO'.out.trans hk7 (fun x _ h => h.1)
        have cB := hO7.cell hcB.out (fun h => h (.inl rfl))
        have cC := hO7.cell hcC.out (fun h => h (.inr rfl))
        have lB := Nat.lt_of_lt_of_le hBl.out hO7.size
        have lC := Nat.lt_of_lt_of_le hCl.out hO7.size
        have hO7' := Lib.hid hO7
        clear hJ7 hk7 hO7 hR hy
        gi_wp2
        go_roundw
        case rel =>
          refine ⟨k + 1, X, by omega, ?_, ?_, hO7'.out⟩
          · rw [show (4 * ((k + 1 : Nat) : Int)) = 4 * (k : Int) + 4 by omega]
          · rw [pm_succ]
            exact hend.out.1
        case measure => simp [intOf]; omega
      · have hend := Lib.hid hJx7
        clear hJx7
        gi_wp2
        refine bodyPost_ret (results_none rfl _ _ _) rfl ?_
        exact ⟨⟨_, rfl⟩, .inr ⟨X, _, pm_pre hk3, hend.out⟩⟩
    · obtain rfl : k = 3 := by omega
      gi_wp2
      go_end0
      exact ⟨⟨_, rfl⟩, .inl ⟨X, hj'.out⟩⟩
end Go.Proofs.YtgfgjbbpochiiaaDoor
