/- SatSums: for every slice of uint64 numbers the law function signalboxlaw01.SatSums returns true and leaves its argument as it was: Sum of a row (of at most 200 numbers, as the law itself asks) is its numbers' saturating sum, one by one. Conditions: none beside the row's own cells. -/
import Derived.Test.YtafcdjmbbpnbiaaRows
import Derived.WalkKit
import Derived.ProofKit
import Derived.OpenShut
import Derived.Test.YtafcdjmbbpnbiaaSat
import Derived.ShutString
import Derived.ChangeOld
import Derived.Below
namespace Go.Proofs.Ytafcdjmbbpnbiaa.satSums
open Go.ChangeShapes Go.WideShapes Go.ChangeAt Go.RowKit
open Go.ChangeMaps (open_string shut_string)
set_option linter.unusedVariables false

theorem own : ownKnob Try.prog.godebug = none := by kernel_rfl
theorem laidOut : laidOutB Try.prog = true := by kernel_rfl

theorem getD_bd {z : List Int} (hz : ∀ n ∈ z, (Lit.int .u64 n).wf = true) (k : Nat) : 0 ≤ z.getD k 0 ∧ z.getD k 0 ≤ 18446744073709551615 := by
  exact range_u64 hz k

/-- WHAT THE WALK IS TOLD OF A SLICE OF INTEGERS THAT CAME IN: it is nil; or it leads to a row of 'cap' cells, the numbers 'zs' (the first 'len' are its elements, the rest its spare room), each fitting its kind. -/
def IsRow (k : IntKind) (w : World) (a : Option Addr) (len cap : Nat) (zs : List Int) : Prop :=
  (a = none ∧ len = 0 ∧ cap = 0 ∧ zs = []) ∨
  ∃ x, a = some x ∧ len ≤ cap ∧ cap ≤ maxLen ∧ zs.length = cap ∧ (∀ i, i < zs.length → w.cell? (x.add i) = some (.int k (zs.getD i 0))) ∧ ∀ n ∈ zs, (Lit.int k n).wf = true

/-- The sum of the first numbers, stopping at the greatest number. -/
def sumTo (z : List Int) : Nat → Int
  | 0 => 0
  | k + 1 => satAdd (sumTo z k) (z.getD k 0)
theorem sumTo_bd (z : List Int) (hz : ∀ n ∈ z, (Lit.int .u64 n).wf = true) (k : Nat) : 0 ≤ sumTo z k ∧ sumTo z k ≤ 18446744073709551615 := by
  induction k with
  | zero => exact ⟨by simp [sumTo], by simp [sumTo]⟩
  | succ k ih => exact satAdd_bd _ _ ih (getD_bd hz k)

theorem sum_row (b off len cap : Nat) (z : List Int) (w : World) (hl : len ≤ 9223372036854775807) (hcell : ∀ i, i < len → w.cell? ⟨b, off + i, none⟩ = some (.int .u64 (z.getD i 0))) (hwz : ∀ n ∈ z, (Lit.int .u64 n).wf = true) :
    Calls Try.prog 7 #[.slice (some ⟨b, off, none⟩) len cap] w fun e w' => e = .returned (.int .u64 (sumTo z len)) ∧ w = w' := by
  have hcell' := Lib.hid hcell
  clear hcell
  have hwz' := Lib.hid hwz
  clear hwz
  go_enter Try.func7, Try.ntmps7
  go_wp2
  go_loop [3, 5, 8] (fun t _ i => ∃ k : Nat, k ≤ len ∧ i = .int .i64 k ∧ t = .int .u64 (sumTo z k)) (fun _ _ i => len - (intOf i).toNat)
  case atStart => exact ⟨0, Nat.zero_le _, rfl, rfl⟩
  case round =>
    obtain ⟨k, hk, rfl, rfl⟩ := hrel
    by_cases hlt : k < len
    · have hc := hcell'.out k hlt
      obtain ⟨g0, g1⟩ := sumTo_bd z hwz'.out k
      obtain ⟨g2, g3⟩ := getD_bd hwz'.out k
      obtain ⟨s, hs⟩ : ∃ s, s = sumTo z k := ⟨_, rfl⟩
      obtain ⟨x, hx⟩ : ∃ x, x = z.getD k 0 := ⟨_, rfl⟩
      rw [← hx] at hc g2 g3
      rw [← hs] at g0 g1 ⊢
      have hs' := Lib.hid hs
      have hx' := Lib.hid hx
      clear hs hx
      go_wp2_with (go_at_call 11; refine (add_any s x _ ⟨g0, g1⟩ ⟨g2, g3⟩).mono ?_; rintro e w' ⟨rfl, rfl⟩)
      go_round
      case rel => exact ⟨k + 1, by omega, by go_num, by rw [sumTo, ← hs'.out, ← hx'.out]⟩
      case measure => simp [intOf]; omega
    · go_wp2
      go_ret
      exact ⟨ret_u (by rw [show len = k by omega]), rfl⟩

theorem sum_nil (a : Option Addr) (c : Nat) (w : World) : Calls Try.prog 7 #[.slice a 0 c] w fun e w' => e = .returned (.int .u64 0) ∧ w = w' := by
  go_enter Try.func7, Try.ntmps7
  go_wp2
  go_loop [3, 5, 8] (fun t _ i => i = .int .i64 0 ∧ t = .int .u64 0) (fun _ _ _ => 0)
  case atStart => exact ⟨rfl, rfl⟩
  case round =>
    obtain ⟨rfl, rfl⟩ := hrel
    go_wp2
    go_ret
    exact ⟨rfl, rfl⟩

theorem walk_nil (a : Option Addr) (c : Nat) (w : World) : Calls Try.prog 3 #[.slice a 0 c] w fun e w' => e = .returned (.bool true) ∧ Below w.heap.size w w' := by
  go_enter Try.func3, Try.ntmps3
  go_wp2_with (go_at_call 5; refine (fixed_any _).mono ?_; rintro e w' ⟨rfl, hb⟩; have hb' := Lib.hid hb; clear hb)
  go_loop [3, 5, 13] (fun t _ i => i = .int .i64 0 ∧ t = .int .u64 0) (fun _ _ _ => 0)
  case atStart => exact ⟨rfl, rfl⟩
  case round =>
    obtain ⟨rfl, rfl⟩ := hrel
    go_wp2_with (go_at_call 7; refine (sum_nil _ _ _).mono ?_; rintro e w' ⟨rfl, rfl⟩)
    go_ret
    exact ⟨rfl, hb'.out⟩

theorem walk_row (b off len cap : Nat) (z : List Int) (w : World) (hl : len ≤ 9223372036854775807) (hcell : ∀ i, i < len → w.cell? ⟨b, off + i, none⟩ = some (.int .u64 (z.getD i 0))) (hwz : ∀ n ∈ z, (Lit.int .u64 n).wf = true) :
    Calls Try.prog 3 #[.slice (some ⟨b, off, none⟩) len cap] w fun e w' => e = .returned (.bool true) ∧ Below w.heap.size w w' := by
  have hcell' := Lib.hid hcell
  clear hcell
  have hwz' := Lib.hid hwz
  clear hwz
  by_cases h200 : 200 < len
  · go_enter Try.func3, Try.ntmps3
    go_wp2_with (go_at_call 5; refine (fixed_any _).mono ?_; rintro e w' ⟨rfl, hb⟩; have hb' := Lib.hid hb; clear hb)
    go_ret
    exact ⟨rfl, hb'.out⟩
  · go_enter Try.func3, Try.ntmps3
    go_wp2_with (go_at_call 5; refine (fixed_any _).mono ?_; rintro e w1 ⟨rfl, hb⟩; have hb' := Lib.hid hb; clear hb)
    have hcell1 : ∀ i, i < len → w1.cell? ⟨b, off + i, none⟩ = some (.int .u64 (z.getD i 0)) := fun i hi => by
      have h := hcell'.out i hi
      rw [← h]
      exact hb'.out.cell (World.block_lt_of_cell? w _ h)
    have hcell1' := Lib.hid hcell1
    clear hcell1
    go_loop [3, 5, 13] (fun t _ i => ∃ k : Nat, k ≤ len ∧ i = .int .i64 k ∧ t = .int .u64 (sumTo z k)) (fun _ _ i => len - (intOf i).toNat)
    case atStart => exact ⟨0, Nat.zero_le _, rfl, rfl⟩
    case round =>
      obtain ⟨k, hk, rfl, rfl⟩ := hrel
      by_cases hlt : k < len
      · have hc := hcell1'.out k hlt
        obtain ⟨g0, g1⟩ := sumTo_bd z hwz'.out k
        obtain ⟨g2, g3⟩ := getD_bd hwz'.out k
        obtain ⟨s, hs⟩ : ∃ s, s = sumTo z k := ⟨_, rfl⟩
        obtain ⟨x, hx⟩ : ∃ x, x = z.getD k 0 := ⟨_, rfl⟩
        rw [← hx] at hc g2 g3
        rw [← hs] at g0 g1 ⊢
        have hs' := Lib.hid hs
        have hx' := Lib.hid hx
        clear hs hx
        go_wp2_with (go_at_call 6; refine (radd_any s x _ ⟨g0, g1⟩ ⟨g2, g3⟩).mono ?_; rintro e w' ⟨rfl, rfl⟩)
        go_round
        case rel => exact ⟨k + 1, by omega, by go_num, by rw [sumTo, ← hs'.out, ← hx'.out]⟩
        case measure => simp [intOf]; omega
      · obtain rfl : k = len := by omega
        go_wp2_with (go_at_call 7; refine (sum_row b off k cap z _ hl hcell1'.out hwz'.out).mono ?_; rintro e w' ⟨rfl, rfl⟩)
        go_ret
        exact ⟨rfl, hb'.out⟩

theorem walk (a0 : Option Addr) (len0 cap0 : Nat) (z0 : List Int) (w : World) (w0 : IsRow .u64 w a0 len0 cap0 z0) :
    Calls Try.prog 3 #[.slice a0 len0 cap0] w fun e w' => e = .returned (.bool true) ∧ Below w.heap.size w w' := by
  rcases w0 with ⟨rfl, rfl, rfl, rfl⟩ | ⟨x, rfl, hl, hm, hz, hcell, hwz⟩
  · exact walk_nil _ _ w
  · unfold maxLen at hm
    by_cases h : len0 = 0
    · subst h
      exact walk_nil _ _ w
    · obtain ⟨b, off, rfl, hc⟩ := ints_at hcell (by omega)
      exact walk_row b off len0 cap0 z0 w (by omega) (fun i hi => hc i (by omega)) hwz

/-! ### THE ROW's STEP: WRITTEN OUT: LEAVE IT -/
set_option maxRecDepth 100000 in
theorem lifted (os : Os) (started : os.Started) (H : Type) (enc : TypeId × Value → H) :
    ReturnsInHanded {} Try.checked os 3 .any (Rows.satSumsSpec.pre6 enc Try.prog Try.f3 Rows.satSumsRow.domain false) (Rows.satSumsSpec.post enc Try.prog Try.f3 false true false false) := by
  refine returnsInHanded_of_change (C := Try.checked) own started (by kernel_rfl) Try.func3
    (ChangeSpec.witness6 (enc := enc) (C := Try.checked) false ⟨#[], #[.slice none 0 0], []⟩ 8 (by kernel_rfl) (by kernel_rfl) (by kernel_rfl) (by kernel_rfl)) ?_
  intro W base args ds gs before hval0 hW hcnd _
  have hval : ∀ (j : Nat) t v, Try.f3.params[j]? = some t → args[j]? = some v → Value.okWide Try.prog W .any base t v := hval0
  have hW' := hW
  obtain ⟨p, q, hA0, hV, rfl, hfz, hnd⟩ := hW
  have hA : DataW.TrodAll enc Try.prog W 0 (fun _ => true) true Try.f3.params.toList args.toList ds p := hA0
  rw [Try.params3] at hA hval
  obtain ⟨v0, vs0, d0, ds0, p0, q0, hargs, rfl, rfl, h0, r0⟩ := trodAll_cons hA
  obtain ⟨rfl, rfl, rfl⟩ := trodAll_nil r0
  obtain rfl : args = #[v0] := by cases args; simp_all
  obtain ⟨rfl, rfl⟩ := trodVars_none hV
  obtain ⟨a0, len0, cap0, rfl⟩ := okWide_slice Try.underlying22 (hval 0 22 v0 rfl rfl)
  have k0 := h0
  have lt0 : ∀ x ∈ p0, x.block < W.heap.size := by obtain ⟨m, hm⟩ := k0; exact DataW.trod_lt m _ _ _ hm
  obtain ⟨z0, w0⟩ : ∃ zs, IsRow .u64 W a0 len0 cap0 zs := by
    obtain ⟨fuel, hf⟩ := h0
    rcases open_ints Try.underlying22 Try.underlying24 (by kernel_rfl) hf with ⟨hcs, _⟩ | ⟨x, l, c, zs, hcs, _, hl, hm, hz, _, hcell, hwz⟩
    · simp [Value.cells] at hcs
      obtain ⟨rfl, rfl, rfl⟩ := hcs
      exact ⟨[], .inl ⟨rfl, rfl, rfl, rfl⟩⟩
    · simp [Value.cells] at hcs
      obtain ⟨rfl, rfl, rfl⟩ := hcs
      exact ⟨zs, .inr ⟨_, rfl, hl, hm, by simpa using hz, hcell, hwz⟩⟩
  clear hA0 hval0
  refine (walk a0 len0 cap0 z0 W w0).mono fun e W' ⟨he, bel⟩ => ?_
  subst he
  exact ⟨_, rfl, _, _, _, [], _, [], hW', trodAll_mk1 (shut_bool Try.underlying4 _), (trodAll_cons_mk (Below.trod laidOut (by kernel_rfl) (of_decide_eq_true (by kernel_rfl)) k0 bel lt0) trodAll_mk0), rfl, bel.frame _, fun h => by cases h⟩

theorem over : Rows.satSumsRow.holds Try.pinned (OpenSpec.ofChange Rows.satSumsSpec) :=
  OpenClaim.holds_of_wide 3 Try.f3 rfl rfl rfl rfl rfl rfl rfl ⟨rfl, rfl, rfl, rfl, rfl⟩ rfl rfl rfl rfl rfl (by kernel_rfl) Try.func3 (by kernel_rfl)
    (of_decide_eq_true (by kernel_rfl)) (by unfold Func.isWrapper; first | (rw [if_pos (by decide +kernel)]; kernel_rfl) | (rw [if_neg (by decide +kernel)]; exact ⟨rfl, rfl⟩))
    (fun os started H enc _ => lifted os started H enc)

/-- ████ THE STATEMENT ████ -/
theorem proved : Rows.SatSumsSaid := over
#print axioms proved
end Go.Proofs.Ytafcdjmbbpnbiaa.satSums
