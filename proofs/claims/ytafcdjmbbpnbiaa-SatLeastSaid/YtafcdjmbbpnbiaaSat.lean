/- The contracts of the functions that SatSums and SatLeast call. No conditions beside each theorem's own. -/
import Derived.Test.YtafcdjmbbpnbiaaRows
import Derived.WalkKit
import Derived.ProofKit
import Derived.OpenShut
import Derived.Below
import Derived.Defers
import Derived.Recover
import Derived.Deep.QuietTactic
import Derived.BigQuiet
import Derived.Outline
import Derived.IntWalk
import Derived.WalkLawsBesides
import Derived.Lib.Hide
import Derived.WalkSmall
namespace Go.Proofs.Ytafcdjmbbpnbiaa
open Go.RowKit

theorem ret_u {k : IntKind} {a b : Int} (h : a = b) : Ending.returned (.int k a) = .returned (.int k b) := by rw [h]
def satAdd (a b : Int) : Int := if 18446744073709551615 < a + b then 18446744073709551615 else a + b

theorem bcell {W w1 : World} (hb : Below W.heap.size W w1) : (∀ b o, b < W.heap.size → w1.cell? ⟨b, o, none⟩ = W.cell? ⟨b, o, none⟩) ∧ (∀ b o, b < W.heap.size → w1.frozen? ⟨b, o, none⟩ = W.frozen? ⟨b, o, none⟩) :=
  ⟨fun b o h => hb.cell (p := ⟨b, o, none⟩) h, fun b o h => hb.frozen (p := ⟨b, o, none⟩) h⟩

theorem radd_any (a b : Int) (w : World) (ha : 0 ≤ a ∧ a ≤ 18446744073709551615) (hb : 0 ≤ b ∧ b ≤ 18446744073709551615) :
    Calls Try.prog 6 #[.int .u64 a, .int .u64 b] w fun e w' => e = .returned (.int .u64 (satAdd a b)) ∧ w = w' := by
  obtain ⟨ha0, ha1⟩ := ha
  obtain ⟨hb0, hb1⟩ := hb
  by_cases h : 18446744073709551615 < a + b
  · have h' : 18446744073709551615 - b < a := by omega
    go_enter Try.func6, Try.ntmps6
    go_wp2
    go_ret
    exact ⟨ret_u (by rw [satAdd, if_pos h]), rfl⟩
  · have h' : ¬ 18446744073709551615 - b < a := by omega
    go_enter Try.func6, Try.ntmps6
    go_wp2
    go_ret
    exact ⟨ret_u (by rw [satAdd, if_neg (by omega)]), rfl⟩

theorem add_any (a b : Int) (w : World) (ha : 0 ≤ a ∧ a ≤ 18446744073709551615) (hb : 0 ≤ b ∧ b ≤ 18446744073709551615) :
    Calls Try.prog 11 #[.int .u64 a, .int .u64 b] w fun e w' => e = .returned (.int .u64 (satAdd a b)) ∧ w = w' := by
  obtain ⟨ha0, ha1⟩ := ha
  obtain ⟨hb0, hb1⟩ := hb
  by_cases h : 18446744073709551615 < a + b
  · have hw : IntKind.u64.wrap (a + b) = a + b - 18446744073709551616 := by rw [IntKind.wrap_u64]; omega
    have h' : a + b - 18446744073709551616 < a := by omega
    go_enter Try.func11, Try.ntmps11
    go_wp2
    go_ret
    exact ⟨ret_u (by rw [satAdd, if_pos h]), rfl⟩
  · have h' : ¬ a + b < a := by omega
    go_enter Try.func11, Try.ntmps11
    go_wp2
    go_ret
    exact ⟨ret_u (by rw [satAdd, if_neg (by omega)]), rfl⟩

def stepTo (n m x : Int) : Int := if m ≤ x then x else if m < satAdd x n then m else satAdd x n
theorem satAdd_bd (a b : Int) (ha : 0 ≤ a ∧ a ≤ 18446744073709551615) (hb : 0 ≤ b ∧ b ≤ 18446744073709551615) : 0 ≤ satAdd a b ∧ satAdd a b ≤ 18446744073709551615 := by
  unfold satAdd; split <;> omega

theorem step_any (n m x : Int) (w : World) (hn : 0 ≤ n ∧ n ≤ 18446744073709551615) (_hm : 0 ≤ m ∧ m ≤ 18446744073709551615) (hx : 0 ≤ x ∧ x ≤ 18446744073709551615) :
    Calls Try.prog 9 #[.agg #[.int .u64 n, .int .u64 m], .int .u64 x] w fun e w' => e = .returned (.int .u64 (stepTo n m x)) ∧ Below w.heap.size w w' := by
  by_cases h : m ≤ x
  · go_enter Try.func9, Try.ntmps9
    go_wp2
    go_ret
    exact ⟨ret_u (by rw [stepTo, if_pos h]), (Below.refl _ _).alloc (Nat.le_refl _) _⟩
  · have hb := satAdd_bd x n hx hn
    go_enter Try.func9, Try.ntmps9
    go_wp2
    go_quiet ((go_at_call 6; exact Calls.quiet_of_same ((radd_any _ _ _ hx hn).mono fun _ _ h => ⟨h.1, h.2.symm⟩)))
    go_wp2
    all_goals
      go_ret
      refine ⟨ret_u ?_, below_drewN ((Below.refl _ _).alloc (Nat.le_refl _) _) _⟩
      unfold stepTo
      split <;> first | omega | (split <;> omega)

def rise (n m : Int) : Value := .func (.func 9) #[.agg #[.int .u64 n, .int .u64 m]] #[]
theorem caught (p : Addr) (w : World) :
    CallsD Try.prog 17 #[.pointer (some p)] .returning w fun e u' w' => e = .returned (.tuple #[]) ∧ u' = .returning ∧ w' = w := by
  refine callsD_of_wpS Try.func17 rfl fun c₀ cs hu => ?_
  apply wpS_seq
  apply wpS_region
  simp [wpOpsS, go_sem, recoverD, hu, Try.ntmps17, Exit.thenS]
  refine wpS_cond (t := false) (by simp [Act.eval, Array.replicate]) ?_
  simp only [Bool.false_eq_true, if_false]
  refine wpS_of_wp (wp_skip ?_)
  cases c₀
  simp_all [bodyPostS, results, Try.results17]

theorem climb_over (n m x b : Int) (w : World) (h : b < x) :
    Calls Try.prog 15 #[rise n m, .int .u64 x, .int .u64 b] w fun e w' => e = .returned (.tuple #[.int .u64 x, .bool false]) ∧ Below w.heap.size w w' := by
  have hmf : ∀ (fn : Fn) (first cap : Array Value) (w : World), (Instr.makeFunc fn first cap).run Try.prog w = .ok (.func fn first cap) w := fun _ _ _ _ => rfl
  go_enter_defers Try.func15, Try.ntmps15
  go_wp2
  refine leaves_cons (f := 17) (args := #[.pointer (some ⟨w.heap.size, 0, none⟩)]) (by simp) (by simp [go_sem]) ?_
  refine (caught _ _).mono ?_
  rintro e u' w'' ⟨rfl, rfl, rfl⟩
  simp [Leaves, settle, results, Try.results15, go_sem]
  exact (Below.refl _ _).alloc (Nat.le_refl _) _

theorem stepTo_cases (n m x : Int) (hn : 1 ≤ n ∧ n ≤ 18446744073709551615) (hm : 0 ≤ m ∧ m ≤ 18446744073709551615) (hx : 0 ≤ x ∧ x ≤ m) :
    (x = m ∧ stepTo n m x = x) ∨ (x < m ∧ x < stepTo n m x ∧ stepTo n m x ≤ m ∧ (stepTo n m x = m ∨ stepTo n m x = x + n)) := by
  unfold stepTo satAdd
  by_cases h : m ≤ x
  · rw [if_pos h]; left; omega
  · rw [if_neg h]; right; split <;> split <;> omega

def ClimbEnd (m b : Int) (w : World) (e : Ending) (w' : World) : Prop :=
  (∃ y : Int, e = .returned (.tuple #[.int .u64 y, .bool (decide (m ≤ b))]) ∧ (m ≤ b → y = m)) ∧ Below w.heap.size w w'

set_option maxRecDepth 100000 in
theorem climb_any (n m x b : Int) (w : World) (hn : 1 ≤ n ∧ n ≤ 18446744073709551615) (hm : 0 ≤ m ∧ m ≤ 18446744073709551615) (hx : 0 ≤ x ∧ x ≤ m) (hb : 0 ≤ b ∧ b ≤ 18446744073709551615) (hd : (m - x) / n ≤ 2000) (hxb : x ≤ b) :
    Calls Try.prog 15 #[rise n m, .int .u64 x, .int .u64 b] w (ClimbEnd m b w) := by
  obtain ⟨hn1, hn2⟩ := hn
  obtain ⟨hm1, hm2⟩ := hm
  obtain ⟨hx1, hx2⟩ := hx
  obtain ⟨hb1, hb2⟩ := hb
  have hmf : ∀ (fn : Fn) (first cap : Array Value) (w : World), (Instr.makeFunc fn first cap).run Try.prog w = .ok (.func fn first cap) w := fun _ _ _ _ => rfl
  have hd' := Lib.hid hd
  clear hd
  unfold rise
  go_enter_defers Try.func15, Try.ntmps15
  go_wp2
  go_loopw [6, 8, 15] (fun y s i wr => ∃ (k : Nat) (z : Int), i = .int .i64 k ∧ y = .int .u64 z ∧ x ≤ z ∧ z ≤ m ∧ z ≤ b ∧ (z = m ∨ z = x + k * n) ∧ k ≤ 2001 ∧ Below w.heap.size w wr ∧ w.heap.size < wr.heap.size ∧ wr.cell? ⟨w.heap.size, 0, none⟩ = some (.bool false) ∧ wr.frozen? ⟨w.heap.size, 0, none⟩ = false) (fun _ _ i _ => (2002 - intOf i).toNat)
  case atStart => exact ⟨0, x, rfl, rfl, by omega, by omega, by omega, by omega, by omega, (Below.refl _ _).alloc (Nat.le_refl _) _, by simp, by simp [go_sem], by simp [go_sem]⟩
  case round =>
    obtain ⟨k, z, rfl, rfl, h1, h2, h3, h4, h5, hbel, hsz, hc, hf⟩ := hrel
    have hcs := stepTo_cases n m z ⟨hn1, hn2⟩ ⟨hm1, hm2⟩ ⟨by omega, h2⟩
    have hk : z < m → k ≤ 2000 := fun hz => by
      have h6 : z = x + k * n := by omega
      have h7 : (k : Int) ≤ (m - x) / n := Int.le_ediv_of_mul_le (by omega) (by omega)
      have := hd'.out
      omega
    have hst : ∀ W : World, Calls Try.prog 9 #[.agg #[.int .u64 n, .int .u64 m], .int .u64 z] W fun e w' => e = .returned (.int .u64 (stepTo n m z)) ∧ Below W.heap.size W w' :=
      fun W => step_any n m z W ⟨by omega, hn2⟩ ⟨hm1, hm2⟩ ⟨by omega, by omega⟩
    obtain ⟨s, hs⟩ : ∃ s, s = stepTo n m z := ⟨_, rfl⟩
    rw [← hs] at hcs hst
    have hs' := Lib.hid hs
    clear hs
    have hst' := Lib.hid hst
    clear hst
    have h4' := Lib.hid h4
    clear h4
    have hlt : (k : Int) < 1048576 := by omega
    have h5' := Lib.hid h5
    have hk' := Lib.hid hk
    clear h5 hk
    have hbel' := Lib.hid hbel
    clear hbel
    rcases hcs with ⟨e1, e2⟩ | ⟨e1, e2, e3, e4⟩
    · have e1' := Lib.hid e1
      clear e1
      obtain rfl := e2
      go_wp2_with (go_at_call 9; refine (hst'.out _).mono ?_; rintro e w' ⟨rfl, hbw⟩; obtain ⟨hcc, hff⟩ := bcell hbw; have hbw' := Lib.hid hbw; clear hbw)
      refine leaves_cons (f := 17) (args := #[.pointer (some ⟨w.heap.size, 0, none⟩)]) (by simp) (by simp [go_sem]) ?_
      refine (caught _ _).mono ?_
      rintro e u' w'' ⟨rfl, rfl, rfl⟩
      have hcy := (hcc _ 0 hsz).trans hc
      simp [Leaves, settle, results, Try.results15, go_sem, hcy]
      refine ⟨⟨s, by simp; have := e1'.out; omega, fun _ => e1'.out⟩, ?_⟩
      exact (hbel'.out.trans (hbw'.out.mono (Nat.le_of_lt hsz))).setCell (Nat.le_refl _) _
    · have e4' := Lib.hid e4
      clear e4
      by_cases hbs : b < s
      · go_wp2_with (go_at_call 9; refine (hst'.out _).mono ?_; rintro e w' ⟨rfl, hbw⟩; obtain ⟨hcc, hff⟩ := bcell hbw; have hbw' := Lib.hid hbw; clear hbw hlt)
        refine leaves_cons (f := 17) (args := #[.pointer (some ⟨w.heap.size, 0, none⟩)]) (by simp) (by simp [go_sem]) ?_
        refine (caught _ _).mono ?_
        rintro e u' w'' ⟨rfl, rfl, rfl⟩
        have hcy := (hcc _ 0 hsz).trans hc
        simp [Leaves, settle, results, Try.results15, go_sem, hcy]
        refine ⟨⟨s, by simp; omega, by omega⟩, ?_⟩
        exact (hbel'.out.trans (hbw'.out.mono (Nat.le_of_lt hsz))).setCell (Nat.le_refl _) _
      · have hbs' : s ≤ b := by omega
        clear hbs
        go_wp2_with (go_at_call 9; refine (hst'.out _).mono ?_; rintro e w' ⟨rfl, hbw⟩; obtain ⟨hcc, hff⟩ := bcell hbw; have hbw' := Lib.hid hbw; clear hbw hlt; have h5 := h5'.out)
        go_roundw
        case rel =>
          have hcy := (hcc _ 0 hsz).trans hc
          have hfy := (hff _ 0 hsz).trans hf
          have hk := hk'.out e1
          refine ⟨k + 1, s, by go_num, rfl, by omega, e3, hbs', ?_, by omega, hbel'.out.trans (hbw'.out.mono (Nat.le_of_lt hsz)), Nat.lt_of_lt_of_le hsz hbw'.out.size, hcy, hfy⟩
          have h8 : ((k + 1 : Nat) : Int) * n = k * n + n := by rw [Int.natCast_succ, Int.add_mul, Int.one_mul]
          have := h4'.out
          have := e4'.out
          omega
        case measure => simp [intOf]; omega

def LeastEnd (m b : Int) (w : World) (e : Ending) (w' : World) : Prop :=
  e = .returned (.tuple #[.int .u64 (if m ≤ b then m else 18446744073709551615), .bool (decide (m ≤ b))]) ∧ Below w.heap.size w w'

theorem least_any (n m x b : Int) (w : World) (hn : 1 ≤ n ∧ n ≤ 18446744073709551615) (hm : 0 ≤ m ∧ m ≤ 18446744073709551615) (hx : 0 ≤ x ∧ x ≤ m) (hb : 0 ≤ b ∧ b ≤ 18446744073709551615) (hd : (m - x) / n ≤ 2000) :
    Calls Try.prog 8 #[rise n m, .int .u64 x, .int .u64 b] w (LeastEnd m b w) := by
  by_cases hxb : x ≤ b
  · by_cases hmb : m ≤ b
    · have hdb : decide (m ≤ b) = true := by simpa using hmb
      have hd' := Lib.hid hd
      clear hd
      go_enter Try.func8, Try.ntmps8
      go_wp2_with (go_at_call 15; refine (climb_any n m x b _ hn hm hx hb hd'.out hxb).mono ?_; rintro e w' ⟨⟨y, rfl, hy⟩, hbw⟩; obtain rfl := hy hmb; rw [hdb]; have hbw' := Lib.hid hbw; clear hbw hy)
      go_ret2
      exact ⟨by rw [if_pos hmb, hdb]; rfl, hbw'.out⟩
    · have hdb : decide (m ≤ b) = false := by simpa using hmb
      have hd' := Lib.hid hd
      clear hd
      go_enter Try.func8, Try.ntmps8
      go_wp2_with (go_at_call 15; refine (climb_any n m x b _ hn hm hx hb hd'.out hxb).mono ?_; rintro e w' ⟨⟨y, rfl, hy⟩, hbw⟩; rw [hdb]; have hbw' := Lib.hid hbw; clear hbw hy)
      go_ret2
      exact ⟨by rw [if_neg (by omega), hdb]; rfl, hbw'.out⟩
  · have hdb : decide (m ≤ b) = false := by simp; omega
    have hd' := Lib.hid hd
    clear hd
    go_enter Try.func8, Try.ntmps8
    go_wp2_with (go_at_call 15; refine (climb_over n m x b _ (by omega)).mono ?_; rintro e w' ⟨rfl, hbw⟩; have hbw' := Lib.hid hbw; clear hbw)
    go_ret2
    exact ⟨by rw [if_neg (by omega), hdb]; rfl, hbw'.out⟩

theorem least_1 (w : World) : Calls Try.prog 8 #[.func (.func 9) #[.agg #[.int .u64 3, .int .u64 10]] #[], .int .u64 1, .int .u64 20] w fun e w' => e = .returned (.tuple #[.int .u64 10, .bool true]) ∧ Below w.heap.size w w' :=
  (least_any 3 10 1 20 w (by omega) (by omega) (by omega) (by omega) (by omega)).mono fun _ _ h => ⟨by rw [h.1]; rfl, h.2⟩
theorem least_2 (w : World) : Calls Try.prog 8 #[.func (.func 9) #[.agg #[.int .u64 3, .int .u64 30]] #[], .int .u64 1, .int .u64 20] w fun e w' => e = .returned (.tuple #[.int .u64 18446744073709551615, .bool false]) ∧ Below w.heap.size w w' :=
  (least_any 3 30 1 20 w (by omega) (by omega) (by omega) (by omega) (by omega)).mono fun _ _ h => ⟨by rw [h.1]; rfl, h.2⟩

theorem ceil_1 (w : World) : Calls Try.prog 10 #[.int .u64 7, .int .u64 2] w fun e w' => e = .returned (.int .u64 4) ∧ w = w' := by
  go_enter Try.func10, Try.ntmps10
  go_wp2
  go_ret
  exact ⟨rfl, rfl⟩
theorem mul_1 (w : World) : Calls Try.prog 12 #[.int .u64 1099511627776, .int .u64 1099511627776] w fun e w' => e = .returned (.int .u64 18446744073709551615) ∧ w = w' := by
  go_enter Try.func12, Try.ntmps12
  go_wp2
  go_ret
  exact ⟨rfl, rfl⟩
theorem sub_1 (w : World) : Calls Try.prog 13 #[.int .u64 3, .int .u64 5] w fun e w' => e = .returned (.int .u64 0) ∧ w = w' := by
  go_enter Try.func13, Try.ntmps13
  go_wp2
  go_ret
  exact ⟨rfl, rfl⟩
theorem of_1 (w : World) : Calls Try.prog 14 #[.int .i64 (-4)] w fun e w' => e = .returned (.int .u64 0) ∧ w = w' := by
  go_enter Try.func14, Try.ntmps14
  go_wp2
  go_ret
  exact ⟨rfl, rfl⟩
theorem add_1 (w : World) : Calls Try.prog 11 #[.int .u64 9223372036854775808, .int .u64 9223372036854775808] w fun e w' => e = .returned (.int .u64 18446744073709551615) ∧ w = w' :=
  (add_any 9223372036854775808 9223372036854775808 w (by omega) (by omega)).mono fun _ _ h => ⟨by rw [h.1]; rfl, h.2⟩

theorem fixed_any (w : World) : Calls Try.prog 5 #[] w fun e w' => e = .returned (.bool true) ∧ Below w.heap.size w w' := by
  have hmf : ∀ (fn : Fn) (first cap : Array Value) (w : World), (Instr.makeFunc fn first cap).run Try.prog w = .ok (.func fn first cap) w := fun _ _ _ _ => rfl
  go_enter Try.func5, Try.ntmps5
  go_wp2_with fail
  refine (least_1 _).mono ?_; rintro e w' ⟨rfl, hb1⟩; have hb1' := Lib.hid hb1; clear hb1
  go_wp2_with fail
  refine (least_2 _).mono ?_; rintro e w' ⟨rfl, hb2⟩; have hb2' := Lib.hid hb2; clear hb2
  go_wp2_with fail
  refine (ceil_1 _).mono ?_; rintro e w' ⟨rfl, rfl⟩
  go_wp2_with fail
  refine (add_1 _).mono ?_; rintro e w' ⟨rfl, rfl⟩
  go_wp2_with fail
  refine (mul_1 _).mono ?_; rintro e w' ⟨rfl, rfl⟩
  go_wp2_with fail
  refine (sub_1 _).mono ?_; rintro e w' ⟨rfl, rfl⟩
  go_wp2_with fail
  refine (of_1 _).mono ?_; rintro e w' ⟨rfl, rfl⟩
  go_wp2
  go_ret
  exact ⟨rfl, hb1'.out.trans (hb2'.out.mono hb1'.out.size)⟩
end Go.Proofs.Ytafcdjmbbpnbiaa
