/- The document's own calls of layer 4, over slices of rows. -/
import Derived.Test.YtbmegpcdcbfjmaaRefP
import Derived.Test.YtbmegpcdcbfjmaaDeltaAll
import Derived.Deep.RegionLaw
namespace Go.Proofs.Ytbmegpcdcbfjmaa.Ref
open Go.RowKit Delta

def cellsOf2 (x : Int × Int) : List Value := [.int .i64 x.1, .int .i64 x.2]
def flat (xs : Gaps) : List Value := xs.flatMap cellsOf2
theorem flat_append (p q : Gaps) : flat (p ++ q) = flat p ++ flat q := by simp [flat]
theorem flat_length : ∀ xs : Gaps, (flat xs).length = xs.length * 2
  | [] => rfl
  | x :: r => by
    have := flat_length r
    simp only [flat, List.flatMap_cons, List.length_append, cellsOf2, List.length_cons, List.length_nil] at this ⊢
    omega
theorem flat_at : ∀ (xs : Gaps) (j : Nat) (x : Int × Int), xs[j]? = some x → (flat xs)[j * 2]? = some (.int .i64 x.1) ∧ (flat xs)[j * 2 + 1]? = some (.int .i64 x.2)
  | [], j, x, h => by simp at h
  | y :: r, 0, x, h => by
    cases h
    exact ⟨rfl, rfl⟩
  | y :: r, j + 1, x, h => by
    have := flat_at r j x h
    have e : flat (y :: r) = [.int .i64 y.1, .int .i64 y.2] ++ flat r := rfl
    rw [e, List.getElem?_append_right (by simp; omega), List.getElem?_append_right (by simp; omega)]
    simp only [List.length_cons, List.length_nil]
    rw [show (j + 1) * 2 - (0 + 1 + 1) = j * 2 by omega, show (j + 1) * 2 + 1 - (0 + 1 + 1) = j * 2 + 1 by omega]
    exact this
theorem flat_take : ∀ (xs : Gaps) (j : Nat), (flat xs).take (j * 2) = flat (xs.take j)
  | [], j => by simp [flat]
  | y :: r, 0 => rfl
  | y :: r, j + 1 => by
    have := flat_take r j
    have e : flat (y :: r) = .int .i64 y.1 :: .int .i64 y.2 :: flat r := rfl
    rw [e, show (j + 1) * 2 = j * 2 + 1 + 1 by omega, List.take_succ_cons, List.take_succ_cons, this]
    rfl
theorem flat_drop : ∀ (xs : Gaps) (j : Nat), (flat xs).drop (j * 2) = flat (xs.drop j)
  | [], j => by simp [flat]
  | y :: r, 0 => rfl
  | y :: r, j + 1 => by
    have := flat_drop r j
    have e : flat (y :: r) = .int .i64 y.1 :: .int .i64 y.2 :: flat r := rfl
    rw [e, show (j + 1) * 2 = j * 2 + 1 + 1 by omega, List.drop_succ_cons, List.drop_succ_cons, this]
    rfl
theorem flat_one (xs : Gaps) : ∀ u ∈ flat xs, u.oneCell' = true := by
  intro u hu
  simp only [flat, List.mem_flatMap, cellsOf2] at hu
  obtain ⟨x, _, hx⟩ := hu
  simp at hx
  rcases hx with rfl | rfl <;> rfl
theorem info60 : (Try.prog.info? 60).map (fun i => (i.zero, i.size, i.bytes)) = some (some (Value.agg #[.int .i64 0, .int .i64 0]), 2, 16) := by kernel_rfl

/-- A slice of rows. -/
def RowsAt (w : World) (p : Option Addr) (n cap : Nat) (h : Option Nat) (xs : Gaps) : Prop := Win w 60 2 (.slice p n cap) h n (flat xs) ∧ xs.length = n
theorem RowsAt.kept {S : Nat → Prop} {w w' : World} {p : Option Addr} {n cap : Nat} {h : Option Nat} {xs : Gaps} (hR : RowsAt w p n cap h xs) (ho : Only S w w') (hS : ∀ k, h = some k → ¬ S k) : RowsAt w' p n cap h xs := ⟨hR.1.kept ho hS, hR.2⟩
theorem RowsAt.new {w w' : World} {p : Option Addr} {n cap : Nat} {h : Option Nat} {xs : Gaps} (hR : RowsAt w p n cap h xs) (ho : Only (fun _ => False) w w') : RowsAt w' p n cap h xs := hR.kept ho (fun _ _ h => h)
/-- Where there is a row, its address and each row's cells. -/
theorem RowsAt.at_ {w : World} {p : Option Addr} {n cap : Nat} {h : Option Nat} {xs : Gaps} (hR : RowsAt w p n cap h xs) (hn : 0 < n) : ∃ g off, h = some g ∧ p = some ⟨g, off, none⟩ ∧ n ≤ cap ∧ ∀ (j : Nat) (x : Int × Int), xs[j]? = some x → w.cell? ⟨g, off + j * 2, none⟩ = some (.int .i64 x.1) ∧ w.cell? ⟨g, off + j * 2 + 1, none⟩ = some (.int .i64 x.2) := by
  obtain ⟨g, off, cap', hh, e, h1, h2, h3, h4, h5⟩ := hR.1.at_ hn
  simp only [Value.slice.injEq, true_and] at e
  obtain ⟨rfl, rfl⟩ := e
  refine ⟨g, off, hh, rfl, h1, fun j x hx => ?_⟩
  obtain ⟨a, b⟩ := flat_at xs j x hx
  exact ⟨h4 _ _ a, by have := h4 _ _ b; rwa [← Nat.add_assoc] at this⟩

theorem ret_i {k : IntKind} {a b : Int} (h : a = b) : Ending.returned (.int k a) = .returned (.int k b) := by rw [h]

theorem find_none {w : World} {p : Option Addr} {n cap : Nat} {h : Option Nat} {xs : Gaps} (hR : RowsAt w p n cap h xs) (hn : n ≤ 1000) (key : Int) (hk : ∀ x ∈ xs, x.1 ≠ key) :
    Calls Try.prog 21 #[.slice p n cap, .int .i64 key] w fun e w' => e = .returned (.int .i64 (-1)) ∧ Only (fun _ => False) w w' := by
  have hR' := Lib.hid hR
  have hk' := Lib.hid hk
  clear hR hk
  go_enter Try.func21, Try.ntmps21
  go_wp2
  go_loopw [9] (fun i wr => ∃ j : Nat, j ≤ n ∧ i = .int .i64 j ∧ Only (fun _ => False) w wr) (fun i _ => n - (intOf i).toNat)
  case atStart => exact ⟨0, Nat.zero_le _, rfl, Only.refl _ _⟩
  case round =>
    obtain ⟨j, hj, rfl, ho⟩ := hrel
    obtain ⟨ws, hws⟩ : ∃ ws : World, ws = wr := ⟨_, rfl⟩
    subst hws
    by_cases hjn : j < n
    · obtain ⟨g, off, _, rfl, hcap, hc⟩ := (hR'.out.new ho).at_ (by omega)
      obtain ⟨x, hx⟩ : ∃ x, xs[j]? = some x := ⟨xs[j]'(by have := hR'.out.2; omega), List.getElem?_eq_getElem _⟩
      obtain ⟨c0, c1⟩ := hc j x hx
      have hne : (x.1 == key) = false := by simpa using hk'.out x (List.mem_of_getElem? hx)
      have hjn' : (j : Int) < (n : Int) := by omega
      have ho' := Lib.hid ho
      clear hc hx ho
      go_wp2
      go_roundw
      case rel => exact ⟨j + 1, by omega, by go_num, ho'.out.alloc _⟩
      case measure => simp [intOf]; omega
    · have ho' := Lib.hid ho
      clear ho
      go_wp2
      go_ret
      exact ⟨rfl, ho'.out⟩
theorem find_some {w : World} {p : Option Addr} {n cap : Nat} {h : Option Nat} {xs ys : Gaps} {y : Int × Int} (hR : RowsAt w p n cap h (xs ++ y :: ys)) (hn : n ≤ 1000) (hk : ∀ x ∈ xs, x.1 ≠ y.1) :
    Calls Try.prog 21 #[.slice p n cap, .int .i64 y.1] w fun e w' => e = .returned (.int .i64 xs.length) ∧ Only (fun _ => False) w w' := by
  have hl : xs.length < n := by have := hR.2; simp at this; omega
  obtain ⟨g, off, _, rfl, hcap, _⟩ := hR.at_ (by omega)
  have hR' := Lib.hid hR
  have hk' := Lib.hid hk
  obtain ⟨i0, hi0⟩ : ∃ i0, i0 = xs.length := ⟨_, rfl⟩
  rw [← hi0] at hl ⊢
  have hi0' := Lib.hid hi0
  clear hR hk hi0
  go_enter Try.func21, Try.ntmps21
  go_wp2
  go_loopw [9] (fun i wr => ∃ j : Nat, j ≤ i0 ∧ i = .int .i64 j ∧ Only (fun _ => False) w wr) (fun i _ => n - (intOf i).toNat)
  case atStart => exact ⟨0, Nat.zero_le _, rfl, Only.refl _ _⟩
  case round =>
    obtain ⟨j, hj, rfl, ho⟩ := hrel
    obtain ⟨ws, hws⟩ : ∃ ws : World, ws = wr := ⟨_, rfl⟩
    subst hws
    obtain ⟨g', off', _, e, _, hc⟩ := (hR'.out.new ho).at_ (by omega)
    cases e
    have hjn' : (j : Int) < (n : Int) := by omega
    have ho' := Lib.hid ho
    by_cases hji : j < i0
    · obtain ⟨x, hx⟩ : ∃ x, xs[j]? = some x := ⟨xs[j]'(by have := hi0'.out; omega), List.getElem?_eq_getElem _⟩
      obtain ⟨c0, c1⟩ := hc j x (by rw [List.getElem?_append_left (by have := hi0'.out; omega)]; exact hx)
      have hne : (x.1 == y.1) = false := by simpa using hk'.out x (List.mem_of_getElem? hx)
      clear hc hx ho
      go_wp2
      go_roundw
      case rel => exact ⟨j + 1, by omega, by go_num, ho'.out.alloc _⟩
      case measure => simp [intOf]; omega
    · obtain rfl : j = i0 := by omega
      obtain ⟨c0, c1⟩ := hc j y (by rw [hi0'.out, List.getElem?_append_right (Nat.le_refl _)]; simp)
      have hne : (y.1 == y.1) = true := by simp
      clear hc ho
      go_wp2
      go_ret
      exact ⟨rfl, ho'.out.alloc _⟩
end Go.Proofs.Ytbmegpcdcbfjmaa.Ref
