/- What operations cost, and what a program comes to alone. -/
import Derived.Test.YtdoimkmhincmmaaPC
namespace Go.Proofs.Ytdoimkmhincmmaa
namespace Cst
open Go Go.RowKit 

def cntZ (n : Int) : Int := min (max n 0) 1073741824
theorem counted_any (n : Int) (w : World) : Calls Try.prog 77 #[.int .i64 n] w (RetI (cntZ n) w) := by
  by_cases h0 : 0 ≤ n
  · by_cases h1 : n ≤ 1073741824
    · have e : cntZ n = n := by unfold cntZ; omega
      rw [e]
      clear e
      go_enter Try.func77, Try.ntmps77
      go_wp2
      all_goals
        go_ret
        exact ⟨by congr 2 <;> omega, rfl⟩
    · have e : cntZ n = 1073741824 := by unfold cntZ; omega
      rw [e]
      clear e
      go_enter Try.func77, Try.ntmps77
      go_wp2
      all_goals
        go_ret
        exact ⟨by congr 2 <;> omega, rfl⟩
  · have e : cntZ n = 0 := by unfold cntZ; omega
    rw [e]
    clear e
    go_enter Try.func77, Try.ntmps77
    go_wp2
    all_goals
      go_ret
      exact ⟨by congr 2 <;> omega, rfl⟩
/-- What an operation costs. -/
def ofZ (x : Opn) (h mi : Int) (hit : Bool) : Int := if x.k = 1 then cntZ x.a else if x.k ≠ 2 then 1 else if hit then cntZ h else cntZ mi
theorem ofZ_le (x : Opn) (h mi : Int) (hit : Bool) : 0 ≤ ofZ x h mi hit ∧ ofZ x h mi hit ≤ 1073741824 := by
  unfold ofZ cntZ
  split
  · omega
  · split
    · omega
    · split <;> omega
theorem of_any (x : Opn) (s wy h mi : Int) (hit : Bool) (w : World) : Calls Try.prog 68 #[x.val, .agg #[.int .i64 s, .int .i64 wy, .int .i64 h, .int .i64 mi], .bool hit] w (GrowI (ofZ x h mi hit) w) := by
  obtain ⟨k, a, b⟩ := x
  unfold Opn.val
  by_cases h1 : k = 1
  · have e : ofZ ⟨k, a, b⟩ h mi hit = cntZ a := by simp [ofZ, h1]
    rw [e]
    subst h1
    clear e
    go_enter Try.func68, Try.ntmps68
    go_wp2_with (go_at_call 77; refine (counted_any a _).mono ?_; rintro e w' ⟨rfl, rfl⟩)
    go_ret
    exact ⟨rfl, ((Only.refl _ w).alloc _).alloc _⟩
  · by_cases h2 : k = 2
    · subst h2
      cases hit
      · have e : ofZ ⟨2, a, b⟩ h mi false = cntZ mi := by simp [ofZ]
        rw [e]
        clear e
        go_enter Try.func68, Try.ntmps68
        go_wp2_with (go_at_call 77; refine (counted_any mi _).mono ?_; rintro e w' ⟨rfl, rfl⟩)
        go_ret
        exact ⟨rfl, ((Only.refl _ w).alloc _).alloc _⟩
      · have e : ofZ ⟨2, a, b⟩ h mi true = cntZ h := by simp [ofZ]
        rw [e]
        clear e
        go_enter Try.func68, Try.ntmps68
        go_wp2_with (go_at_call 77; refine (counted_any h _).mono ?_; rintro e w' ⟨rfl, rfl⟩)
        go_ret
        exact ⟨rfl, ((Only.refl _ w).alloc _).alloc _⟩
    · have e : ofZ ⟨k, a, b⟩ h mi hit = 1 := by simp [ofZ, h1, h2]
      rw [e]
      clear e
      have g1 : (k == 1) = false := by simpa using h1
      have g2 : (k == 2) = false := by simpa using h2
      go_enter Try.func68, Try.ntmps68
      go_wp2
      go_ret
      exact ⟨rfl, ((Only.refl _ w).alloc _).alloc _⟩
end Cst
end Go.Proofs.Ytdoimkmhincmmaa
