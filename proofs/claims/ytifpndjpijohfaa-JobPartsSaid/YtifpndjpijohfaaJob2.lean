/- What a job tells: how many cycles are left, the place, what is pushed and open, the operation. -/
import Derived.Test.YtifpndjpijohfaaJob
namespace Go.Proofs.Ytifpndjpijohfaa
open Go Go.RowKit

theorem jrest_nil (w : World) : Calls Try.prog 13 #[.pointer none] w (RetI 0 w) := by
  go_enter Try.func13, Try.ntmps13
  go_wp2
  go_ret
  exact ⟨rfl, rfl⟩
theorem jat_nil (w : World) : Calls Try.prog 14 #[.pointer none] w (RetI 0 w) := by
  go_enter Try.func14, Try.ntmps14
  go_wp2
  go_ret
  exact ⟨rfl, rfl⟩
theorem jpushed_nil (w : World) : Calls Try.prog 19 #[.pointer none] w (RetI 0 w) := by
  go_enter Try.func19, Try.ntmps19
  go_wp2
  go_ret
  exact ⟨rfl, rfl⟩
theorem jfault_nil (w : World) : Calls Try.prog 16 #[.pointer none] w (RetB false w) := by
  go_enter Try.func16, Try.ntmps16
  go_wp2
  go_ret
  exact ⟨rfl, rfl⟩
theorem jopen_nil (w : World) : Calls Try.prog 17 #[.pointer none] w (RetB false w) := by
  go_enter Try.func17, Try.ntmps17
  go_wp2
  go_ret
  exact ⟨rfl, rfl⟩
theorem jleft_nil (w : World) : Calls Try.prog 12 #[.pointer none] w fun e w' => e = .returned (.tuple #[.int .i64 0, .bool false]) ∧ w = w' := by
  go_enter Try.func12, Try.ntmps12
  go_wp2
  exact bodyPost_ret (v := .tuple #[.int .i64 0, .bool false]) (by simp [results, Try.results12, go_sem]) rfl ⟨rfl, rfl⟩
section
variable {w : World} {b : Nat} {o : Option Nat} {j : Jb}
theorem jrest_any (h : JbAt w b o j) : Calls Try.prog 13 #[.pointer (some ⟨b, 0, none⟩)] w (RetI j.rest w) := by
  obtain ⟨p, cap, h1, h2, hb, h3, h4⟩ := h.block
  have c3 := row_cell hb (i := 3) rfl
  clear h h1 h2 hb h3 h4
  go_enter Try.func13, Try.ntmps13
  go_wp2
  go_ret
  exact ⟨rfl, rfl⟩
theorem jat_any (h : JbAt w b o j) : Calls Try.prog 14 #[.pointer (some ⟨b, 0, none⟩)] w (RetI j.at_ w) := by
  obtain ⟨p, cap, h1, h2, hb, h3, h4⟩ := h.block
  have c2 := row_cell hb (i := 2) rfl
  clear h h1 h2 hb h3 h4
  go_enter Try.func14, Try.ntmps14
  go_wp2
  go_ret
  exact ⟨rfl, rfl⟩
theorem jpushed_any (h : JbAt w b o j) : Calls Try.prog 19 #[.pointer (some ⟨b, 0, none⟩)] w (RetI j.pushed w) := by
  obtain ⟨p, cap, h1, h2, hb, h3, h4⟩ := h.block
  have c5 := row_cell hb (i := 5) rfl
  clear h h1 h2 hb h3 h4
  go_enter Try.func19, Try.ntmps19
  go_wp2
  go_ret
  exact ⟨rfl, rfl⟩
theorem jfault_any (h : JbAt w b o j) : Calls Try.prog 16 #[.pointer (some ⟨b, 0, none⟩)] w (RetB j.fault w) := by
  obtain ⟨p, cap, h1, h2, hb, h3, h4⟩ := h.block
  have c8 := row_cell hb (i := 8) rfl
  clear h h1 h2 hb h3 h4
  go_enter Try.func16, Try.ntmps16
  go_wp2
  go_ret
  exact ⟨rfl, rfl⟩
theorem jopen_any (h : JbAt w b o j) : Calls Try.prog 17 #[.pointer (some ⟨b, 0, none⟩)] w (RetB (decide (0 < j.regions)) w) := by
  obtain ⟨p, cap, h1, h2, hb, h3, h4⟩ := h.block
  have c4 := row_cell hb (i := 4) rfl
  clear h h1 h2 hb h3 h4
  go_enter Try.func17, Try.ntmps17
  go_wp2
  go_ret
  exact ⟨rfl, rfl⟩
theorem jleft_any (h : JbAt w b o j) : Calls Try.prog 12 #[.pointer (some ⟨b, 0, none⟩)] w (DrewV (.tuple #[.int .i64 j.left, .bool j.armed]) w) := by
  obtain ⟨p, cap, h1, h2, hb, h3, h4⟩ := h.block
  have c6 := row_cell hb (i := 6) rfl
  have c7 := row_cell hb (i := 7) rfl
  clear h h1 h2 hb h3 h4
  go_enter Try.func12, Try.ntmps12
  go_wp2
  go_quiet (fail)
  go_wp2
  exact bodyPost_ret (v := .tuple #[.int .i64 j.left, .bool j.armed]) (by simp [results, Try.results12, go_sem]) rfl ⟨rfl, _, rfl⟩
end

/-! ### The operation -/
/-- The operation that begins now. -/
def opOf (j : Jb) : Option Opn := if j.rest = 0 ∧ j.fault = false then j.ops[j.at_]? else none
theorem opOf_some {j : Jb} {x : Opn} (h : opOf j = some x) : j.rest = 0 ∧ j.fault = false ∧ j.ops[j.at_]? = some x := by
  unfold opOf at h
  split at h
  · rename_i h0
    exact ⟨h0.1, h0.2, h⟩
  · cases h
theorem over_opOf {j : Jb} : overB j = true ↔ j.rest = 0 ∧ opOf j = none := by
  unfold overB opOf
  cases j.fault <;> by_cases h : j.rest = 0 <;> simp [h]
/-- A struct of three laid anew in a block of the call's own. -/
theorem only_laid {w : World} {B : Nat} (hB : w.heap.size ≤ B) {W : World} (hW : Only (fun _ => False) w W) (a b c : Value) : Only (fun _ => False) w (((W.setCell ⟨B, 0, none⟩ a).setCell ⟨B, 1, none⟩ b).setCell ⟨B, 2, none⟩ c) :=
  ((hW.setCell (p := ⟨B, 0, none⟩) (fun h => absurd h (by simp; omega)) a).setCell (p := ⟨B, 1, none⟩) (fun h => absurd h (by simp; omega)) b).setCell (p := ⟨B, 2, none⟩) (fun h => absurd h (by simp; omega)) c
theorem jop_nil (w : World) : Calls Try.prog 18 #[.pointer none] w (GrowV (.tuple #[zop.val, .bool false]) w) := by
  go_enter Try.func18, Try.ntmps18
  go_wp2_with fail
  refine (jover_nil _).mono ?_
  rintro e w' ⟨rfl, m, rfl⟩
  go_wp2
  exact bodyPost_ret (v := .tuple #[zop.val, .bool false]) (by simp [results, Try.results18, go_sem, zop, Opn.val]) rfl ⟨rfl, only_laid (Nat.le_refl _) (((Only.refl _ w).alloc _).drewN _) _ _ _⟩
section
variable {w : World} {b : Nat} {o : Option Nat} {j : Jb}
theorem jop_none (h : JbAt w b o j) (hr : 0 ≤ j.rest) (hn : opOf j = none) : Calls Try.prog 18 #[.pointer (some ⟨b, 0, none⟩)] w (GrowV (.tuple #[zop.val, .bool false]) w) := by
  have hB := Lib.hid (row_lt h.block.choose_spec.choose_spec.2.2.1)
  have ho := Lib.hid (jover_any (h.new ((Only.refl _ w).alloc (.cells #[.int .i64 0, .int .i64 0, .int .i64 0] 39))))
  by_cases h0 : j.rest = 0
  · rw [over_opOf.2 ⟨h0, hn⟩] at ho
    clear h hr hn h0
    go_enter Try.func18, Try.ntmps18
    go_wp2_with fail
    refine ho.out.mono ?_
    rintro e w' ⟨rfl, m, rfl⟩
    go_wp2
    exact bodyPost_ret (v := .tuple #[zop.val, .bool false]) (by simp [results, Try.results18, go_sem, zop, Opn.val]) rfl ⟨rfl, only_laid (Nat.le_refl _) (((Only.refl _ w).alloc _).drewN _) _ _ _⟩
  · have hov : overB j = false := by
      rw [Bool.eq_false_iff]
      intro e
      exact h0 (over_opOf.1 e).1
    rw [hov] at ho
    obtain ⟨p, cap, h1, h2, hb, h3, h4⟩ := h.block
    have c3 := row_cell hb (i := 3) rfl
    obtain ⟨R, hR⟩ : ∃ R, R = j.rest := ⟨_, rfl⟩
    rw [← hR] at c3
    have hR0 : 0 < R := by omega
    have hl := hB.out
    clear h h1 h2 hb h3 h4 hr hn h0 hR hov
    go_enter Try.func18, Try.ntmps18
    go_wp2_with fail
    refine ho.out.mono ?_
    rintro e w' ⟨rfl, m, rfl⟩
    go_wp2
    exact bodyPost_ret (v := .tuple #[zop.val, .bool false]) (by simp [results, Try.results18, go_sem, zop, Opn.val]) rfl ⟨rfl, only_laid (Nat.le_refl _) (((Only.refl _ w).alloc _).drewN _) _ _ _⟩
set_option maxHeartbeats 1000000 in
theorem jop_some (h : JbAt w b o j) {x : Opn} (hx : opOf j = some x) (hn : j.ops.length ≤ 1000) : Calls Try.prog 18 #[.pointer (some ⟨b, 0, none⟩)] w (GrowV (.tuple #[x.val, .bool true]) w) := by
  obtain ⟨hr, hf, hx⟩ := opOf_some hx
  obtain ⟨hlt, hxx⟩ := List.getElem?_eq_some_iff.1 hx
  have ho := Lib.hid (jover_any (h.new ((Only.refl _ w).alloc (.cells #[.int .i64 0, .int .i64 0, .int .i64 0] 39))))
  rw [show overB j = false from by unfold overB; rw [hf]; simp; omega] at ho
  obtain ⟨p, cap, h1, h2, hb, h3, h4⟩ := h.block
  obtain ⟨n, hn'⟩ : ∃ n, n = j.ops.length := ⟨_, rfl⟩
  obtain ⟨A, hA⟩ : ∃ A, A = j.at_ := ⟨_, rfl⟩
  rw [← hn'] at h1 hb h3 hn hlt
  obtain ⟨g, off, cap', _, hv, _, _, hgl, hc, _⟩ := win_op h3 (by omega)
  cases hv
  have hl := row_lt hb
  have c0 := row_cell hb (i := 0) rfl
  have c2 := row_cell hb (i := 2) rfl
  have c3 := row_cell hb (i := 3) rfl
  obtain ⟨a0, a1, a2⟩ := hc _ x hx
  rw [← hA] at c2 a0 a1 a2 hlt
  rw [hr] at c3
  have hAn : (A : Int) < (n : Int) := by omega
  have hA1 : A ≤ 1000 := by omega
  clear h h1 h2 hb h3 h4 hx hxx hr hf hc hn' hA hlt
  unfold Opn.val
  go_enter Try.func18, Try.ntmps18
  go_wp2_with fail
  refine ho.out.mono ?_
  rintro e w' ⟨rfl, m, rfl⟩
  go_wp2
  go_region
  all_goals
    go_wp2
    exact bodyPost_ret (v := .tuple #[.agg #[.int .i64 x.k, .int .i64 x.a, .int .i64 x.b], .bool true]) (by simp [results, Try.results18, go_sem]) rfl ⟨rfl, only_laid (Nat.le_refl _) (((Only.refl _ w).alloc _).drewN _) _ _ _⟩
end
end Go.Proofs.Ytifpndjpijohfaa
