/- The lines' fixed calls, and LinesOnce's walk. -/
import Derived.Test.YtcbdmjkceinanaaLines
namespace Go.Proofs.Ytcbdmjkceinanaa
open Go Go.RowKit

theorem LinesAt.sub {w w' : World} {b g n : Nat} {f m : Nat → Bool} {B : Nat} (h : LinesAt w b g n f m) (hw : Only (fun k => k = g) w w') (hg : B ≤ g) {w0 : World} (h0 : Only (fun k => B ≤ k) w0 w) : Only (fun k => B ≤ k) w0 w' :=
  h0.trans hw (fun x _ e => by subst e; exact hg)

theorem fixed14_any (w : World) : Calls Try.prog 16 #[] w fun e w' => e = .returned (.bool true) ∧ Below w.heap.size w w' := by
  obtain ⟨B, hB⟩ : ∃ B, B = w.heap.size := ⟨_, rfl⟩
  rw [← hB]
  have hBw := Lib.hid (Nat.le_of_eq hB)
  go_enter Try.func16, Try.ntmps16
  go_wp2_with fail
  refine (lnew_any 2 w).mono ?_
  rintro e w1 ⟨rfl, h1, o1⟩
  rw [show linesN 2 = 2 from by decide] at h1
  obtain ⟨b, hb⟩ : ∃ b, b = w.heap.size + 1 := ⟨_, rfl⟩
  obtain ⟨g, hg⟩ : ∃ g, g = w.heap.size := ⟨_, rfl⟩
  rw [← hb, ← hg] at h1
  rw [← hb]
  have hBg : B ≤ g := by omega
  have O1 := Lib.hid (o1.mono (T := fun k => B ≤ k) (fun _ _ h => h.elim))
  clear o1 hb hg hB
  go_wp2_with fail
  refine (raise_yes h1 (i := 1) (by decide)).mono ?_
  rintro e w2 ⟨rfl, h2, o2⟩
  have O2 := Lib.hid (h1.sub o2 hBg O1.out)
  clear o2 O1 h1
  go_wp2_with fail
  refine (mask_yes h2 (i := 1) (by decide)).mono ?_
  rintro e w3 ⟨rfl, h3, o3⟩
  have O3 := Lib.hid (h2.sub o3 hBg O2.out)
  clear o3 O2 h2
  go_wp2_with fail
  refine (raise_yes h3 (i := 1) (by decide)).mono ?_
  rintro e w4 ⟨rfl, h4, o4⟩
  have O4 := Lib.hid (h3.sub o4 hBg O3.out)
  rw [upd_self] at h4 ⊢
  clear o4 O3 h3
  go_wp2_with fail
  refine (unmask_yes h4 (i := 1) (by decide)).mono ?_
  rintro e w5 ⟨rfl, h5, o5⟩
  have O5 := Lib.hid (h4.sub o5 hBg O4.out)
  rw [upd_self]
  clear o5 O4 h4
  go_wp2_with fail
  refine (unmask_yes h5 (i := 1) (by decide)).mono ?_
  rintro e w6 ⟨rfl, h6, o6⟩
  have O6 := Lib.hid (h5.sub o6 hBg O5.out)
  rw [upd_self]
  clear o6 O5 h5
  go_wp2_with fail
  refine (raise_no h6 (i := 2) (.inr (by decide))).mono ?_
  rintro e w' ⟨rfl, hw⟩
  subst hw
  have hl := Lib.hid (llen_any h6.cell)
  clear h6
  go_wp2_with fail
  refine hl.out.mono ?_
  rintro e w' ⟨rfl, hw⟩
  subst hw
  go_wp2
  go_ret
  exact ⟨rfl, O6.out.below hBw.out (fun k h => h)⟩

/-- Line k masked; p: something is latched. -/
def Rung (w : World) (B b g k : Nat) (p : Bool) (wr : World) : Prop :=
  ∃ f m, LinesAt wr b g 8 f m ∧ f k = true ∧ m k = p ∧ Only (fun x => B ≤ x) w wr

section
variable {w ws : World} {B b g k : Nat} {p : Bool}
theorem Rung.only (h : Rung w B b g k p ws) : Only (fun x => B ≤ x) w ws := by
  obtain ⟨_, _, _, _, _, h⟩ := h
  exact h
theorem Rung.raise (h : Rung w B b g k p ws) (hg : B ≤ g) (hk : k < 8) : Calls Try.prog 18 #[.pointer (some ⟨b, 0, none⟩), .int .i64 k] ws fun e w' => e = .returned (.tuple #[.bool false, .int .i64 0]) ∧ Rung w B b g k true w' := by
  obtain ⟨f, m, h1, h2, h3, h4⟩ := h
  refine (raise_yes h1 hk).mono fun e w' ⟨e1, e2, e3⟩ => ?_
  rw [h2] at e1 e2
  exact ⟨e1, f, _, e2, h2, upd_self _ _ _, h1.sub e3 hg h4⟩
end

set_option maxRecDepth 100000 in
theorem once_any (i t : Int) (w : World) (hi : 0 ≤ i ∧ i ≤ 255) (ht : 0 ≤ t ∧ t ≤ 255) : Calls Try.prog 6 #[.int .u8 i, .int .u8 t] w fun e w' => e = .returned (.bool true) ∧ Below w.heap.size w w' := by
  obtain ⟨B, hB⟩ : ∃ B, B = w.heap.size := ⟨_, rfl⟩
  rw [← hB]
  have hBw := Lib.hid (Nat.le_of_eq hB)
  obtain ⟨k, hk, hk8⟩ : ∃ k : Nat, i % 8 = (k : Int) ∧ k < 8 := ⟨(i % 8).toNat, by omega, by omega⟩
  obtain ⟨T, hT⟩ : ∃ T : Nat, t = (T : Int) := ⟨t.toNat, by omega⟩
  subst hT
  obtain ⟨hi0, hi1⟩ := hi
  have ht1 : T ≤ 255 := by omega
  clear ht
  go_enter Try.func6, Try.ntmps6
  go_wp2_with (go_at_call 16; refine (fixed14_any _).mono ?_; rintro e w1 ⟨rfl, hb1⟩; have hb1' := Lib.hid hb1; clear hb1)
  refine (lnew_any 8 w1).mono ?_
  rintro e w2 ⟨rfl, h2, o2⟩
  rw [show linesN 8 = 8 from by decide] at h2
  obtain ⟨b, hb⟩ : ∃ b, b = w1.heap.size + 1 := ⟨_, rfl⟩
  obtain ⟨g, hg⟩ : ∃ g, g = w1.heap.size := ⟨_, rfl⟩
  rw [← hb, ← hg] at h2
  rw [← hb]
  have hBg : B ≤ g := by
    have := hb1'.out.size
    omega
  have O2 := Lib.hid (((Only.of_new hb1'.out (fun k => B ≤ k))).trans o2 (fun _ _ h => h.elim))
  clear o2 hb hg hB hb1'
  go_wp2_with fail
  refine (mask_yes h2 hk8).mono ?_
  rintro e w3 ⟨rfl, h3, o3⟩
  have hR : Rung w B b g k false w3 := ⟨_, _, h3, upd_self _ _ _, rfl, h2.sub o3 hBg O2.out⟩
  have hR' := Lib.hid hR
  clear h2 h3 o3 O2 hR
  go_wp2
  go_loopw [7, 8, 25] (fun _ _ c wr => ∃ j : Nat, j ≤ T ∧ c = .int .u8 j ∧ Rung w B b g k (decide (0 < j)) wr) (fun _ _ c _ => T - (intOf c).toNat)
  case atStart => exact ⟨0, Nat.zero_le _, rfl, hR'.out⟩
  case round =>
    clear hR'
    obtain ⟨j, hj, rfl, hR⟩ := hrel
    obtain ⟨ws, hws⟩ : ∃ ws : World, ws = wr := ⟨_, rfl⟩
    subst hws
    by_cases hlt : j < T
    · have hr := Lib.hid (hR.raise hBg hk8)
      clear hR
      go_wp2_with (go_at_call 18; refine hr.out.mono ?_; rintro e w4 ⟨rfl, hR4⟩; have hR4' := Lib.hid hR4; clear hR4)
      go_roundw
      case rel => exact ⟨j + 1, by omega, by go_num, by rw [decide_eq_true (by omega)]; exact hR4'.out⟩
      case measure => simp [intOf]; omega
    · obtain rfl : j = T := by omega
      obtain ⟨f, m, h4, hf, hm, O4⟩ := hR
      have O4' := Lib.hid O4
      obtain ⟨q, hq⟩ : ∃ q, q = decide (0 < j) := ⟨_, rfl⟩
      have hq' := Lib.hid hq
      rw [← hq] at hm
      clear O4 hq hf
      go_wp2_with fail
      refine (unmask_yes h4 hk8).mono ?_
      rintro e w5 ⟨rfl, h5, o5⟩
      have O5 := Lib.hid (h4.sub o5 hBg O4'.out)
      rw [hm]
      clear o5 O4' h4 hm
      go_wp2_with fail
      refine (unmask_yes h5 hk8).mono ?_
      rintro e w6 ⟨rfl, h6, o6⟩
      have O6 := Lib.hid (h5.sub o6 hBg O5.out)
      rw [upd_self]
      clear o6 O5 h5
      go_wp2_with fail
      refine (raise_yes h6 hk8).mono ?_
      rintro e w7 ⟨rfl, h7, o7⟩
      have O7 := Lib.hid (h6.sub o7 hBg O6.out)
      rw [upd_self]
      clear o7 O6 h6 h7
      by_cases h0 : 0 < j
      · have hqq : q = true := by rw [hq'.out]; exact decide_eq_true h0
        subst hqq
        clear hq'
        go_wp2
        go_ret
        exact ⟨rfl, O7.out.below hBw.out (fun k h => h)⟩
      · have hqq : q = false := by rw [hq'.out]; exact decide_eq_false h0
        subst hqq
        clear hq'
        go_wp2
        go_ret
        exact ⟨rfl, O7.out.below hBw.out (fun k h => h)⟩

theorem once (i t : Int) (w : World) (hi : (Lit.int .u8 i).wf = true) (ht : (Lit.int .u8 t).wf = true) : Calls Try.prog 6 #[.int .u8 i, .int .u8 t] w fun e w' => e = .returned (.bool true) ∧ Below w.heap.size w w' :=
  once_any i t w (bounds_u8 hi) (bounds_u8 ht)
end Go.Proofs.Ytcbdmjkceinanaa
