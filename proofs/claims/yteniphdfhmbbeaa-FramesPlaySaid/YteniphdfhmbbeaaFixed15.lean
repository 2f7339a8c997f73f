/- The stack on its way, the fixed calls, and FramesNest's walk. -/
import Derived.Test.YteniphdfhmbbeaaPush
namespace Go.Proofs.Yteniphdfhmbbeaa
open Go Go.RowKit

/-- The stack on its way. -/
def Rung (w : World) (B b : Nat) (pk : Int) (fs : List Fr) (ws : World) : Prop :=
  ∃ o, StAt ws b o pk fs ∧ Stand 0 fs ∧ (∀ k, fp b o k → B ≤ k) ∧ Only (fun x => B ≤ x) w ws
section
variable {w ws w' : World} {B b : Nat} {pk : Int} {fs : List Fr} {x : Fr}
theorem Rung.only (h : Rung w B b pk fs ws) : Only (fun x => B ≤ x) w ws := by
  obtain ⟨_, _, _, _, h⟩ := h
  exact h
theorem Rung.new (h : Rung w B b pk fs ws) (ho : Only (fun _ => False) ws w') : Rung w B b pk fs w' := by
  obtain ⟨o, h1, h2, h3, h4⟩ := h
  exact ⟨o, h1.new ho, h2, h3, h4.trans ho (fun _ _ h => h.elim)⟩
theorem Rung.stand (h : Rung w B b pk fs ws) : Stand 0 fs := by
  obtain ⟨o, h1, h2, h3, h4⟩ := h
  exact h2
theorem Rung.push (h : Rung w B b pk fs ws) (hB : B ≤ ws.heap.size) (hn : fs.length ≤ 255) (who : Int) {size : Int} (h0 : 0 ≤ size) (h1 : size ≤ 4096) :
    Calls Try.prog 8 #[.pointer (some ⟨b, 0, none⟩), .int .i64 who, .int .i64 size] ws fun e w' => e = .returned (.tuple #[.int .i64 (deep fs), .int .i64 0]) ∧ Rung w B b (max pk (deep fs + size)) (fs ++ [⟨who, deep fs, size⟩]) w' := by
  obtain ⟨o, q1, q2, q3, q4⟩ := h
  refine (push_ok q1 q2 hn who h0 h1).mono fun e w' ⟨e1, o', e2, e3, e4⟩ => ⟨e1, o', e2, stand_append.2 ⟨q2, by simp [Stand]; omega⟩, ?_, q4.trans e4 (fun k _ hk => q3 k hk)⟩
  rintro k (rfl | hk)
  · exact q3 k (.inl rfl)
  · rcases e3 with rfl | ⟨g, rfl, hg⟩
    · exact q3 k (.inr hk)
    · cases hk; omega
theorem Rung.pop (h : Rung w B b pk (fs ++ [x]) ws) (hn : fs.length ≤ 1000) {who : Int} (hw : who = x.who) :
    Calls Try.prog 7 #[.pointer (some ⟨b, 0, none⟩), .int .i64 who] ws fun e w' => e = .returned (.int .i64 0) ∧ Rung w B b pk fs w' := by
  obtain ⟨o, q1, q2, q3, q4⟩ := h
  subst hw
  exact (pop_ok q1 hn).mono fun e w' ⟨e1, e2, e3⟩ => ⟨e1, o, e2, (stand_append.1 q2).1, q3, q4.trans e3 (fun k _ hk => by subst hk; exact q3 _ (.inl rfl))⟩
theorem Rung.popOther (h : Rung w B b pk (fs ++ [x]) ws) (hn : fs.length ≤ 1000) {who : Int} (hw : x.who ≠ who) :
    Calls Try.prog 7 #[.pointer (some ⟨b, 0, none⟩), .int .i64 who] ws fun e w' => e = .returned (.int .i64 9) ∧ Rung w B b pk (fs ++ [x]) w' := by
  obtain ⟨o, q1, q2, q3, q4⟩ := h
  exact (pop_other (top_some q1 hn) hw).mono fun e w' ⟨e1, e2⟩ => ⟨e1, Rung.new ⟨o, q1, q2, q3, q4⟩ e2⟩
theorem Rung.popNone (h : Rung w B b pk [] ws) (who : Int) :
    Calls Try.prog 7 #[.pointer (some ⟨b, 0, none⟩), .int .i64 who] ws fun e w' => e = .returned (.int .i64 8) ∧ Rung w B b pk [] w' := by
  obtain ⟨o, q1, q2, q3, q4⟩ := h
  exact (pop_none (top_none q1) who).mono fun e w' ⟨e1, e2⟩ => ⟨e1, Rung.new ⟨o, q1, q2, q3, q4⟩ e2⟩
theorem Rung.depth (h : Rung w B b pk fs ws) (hn : fs.length ≤ 1000) : Calls Try.prog 11 #[.pointer (some ⟨b, 0, none⟩)] ws fun e w' => e = .returned (.int .i64 (deep fs)) ∧ Only (fun _ => False) ws w' := by
  obtain ⟨o, q1, q2, q3, q4⟩ := h
  exact depth_any q1 q2 hn
theorem Rung.peak (h : Rung w B b pk fs ws) : Calls Try.prog 12 #[.pointer (some ⟨b, 0, none⟩)] ws fun e w' => e = .returned (.int .i64 pk) ∧ ws = w' := by
  obtain ⟨o, q1, q2, q3, q4⟩ := h
  exact peak_any q1
theorem Rung.all (h : Rung w B b pk fs ws) (hn : fs.length ≤ 1000) : Calls Try.prog 9 #[.pointer (some ⟨b, 0, none⟩)] ws (AllEnd ws fs) := by
  obtain ⟨o, q1, q2, q3, q4⟩ := h
  exact all_any q1 hn
theorem Rung.first (h : SNewEnd ws (.returned (.pointer (some ⟨ws.heap.size, 0, none⟩))) w') (hO : Only (fun x => B ≤ x) w ws) (hB : B ≤ ws.heap.size) : Rung w B ws.heap.size 0 [] w' := by
  obtain ⟨-, h2, h3⟩ := h
  refine ⟨none, h2, trivial, ?_, hO.trans h3 (fun _ _ h => h.elim)⟩
  rintro k (rfl | hk)
  · exact hB
  · cases hk
end

set_option maxRecDepth 100000 in
theorem fixed15_any (w : World) : Calls Try.prog 5 #[] w fun e w' => e = .returned (.bool true) ∧ Below w.heap.size w w' := by
  obtain ⟨B, hB⟩ : ∃ B, B = w.heap.size := ⟨_, rfl⟩
  rw [← hB]
  have hBw := Lib.hid (Nat.le_of_eq hB)
  go_enter Try.func5, Try.ntmps5
  go_wp2_with fail
  refine (snew_any w).mono ?_
  rintro e w1 ⟨rfl, h1⟩
  have hR : Rung w B w.heap.size 0 [] w1 := Rung.first ⟨rfl, h1⟩ (Only.refl _ _) (by omega)
  obtain ⟨b, hb⟩ : ∃ b, b = w.heap.size := ⟨_, rfl⟩
  rw [← hb] at hR ⊢
  have hs1 : B ≤ w1.heap.size := by have := hR.only.size; omega
  clear h1 hb hB
  go_wp2_with fail
  refine (hR.push hs1 (by decide) 1 (size := 5) (by decide) (by decide)).mono ?_
  rintro e w2 ⟨rfl, hR2⟩
  have hs2 : B ≤ w2.heap.size := by have := hR2.only.size; have := hBw.out; omega
  clear hR hs1
  go_wp2_with fail
  refine (hR2.push hs2 (by decide) 2 (size := 3) (by decide) (by decide)).mono ?_
  rintro e w3 ⟨rfl, hR3⟩
  clear hR2 hs2
  go_wp2_with fail
  refine (Rung.popOther (fs := [⟨1, 0, 5⟩]) (x := ⟨2, 5, 3⟩) hR3 (by decide) (who := 1) (by decide)).mono ?_
  rintro e w4 ⟨rfl, hR4⟩
  clear hR3
  go_wp2_with fail
  refine (hR4.pop (by decide) (who := 2) rfl).mono ?_
  rintro e w5 ⟨rfl, hR5⟩
  clear hR4
  go_wp2_with fail
  refine (push_range ⟨b, 0, none⟩ 3 (size := -1) (.inl (by decide)) w5).mono ?_
  rintro e w' ⟨rfl, hw⟩
  subst hw
  go_wp2_with fail
  refine (hR5.depth (by decide)).mono ?_
  rintro e w6 ⟨rfl, h6⟩
  have hR6 := hR5.new h6
  clear hR5 h6
  go_wp2_with fail
  refine hR6.peak.mono ?_
  rintro e w' ⟨rfl, hw⟩
  subst hw
  go_wp2_with fail
  refine (hR6.all (by decide)).mono ?_
  rintro e w7 ⟨v, h, rfl, hv, -, h7⟩
  have hR7 := Lib.hid (hR6.new h7)
  obtain ⟨p, cap, rfl, -⟩ := hv.form
  clear hR6 h7 hv
  go_wp2
  go_ret
  exact ⟨rfl, hR7.out.only.below hBw.out (fun k h => h)⟩
end Go.Proofs.Yteniphdfhmbbeaa
