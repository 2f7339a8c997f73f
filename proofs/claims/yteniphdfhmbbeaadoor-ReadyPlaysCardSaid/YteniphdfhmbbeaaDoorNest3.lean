/- Package prog's closures: locking and unlocking. -/
import Derived.Test.YteniphdfhmbbeaaDoorNest2
import Derived.Deep.DrawnRows
namespace Go.Proofs.YteniphdfhmbbeaaDoor
open Go Go.RowKit

theorem infoI : (Tryd.prog.info? 3).map (fun i => (i.zero, i.size, i.bytes)) = some (some (Value.int .i64 0), 1, 8) := by kernel_rfl
theorem row_all {w : World} {X : Nat} {L : List Value} {e : TypeId} (h : w.heap[X]? = some (.cells L.toArray e (0, 0))) : ∀ j u, L[j]? = some u → w.cell? ((⟨X, 0, none⟩ : Addr).add j) = some u := fun j u hu => by
  rw [Addr.add_lit, Nat.zero_add]
  exact row_cell (L := L) h hu

/-- The blocks of the closures behind an append to the locked ones. -/
theorem lock_end {w W w4 : World} {b2 b3 b4 : Nat} {h h4 : Option Nat} {s : NS} {v4 : Value} {a : Int} {n : Nat} (hN : NestAt w b2 b3 b4 h s) (hn : n = s.ls.length) (hW : Only (fun _ => False) w W)
    (h4w : Win w4 3 1 v4 h4 (n + 1) (s.ls.map mkI ++ [mkI a])) (h4o : Only (fun k => some k = h) W w4) (hh : h4 = h ∨ ∃ g, h4 = some g ∧ W.heap.size ≤ g) :
    NestAt (w4.setCell ⟨b2, 0, none⟩ v4) b2 b3 b4 h4 ⟨s.r, s.ls ++ [a], s.p⟩ ∧ (h4 = h ∨ ∃ g, h4 = some g ∧ w.heap.size ≤ g) ∧ Only (nfp b2 b3 b4 h) w (w4.setCell ⟨b2, 0, none⟩ v4) := by
  have hlt := hN.lt
  have hs := hW.size
  obtain ⟨v, e2, e3, e4, eW, hd, n23, n24, n34⟩ := hN.new hW
  have k2 := h4o.heap e2 (fun e => (hd b2 e.symm).1 rfl)
  have k3 := h4o.heap e3 (fun e => (hd b3 e.symm).2.1 rfl)
  have k4 := h4o.heap e4 (fun e => (hd b4 e.symm).2.2 rfl)
  have hne : ∀ k, h4 = some k → k ≠ b2 ∧ k ≠ b3 ∧ k ≠ b4 := by
    rintro k rfl
    rcases hh with hh | ⟨g, hg, hge⟩
    · exact hd k hh.symm
    · cases hg
      have q2 := hlt b2 (.inl rfl)
      have q3 := hlt b3 (.inr (.inl rfl))
      have q4 := hlt b4 (.inr (.inr (.inl rfl)))
      omega
  have hO : Only (fun k => k = b2) w4 (w4.setCell ⟨b2, 0, none⟩ v4) := (Only.refl (fun k => k = b2) w4).setCell (p := ⟨b2, 0, none⟩) (fun _ => rfl) _
  refine ⟨⟨v4, row_set k2 0 v4, hO.heap k3 (fun e => n23 e.symm), hO.heap k4 (fun e => n24 e.symm), ?_, hne, n23, n24, n34⟩, ?_, ?_⟩
  · simp only [List.length_append, List.map_append, List.length_cons, List.length_nil, List.map_cons, List.map_nil]
    rw [← hn]
    exact h4w.kept hO (fun k hk e => (hne k hk).1 e)
  · rcases hh with hh | ⟨g, hg, hge⟩
    · exact .inl hh
    · exact .inr ⟨g, hg, by omega⟩
  · exact ((hW.mono (T := nfp b2 b3 b4 h) (fun _ _ h => h.elim)).trans h4o (fun k _ e => .inr (.inr (.inr e.symm)))).trans hO (fun k _ e => .inl e)

set_option maxRecDepth 100000 in
set_option maxHeartbeats 1000000 in
theorem nests_5 {w : World} {b2 b3 b4 : Nat} {h : Option Nat} {s : NS} (hN : NestAt w b2 b3 b4 h s) (hl : s.ls.length ≤ 100) (a b : Int) :
    Calls Tryd.prog 59 #[.agg #[.int .i64 5, .int .i64 a, .int .i64 b], .pointer (some ⟨b3, 0, none⟩), .pointer (some ⟨b2, 0, none⟩), .pointer (some ⟨b4, 0, none⟩)] w (StepEnd w b2 b3 b4 h (stepN s 5 a)) := by
  have hN' := Lib.hid hN
  obtain ⟨v, h2, h3, h4, hW, hd, n23, n24, n34⟩ := hN
  obtain ⟨p0, cap, rfl, hnc, hcm⟩ := hW.form
  obtain ⟨n, hn⟩ : ∃ n, n = s.ls.length := ⟨_, rfl⟩
  rw [← hn] at h2 hW hnc hl
  have c2 := row_cell h2 (i := 0) rfl
  have l2 : b2 < w.heap.size := row_lt h2
  obtain ⟨r, hr⟩ : ∃ r, r = s.r := ⟨_, rfl⟩
  obtain ⟨p, hp⟩ : ∃ p, p = s.p := ⟨_, rfl⟩
  have hkeep := Lib.hid (fun (W w4 : World) (hW : Only (fun _ => False) w W) (h4o : Only (fun k => some k = h) W w4) => by
    have e2 := h4o.heap (hW.heap h2 (fun h => h)) (fun e => (hd b2 e.symm).1 rfl)
    have e3 := h4o.heap (hW.heap h3 (fun h => h)) (fun e => (hd b3 e.symm).2.1 rfl)
    have e4 := h4o.heap (hW.heap h4 (fun h => h)) (fun e => (hd b4 e.symm).2.2 rfl)
    exact And.intro (row_cell e2 (i := 0) rfl) (And.intro (row_free e2 0) (And.intro (row_cell e3 (i := 0) rfl) (row_cell e4 (i := 0) rfl))))
  unfold mkI at hkeep
  rw [← hr, ← hp] at hkeep
  have m23 : b3 ≠ b2 := fun e => n23 e.symm
  have m24 : b4 ≠ b2 := fun e => n24 e.symm
  have hE := Lib.hid (And.intro hn (And.intro hr hp))
  cases hin : decide (a ∈ s.ls) with
  | true =>
    have hv := Lib.hid (stepN_none (s := s) (k := 5) (a := a) (by unfold moveN; simp; exact of_decide_eq_true hin))
    have hc := Lib.hid (fun W (hO : Only (fun _ => False) w W) => contains_any (hW.kept hO (fun _ _ h => h)) hl a hin)
    clear h2 h3 h4 hW hd hkeep hin hn hr hp
    go_enter Tryd.func59, Tryd.ntmps59
    go_wp2_with (go_at_call 60; refine (hc.out _ ((Only.refl _ w).alloc _)).mono ?_; rintro e w' ⟨rfl, rfl⟩)
    go_ret
    rw [hv.out]
    exact ⟨rfl, (Only.refl (nfp b2 b3 b4 h) w).alloc _⟩
  | false =>
    have hm := Lib.hid (show moveN s 5 a = some ⟨s.r, s.ls ++ [a], s.p⟩ by
      have : a ∉ s.ls := of_decide_eq_false hin
      unfold moveN; simp [this])
    have hc := Lib.hid (fun W (hO : Only (fun _ => False) w W) => contains_any (hW.kept hO (fun _ _ h => h)) hl a hin)
    have hW' := Lib.hid (fun W (hO : Only (fun _ => False) w W) => hW.kept hO (fun _ _ h => h))
    clear h2 h3 h4 hW hd hin hn hr hp
    by_cases q1 : 0 ≤ r
    · by_cases q2 : 0 ≤ p
      · go_enter Tryd.func59, Tryd.ntmps59
        go_wp2_with (first | (go_at_call 60; refine (hc.out _ ((Only.refl _ w).alloc _)).mono ?_; rintro e w' ⟨rfl, rfl⟩) | (at_builtin; refine wpList_append_win rfl _ _ 24 rfl 3 (Value.int .i64 0) 1 8 Tryd.underlying24 infoI rfl (by decide) rfl (hW'.out _ (((Only.refl _ w).alloc _).alloc _)) _ 1 1 rfl [mkI a] rfl (fun _ => ⟨_, rfl, row_all (heap_new_at _ _ (by simp))⟩) (by simp [mkI, Value.oneCell']) (by unfold maxLen; omega) (by omega) ?_; intro v4 w4 h4 hW4 hO4 hh4; obtain ⟨p4, c4, rfl, _, _⟩ := hW4.out.form; obtain ⟨d2, f2, d3, d4⟩ := hkeep.out _ _ (((Only.refl _ w).alloc _).alloc _) hO4.out))
        go_ret
        obtain ⟨hn, hr, hp⟩ := hE.out
        have hv := stepN_yes hm.out (by show 0 ≤ s.r; omega) (by show 0 ≤ s.p; omega)
        rw [hv]
        obtain ⟨z1, z2, z3⟩ := lock_end hN'.out hn (((Only.refl _ w).alloc _).alloc _) hW4.out hO4.out hh4.out
        exact ⟨rfl, h4, z1, z2, z3⟩
      · have q2' : p < 0 := by omega
        go_enter Tryd.func59, Tryd.ntmps59
        go_wp2_with (first | (go_at_call 60; refine (hc.out _ ((Only.refl _ w).alloc _)).mono ?_; rintro e w' ⟨rfl, rfl⟩) | (at_builtin; refine wpList_append_win rfl _ _ 24 rfl 3 (Value.int .i64 0) 1 8 Tryd.underlying24 infoI rfl (by decide) rfl (hW'.out _ (((Only.refl _ w).alloc _).alloc _)) _ 1 1 rfl [mkI a] rfl (fun _ => ⟨_, rfl, row_all (heap_new_at _ _ (by simp))⟩) (by simp [mkI, Value.oneCell']) (by unfold maxLen; omega) (by omega) ?_; intro v4 w4 h4 hW4 hO4 hh4; obtain ⟨p4, c4, rfl, _, _⟩ := hW4.out.form; obtain ⟨d2, f2, d3, d4⟩ := hkeep.out _ _ (((Only.refl _ w).alloc _).alloc _) hO4.out))
        go_ret
        obtain ⟨hn, hr, hp⟩ := hE.out
        have hv := stepN_no hm.out (.inr (by show s.p < 0; omega))
        rw [hv]
        obtain ⟨z1, z2, z3⟩ := lock_end hN'.out hn (((Only.refl _ w).alloc _).alloc _) hW4.out hO4.out hh4.out
        exact ⟨by first | exact rfl | exact ret_bool (by simp; omega), z3⟩
    · have q1' : r < 0 := by omega
      go_enter Tryd.func59, Tryd.ntmps59
      go_wp2_with (first | (go_at_call 60; refine (hc.out _ ((Only.refl _ w).alloc _)).mono ?_; rintro e w' ⟨rfl, rfl⟩) | (at_builtin; refine wpList_append_win rfl _ _ 24 rfl 3 (Value.int .i64 0) 1 8 Tryd.underlying24 infoI rfl (by decide) rfl (hW'.out _ (((Only.refl _ w).alloc _).alloc _)) _ 1 1 rfl [mkI a] rfl (fun _ => ⟨_, rfl, row_all (heap_new_at _ _ (by simp))⟩) (by simp [mkI, Value.oneCell']) (by unfold maxLen; omega) (by omega) ?_; intro v4 w4 h4 hW4 hO4 hh4; obtain ⟨p4, c4, rfl, _, _⟩ := hW4.out.form; obtain ⟨d2, f2, d3, d4⟩ := hkeep.out _ _ (((Only.refl _ w).alloc _).alloc _) hO4.out))
      go_ret
      obtain ⟨hn, hr, hp⟩ := hE.out
      have hv := stepN_no hm.out (.inl (by show s.r < 0; omega))
      rw [hv]
      obtain ⟨z1, z2, z3⟩ := lock_end hN'.out hn (((Only.refl _ w).alloc _).alloc _) hW4.out hO4.out hh4.out
      exact ⟨by first | exact rfl | exact ret_bool (by simp; omega), z3⟩
end Go.Proofs.YteniphdfhmbbeaaDoor
