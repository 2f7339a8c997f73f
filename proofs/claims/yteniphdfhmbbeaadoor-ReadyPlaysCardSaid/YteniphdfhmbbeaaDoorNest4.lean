/- Package prog's closures: unlocking; the end; all kinds in one; what makes them. -/
import Derived.Test.YteniphdfhmbbeaaDoorNest3
namespace Go.Proofs.YteniphdfhmbbeaaDoor
open Go Go.RowKit

theorem unlock_end {w W : World} {b2 b3 b4 m cap : Nat} {h : Option Nat} {s : NS} {ls : List Int} {x : Int} {p0 : Option Addr} (hN : NestAt w b2 b3 b4 h s) (hls : s.ls = ls ++ [x]) (hm : ls.length = m) (hW : Only (fun _ => False) w W) (c2 : w.cell? ⟨b2, 0, none⟩ = some (.slice p0 (m + 1) cap)) :
    NestAt (W.setCell ⟨b2, 0, none⟩ (.slice p0 m cap)) b2 b3 b4 h ⟨s.r, ls, s.p⟩ ∧ Only (nfp b2 b3 b4 h) w (W.setCell ⟨b2, 0, none⟩ (.slice p0 m cap)) := by
  obtain ⟨v, e2, e3, e4, eW, hd, n23, n24, n34⟩ := hN
  have hv : v = .slice p0 (m + 1) cap := by
    have := row_cell e2 (i := 0) (v := v) rfl
    rw [this] at c2
    exact Option.some.inj c2
  subst hv
  have hO : Only (fun k => k = b2) W (W.setCell ⟨b2, 0, none⟩ (.slice p0 m cap)) := (Only.refl (fun k => k = b2) W).setCell (p := ⟨b2, 0, none⟩) (fun _ => rfl) _
  have hlen : s.ls.length = m + 1 := by rw [hls]; simp [hm]
  rw [hlen] at eW
  have ht := eW.take (k := m) (by omega)
  rw [hls, List.map_append, List.take_left' (by simp [hm])] at ht
  refine ⟨⟨_, row_set (hW.heap e2 (fun h => h)) 0 _, hO.heap (hW.heap e3 (fun h => h)) (fun e => n23 e.symm), hO.heap (hW.heap e4 (fun h => h)) (fun e => n24 e.symm), ?_, hd, n23, n24, n34⟩, ?_⟩
  · subst hm
    exact (ht.kept hW (fun _ _ h => h)).kept hO (fun k hk e => (hd k hk).1 e)
  · exact (hW.mono (T := nfp b2 b3 b4 h) (fun _ _ h => h.elim)).trans hO (fun k _ e => .inl e)

set_option maxRecDepth 100000 in
set_option maxHeartbeats 1000000 in
theorem nests_6 {w : World} {b2 b3 b4 : Nat} {h : Option Nat} {s : NS} (hN : NestAt w b2 b3 b4 h s) (hl : s.ls.length ≤ 100) (a b : Int) :
    Calls Tryd.prog 59 #[.agg #[.int .i64 6, .int .i64 a, .int .i64 b], .pointer (some ⟨b3, 0, none⟩), .pointer (some ⟨b2, 0, none⟩), .pointer (some ⟨b4, 0, none⟩)] w (StepEnd w b2 b3 b4 h (stepN s 6 a)) := by
  have hN' := Lib.hid hN
  obtain ⟨v, h2, h3, h4, hW, hd, n23, n24, n34⟩ := hN
  obtain ⟨p0, cap, rfl, hnc, hcm⟩ := hW.form
  obtain ⟨n, hn⟩ : ∃ n, n = s.ls.length := ⟨_, rfl⟩
  rw [← hn] at h2 hW hnc hl
  have c2 := row_cell h2 (i := 0) rfl
  have f2 := row_free h2 0
  have c3 := row_cell h3 (i := 0) rfl
  have c4 := row_cell h4 (i := 0) rfl
  unfold mkI at c3 c4
  have l2 : b2 < w.heap.size := row_lt h2
  have l3 : b3 < w.heap.size := row_lt h3
  have l4 : b4 < w.heap.size := row_lt h4
  obtain ⟨r, hr⟩ : ∃ r, r = s.r := ⟨_, rfl⟩
  obtain ⟨p, hp⟩ : ∃ p, p = s.p := ⟨_, rfl⟩
  rw [← hr] at c3
  rw [← hp] at c4
  have m23 : b3 ≠ b2 := fun e => n23 e.symm
  have m24 : b4 ≠ b2 := fun e => n24 e.symm
  have hE := Lib.hid (And.intro hr hp)
  rcases List.eq_nil_or_concat s.ls with hnil | ⟨ls, x, hls⟩
  · have hv := Lib.hid (stepN_none (s := s) (k := 6) (a := a) (by unfold moveN; simp [hnil]))
    have hn0 : n = 0 := by rw [hn, hnil]; rfl
    subst hn0
    clear h2 h3 h4 hW hd hnil hr hp hn
    go_enter Tryd.func59, Tryd.ntmps59
    go_wp2
    go_quiet (fail)
    go_wp2
    go_ret
    rw [hv.out]
    exact ⟨rfl, ((Only.refl (nfp b2 b3 b4 h) w).alloc _).drewN _⟩
  · rw [List.concat_eq_append] at hls
    obtain ⟨m, hm⟩ : ∃ m, ls.length = m := ⟨_, rfl⟩
    have hnm : n = m + 1 := by rw [hn, hls]; simp [hm]
    obtain ⟨g, off, cap', ho, hv, _, _, hg, hc, _⟩ := hW.at_ (by omega)
    cases hv
    have x0 : w.cell? ⟨g, off + m, none⟩ = some (.int .i64 x) := by
      refine hc m _ ?_
      rw [hls, List.map_append, List.getElem?_append_right (by simp [hm])]
      simp [hm, mkI]
    have hL1 : (n : Int) - 1 = (m : Int) := by omega
    have hm0 : (0 : Int) ≤ (m : Int) := by omega
    have hm1 : (m : Int) < (n : Int) := by omega
    have hm2 : (m : Int) ≤ (cap : Int) := by omega
    have hm3 : m ≤ 100 := by omega
    have hmd : decide ((m : Int) < 0) = false := by simp
    by_cases hxa : x = a
    · have e1 : (x == a) = true := by simpa using hxa
      have e2 : (x != a) = false := by simpa using hxa
      have hmv := Lib.hid (show moveN s 6 a = some ⟨s.r, ls, s.p⟩ by unfold moveN; simp [hls, hxa])
      have hend := Lib.hid (fun W (hO : Only (fun _ => False) w W) => unlock_end (W := W) (p0 := some ⟨g, off, none⟩) (cap := cap) hN'.out hls hm hO (by rw [← hnm]; exact c2))
      clear h2 h3 h4 hW hd hr hp hc hls hnm hm hn ho hxa hnc
      by_cases q1 : 0 ≤ r
      · by_cases q2 : 0 ≤ p
        · go_enter Tryd.func59, Tryd.ntmps59
          go_wp2
          go_quiet (fail)
          go_wp2
          go_ret
          obtain ⟨hr, hp⟩ := hE.out
          have hv := stepN_yes hmv.out (by show 0 ≤ s.r; omega) (by show 0 ≤ s.p; omega)
          rw [hv]
          obtain ⟨z1, z3⟩ := hend.out _ (((Only.refl _ w).alloc _).drewN nq)
          exact ⟨rfl, h, z1, .inl rfl, z3⟩
        · have q2' : p < 0 := by omega
          go_enter Tryd.func59, Tryd.ntmps59
          go_wp2
          go_quiet (fail)
          go_wp2
          go_ret
          obtain ⟨hr, hp⟩ := hE.out
          have hv := stepN_no hmv.out (.inr (by show s.p < 0; omega))
          rw [hv]
          obtain ⟨z1, z3⟩ := hend.out _ (((Only.refl _ w).alloc _).drewN nq)
          exact ⟨by first | exact rfl | exact ret_bool (by simp; omega), z3⟩
      · have q1' : r < 0 := by omega
        go_enter Tryd.func59, Tryd.ntmps59
        go_wp2
        go_quiet (fail)
        go_wp2
        go_ret
        obtain ⟨hr, hp⟩ := hE.out
        have hv := stepN_no hmv.out (.inl (by show s.r < 0; omega))
        rw [hv]
        obtain ⟨z1, z3⟩ := hend.out _ (((Only.refl _ w).alloc _).drewN nq)
        exact ⟨by first | exact rfl | exact ret_bool (by simp; omega), z3⟩
    · have e1 : (x == a) = false := by simpa using hxa
      have e2 : (x != a) = true := by simpa using hxa
      have hv := Lib.hid (stepN_none (s := s) (k := 6) (a := a) (by unfold moveN; simp [hls, hxa]))
      clear h2 h3 h4 hW hd hr hp hc hls hnm hm hn ho hxa hnc
      go_enter Tryd.func59, Tryd.ntmps59
      go_wp2
      go_quiet (fail)
      go_wp2
      go_ret
      rw [hv.out]
      exact ⟨rfl, ((Only.refl (nfp b2 b3 b4 h) w).alloc _).drewN _⟩
end Go.Proofs.YteniphdfhmbbeaaDoor
