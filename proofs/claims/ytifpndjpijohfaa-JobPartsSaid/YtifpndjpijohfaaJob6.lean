/- Somebody is withheld; cycles go by. -/
import Derived.Test.YtifpndjpijohfaaJob5
namespace Go.Proofs.Ytifpndjpijohfaa
open Go Go.RowKit

theorem jwh_nil (w : World) : Calls Try.prog 10 #[.pointer none] w (DrewV (.bool false) w) := by
  go_enter Try.func10, Try.ntmps10
  go_wp2_with fail
  refine (jover_nil _).mono ?_
  rintro e w' ⟨rfl, m, rfl⟩
  go_wp2
  go_ret
  exact ⟨rfl, _, rfl⟩
/-- May somebody be withheld? -/
def whB (j : Jb) : Bool := !overB j && decide (j.left ≠ 0)
section
variable {w : World} {b : Nat} {o : Option Nat} {j : Jb}
theorem jwh_not (h : JbAt w b o j) (hn : whB j = false) : Calls Try.prog 10 #[.pointer (some ⟨b, 0, none⟩)] w (DrewV (.bool false) w) := by
  have ho := Lib.hid (jover_any h)
  obtain ⟨p, cap, h1, h2, hb, h3, h4⟩ := h.block
  have c6 := row_cell hb (i := 6) rfl
  have hl := row_lt hb
  by_cases hov : overB j = true
  · rw [hov] at ho
    clear h h1 h2 hb h3 h4 hn hov
    go_enter Try.func10, Try.ntmps10
    go_wp2_with fail
    refine ho.out.mono ?_
    rintro e w' ⟨rfl, m, rfl⟩
    go_wp2
    go_ret
    exact ⟨rfl, _, rfl⟩
  · rw [Bool.not_eq_true] at hov
    have hz : j.left = 0 := by
      unfold whB at hn
      rw [hov] at hn
      simpa using hn
    rw [hov] at ho
    rw [hz] at c6
    clear h h1 h2 hb h3 h4 hn hov hz
    go_enter Try.func10, Try.ntmps10
    go_wp2_with fail
    refine ho.out.mono ?_
    rintro e w' ⟨rfl, m, rfl⟩
    go_wp2
    go_ret
    exact ⟨rfl, _, rfl⟩
theorem jwh_yes (h : JbAt w b o j) (hn : whB j = true) : Calls Try.prog 10 #[.pointer (some ⟨b, 0, none⟩)] w (Turned (.bool true) w b o { j with armed := true }) := by
  have ho := Lib.hid (jover_any h)
  obtain ⟨hov, hz⟩ : overB j = false ∧ j.left ≠ 0 := by
    unfold whB at hn
    simpa using hn
  rw [hov] at ho
  have hd := Lib.hid (fun m => h.drew m)
  obtain ⟨ops, F, A, R, G, P, L, M, T⟩ := j
  obtain ⟨p, cap, h1, h2, hb, h3, h4⟩ := h.block
  obtain ⟨n, hn'⟩ : ∃ n, n = ops.length := ⟨_, rfl⟩
  dsimp only at hb hz
  rw [← hn'] at hb
  have hE := Lib.hid (fun m w' v v0 fr (at_ : Nat) rs rg pu lf ar fa j' => turned (w := w.drewN m) (w' := w') (v := v) (v0 := v0) (fr := fr) (at_ := at_) (rs := rs) (rg := rg) (pu := pu) (lf := lf) (ar := ar) (fa := fa) (j' := j') (hd.out m) hn' (by rw [drewN_heap]; exact hb))
  have hb' := Lib.hid hb
  have c6 := row_cell hb (i := 6) rfl
  have c7 := row_cell hb (i := 7) rfl
  have f7 := row_free hb 7
  have hl := row_lt hb
  have hz' : (L == 0) = false := by simpa using hz
  clear h h1 h2 hb h3 h4 hn hov hz hn' hd
  go_enter Try.func10, Try.ntmps10
  go_wp2_with fail
  refine ho.out.mono ?_
  rintro e w' ⟨rfl, m, rfl⟩
  go_wp2
  go_ret
  obtain ⟨e1, e2, e3⟩ := hE.out m _ (.int .i64 0) (.int .i64 0) _ _ _ _ _ _ _ _ _ rfl rfl (row_set (show (w.drewN m).heap[b]? = _ from hb'.out) 7 _) (only_set _ b 7 _)
  exact ⟨rfl, e2, ((Only.refl _ w).drewN m).trans' e3⟩
end

/-! ### Cycles go by -/
/-- How many do. -/
def goneF (j : Jb) (c : Int) : Int := min (max c 0) j.rest
def burnF (j : Jb) (c : Int) : Jb :=
  if goneF j c = 0 then j else
  { j with rest := j.rest - goneF j c, at_ := if j.rest - goneF j c = 0 then j.at_ + 1 else j.at_, left := if j.armed = true then max (j.left - goneF j c) 0 else j.left }
theorem jburn_nil (w : World) (c : Int) : Calls Try.prog 11 #[.pointer none, .int .i64 c] w (RetI 0 w) := by
  by_cases hc : 0 ≤ c
  · go_enter Try.func11, Try.ntmps11
    go_wp2_with fail
    all_goals
      refine (jrest_nil _).mono ?_
      rintro e w' ⟨rfl, rfl⟩
      go_wp2
      all_goals
        go_ret
        exact ⟨rfl, rfl⟩
  · go_enter Try.func11, Try.ntmps11
    go_wp2_with fail
    all_goals
      refine (jrest_nil _).mono ?_
      rintro e w' ⟨rfl, rfl⟩
      go_wp2
      all_goals
        go_ret
        exact ⟨rfl, rfl⟩
section
variable {w : World} {b : Nat} {o : Option Nat} {j : Jb}
set_option maxHeartbeats 4000000 in
theorem jburn_any (h : JbAt w b o j) (hk : j.Ok) (c : Int) : Calls Try.prog 11 #[.pointer (some ⟨b, 0, none⟩), .int .i64 c] w (Turned (.int .i64 (goneF j c)) w b o (burnF j c)) := by
  have hr := Lib.hid (jrest_any h)
  have hsame := Lib.hid (fun v => Turned.same h (Only.refl _ w) v)
  obtain ⟨gn, hgn⟩ : ∃ gn, gn = goneF j c := ⟨_, rfl⟩
  obtain ⟨jr, hjr⟩ : ∃ jr, jr = burnF j c := ⟨_, rfl⟩
  have hjr' : jr = if gn = 0 then j else { j with rest := j.rest - gn, at_ := if j.rest - gn = 0 then j.at_ + 1 else j.at_, left := if j.armed = true then max (j.left - gn) 0 else j.left } := by
    rw [hjr, hgn]; rfl
  rw [← hgn, ← hjr]
  unfold goneF at hgn
  obtain ⟨ops, F, A, R, G, P, L, M, T⟩ := j
  obtain ⟨⟨hR0, hR1⟩, ⟨hL0, hL1⟩, ⟨hn1, hn2⟩, -⟩ := hk
  obtain ⟨p, cap, h1, h2, hb, h3, h4⟩ := h.block
  obtain ⟨n, hn'⟩ : ∃ n, n = ops.length := ⟨_, rfl⟩
  dsimp only at hb hR0 hR1 hL0 hL1 hn1 hn2 hgn hjr' hr hsame
  have hA : A ≤ 1000 := by omega
  rw [← hn'] at hb
  have hE := Lib.hid (fun w' v v0 fr (at_ : Nat) rs rg pu lf ar fa j' => turned (w' := w') (v := v) (v0 := v0) (fr := fr) (at_ := at_) (rs := rs) (rg := rg) (pu := pu) (lf := lf) (ar := ar) (fa := fa) (j' := j') h hn' hb)
  have hb' := Lib.hid hb
  have c2 := row_cell hb (i := 2) rfl
  have c3 := row_cell hb (i := 3) rfl
  have c6 := row_cell hb (i := 6) rfl
  have c7 := row_cell hb (i := 7) rfl
  have f2 := row_free hb 2
  have f3 := row_free hb 3
  have f6 := row_free hb 6
  have hl := row_lt hb
  have hjr2 := Lib.hid hjr'
  clear h h1 h2 hb h3 h4 hn1 hn2 hn' hjr hjr'
  have hcase : (c ≤ 0 ∨ R = 0) ∧ gn = 0 ∨ (0 < c ∧ c < R ∧ gn = c) ∨ (0 < R ∧ R < c ∧ gn = R) ∨ (0 < R ∧ c = R ∧ gn = R) := by omega
  clear hgn
  rcases hcase with ⟨hc, rfl⟩ | ⟨hc0, hc1, rfl⟩ | ⟨hc0, hc1, rfl⟩ | ⟨hc0, rfl, rfl⟩
  · have hend : Turned (.int .i64 0) w b o jr (.returned (.int .i64 0)) w := by
      rw [hjr2.out, if_pos rfl]
      exact hsame.out _
    have hend' := Lib.hid hend
    clear hsame hE hend hjr2
    by_cases hc2 : 0 ≤ c
    · go_enter Try.func11, Try.ntmps11
      go_wp2_with fail
      all_goals
        refine hr.out.mono ?_
        rintro e w' ⟨rfl, rfl⟩
        by_cases hcr : c = 0
        · subst hcr
          go_wp2
          all_goals
            go_ret
            exact hend'.out
        · obtain rfl : R = 0 := by omega
          go_wp2
          all_goals
            go_ret
            exact hend'.out
    · go_enter Try.func11, Try.ntmps11
      go_wp2_with fail
      all_goals
        refine hr.out.mono ?_
        rintro e w' ⟨rfl, rfl⟩
        go_wp2
        all_goals
          go_ret
          exact hend'.out
  · have hwr : IntKind.i64.wrap (R - gn) = R - gn := IntWalk.i64_in _ (by omega)
    have hz1 : (gn == 0) = false := by simp; omega
    have hz2 : (R - gn == 0) = false := by simp; omega
    have hz3 : ¬ (R - gn = 0) := by omega
    have hz4 : ¬ gn = 0 := by omega
    have hjr3 := Lib.hid (show jr = ⟨ops, F, A, R - gn, G, P, if M = true then max (L - gn) 0 else L, M, T⟩ by rw [hjr2.out, if_neg hz4, if_neg hz3])
    clear hsame hjr2 hz3 hz4
    cases M
    · go_enter Try.func11, Try.ntmps11
      go_wp2_with fail
      all_goals
        refine hr.out.mono ?_
        rintro e w' ⟨rfl, rfl⟩
        go_wp2
        all_goals
          go_ret
          exact hE.out _ _ _ _ _ _ _ _ _ _ _ _ hjr3.out rfl (row_set hb'.out 3 _) (only_set w b 3 _)
    · have hwl : IntKind.i64.wrap (L - gn) = L - gn := IntWalk.i64_in _ (by omega)
      by_cases hgl : 0 ≤ L - gn
      · have hm := Lib.hid (show max (L - gn) 0 = L - gn by omega)
        go_enter Try.func11, Try.ntmps11
        go_wp2_with fail
        all_goals
          refine hr.out.mono ?_
          rintro e w' ⟨rfl, rfl⟩
          go_wp2
          all_goals
            go_ret
            exact hE.out _ _ _ _ _ _ _ _ _ _ _ _ (hjr3.out.trans (by rw [if_pos (by trivial), hm.out])) rfl (row_set (row_set hb'.out 3 _) 6 _) ((only_set w b 3 _).trans' (only_set _ b 6 _))
      · have hm := Lib.hid (show max (L - gn) 0 = 0 by omega)
        go_enter Try.func11, Try.ntmps11
        go_wp2_with fail
        all_goals
          refine hr.out.mono ?_
          rintro e w' ⟨rfl, rfl⟩
          go_wp2
          all_goals
            go_ret
            exact hE.out _ _ _ _ _ _ _ _ _ _ _ _ (hjr3.out.trans (by rw [if_pos (by trivial), hm.out])) rfl (row_set (row_set hb'.out 3 _) 6 _) ((only_set w b 3 _).trans' (only_set _ b 6 _))
  · have hwr : IntKind.i64.wrap (gn - gn) = 0 := by rw [Int.sub_self]; rfl
    have hz1 : (gn == 0) = false := by simp; omega
    have hz4 : ¬ gn = 0 := by omega
    have hjr3 := Lib.hid (show jr = ⟨ops, F, A + 1, 0, G, P, if M = true then max (L - gn) 0 else L, M, T⟩ by rw [hjr2.out, if_neg hz4, if_pos (by omega), Int.sub_self])
    clear hsame hjr2 hz4
    cases M
    · go_enter Try.func11, Try.ntmps11
      go_wp2_with fail
      all_goals
        refine hr.out.mono ?_
        rintro e w' ⟨rfl, rfl⟩
        go_wp2
        all_goals
          go_ret
          exact hE.out _ _ _ _ _ _ _ _ _ _ _ _ hjr3.out rfl (row_set (row_set hb'.out 3 _) 2 _) ((only_set w b 3 _).trans' (only_set _ b 2 _))
    · have hwl : IntKind.i64.wrap (L - gn) = L - gn := IntWalk.i64_in _ (by omega)
      by_cases hgl : 0 ≤ L - gn
      · have hm := Lib.hid (show max (L - gn) 0 = L - gn by omega)
        go_enter Try.func11, Try.ntmps11
        go_wp2_with fail
        all_goals
          refine hr.out.mono ?_
          rintro e w' ⟨rfl, rfl⟩
          go_wp2
          all_goals
            go_ret
            exact hE.out _ _ _ _ _ _ _ _ _ _ _ _ (hjr3.out.trans (by rw [if_pos (by trivial), hm.out])) rfl (row_set (row_set (row_set hb'.out 3 _) 2 _) 6 _) (((only_set w b 3 _).trans' (only_set _ b 2 _)).trans' (only_set _ b 6 _))
      · have hm := Lib.hid (show max (L - gn) 0 = 0 by omega)
        go_enter Try.func11, Try.ntmps11
        go_wp2_with fail
        all_goals
          refine hr.out.mono ?_
          rintro e w' ⟨rfl, rfl⟩
          go_wp2
          all_goals
            go_ret
            exact hE.out _ _ _ _ _ _ _ _ _ _ _ _ (hjr3.out.trans (by rw [if_pos (by trivial), hm.out])) rfl (row_set (row_set (row_set hb'.out 3 _) 2 _) 6 _) (((only_set w b 3 _).trans' (only_set _ b 2 _)).trans' (only_set _ b 6 _))
  · have hwr : IntKind.i64.wrap (gn - gn) = 0 := by rw [Int.sub_self]; rfl
    have hz1 : (gn == 0) = false := by simp; omega
    have hz4 : ¬ gn = 0 := by omega
    have hjr3 := Lib.hid (show jr = ⟨ops, F, A + 1, 0, G, P, if M = true then max (L - gn) 0 else L, M, T⟩ by rw [hjr2.out, if_neg hz4, if_pos (by omega), Int.sub_self])
    clear hsame hjr2 hz4
    cases M
    · go_enter Try.func11, Try.ntmps11
      go_wp2_with fail
      all_goals
        refine hr.out.mono ?_
        rintro e w' ⟨rfl, rfl⟩
        go_wp2
        all_goals
          go_ret
          exact hE.out _ _ _ _ _ _ _ _ _ _ _ _ hjr3.out rfl (row_set (row_set hb'.out 3 _) 2 _) ((only_set w b 3 _).trans' (only_set _ b 2 _))
    · have hwl : IntKind.i64.wrap (L - gn) = L - gn := IntWalk.i64_in _ (by omega)
      by_cases hgl : 0 ≤ L - gn
      · have hm := Lib.hid (show max (L - gn) 0 = L - gn by omega)
        go_enter Try.func11, Try.ntmps11
        go_wp2_with fail
        all_goals
          refine hr.out.mono ?_
          rintro e w' ⟨rfl, rfl⟩
          go_wp2
          all_goals
            go_ret
            exact hE.out _ _ _ _ _ _ _ _ _ _ _ _ (hjr3.out.trans (by rw [if_pos (by trivial), hm.out])) rfl (row_set (row_set (row_set hb'.out 3 _) 2 _) 6 _) (((only_set w b 3 _).trans' (only_set _ b 2 _)).trans' (only_set _ b 6 _))
      · have hm := Lib.hid (show max (L - gn) 0 = 0 by omega)
        go_enter Try.func11, Try.ntmps11
        go_wp2_with fail
        all_goals
          refine hr.out.mono ?_
          rintro e w' ⟨rfl, rfl⟩
          go_wp2
          all_goals
            go_ret
            exact hE.out _ _ _ _ _ _ _ _ _ _ _ _ (hjr3.out.trans (by rw [if_pos (by trivial), hm.out])) rfl (row_set (row_set (row_set hb'.out 3 _) 2 _) 6 _) (((only_set w b 3 _).trans' (only_set _ b 2 _)).trans' (only_set _ b 6 _))
end
end Go.Proofs.Ytifpndjpijohfaa
