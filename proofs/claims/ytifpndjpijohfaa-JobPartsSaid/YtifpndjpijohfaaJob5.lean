/- An operation begins; somebody is withheld; cycles go by. -/
import Derived.Test.YtifpndjpijohfaaJob4
namespace Go.Proofs.Ytifpndjpijohfaa
open Go Go.RowKit

/-- The job behind its operation's beginning, and the answer. -/
def beginF (j : Jb) (x : Opn) (cost : Int) : Jb × Int :=
  if (doF j x).2 = true then ({ (doF j x).1 with rest := max cost 1 }, 0) else ({ (doF j x).1 with fault := true, rest := 1 }, 11)
theorem jbegin_nil (w : World) (cost : Int) : Calls Try.prog 9 #[.pointer none, .int .i64 cost] w (GrowI 1 w) := by
  go_enter Try.func9, Try.ntmps9
  go_wp2_with fail
  refine (jop_nil _).mono ?_
  rintro e w1 ⟨rfl, ho⟩
  have ho' := Lib.hid ho
  clear ho
  unfold zop Opn.val
  go_wp2
  go_ret
  exact ⟨rfl, ho'.out.alloc _⟩
section
variable {w : World} {b : Nat} {o : Option Nat} {j : Jb}
theorem jbegin_none (h : JbAt w b o j) (hr : 0 ≤ j.rest) (hn : opOf j = none) (cost : Int) : Calls Try.prog 9 #[.pointer (some ⟨b, 0, none⟩), .int .i64 cost] w (GrowI 1 w) := by
  have q := Lib.hid (jop_none h hr hn)
  clear h hr hn
  go_enter Try.func9, Try.ntmps9
  go_wp2_with fail
  refine q.out.mono ?_
  rintro e w1 ⟨rfl, ho⟩
  have ho' := Lib.hid ho
  clear ho
  unfold zop Opn.val
  go_wp2
  go_ret
  exact ⟨rfl, ho'.out.alloc _⟩

set_option maxHeartbeats 1000000 in
theorem jbegin_some (h : JbAt w b o j) {x : Opn} (hx : opOf j = some x) (hn : j.ops.length ≤ 1000) (cost : Int) : Calls Try.prog 9 #[.pointer (some ⟨b, 0, none⟩), .int .i64 cost] w (Turned (.int .i64 (beginF j x cost).2) w b o (beginF j x cost).1) := by
  have q := Lib.hid (jop_some h hx hn)
  have hd := Lib.hid (fun W (hW : Only (fun _ => False) w W) => jdo_any (h.new hW) x)
  obtain ⟨j1, hj1⟩ : ∃ j1, j1 = (doF j x).1 := ⟨_, rfl⟩
  obtain ⟨d, hd1⟩ : ∃ d, d = (doF j x).2 := ⟨_, rfl⟩
  have hv : beginF j x cost = if d = true then ({ j1 with rest := max cost 1 }, 0) else ({ j1 with fault := true, rest := 1 }, 11) := by rw [hj1, hd1]; rfl
  rw [← hj1, ← hd1] at hd
  obtain ⟨jr, hjr⟩ : ∃ jr, jr = beginF j x cost := ⟨_, rfl⟩
  rw [← hjr]
  have hv' := Lib.hid (hjr.trans hv)
  clear h hx hn hv hj1 hd1 hjr
  obtain ⟨ops, F, A, R, G, P, L, M, T⟩ := j1
  obtain ⟨K, a, b2⟩ := x
  unfold Opn.val at q hd
  go_enter Try.func9, Try.ntmps9
  go_wp2_with fail
  refine q.out.mono ?_
  rintro e w1 ⟨rfl, ho⟩
  have ho' := Lib.hid ho
  clear ho q
  go_wp2_with fail
  refine (hd.out _ (ho'.out.alloc _)).mono ?_
  rintro e w2 ⟨rfl, hJ, hO⟩
  have hO2 := Lib.hid (((ho'.out.alloc (.cells #[.int .i64 K, .int .i64 a, .int .i64 b2] 39)).mono (T := fun k => k = b) (fun _ _ h => h.elim)).trans' hO)
  obtain ⟨p, cap, h1, h2, hb, h3, h4⟩ := hJ.block
  obtain ⟨n, hn⟩ : ∃ n, n = ops.length := ⟨_, rfl⟩
  dsimp only at hb
  rw [← hn] at hb
  have hE := Lib.hid (fun w' v v0 fr (at_ : Nat) rs rg pu lf ar fa j' => turned (w' := w') (v := v) (v0 := v0) (fr := fr) (at_ := at_) (rs := rs) (rg := rg) (pu := pu) (lf := lf) (ar := ar) (fa := fa) (j' := j') hJ hn hb)
  have hb' := Lib.hid hb
  have hl := row_lt hb
  have c3 := row_cell hb (i := 3) rfl
  have f3 := row_free hb 3
  have f8 := row_free hb 8
  have c8 := row_cell hb (i := 8) rfl
  clear hJ hO h1 h2 hb h3 h4 hn ho' hd
  cases d
  · go_wp2
    go_ret
    rw [hv'.out]
    obtain ⟨e1, e2, e3⟩ := hE.out _ (.int .i64 0) (.int .i64 0) _ _ _ _ _ _ _ _ _ rfl rfl (row_set (row_set hb'.out 8 _) 3 _) ((only_set w2 b 8 _).trans' (only_set _ b 3 _))
    exact ⟨rfl, e2, hO2.out.trans' e3⟩
  · by_cases hc : 1 ≤ cost
    · have hmx := Lib.hid (show max cost 1 = cost by omega)
      go_wp2
      all_goals
        go_ret
        rw [hv'.out, if_pos (by trivial), hmx.out]
        obtain ⟨e1, e2, e3⟩ := hE.out _ (.int .i64 0) (.int .i64 0) _ _ _ _ _ _ _ _ _ rfl rfl (row_set hb'.out 3 _) (only_set w2 b 3 _)
        exact ⟨rfl, e2, hO2.out.trans' e3⟩
    · have hmx := Lib.hid (show max cost 1 = 1 by omega)
      go_wp2
      all_goals
        go_ret
        rw [hv'.out, if_pos (by trivial), hmx.out]
        obtain ⟨e1, e2, e3⟩ := hE.out _ (.int .i64 0) (.int .i64 0) _ _ _ _ _ _ _ _ _ rfl rfl (row_set hb'.out 3 _) (only_set w2 b 3 _)
        exact ⟨rfl, e2, hO2.out.trans' e3⟩
end
end Go.Proofs.Ytifpndjpijohfaa
