/- What an operation does at its beginning: push, pop, do. -/
import Derived.Test.YtifpndjpijohfaaJob2
namespace Go.Proofs.Ytifpndjpijohfaa
open Go Go.RowKit

theorem only_set (w : World) (b i : Nat) (u : Value) : Only (fun k => k = b) w (w.setCell ⟨b, i, none⟩ u) := (Only.refl (fun k => k = b) w).setCell (p := ⟨b, i, none⟩) (fun _ => rfl) u
/-- What is pushed then, and whether the frame has room. -/
def pushP (p f s : Int) : Int × Bool :=
  if 0 < s ∧ IntKind.i64.wrap (p + s) < p then (9223372036854775807, false)
  else if s < 0 ∧ p < IntKind.i64.wrap (p + s) then (-9223372036854775808, decide (-9223372036854775808 ≤ f))
  else (IntKind.i64.wrap (p + s), decide (IntKind.i64.wrap (p + s) ≤ f))
def popP (p s : Int) : Int :=
  if p ≤ s then 0 else if IntKind.i64.wrap (p - s) < 0 then 9223372036854775807 else IntKind.i64.wrap (p - s)
def Turned (v : Value) (w : World) (b : Nat) (o : Option Nat) (j : Jb) (e : Ending) (w' : World) : Prop := e = .returned v ∧ JbAt w' b o j ∧ Only (fun k => k = b) w w'
section
variable {w : World} {b : Nat} {o : Option Nat} {j : Jb}
/-- The walk's end: the block as it was turned. -/
theorem turned {w' : World} {v : Value} {p : Option Addr} {n cap : Nat} {fr rs rg pu lf : Int} {at_ : Nat} {ar fa : Bool} {v0 : Value} {j' : Jb} (h : JbAt w b o j) (hn : n = j.ops.length)
    (hb : w.heap[b]? = some (.cells [.slice p n cap, .int .i64 j.frame, .int .i64 j.at_, .int .i64 j.rest, .int .i64 j.regions, .int .i64 j.pushed, .int .i64 j.left, .bool j.armed, .bool j.fault].toArray 47 (0, 0)))
    (hj : j' = ⟨j.ops, fr, at_, rs, rg, pu, lf, ar, fa⟩) (hv : v0 = v)
    (hw : w'.heap[b]? = some (.cells [.slice p n cap, .int .i64 fr, .int .i64 at_, .int .i64 rs, .int .i64 rg, .int .i64 pu, .int .i64 lf, .bool ar, .bool fa].toArray 47 (0, 0))) (hO : Only (fun k => k = b) w w') :
    Turned v w b o j' (.returned v0) w' := by
  subst hj hv hn
  exact ⟨rfl, h.turn hO hb rfl hw, hO⟩

set_option maxHeartbeats 1000000 in
theorem jpush_any (h : JbAt w b o j) (s : Int) : Calls Try.prog 22 #[.pointer (some ⟨b, 0, none⟩), .int .i64 s] w (Turned (.bool (pushP j.pushed j.frame s).2) w b o { j with pushed := (pushP j.pushed j.frame s).1 }) := by
  obtain ⟨ops, F, A, R, G, P, L, M, T⟩ := j
  obtain ⟨p, cap, h1, h2, hb, h3, h4⟩ := h.block
  obtain ⟨n, hn⟩ : ∃ n, n = ops.length := ⟨_, rfl⟩
  dsimp only at hb ⊢
  rw [← hn] at hb
  have hE := Lib.hid (fun w' v v0 fr (at_ : Nat) rs rg pu lf ar fa j' => turned (w := w) (w' := w') (v := v) (v0 := v0) (fr := fr) (at_ := at_) (rs := rs) (rg := rg) (pu := pu) (lf := lf) (ar := ar) (fa := fa) (j' := j') h hn hb)
  have hb' := Lib.hid hb
  have hl := row_lt hb
  have c1 := row_cell hb (i := 1) rfl
  have c5 := row_cell hb (i := 5) rfl
  have f5 := row_free hb 5
  obtain ⟨S, hS⟩ : ∃ S, S = IntKind.i64.wrap (P + s) := ⟨_, rfl⟩
  have hq : pushP P F s = if 0 < s ∧ S < P then (9223372036854775807, false) else if s < 0 ∧ P < S then (-9223372036854775808, decide (-9223372036854775808 ≤ F)) else (S, decide (S ≤ F)) := by unfold pushP; rw [← hS]
  have hwr : IntKind.i64.wrap (P + s) = S := hS.symm
  clear h h1 h2 hb h3 h4 hn hS
  by_cases hA : 0 < s ∧ S < P
  · rw [if_pos hA] at hq
    rw [hq]
    obtain ⟨hA1, hA2⟩ := hA
    clear hq
    go_enter Try.func22, Try.ntmps22
    go_wp2
    go_ret
    exact hE.out _ _ _ _ _ _ _ _ _ _ _ _ rfl rfl (row_set hb'.out 5 _) (only_set w b 5 _)
  · rw [if_neg hA] at hq
    by_cases hB : s < 0 ∧ P < S
    · rw [if_pos hB] at hq
      rw [hq]
      obtain ⟨hB1, hB2⟩ := hB
      have hB3 : ¬ 0 < s := by omega
      clear hq hA
      go_enter Try.func22, Try.ntmps22
      go_wp2
      go_ret
      exact hE.out _ _ _ _ _ _ _ _ _ _ _ _ rfl rfl (row_set hb'.out 5 _) (only_set w b 5 _)
    · rw [if_neg hB] at hq
      rw [hq]
      clear hq
      by_cases h0 : 0 < s
      · have h5 : ¬ s < 0 := by omega
        have h6 : ¬ S < P := by omega
        clear hA hB
        go_enter Try.func22, Try.ntmps22
        go_wp2
        go_ret
        exact hE.out _ _ _ _ _ _ _ _ _ _ _ _ rfl rfl (row_set hb'.out 5 _) (only_set w b 5 _)
      · by_cases h5 : s < 0
        · have h6 : ¬ P < S := by omega
          clear hA hB
          go_enter Try.func22, Try.ntmps22
          go_wp2
          go_ret
          exact hE.out _ _ _ _ _ _ _ _ _ _ _ _ rfl rfl (row_set hb'.out 5 _) (only_set w b 5 _)
        · clear hA hB
          go_enter Try.func22, Try.ntmps22
          go_wp2
          go_ret
          exact hE.out _ _ _ _ _ _ _ _ _ _ _ _ rfl rfl (row_set hb'.out 5 _) (only_set w b 5 _)

set_option maxHeartbeats 1000000 in
theorem jpop_any (h : JbAt w b o j) (s : Int) : Calls Try.prog 23 #[.pointer (some ⟨b, 0, none⟩), .int .i64 s] w (Turned (.tuple #[]) w b o { j with pushed := popP j.pushed s }) := by
  obtain ⟨ops, F, A, R, G, P, L, M, T⟩ := j
  obtain ⟨p, cap, h1, h2, hb, h3, h4⟩ := h.block
  obtain ⟨n, hn⟩ : ∃ n, n = ops.length := ⟨_, rfl⟩
  dsimp only at hb ⊢
  rw [← hn] at hb
  have hE := Lib.hid (fun w' v v0 fr (at_ : Nat) rs rg pu lf ar fa j' => turned (w := w) (w' := w') (v := v) (v0 := v0) (fr := fr) (at_ := at_) (rs := rs) (rg := rg) (pu := pu) (lf := lf) (ar := ar) (fa := fa) (j' := j') h hn hb)
  have hb' := Lib.hid hb
  have hl := row_lt hb
  have c5 := row_cell hb (i := 5) rfl
  have f5 := row_free hb 5
  obtain ⟨S, hS⟩ : ∃ S, S = IntKind.i64.wrap (P - s) := ⟨_, rfl⟩
  have hq : popP P s = if P ≤ s then 0 else if S < 0 then 9223372036854775807 else S := by unfold popP; rw [← hS]
  have hwr : IntKind.i64.wrap (P - s) = S := hS.symm
  clear h h1 h2 hb h3 h4 hn hS
  by_cases hA : P ≤ s
  · rw [if_pos hA] at hq
    rw [hq]
    clear hq
    go_enter Try.func23, Try.ntmps23
    go_wp2
    go_end0
    exact hE.out _ _ _ _ _ _ _ _ _ _ _ _ rfl rfl (row_set hb'.out 5 _) (only_set w b 5 _)
  · rw [if_neg hA] at hq
    by_cases hB : S < 0
    · rw [if_pos hB] at hq
      rw [hq]
      clear hq
      go_enter Try.func23, Try.ntmps23
      go_wp2
      go_end0
      exact hE.out _ _ _ _ _ _ _ _ _ _ _ _ rfl rfl (row_set (row_set hb'.out 5 _) 5 _) ((only_set w b 5 _).trans' (only_set _ b 5 _))
    · rw [if_neg hB] at hq
      rw [hq]
      clear hq
      go_enter Try.func23, Try.ntmps23
      go_wp2
      go_end0
      exact hE.out _ _ _ _ _ _ _ _ _ _ _ _ rfl rfl (row_set hb'.out 5 _) (only_set w b 5 _)
end
end Go.Proofs.Ytifpndjpijohfaa
