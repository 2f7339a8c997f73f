/- What an operation does at its beginning; its beginning. -/
import Derived.Test.YtifpndjpijohfaaJob3
namespace Go.Proofs.Ytifpndjpijohfaa
open Go Go.RowKit

/-- What an operation does at its beginning; false if that overruns the frame. -/
def doF (j : Jb) (x : Opn) : Jb × Bool :=
  if x.k = 3 then ({ j with regions := IntKind.i64.wrap (j.regions + 1) }, true)
  else if x.k = 4 then ({ j with regions := max (IntKind.i64.wrap (j.regions - 1)) 0 }, true)
  else if x.k = 7 then ({ j with pushed := (pushP j.pushed j.frame x.a).1 }, (pushP j.pushed j.frame x.a).2)
  else if x.k = 8 then ({ j with pushed := popP j.pushed x.a }, true)
  else (j, true)
theorem doF_same (j : Jb) (x : Opn) : (doF j x).1.ops = j.ops ∧ (doF j x).1.frame = j.frame ∧ (doF j x).1.at_ = j.at_ ∧ (doF j x).1.rest = j.rest ∧ (doF j x).1.left = j.left ∧ (doF j x).1.armed = j.armed ∧ (doF j x).1.fault = j.fault := by
  unfold doF
  repeat' split
  all_goals exact ⟨rfl, rfl, rfl, rfl, rfl, rfl, rfl⟩
theorem Turned.mono {v : Value} {w w' w0 : World} {b : Nat} {o : Option Nat} {j : Jb} {e : Ending} (h0 : Only (fun _ => False) w0 w) (h : Turned v w b o j e w') : Turned v w0 b o j e w' :=
  ⟨h.1, h.2.1, (h0.mono (T := fun k => k = b) (fun _ _ h => h.elim)).trans' h.2.2⟩
section
variable {w : World} {b : Nat} {o : Option Nat} {j : Jb}
theorem Turned.same (h : JbAt w b o j) {w' : World} (ho : Only (fun _ => False) w w') (v : Value) : Turned v w b o j (.returned v) w' :=
  ⟨rfl, h.new ho, ho.mono (fun _ _ h => h.elim)⟩

set_option maxHeartbeats 1000000 in
theorem jdo_any (h : JbAt w b o j) (x : Opn) : Calls Try.prog 21 #[.pointer (some ⟨b, 0, none⟩), x.val] w (Turned (.bool (doF j x).2) w b o (doF j x).1) := by
  obtain ⟨K, a, b2⟩ := x
  have hm := Lib.hid (fun (v : Value) (j' : Jb) (e : Ending) (w' : World) => Turned.mono (v := v) (j := j') (e := e) (w' := w') (b := b) (o := o) ((Only.refl (fun _ => False) w).alloc (.cells #[.int .i64 K, .int .i64 a, .int .i64 b2] 39)))
  have h' := h.new ((Only.refl (fun _ => False) w).alloc (.cells #[.int .i64 K, .int .i64 a, .int .i64 b2] 39))
  have hpu := Lib.hid (jpush_any h' a)
  have hpo := Lib.hid (jpop_any h' a)
  have hsame := Lib.hid (fun v => Turned.same h ((Only.refl (fun _ => False) w).alloc (.cells #[.int .i64 K, .int .i64 a, .int .i64 b2] 39)) v)
  obtain ⟨ops, F, A, R, G, P, L, M, T⟩ := j
  obtain ⟨p, cap, h1, h2, hb, h3, h4⟩ := h.block
  obtain ⟨n, hn⟩ : ∃ n, n = ops.length := ⟨_, rfl⟩
  dsimp only at hb hpu hpo
  rw [← hn] at hb
  have hE := Lib.hid (fun w' v v0 fr (at_ : Nat) rs rg pu lf ar fa j' => turned (w' := w') (v := v) (v0 := v0) (fr := fr) (at_ := at_) (rs := rs) (rg := rg) (pu := pu) (lf := lf) (ar := ar) (fa := fa) (j' := j') h hn hb)
  have hb' := Lib.hid hb
  have hl := row_lt hb
  have c4 := row_cell hb (i := 4) rfl
  have f4 := row_free hb 4
  unfold Opn.val
  clear h1 h2 hb h3 h4 hn h h'
  by_cases k3 : K = 3
  · subst k3
    rw [show doF ⟨ops, F, A, R, G, P, L, M, T⟩ ⟨3, a, b2⟩ = (⟨ops, F, A, R, IntKind.i64.wrap (G + 1), P, L, M, T⟩, true) from rfl]
    obtain ⟨G', hG'⟩ : ∃ G', G' = IntKind.i64.wrap (G + 1) := ⟨_, rfl⟩
    have hwr : IntKind.i64.wrap (G + 1) = G' := hG'.symm
    rw [hwr]
    clear hG' hpu hpo hsame
    go_enter Try.func21, Try.ntmps21
    go_wp2
    go_ret
    exact hE.out _ _ _ _ _ _ _ _ _ _ _ _ rfl rfl (heap_kept_alloc (row_set hb'.out 4 _) _) ((only_set w b 4 _).alloc _)
  · by_cases k4 : K = 4
    · subst k4
      rw [show doF ⟨ops, F, A, R, G, P, L, M, T⟩ ⟨4, a, b2⟩ = (⟨ops, F, A, R, max (IntKind.i64.wrap (G - 1)) 0, P, L, M, T⟩, true) from rfl]
      obtain ⟨G', hG'⟩ : ∃ G', G' = IntKind.i64.wrap (G - 1) := ⟨_, rfl⟩
      have hwr : IntKind.i64.wrap (G - 1) = G' := hG'.symm
      rw [hwr]
      clear hG' hpu hpo hsame k3
      by_cases hg : 0 ≤ G'
      · rw [show max G' 0 = G' by omega]
        go_enter Try.func21, Try.ntmps21
        go_wp2
        all_goals
          go_ret
          exact hE.out _ _ _ _ _ _ _ _ _ _ _ _ rfl rfl (heap_kept_alloc (row_set hb'.out 4 _) _) ((only_set w b 4 _).alloc _)
      · rw [show max G' 0 = 0 by omega]
        go_enter Try.func21, Try.ntmps21
        go_wp2
        all_goals
          go_ret
          exact hE.out _ _ _ _ _ _ _ _ _ _ _ _ rfl rfl (heap_kept_alloc (row_set hb'.out 4 _) _) ((only_set w b 4 _).alloc _)
    · by_cases k7 : K = 7
      · subst k7
        rw [show doF ⟨ops, F, A, R, G, P, L, M, T⟩ ⟨7, a, b2⟩ = (⟨ops, F, A, R, G, (pushP P F a).1, L, M, T⟩, (pushP P F a).2) from rfl]
        obtain ⟨Z, hZ⟩ : ∃ Z, Z = pushP P F a := ⟨_, rfl⟩
        rw [← hZ] at hpu ⊢
        clear k3 k4 hpo hsame hE hZ
        go_enter Try.func21, Try.ntmps21
        go_wp2_with fail
        refine hpu.out.mono ?_
        rintro e w1 ht
        have ht' := Lib.hid ht
        obtain ⟨rfl, -, -⟩ := ht
        go_wp2
        go_ret
        exact hm.out _ _ _ _ ht'.out
      · by_cases k8 : K = 8
        · subst k8
          rw [show doF ⟨ops, F, A, R, G, P, L, M, T⟩ ⟨8, a, b2⟩ = (⟨ops, F, A, R, G, popP P a, L, M, T⟩, true) from rfl]
          obtain ⟨Z, hZ⟩ : ∃ Z, Z = popP P a := ⟨_, rfl⟩
          rw [← hZ] at hpo ⊢
          clear k3 k4 k7 hpu hsame hE hZ
          go_enter Try.func21, Try.ntmps21
          go_wp2_with fail
          refine hpo.out.mono ?_
          rintro e w1 ⟨rfl, ht, hO⟩
          have ht' := Lib.hid ht
          have hO' := Lib.hid hO
          clear ht hO
          go_wp2
          go_ret
          exact hm.out _ _ _ _ ⟨rfl, ht'.out, hO'.out⟩
        · have hv : doF ⟨ops, F, A, R, G, P, L, M, T⟩ ⟨K, a, b2⟩ = (⟨ops, F, A, R, G, P, L, M, T⟩, true) := by
            unfold doF
            simp [k3, k4, k7, k8]
          rw [hv]
          clear hv hpu hpo hE
          have n3 : (K == 3) = false := by simpa using k3
          have n4 : (K == 4) = false := by simpa using k4
          have n7 : (K == 7) = false := by simpa using k7
          have n8 : (K == 8) = false := by simpa using k8
          go_enter Try.func21, Try.ntmps21
          go_wp2
          go_ret
          exact hsame.out _
end
end Go.Proofs.Ytifpndjpijohfaa
