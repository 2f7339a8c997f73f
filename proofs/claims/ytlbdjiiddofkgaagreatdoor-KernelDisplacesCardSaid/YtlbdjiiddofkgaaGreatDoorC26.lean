import Derived.Test.YtlbdjiiddofkgaaGreatDoorC25
import Derived.Deep.RegionHeld3
namespace Go.Proofs.YtlbdjiiddofkgaaGreatDoor
open Go Go.RowKit
theorem zAM (w : World) (b i : Nat) (u : Value) : Only (fun k => k = b) w (w.setCell ⟨b, i, none⟩ u) := (Only.refl (fun k => k = b) w).setCell (p := ⟨b, i, none⟩) (fun _ => rfl) u
def pushP (p f s : Int) : Int × Bool :=
 if 0 < s /\ IntKind.i64.wrap (p + s) < p then (9223372036854775807, false)
 else if s < 0 /\ p < IntKind.i64.wrap (p + s) then (-9223372036854775808, decide (-9223372036854775808 <= f))
 else (IntKind.i64.wrap (p + s), decide (IntKind.i64.wrap (p + s) <= f))
def popP (p s : Int) : Int :=
 if p <= s then 0 else if IntKind.i64.wrap (p - s) < 0 then 9223372036854775807 else IntKind.i64.wrap (p - s)
def Turned (v : Value) (w : World) (b : Nat) (o : Option Nat) (j : Jz) (e : Ending) (w' : World) : Prop := e = .returned v /\ JbAt w' b o j /\ Only (fun k => k = b) w w'
section
variable {w : World} {b : Nat} {o : Option Nat} {j : Jz}
theorem zDS {w' : World} {v : Value} {p : Option Addr} {n cap : Nat} {fr rs rg pu lf : Int} {at_ : Nat} {ar fa : Bool} {v0 : Value} {j' : Jz} (h : JbAt w b o j) (hn : n = j.ops.length)
  (hb : w.heap[b]? = some (.cells [.slice p n cap, .int .i64 j.frame, .int .i64 j.at_, .int .i64 j.rest, .int .i64 j.regions, .int .i64 j.pushed, .int .i64 j.left, .bool j.armed, .bool j.fault].toArray 279 (0, 0)))
  (hj : j' = ⟨j.ops, fr, at_, rs, rg, pu, lf, ar, fa⟩) (hv : v0 = v)
  (hw : w'.heap[b]? = some (.cells [.slice p n cap, .int .i64 fr, .int .i64 at_, .int .i64 rs, .int .i64 rg, .int .i64 pu, .int .i64 lf, .bool ar, .bool fa].toArray 279 (0, 0))) (hO : Only (fun k => k = b) w w') :
  Turned v w b o j' (.returned v0) w' := by
 subst hj hv hn
 exact ⟨rfl, h.turn hO hb rfl hw, hO⟩
set_option maxHeartbeats 1000000 in
theorem zMB (h : JbAt w b o j) (s : Int) : Calls Tryz.prog 265 #[.pointer (some ⟨b, 0, none⟩), .int .i64 s] w (Turned (.bool (pushP j.pushed j.frame s).2) w b o { j with pushed := (pushP j.pushed j.frame s).1 }) := by
 obtain ⟨ops, F, A, R, G, P, L, M, T⟩ := j
 obtain ⟨p, cap, h1, h2, hb, h3, h4⟩ := h.block
 obtain ⟨n, hn⟩ : ∃ n, n = ops.length := ⟨_, rfl⟩
 dsimp only at hb ⊢
 rw [<- hn] at hb
 have hE := zh (fun w' v v0 fr (at_ : Nat) rs rg pu lf ar fa j' => zDS (w := w) (w' := w') (v := v) (v0 := v0) (fr := fr) (at_ := at_) (rs := rs) (rg := rg) (pu := pu) (lf := lf) (ar := ar) (fa := fa) (j' := j') h hn hb)
 have hb' := zh hb
 have hl := zAG hb
 have c1 := zAA hb (i := 1) rfl
 have c5 := zAA hb (i := 5) rfl
 have f5 := zAC hb 5
 obtain ⟨S, hS⟩ : ∃ S, S = IntKind.i64.wrap (P + s) := ⟨_, rfl⟩
 have hq : pushP P F s = if 0 < s /\ S < P then (9223372036854775807, false) else if s < 0 /\ P < S then (-9223372036854775808, decide (-9223372036854775808 <= F)) else (S, decide (S <= F)) := by unfold pushP; rw [<- hS]
 have hwr : IntKind.i64.wrap (P + s) = S := hS.symm
 clear h h1 h2 hb h3 h4 hn hS
 by_cases hA : 0 < s /\ S < P
 ·rw [if_pos hA] at hq
  rw [hq]
  obtain ⟨hA1, hA2⟩ := hA
  clear hq
  go_enter Tryz.func265, Tryz.ntmps265
  go_wp2
  go_ret
  exact hE.out _ _ _ _ _ _ _ _ _ _ _ _ rfl rfl (zAE hb'.out 5 _) (zAM w b 5 _)
 ·rw [if_neg hA] at hq
  by_cases hB : s < 0 /\ P < S
  ·rw [if_pos hB] at hq
   rw [hq]
   obtain ⟨hB1, hB2⟩ := hB
   have hB3 : ¬ 0 < s := by omega
   clear hq hA
   go_enter Tryz.func265, Tryz.ntmps265
   go_wp2
   go_ret
   exact hE.out _ _ _ _ _ _ _ _ _ _ _ _ rfl rfl (zAE hb'.out 5 _) (zAM w b 5 _)
  ·rw [if_neg hB] at hq
   rw [hq]
   clear hq
   by_cases h0 : 0 < s
   ·have h5 : ¬ s < 0 := by omega
    have h6 : ¬ S < P := by omega
    clear hA hB
    go_enter Tryz.func265, Tryz.ntmps265
    go_wp2
    go_ret
    exact hE.out _ _ _ _ _ _ _ _ _ _ _ _ rfl rfl (zAE hb'.out 5 _) (zAM w b 5 _)
   ·by_cases h5 : s < 0
    ·have h6 : ¬ P < S := by omega
     clear hA hB
     go_enter Tryz.func265, Tryz.ntmps265
     go_wp2
     go_ret
     exact hE.out _ _ _ _ _ _ _ _ _ _ _ _ rfl rfl (zAE hb'.out 5 _) (zAM w b 5 _)
    ·clear hA hB
     go_enter Tryz.func265, Tryz.ntmps265
     go_wp2
     go_ret
     exact hE.out _ _ _ _ _ _ _ _ _ _ _ _ rfl rfl (zAE hb'.out 5 _) (zAM w b 5 _)
set_option maxHeartbeats 1000000 in
theorem zOX (h : JbAt w b o j) (s : Int) : Calls Tryz.prog 266 #[.pointer (some ⟨b, 0, none⟩), .int .i64 s] w (Turned (.tuple #[]) w b o { j with pushed := popP j.pushed s }) := by
 obtain ⟨ops, F, A, R, G, P, L, M, T⟩ := j
 obtain ⟨p, cap, h1, h2, hb, h3, h4⟩ := h.block
 obtain ⟨n, hn⟩ : ∃ n, n = ops.length := ⟨_, rfl⟩
 dsimp only at hb ⊢
 rw [<- hn] at hb
 have hE := zh (fun w' v v0 fr (at_ : Nat) rs rg pu lf ar fa j' => zDS (w := w) (w' := w') (v := v) (v0 := v0) (fr := fr) (at_ := at_) (rs := rs) (rg := rg) (pu := pu) (lf := lf) (ar := ar) (fa := fa) (j' := j') h hn hb)
 have hb' := zh hb
 have hl := zAG hb
 have c5 := zAA hb (i := 5) rfl
 have f5 := zAC hb 5
 obtain ⟨S, hS⟩ : ∃ S, S = IntKind.i64.wrap (P - s) := ⟨_, rfl⟩
 have hq : popP P s = if P <= s then 0 else if S < 0 then 9223372036854775807 else S := by unfold popP; rw [<- hS]
 have hwr : IntKind.i64.wrap (P - s) = S := hS.symm
 clear h h1 h2 hb h3 h4 hn hS
 by_cases hA : P <= s
 ·rw [if_pos hA] at hq
  rw [hq]
  clear hq
  go_enter Tryz.func266, Tryz.ntmps266
  go_wp2
  go_end0
  exact hE.out _ _ _ _ _ _ _ _ _ _ _ _ rfl rfl (zAE hb'.out 5 _) (zAM w b 5 _)
 ·rw [if_neg hA] at hq
  by_cases hB : S < 0
  ·rw [if_pos hB] at hq
   rw [hq]
   clear hq
   go_enter Tryz.func266, Tryz.ntmps266
   go_wp2
   go_end0
   exact hE.out _ _ _ _ _ _ _ _ _ _ _ _ rfl rfl (zAE (zAE hb'.out 5 _) 5 _) ((zAM w b 5 _).trans' (zAM _ b 5 _))
  ·rw [if_neg hB] at hq
   rw [hq]
   clear hq
   go_enter Tryz.func266, Tryz.ntmps266
   go_wp2
   go_end0
   exact hE.out _ _ _ _ _ _ _ _ _ _ _ _ rfl rfl (zAE hb'.out 5 _) (zAM w b 5 _)
end
def doF (j : Jz) (x : Opn) : Jz × Bool :=
 if x.k = 3 then ({ j with regions := IntKind.i64.wrap (j.regions + 1) }, true)
 else if x.k = 4 then ({ j with regions := max (IntKind.i64.wrap (j.regions - 1)) 0 }, true)
 else if x.k = 7 then ({ j with pushed := (pushP j.pushed j.frame x.a).1 }, (pushP j.pushed j.frame x.a).2)
 else if x.k = 8 then ({ j with pushed := popP j.pushed x.a }, true)
 else (j, true)
theorem zGJ (j : Jz) (x : Opn) : (doF j x).1.ops = j.ops /\ (doF j x).1.frame = j.frame /\ (doF j x).1.at_ = j.at_ /\ (doF j x).1.rest = j.rest /\ (doF j x).1.left = j.left /\ (doF j x).1.armed = j.armed /\ (doF j x).1.fault = j.fault := by
 unfold doF
 repeat' split
 all_goals exact ⟨rfl, rfl, rfl, rfl, rfl, rfl, rfl⟩
theorem Turned.mono {v : Value} {w w' w0 : World} {b : Nat} {o : Option Nat} {j : Jz} {e : Ending} (h0 : Only (fun _ => False) w0 w) (h : Turned v w b o j e w') : Turned v w0 b o j e w' :=
 ⟨h.1, h.2.1, (h0.mono (T := fun k => k = b) (fun _ _ h => h.elim)).trans' h.2.2⟩
section
variable {w : World} {b : Nat} {o : Option Nat} {j : Jz}
theorem Turned.same (h : JbAt w b o j) {w' : World} (ho : Only (fun _ => False) w w') (v : Value) : Turned v w b o j (.returned v) w' :=
 ⟨rfl, h.new ho, ho.mono (fun _ _ h => h.elim)⟩
set_option maxHeartbeats 1000000 in
theorem zRD (h : JbAt w b o j) (x : Opn) : Calls Tryz.prog 220 #[.pointer (some ⟨b, 0, none⟩), x.val] w (Turned (.bool (doF j x).2) w b o (doF j x).1) := by
 obtain ⟨K, a, b2⟩ := x
 have hm := zh (fun (v : Value) (j' : Jz) (e : Ending) (w' : World) => Turned.mono (v := v) (j := j') (e := e) (w' := w') (b := b) (o := o) ((Only.refl (fun _ => False) w).alloc (.cells #[.int .i64 K, .int .i64 a, .int .i64 b2] 94)))
 have h' := h.new ((Only.refl (fun _ => False) w).alloc (.cells #[.int .i64 K, .int .i64 a, .int .i64 b2] 94))
 have hpu := zh (zMB h' a)
 have hpo := zh (zOX h' a)
 have jV := zh (fun v => Turned.same h ((Only.refl (fun _ => False) w).alloc (.cells #[.int .i64 K, .int .i64 a, .int .i64 b2] 94)) v)
 obtain ⟨ops, F, A, R, G, P, L, M, T⟩ := j
 obtain ⟨p, cap, h1, h2, hb, h3, h4⟩ := h.block
 obtain ⟨n, hn⟩ : ∃ n, n = ops.length := ⟨_, rfl⟩
 dsimp only at hb hpu hpo
 rw [<- hn] at hb
 have hE := zh (fun w' v v0 fr (at_ : Nat) rs rg pu lf ar fa j' => zDS (w' := w') (v := v) (v0 := v0) (fr := fr) (at_ := at_) (rs := rs) (rg := rg) (pu := pu) (lf := lf) (ar := ar) (fa := fa) (j' := j') h hn hb)
 have hb' := zh hb
 have hl := zAG hb
 have c4 := zAA hb (i := 4) rfl
 have f4 := zAC hb 4
 unfold Opn.val
 clear h1 h2 hb h3 h4 hn h h'
 by_cases k3 : K = 3
 ·subst k3
  rw [show doF ⟨ops, F, A, R, G, P, L, M, T⟩ ⟨3, a, b2⟩ = (⟨ops, F, A, R, IntKind.i64.wrap (G + 1), P, L, M, T⟩, true) from rfl]
  obtain ⟨G', hG'⟩ : ∃ G', G' = IntKind.i64.wrap (G + 1) := ⟨_, rfl⟩
  have hwr : IntKind.i64.wrap (G + 1) = G' := hG'.symm
  rw [hwr]
  clear hG' hpu hpo jV
  go_enter Tryz.func220, Tryz.ntmps220
  go_wp2
  go_ret
  exact hE.out _ _ _ _ _ _ _ _ _ _ _ _ rfl rfl (zAF (zAE hb'.out 4 _) _) ((zAM w b 4 _).alloc _)
 ·by_cases k4 : K = 4
  ·subst k4
   rw [show doF ⟨ops, F, A, R, G, P, L, M, T⟩ ⟨4, a, b2⟩ = (⟨ops, F, A, R, max (IntKind.i64.wrap (G - 1)) 0, P, L, M, T⟩, true) from rfl]
   obtain ⟨G', hG'⟩ : ∃ G', G' = IntKind.i64.wrap (G - 1) := ⟨_, rfl⟩
   have hwr : IntKind.i64.wrap (G - 1) = G' := hG'.symm
   rw [hwr]
   clear hG' hpu hpo jV k3
   by_cases hg : 0 <= G'
   ·rw [show max G' 0 = G' by omega]
    go_enter Tryz.func220, Tryz.ntmps220
    go_wp2
    all_goals
     go_ret
     exact hE.out _ _ _ _ _ _ _ _ _ _ _ _ rfl rfl (zAF (zAE hb'.out 4 _) _) ((zAM w b 4 _).alloc _)
   ·rw [show max G' 0 = 0 by omega]
    go_enter Tryz.func220, Tryz.ntmps220
    go_wp2
    all_goals
     go_ret
     exact hE.out _ _ _ _ _ _ _ _ _ _ _ _ rfl rfl (zAF (zAE hb'.out 4 _) _) ((zAM w b 4 _).alloc _)
  ·by_cases k7 : K = 7
   ·subst k7
    rw [show doF ⟨ops, F, A, R, G, P, L, M, T⟩ ⟨7, a, b2⟩ = (⟨ops, F, A, R, G, (pushP P F a).1, L, M, T⟩, (pushP P F a).2) from rfl]
    obtain ⟨Z, hZ⟩ : ∃ Z, Z = pushP P F a := ⟨_, rfl⟩
    rw [<- hZ] at hpu ⊢
    clear k3 k4 hpo jV hE hZ
    go_enter Tryz.func220, Tryz.ntmps220
    go_wp2_with fail
    refine hpu.out.mono ?_
    rintro e w1 ht
    have ht' := zh ht
    obtain ⟨rfl, -, -⟩ := ht
    go_wp2
    go_ret
    exact hm.out _ _ _ _ ht'.out
   ·by_cases k8 : K = 8
    ·subst k8
     rw [show doF ⟨ops, F, A, R, G, P, L, M, T⟩ ⟨8, a, b2⟩ = (⟨ops, F, A, R, G, popP P a, L, M, T⟩, true) from rfl]
     obtain ⟨Z, hZ⟩ : ∃ Z, Z = popP P a := ⟨_, rfl⟩
     rw [<- hZ] at hpo ⊢
     clear k3 k4 k7 hpu jV hE hZ
     go_enter Tryz.func220, Tryz.ntmps220
     go_wp2_with fail
     refine hpo.out.mono ?_
     rintro e w1 ⟨rfl, ht, hO⟩
     have ht' := zh ht
     have hO' := zh hO
     clear ht hO
     go_wp2
     go_ret
     exact hm.out _ _ _ _ ⟨rfl, ht'.out, hO'.out⟩
    ·have hv : doF ⟨ops, F, A, R, G, P, L, M, T⟩ ⟨K, a, b2⟩ = (⟨ops, F, A, R, G, P, L, M, T⟩, true) := by
      unfold doF
      simp [k3, k4, k7, k8]
     rw [hv]
     clear hv hpu hpo hE
     have n3 : (K == 3) = false := by simpa using k3
     have n4 : (K == 4) = false := by simpa using k4
     have n7 : (K == 7) = false := by simpa using k7
     have n8 : (K == 8) = false := by simpa using k8
     go_enter Tryz.func220, Tryz.ntmps220
     go_wp2
     go_ret
     exact jV.out _
end
def beginF (j : Jz) (x : Opn) (cost : Int) : Jz × Int :=
 if (doF j x).2 = true then ({ (doF j x).1 with rest := max cost 1 }, 0) else ({ (doF j x).1 with fault := true, rest := 1 }, 11)
section
variable {w : World} {b : Nat} {o : Option Nat} {j : Jz}
set_option maxHeartbeats 1000000 in
theorem zIR (h : JbAt w b o j) {x : Opn} (hx : opOf j = some x) (hn : j.ops.length <= 1000) (cost : Int) : Calls Tryz.prog 162 #[.pointer (some ⟨b, 0, none⟩), .int .i64 cost] w (Turned (.int .i64 (beginF j x cost).2) w b o (beginF j x cost).1) := by
 have q := zh (zJU h hx hn)
 have hd := zh (fun W (hW : Only (fun _ => False) w W) => zRD (h.new hW) x)
 obtain ⟨j1, hj1⟩ : ∃ j1, j1 = (doF j x).1 := ⟨_, rfl⟩
 obtain ⟨d, hd1⟩ : ∃ d, d = (doF j x).2 := ⟨_, rfl⟩
 have hv : beginF j x cost = if d = true then ({ j1 with rest := max cost 1 }, 0) else ({ j1 with fault := true, rest := 1 }, 11) := by rw [hj1, hd1]; rfl
 rw [<- hj1, <- hd1] at hd
 obtain ⟨jr, hjr⟩ : ∃ jr, jr = beginF j x cost := ⟨_, rfl⟩
 rw [<- hjr]
 have hv' := zh (hjr.trans hv)
 clear h hx hn hv hj1 hd1 hjr
 obtain ⟨ops, F, A, R, G, P, L, M, T⟩ := j1
 obtain ⟨K, a, b2⟩ := x
 unfold Opn.val at q hd
 go_enter Tryz.func162, Tryz.ntmps162
 go_wp2_with fail
 refine q.out.mono ?_
 rintro e w1 ⟨rfl, ho⟩
 have ho' := zh ho
 clear ho q
 go_wp2_with fail
 refine (hd.out _ (ho'.out.alloc _)).mono ?_
 rintro e w2 ⟨rfl, hJ, hO⟩
 have hO2 := zh (((ho'.out.alloc (.cells #[.int .i64 K, .int .i64 a, .int .i64 b2] 94)).mono (T := fun k => k = b) (fun _ _ h => h.elim)).trans' hO)
 obtain ⟨p, cap, h1, h2, hb, h3, h4⟩ := hJ.block
 obtain ⟨n, hn⟩ : ∃ n, n = ops.length := ⟨_, rfl⟩
 dsimp only at hb
 rw [<- hn] at hb
 have hE := zh (fun w' v v0 fr (at_ : Nat) rs rg pu lf ar fa j' => zDS (w' := w') (v := v) (v0 := v0) (fr := fr) (at_ := at_) (rs := rs) (rg := rg) (pu := pu) (lf := lf) (ar := ar) (fa := fa) (j' := j') hJ hn hb)
 have hb' := zh hb
 have hl := zAG hb
 have c3 := zAA hb (i := 3) rfl
 have f3 := zAC hb 3
 have f8 := zAC hb 8
 have c8 := zAA hb (i := 8) rfl
 clear hJ hO h1 h2 hb h3 h4 hn ho' hd
 cases d
 ·go_wp2
  go_ret
  rw [hv'.out]
  obtain ⟨e1, e2, e3⟩ := hE.out _ (.int .i64 0) (.int .i64 0) _ _ _ _ _ _ _ _ _ rfl rfl (zAE (zAE hb'.out 8 _) 3 _) ((zAM w2 b 8 _).trans' (zAM _ b 3 _))
  exact ⟨rfl, e2, hO2.out.trans' e3⟩
 ·by_cases hc : 1 <= cost
  ·have hmx := zh (show max cost 1 = cost by omega)
   go_wp2
   all_goals
    go_ret
    rw [hv'.out, if_pos (by trivial), hmx.out]
    obtain ⟨e1, e2, e3⟩ := hE.out _ (.int .i64 0) (.int .i64 0) _ _ _ _ _ _ _ _ _ rfl rfl (zAE hb'.out 3 _) (zAM w2 b 3 _)
    exact ⟨rfl, e2, hO2.out.trans' e3⟩
  ·have hmx := zh (show max cost 1 = 1 by omega)
   go_wp2
   all_goals
    go_ret
    rw [hv'.out, if_pos (by trivial), hmx.out]
    obtain ⟨e1, e2, e3⟩ := hE.out _ (.int .i64 0) (.int .i64 0) _ _ _ _ _ _ _ _ _ rfl rfl (zAE hb'.out 3 _) (zAM w2 b 3 _)
    exact ⟨rfl, e2, hO2.out.trans' e3⟩
end
def whB (j : Jz) : Bool := !overB j && decide (j.left ≠ 0)
section
variable {w : World} {b : Nat} {o : Option Nat} {j : Jz}
theorem zRE (h : JbAt w b o j) (hn : whB j = false) : Calls Tryz.prog 157 #[.pointer (some ⟨b, 0, none⟩)] w (DrewV (.bool false) w) := by
 have ho := zh (zCH h)
 obtain ⟨p, cap, h1, h2, hb, h3, h4⟩ := h.block
 have c6 := zAA hb (i := 6) rfl
 have hl := zAG hb
 by_cases hov : overB j = true
 ·rw [hov] at ho
  clear h h1 h2 hb h3 h4 hn hov
  go_enter Tryz.func157, Tryz.ntmps157
  go_wp2_with fail
  refine ho.out.mono ?_
  rintro e w' ⟨rfl, m, rfl⟩
  go_wp2
  go_ret
  exact ⟨rfl, _, rfl⟩
 ·rw [Bool.not_eq_true] at hov
  have hz : j.left = 0 := by
   unfold whB at hn
   rw [hov] at hn
   simpa using hn
  rw [hov] at ho
  rw [hz] at c6
  clear h h1 h2 hb h3 h4 hn hov hz
  go_enter Tryz.func157, Tryz.ntmps157
  go_wp2_with fail
  refine ho.out.mono ?_
  rintro e w' ⟨rfl, m, rfl⟩
  go_wp2
  go_ret
  exact ⟨rfl, _, rfl⟩
theorem zRF (h : JbAt w b o j) (hn : whB j = true) : Calls Tryz.prog 157 #[.pointer (some ⟨b, 0, none⟩)] w (Turned (.bool true) w b o { j with armed := true }) := by
 have ho := zh (zCH h)
 obtain ⟨hov, hz⟩ : overB j = false /\ j.left ≠ 0 := by
  unfold whB at hn
  simpa using hn
 rw [hov] at ho
 have hd := zh (fun m => h.drew m)
 obtain ⟨ops, F, A, R, G, P, L, M, T⟩ := j
 obtain ⟨p, cap, h1, h2, hb, h3, h4⟩ := h.block
 obtain ⟨n, hn'⟩ : ∃ n, n = ops.length := ⟨_, rfl⟩
 dsimp only at hb hz
 rw [<- hn'] at hb
 have hE := zh (fun m w' v v0 fr (at_ : Nat) rs rg pu lf ar fa j' => zDS (w := w.drewN m) (w' := w') (v := v) (v0 := v0) (fr := fr) (at_ := at_) (rs := rs) (rg := rg) (pu := pu) (lf := lf) (ar := ar) (fa := fa) (j' := j') (hd.out m) hn' (by rw [zJ5]; exact hb))
 have hb' := zh hb
 have c6 := zAA hb (i := 6) rfl
 have c7 := zAA hb (i := 7) rfl
 have f7 := zAC hb 7
 have hl := zAG hb
 have hz' : (L == 0) = false := by simpa using hz
 clear h h1 h2 hb h3 h4 hn hov hz hn' hd
 go_enter Tryz.func157, Tryz.ntmps157
 go_wp2_with fail
 refine ho.out.mono ?_
 rintro e w' ⟨rfl, m, rfl⟩
 go_wp2
 go_ret
 obtain ⟨e1, e2, e3⟩ := hE.out m _ (.int .i64 0) (.int .i64 0) _ _ _ _ _ _ _ _ _ rfl rfl (zAE (show (w.drewN m).heap[b]? = _ from hb'.out) 7 _) (zAM _ b 7 _)
 exact ⟨rfl, e2, ((Only.refl _ w).drewN m).trans' e3⟩
end
def goneF (j : Jz) (c : Int) : Int := min (max c 0) j.rest
def burnF (j : Jz) (c : Int) : Jz :=
 if goneF j c = 0 then j else
 { j with rest := j.rest - goneF j c, at_ := if j.rest - goneF j c = 0 then j.at_ + 1 else j.at_, left := if j.armed = true then max (j.left - goneF j c) 0 else j.left }
section
variable {w : World} {b : Nat} {o : Option Nat} {j : Jz}
set_option maxHeartbeats 4000000 in
theorem zMC (h : JbAt w b o j) (hk : j.Ok) (c : Int) : Calls Tryz.prog 107 #[.pointer (some ⟨b, 0, none⟩), .int .i64 c] w (Turned (.int .i64 (goneF j c)) w b o (burnF j c)) := by
 have hr := zh (zHK h)
 have jV := zh (fun v => Turned.same h (Only.refl _ w) v)
 obtain ⟨gn, hgn⟩ : ∃ gn, gn = goneF j c := ⟨_, rfl⟩
 obtain ⟨jr, hjr⟩ : ∃ jr, jr = burnF j c := ⟨_, rfl⟩
 have jCf : jr = if gn = 0 then j else { j with rest := j.rest - gn, at_ := if j.rest - gn = 0 then j.at_ + 1 else j.at_, left := if j.armed = true then max (j.left - gn) 0 else j.left } := by
  rw [hjr, hgn]; rfl
 rw [<- hgn, <- hjr]
 unfold goneF at hgn
 obtain ⟨ops, F, A, R, G, P, L, M, T⟩ := j
 obtain ⟨⟨hR0, hR1⟩, ⟨hL0, hL1⟩, ⟨hn1, hn2⟩, -⟩ := hk
 obtain ⟨p, cap, h1, h2, hb, h3, h4⟩ := h.block
 obtain ⟨n, hn'⟩ : ∃ n, n = ops.length := ⟨_, rfl⟩
 dsimp only at hb hR0 hR1 hL0 hL1 hn1 hn2 hgn jCf hr jV
 have hA : A <= 1000 := by omega
 rw [<- hn'] at hb
 have hE := zh (fun w' v v0 fr (at_ : Nat) rs rg pu lf ar fa j' => zDS (w' := w') (v := v) (v0 := v0) (fr := fr) (at_ := at_) (rs := rs) (rg := rg) (pu := pu) (lf := lf) (ar := ar) (fa := fa) (j' := j') h hn' hb)
 have hb' := zh hb
 have c2 := zAA hb (i := 2) rfl
 have c3 := zAA hb (i := 3) rfl
 have c6 := zAA hb (i := 6) rfl
 have c7 := zAA hb (i := 7) rfl
 have f2 := zAC hb 2
 have f3 := zAC hb 3
 have f6 := zAC hb 6
 have hl := zAG hb
 have yR := zh jCf
 clear h h1 h2 hb h3 h4 hn1 hn2 hn' hjr jCf
 have wN : (c <= 0 ∨ R = 0) /\ gn = 0 ∨ (0 < c /\ c < R /\ gn = c) ∨ (0 < R /\ R < c /\ gn = R) ∨ (0 < R /\ c = R /\ gn = R) := by omega
 clear hgn
 rcases wN with ⟨hc, rfl⟩ | ⟨hc0, hc1, rfl⟩ | ⟨hc0, hc1, rfl⟩ | ⟨hc0, rfl, rfl⟩
 ·have hend : Turned (.int .i64 0) w b o jr (.returned (.int .i64 0)) w := by
   rw [yR.out, if_pos rfl]
   exact jV.out _
  have kO := zh hend
  clear jV hE hend yR
  by_cases hc2 : 0 <= c
  ·go_enter Tryz.func107, Tryz.ntmps107
   go_wp2_with fail
   all_goals
    refine hr.out.mono ?_
    rintro e w' ⟨rfl, rfl⟩
    by_cases hcr : c = 0
    ·subst hcr
     go_wp2
     all_goals
      go_ret
      exact kO.out
    ·obtain rfl : R = 0 := by omega
     go_wp2
     all_goals
      go_ret
      exact kO.out
  ·go_enter Tryz.func107, Tryz.ntmps107
   go_wp2_with fail
   all_goals
    refine hr.out.mono ?_
    rintro e w' ⟨rfl, rfl⟩
    go_wp2
    all_goals
     go_ret
     exact kO.out
 ·have hwr : IntKind.i64.wrap (R - gn) = R - gn := IntWalk.i64_in _ (by omega)
  have hz1 : (gn == 0) = false := by simp; omega
  have hz2 : (R - gn == 0) = false := by simp; omega
  have hz3 : ¬ (R - gn = 0) := by omega
  have hz4 : ¬ gn = 0 := by omega
  have wY := zh (show jr = ⟨ops, F, A, R - gn, G, P, if M = true then max (L - gn) 0 else L, M, T⟩ by rw [yR.out, if_neg hz4, if_neg hz3])
  clear jV yR hz3 hz4
  cases M
  ·go_enter Tryz.func107, Tryz.ntmps107
   go_wp2_with fail
   all_goals
    refine hr.out.mono ?_
    rintro e w' ⟨rfl, rfl⟩
    go_wp2
    all_goals
     go_ret
     exact hE.out _ _ _ _ _ _ _ _ _ _ _ _ wY.out rfl (zAE hb'.out 3 _) (zAM w b 3 _)
  ·have hwl : IntKind.i64.wrap (L - gn) = L - gn := IntWalk.i64_in _ (by omega)
   by_cases hgl : 0 <= L - gn
   ·have hm := zh (show max (L - gn) 0 = L - gn by omega)
    go_enter Tryz.func107, Tryz.ntmps107
    go_wp2_with fail
    all_goals
     refine hr.out.mono ?_
     rintro e w' ⟨rfl, rfl⟩
     go_wp2
     all_goals
      go_ret
      exact hE.out _ _ _ _ _ _ _ _ _ _ _ _ (wY.out.trans (by rw [if_pos (by trivial), hm.out])) rfl (zAE (zAE hb'.out 3 _) 6 _) ((zAM w b 3 _).trans' (zAM _ b 6 _))
   ·have hm := zh (show max (L - gn) 0 = 0 by omega)
    go_enter Tryz.func107, Tryz.ntmps107
    go_wp2_with fail
    all_goals
     refine hr.out.mono ?_
     rintro e w' ⟨rfl, rfl⟩
     go_wp2
     all_goals
      go_ret
      exact hE.out _ _ _ _ _ _ _ _ _ _ _ _ (wY.out.trans (by rw [if_pos (by trivial), hm.out])) rfl (zAE (zAE hb'.out 3 _) 6 _) ((zAM w b 3 _).trans' (zAM _ b 6 _))
 ·have hwr : IntKind.i64.wrap (gn - gn) = 0 := by rw [Int.sub_self]; rfl
  have hz1 : (gn == 0) = false := by simp; omega
  have hz4 : ¬ gn = 0 := by omega
  have wY := zh (show jr = ⟨ops, F, A + 1, 0, G, P, if M = true then max (L - gn) 0 else L, M, T⟩ by rw [yR.out, if_neg hz4, if_pos (by omega), Int.sub_self])
  clear jV yR hz4
  cases M
  ·go_enter Tryz.func107, Tryz.ntmps107
   go_wp2_with fail
   all_goals
    refine hr.out.mono ?_
    rintro e w' ⟨rfl, rfl⟩
    go_wp2
    all_goals
     go_ret
     exact hE.out _ _ _ _ _ _ _ _ _ _ _ _ wY.out rfl (zAE (zAE hb'.out 3 _) 2 _) ((zAM w b 3 _).trans' (zAM _ b 2 _))
  ·have hwl : IntKind.i64.wrap (L - gn) = L - gn := IntWalk.i64_in _ (by omega)
   by_cases hgl : 0 <= L - gn
   ·have hm := zh (show max (L - gn) 0 = L - gn by omega)
    go_enter Tryz.func107, Tryz.ntmps107
    go_wp2_with fail
    all_goals
     refine hr.out.mono ?_
     rintro e w' ⟨rfl, rfl⟩
     go_wp2
     all_goals
      go_ret
      exact hE.out _ _ _ _ _ _ _ _ _ _ _ _ (wY.out.trans (by rw [if_pos (by trivial), hm.out])) rfl (zAE (zAE (zAE hb'.out 3 _) 2 _) 6 _) (((zAM w b 3 _).trans' (zAM _ b 2 _)).trans' (zAM _ b 6 _))
   ·have hm := zh (show max (L - gn) 0 = 0 by omega)
    go_enter Tryz.func107, Tryz.ntmps107
    go_wp2_with fail
    all_goals
     refine hr.out.mono ?_
     rintro e w' ⟨rfl, rfl⟩
     go_wp2
     all_goals
      go_ret
      exact hE.out _ _ _ _ _ _ _ _ _ _ _ _ (wY.out.trans (by rw [if_pos (by trivial), hm.out])) rfl (zAE (zAE (zAE hb'.out 3 _) 2 _) 6 _) (((zAM w b 3 _).trans' (zAM _ b 2 _)).trans' (zAM _ b 6 _))
 ·have hwr : IntKind.i64.wrap (gn - gn) = 0 := by rw [Int.sub_self]; rfl
  have hz1 : (gn == 0) = false := by simp; omega
  have hz4 : ¬ gn = 0 := by omega
  have wY := zh (show jr = ⟨ops, F, A + 1, 0, G, P, if M = true then max (L - gn) 0 else L, M, T⟩ by rw [yR.out, if_neg hz4, if_pos (by omega), Int.sub_self])
  clear jV yR hz4
  cases M
  ·go_enter Tryz.func107, Tryz.ntmps107
   go_wp2_with fail
   all_goals
    refine hr.out.mono ?_
    rintro e w' ⟨rfl, rfl⟩
    go_wp2
    all_goals
     go_ret
     exact hE.out _ _ _ _ _ _ _ _ _ _ _ _ wY.out rfl (zAE (zAE hb'.out 3 _) 2 _) ((zAM w b 3 _).trans' (zAM _ b 2 _))
  ·have hwl : IntKind.i64.wrap (L - gn) = L - gn := IntWalk.i64_in _ (by omega)
   by_cases hgl : 0 <= L - gn
   ·have hm := zh (show max (L - gn) 0 = L - gn by omega)
    go_enter Tryz.func107, Tryz.ntmps107
    go_wp2_with fail
    all_goals
     refine hr.out.mono ?_
     rintro e w' ⟨rfl, rfl⟩
     go_wp2
     all_goals
      go_ret
      exact hE.out _ _ _ _ _ _ _ _ _ _ _ _ (wY.out.trans (by rw [if_pos (by trivial), hm.out])) rfl (zAE (zAE (zAE hb'.out 3 _) 2 _) 6 _) (((zAM w b 3 _).trans' (zAM _ b 2 _)).trans' (zAM _ b 6 _))
   ·have hm := zh (show max (L - gn) 0 = 0 by omega)
    go_enter Tryz.func107, Tryz.ntmps107
    go_wp2_with fail
    all_goals
     refine hr.out.mono ?_
     rintro e w' ⟨rfl, rfl⟩
     go_wp2
     all_goals
      go_ret
      exact hE.out _ _ _ _ _ _ _ _ _ _ _ _ (wY.out.trans (by rw [if_pos (by trivial), hm.out])) rfl (zAE (zAE (zAE hb'.out 3 _) 2 _) 6 _) (((zAM w b 3 _).trans' (zAM _ b 2 _)).trans' (zAM _ b 6 _))
end
theorem zFG {w : World} {A : Option Addr} {n cap : Nat} {l : List Opn} (hl : OpnRow w A l) (hn : l.length = n) (hb : n <= 1000) :
  Calls Tryz.prog 95 #[.slice A n cap] w fun e w' => ∃ v h, e = .returned v /\ Win w' 94 3 v h n (jI l) /\ (∀ k, h = some k -> w.heap.size <= k) /\ Only (fun _ => False) w w' := by
 cases A with
 | none =>
  have h0 : l = [] := by
   cases l with
   | nil => rfl
   | cons x r =>
    obtain ⟨_, _, e, _⟩ := hl 0 x rfl
    cases e
  subst h0
  obtain rfl : n = 0 := hn.symm
  have hnil : Sem.run Tryz.prog (binOp .eql 61 (.slice none 0 cap) (.slice none 0 0)) w = .ok (.bool true) w := by kernel_rfl
  clear hl hn hb
  go_enter Tryz.func95, Tryz.ntmps95
  go_wp2
  go_ret
  exact ⟨_, none, rfl, Win.nil _ _ _, fun k hk => (by cases hk), Only.refl _ _⟩
 | some a =>
  have hl' := zh hl
  have hn' := zh hn
  have hnil : Sem.run Tryz.prog (binOp .eql 61 (.slice (some a) n cap) (.slice none 0 0)) w = .ok (.bool false) w := by kernel_rfl
  clear hl hn
  go_enter Tryz.func95, Tryz.ntmps95
  go_wp2_with (at_builtin; refine zAP rfl _ _ 61 rfl 94 yQ.val 3 24 Tryz.underlying61 zRB rfl (by decide) rfl (Win.empty (w.alloc (.cells #[] 94)) 94 3 (some ⟨w.heap.size, 0, none⟩)) (some a) n cap rfl (jI l) (by rw [zCG, hn'.out]) ((hl'.out.new ((Only.refl (fun _ => False) w).alloc _)).src hn'.out) (zS7 l) (by unfold maxLen; omega) (by omega) ?_; intro v' w4 h4 hW4 hO4 hh4)
  go_ret
  refine ⟨v', h4, rfl, ?_, ?_, ?_⟩
  ·have := hW4.out
   rwa [Nat.zero_add, List.nil_append] at this
  ·intro k hk
   rcases hh4.out with rfl | ⟨g, rfl, hg⟩
   ·cases hk
   ·cases hk
    simp at hg
    omega
  ·exact ((Only.refl (fun _ => False) w).alloc _).trans hO4.out (fun _ _ e => by cases e)
def newJ (t : jA) (l : List Opn) : Jz := ⟨l, t.fr, 0, 0, 0, 0, max t.fl 0, false, false⟩
theorem zMD {t : jA} {l : List Opn} (hn : l.length <= 1000) (hf : t.fl <= 9223372036854775807) : (newJ t l).Ok :=
 ⟨⟨Int.le_refl _, by simp only [newJ]; decide⟩, ⟨by simp only [newJ]; omega, by simp only [newJ]; omega⟩, ⟨hn, Nat.zero_le _⟩, fun h => absurd h (by simp [newJ])⟩
def JNewEnd (w : World) (t : jA) (l : List Opn) (e : Ending) (w' : World) : Prop :=
 ∃ b o, e = .returned (.pointer (some ⟨b, 0, none⟩)) /\ JbAt w' b o (newJ t l) /\ (∀ k, jfp b o k -> w.heap.size <= k) /\ Only (fun _ => False) w w'
theorem zRG {w W : World} {b : Nat} {v : Value} {h : Option Nat} {t : jA} {l : List Opn} {n : Nat} {lf : Int} (hb : b = W.heap.size) (hn : l.length = n) (hlf : lf = max t.fl 0) (hw : Win W 94 3 v h n (jI l)) (hh : ∀ k, h = some k -> w.heap.size <= k) (ho : Only (fun _ => False) w W) :
  JNewEnd w t l (.returned (.pointer (some ⟨b, 0, none⟩))) (W.alloc (.cells #[v, .int .i64 t.fr, .int .i64 0, .int .i64 0, .int .i64 0, .int .i64 0, .int .i64 lf, .bool false, .bool false] 279)) := by
 subst hb hn hlf
 refine ⟨W.heap.size, h, rfl, ⟨v, zAB _ _ rfl, hw.kept ((Only.refl (fun _ => False) W).alloc _) (fun _ _ h => h), fun k hk => ?_⟩, ?_, ho.alloc _⟩
 ·have := hw.lt k hk
  omega
 ·rintro k (rfl | hk)
  ·exact ho.size
  ·exact hh k hk
set_option maxHeartbeats 1000000 in
theorem zOY {w : World} {t : jA} {l : List Opn} (hl : OpnRow w t.o.A l) (hn : l.length = t.o.n) (hb : t.o.n <= 1000) : Calls Tryz.prog 218 #[t.val] w (JNewEnd w t l) := by
 obtain ⟨pr, th, pe, de, fr, fl, ⟨A, n, cap⟩⟩ := t
 dsimp only at hl hn hb
 have hc := zh (show ∀ W1, Only (fun _ => False) w W1 -> ∀ W, Only (fun _ => False) W1 W -> Calls Tryz.prog 95 #[.slice A n cap] W fun e w' => ∃ v h, e = .returned v /\ Win w' 94 3 v h n (jI l) /\ (∀ k, h = some k -> w.heap.size <= k) /\ Only (fun _ => False) W1 w' from fun W1 hW1 W hW => (zFG (cap := cap) (hl.new (hW1.trans' hW)) hn hb).mono fun e w' ⟨v, h, h1, h2, h3, h4⟩ => ⟨v, h, h1, h2, fun k hk => Nat.le_trans (hW1.trans' hW).size (h3 k hk), hW.trans' h4⟩)
 have hn' := zh hn
 have hend := zh (fun W b v h lf => zRG (w := w) (W := W) (b := b) (v := v) (h := h) (t := ⟨pr, th, pe, de, fr, fl, ⟨A, n, cap⟩⟩) (n := n) (l := l) (lf := lf))
 unfold jA.val
 dsimp only
 clear hl hn
 go_enter Tryz.func218, Tryz.ntmps218
 go_upto_region 1 with fail
 obtain ⟨X, hX⟩ : ∃ X, X = w.heap.size := ⟨_, rfl⟩
 obtain ⟨W1, hW1⟩ : ∃ W1, W1 = w.alloc (.cells #[.int .i64 pr, .int .i64 th, .int .i64 pe, .int .i64 de, .int .i64 fr, .int .i64 fl, .slice A n cap] 63) := ⟨_, rfl⟩
 have hXc : W1.heap[X]? = some (.cells [.int .i64 pr, .int .i64 th, .int .i64 pe, .int .i64 de, .int .i64 fr, .int .i64 fl, .slice A n cap].toArray 63 (0, 0)) := by rw [hW1]; exact zAB _ _ hX.symm
 have hO1 : Only (fun _ => False) w W1 := by rw [hW1]; exact (Only.refl _ w).alloc _
 rw [<- hX, <- hW1]
 have d4 := zAA hXc (i := 4) rfl
 have d5 := zAA hXc (i := 5) rfl
 have d6 := zAA hXc (i := 6) rfl
 have jY := zh (fun W (hW : Only (fun _ => False) W1 W) => show W.cell? ⟨X, 4, none⟩ = some (.int .i64 fr) /\ W.cell? ⟨X, 5, none⟩ = some (.int .i64 fl) /\ W.cell? ⟨X, 6, none⟩ = some (.slice A n cap) from ⟨hW.cell d4 id, hW.cell d5 id, hW.cell d6 id⟩)
 have vB := zh hO1
 have hc1 := zh (hc.out W1 hO1)
 clear hc hXc hW1 hX hO1
 have wN : 0 <= fl ∨ fl < 0 := by omega
 rcases wN with hf | hf
 ·have hf' := zh hf
  go_region_held3 (fun w' => w'.cell? ⟨X, 4, none⟩ = some (.int .i64 fr) /\ w'.cell? ⟨X, 5, none⟩ = some (.int .i64 fl) /\ w'.cell? ⟨X, 6, none⟩ = some (.slice A n cap))
   (exact jY.out _ (by repeat (first | assumption | exact Only.refl _ _ | apply Only.drew | apply Only.alloc)))
   (first | (go_at_call 95; (with_reducible refine (hc1.out _ (by repeat (first | assumption | exact Only.refl _ _ | apply Only.drew))).mono ?_); rintro _ w6 ⟨v6, h6, rfl, hW6, hh6, hO6⟩; obtain ⟨p6, c6, rfl, -⟩ := hW6.form; have jAm := zh hW6; have jAn := zh hh6; clear hW6 hh6))
  all_goals
   have jAo := zh (vB.out.trans' hO6)
   clear hO6 jY d4 d5 d6 vB hc1
   go_wp2
   go_ret
   first
    | exact hend.out _ _ _ _ _ rfl hn'.out (by have := hf'.out; omega) jAm.out jAn.out jAo.out
    | (have := hend.out _ _ _ _ _ rfl hn'.out (by have := hf'.out; omega) (jAm.out.same (by rfl)) jAn.out jAo.out.drew; exact this)
 ·have hf' := zh hf
  go_region_held3 (fun w' => w'.cell? ⟨X, 4, none⟩ = some (.int .i64 fr) /\ w'.cell? ⟨X, 5, none⟩ = some (.int .i64 fl) /\ w'.cell? ⟨X, 6, none⟩ = some (.slice A n cap))
   (exact jY.out _ (by repeat (first | assumption | exact Only.refl _ _ | apply Only.drew | apply Only.alloc)))
   (first | (go_at_call 95; (with_reducible refine (hc1.out _ (by repeat (first | assumption | exact Only.refl _ _ | apply Only.drew))).mono ?_); rintro _ w6 ⟨v6, h6, rfl, hW6, hh6, hO6⟩; obtain ⟨p6, c6, rfl, -⟩ := hW6.form; have jAm := zh hW6; have jAn := zh hh6; clear hW6 hh6))
  all_goals
   have jAo := zh (vB.out.trans' hO6)
   clear hO6 jY d4 d5 d6 vB hc1
   go_wp2
   go_ret
   first
    | exact hend.out _ _ _ _ _ rfl hn'.out (by have := hf'.out; omega) jAm.out jAn.out jAo.out
    | (have := hend.out _ _ _ _ _ rfl hn'.out (by have := hf'.out; omega) (jAm.out.same (by rfl)) jAn.out jAo.out.drew; exact this)
