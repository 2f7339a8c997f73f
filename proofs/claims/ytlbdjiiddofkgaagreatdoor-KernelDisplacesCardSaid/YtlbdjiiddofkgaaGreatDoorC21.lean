import Derived.Test.YtlbdjiiddofkgaaGreatDoorC19
set_option maxRecDepth 100000
namespace Go.Proofs.YtlbdjiiddofkgaaGreatDoor
open Go Go.RowKit
def jP : List Opn -> NS -> Option NS
 | [], s => some s
 | o :: l, s => match jO s o.k o.a with
  | none => none
  | some t => jP l t
def nestB (l : List Opn) (e : Bool) : Bool := match jP l ns0 with
 | none => false
 | some s => !e || doneB s
theorem zHH {l : List Opn} {k : Nat} {x : Opn} {s : NS} (hx : l[k]? = some x) : jP (l.drop k) s = match jO s x.k x.a with
  | none => none
  | some t => jP (l.drop (k + 1)) t := by
 obtain ⟨hk, rfl⟩ := List.getElem?_eq_some_iff.1 hx
 rw [List.drop_eq_getElem_cons hk, jP]
def NRel (w : World) (l : List Opn) (k : Nat) (v5 v6 v7 : Value) (w' : World) : Prop :=
 ∃ (r : Int) (ls : List Int) (p : Int) (h : Option Nat) (p0 : Option Addr) (cap : Nat), v5 = .int .i64 r /\ v6 = .int .i64 p /\ v7 = .slice p0 ls.length cap /\ Win w' 3 1 (.slice p0 ls.length cap) h ls.length (ls.map mkI) /\ jP l ns0 = jP (l.drop k) ⟨r, ls, p⟩ /\
  (-(k : Int) <= r /\ r <= k) /\ (-(5000 * (k : Int)) <= p /\ p <= 5000 * (k : Int)) /\ ls.length <= k /\ (∀ g, h = some g -> w.heap.size <= g) /\ Only (fun _ => False) w w'
theorem NRel.next {w w' : World} {l : List Opn} {k n : Nat} {r p r' p' : Int} {ls ls' : List Int} {h' : Option Nat} {p1 : Option Addr} {cap' : Nat} {x : Opn} (hx : l[k]? = some x) (hrun : jP l ns0 = jP (l.drop k) ⟨r, ls, p⟩) (hst : jO ⟨r, ls, p⟩ x.k x.a = some ⟨r', ls', p'⟩) (ha : 0 <= x.a /\ x.a <= 5000)
  (b1 : -(k : Int) <= r /\ r <= k) (b2 : -(5000 * (k : Int)) <= p /\ p <= 5000 * (k : Int)) (b3 : ls.length <= k) (hn : ls'.length = n) (hW : Win w' 3 1 (.slice p1 n cap') h' n (ls'.map mkI)) (hh : ∀ g, h' = some g -> w.heap.size <= g) (hO1 : Only (fun _ => False) w w') :
  NRel w l (k + 1) (.int .i64 r') (.int .i64 p') (.slice p1 n cap') w' := by
 obtain ⟨y1, y2, y3⟩ := zEL hst ha
 simp only at y1 y2 y3
 subst hn
 exact ⟨r', ls', p', h', p1, cap', rfl, rfl, rfl, hW, by rw [hrun, zHH hx, hst], ⟨by omega, by omega⟩, ⟨by omega, by omega⟩, by omega, hh, hO1⟩
theorem NRel.stop {l : List Opn} {k : Nat} {s : NS} {x : Opn} {e : Bool} (hx : l[k]? = some x) (hrun : jP l ns0 = jP (l.drop k) s) (hst : jO s x.k x.a = none) : false = nestB l e := by
 unfold nestB
 rw [hrun, zHH hx, hst]
set_option maxHeartbeats 4000000 in
theorem zHI {w : World} {A : Option Addr} {n cap : Nat} {l : List Opn} (hl : OpnRow w A l) (hn : l.length = n) (hb : n <= 64) (hok : ∀ x ∈ l, 0 <= x.a /\ x.a <= 5000) (e : Bool) : Calls Tryz.prog 137 #[.slice A n cap, .bool e] w (GrowB (nestB l e) w) := by
 have hl' := zh hl
 have hn' := zh hn
 have yP := zh hok
 have jBk := zh (show NRel w l 0 (.int .i64 0) (.int .i64 0) (.slice none 0 0) w from ⟨0, [], 0, none, none, 0, rfl, rfl, rfl, Win.nil _ _ _, rfl, by simp, by simp, by simp, (fun g hg => by cases hg), Only.refl _ _⟩)
 clear hl hn hok
 go_enter Tryz.func137, Tryz.ntmps137
 go_wp2
 go_loopw [5, 6, 7, 14] (fun v5 v6 v7 i wr => ∃ k : Nat, k <= n /\ i = .int .i64 k /\ NRel w l k v5 v6 v7 wr) (fun _ _ _ i _ => n - (intOf i).toNat)
 case atStart => exact ⟨0, Nat.zero_le _, rfl, jBk.out⟩
 case round =>
  obtain ⟨k, hk, rfl, r, ls, p, h, p0, cp, rfl, rfl, rfl, hW, hrun, ⟨hr1, hr2⟩, ⟨hp1, hp2⟩, hsl, hh, hO⟩ := hrel
  obtain ⟨ws, hws⟩ : ∃ ws : World, ws = wr := ⟨_, rfl⟩
  subst hws
  obtain ⟨m, hm⟩ : ∃ m, m = ls.length := ⟨_, rfl⟩
  by_cases hkn : k < n
  ·have vR : (k : Int) < (n : Int) := by omega
   obtain ⟨x, hx⟩ : ∃ x, l[k]? = some x := ⟨l[k]'(by have := hn'.out; omega), List.getElem?_eq_getElem _⟩
   obtain ⟨bb, off, hA, hbb, q0, q1, q2⟩ := (hl'.out.new hO) k x hx
   subst hA
   have ha := yP.out x (List.mem_of_getElem? hx)
   obtain ⟨xk, xa, xb⟩ := x
   simp only at q0 q1 q2 ha
   have hS := zh (And.intro hW (And.intro hrun (And.intro (And.intro hr1 hr2) (And.intro (And.intro hp1 hp2) (And.intro hsl (And.intro hh (And.intro hO (And.intro hx (And.intro ha hm)))))))))
   obtain ⟨ha1, ha2⟩ := ha
   obtain ⟨p0', cp', hv, hnc, hcm⟩ := hW.form
   cases hv
   have hsm : m <= 64 := by omega
   have hkb : k <= 64 := by omega
   rw [<- hm] at hW hnc ⊢
   have hWk := zh (fun W (hW' : Only (fun _ => False) ws W) => hW.kept hW' (fun _ _ h => h))
   have hWs := zh hW
   clear hrun hh hO hx hsl hW
   by_cases k3 : xk = 3
   ·subst k3
    have hmv := zh (show jN ⟨r, ls, p⟩ 3 xa = some ⟨r + 1, ls, p⟩ from rfl)
    clear hm
    by_cases y1 : 0 <= r + 1
    ·by_cases y2 : 0 <= p
     ·have hst := zh (zAT hmv.out y1 y2)
      have y1n : ¬ (r + 1) < 0 := by omega
      have y2n : ¬ (p) < 0 := by omega
      go_wp2
      go_roundw
      case rel =>
       obtain ⟨hW, hrun, hr, hp, hsl, hh, hO, hx, ha, hm⟩ := hS.out
       exact ⟨k + 1, by omega, by go_num, NRel.next hx hrun hst.out ha hr hp hsl hm.symm (hWk.out _ ((Only.refl _ ws).alloc _)) hh (hO.alloc _)⟩
      case measure => simp [intOf]; omega
     ·have hst := zh (zAN hmv.out (.inr (by simp only; omega)))
      have y2n : (p) < 0 := by omega
      go_wp2
      go_ret
      obtain ⟨hW, hrun, hr, hp, hsl, hh, hO, hx, ha, hm⟩ := hS.out
      exact ⟨zAJ (NRel.stop hx hrun hst.out), hO.alloc _⟩
    ·have hst := zh (zAN hmv.out (.inl (by simp only; omega)))
     have y1n : (r + 1) < 0 := by omega
     go_wp2
     go_ret
     obtain ⟨hW, hrun, hr, hp, hsl, hh, hO, hx, ha, hm⟩ := hS.out
     exact ⟨zAJ (NRel.stop hx hrun hst.out), hO.alloc _⟩
   by_cases k4 : xk = 4
   ·subst k4
    have hmv := zh (show jN ⟨r, ls, p⟩ 4 xa = some ⟨r - 1, ls, p⟩ from rfl)
    clear hm
    by_cases y1 : 0 <= r - 1
    ·by_cases y2 : 0 <= p
     ·have hst := zh (zAT hmv.out y1 y2)
      have y1n : ¬ (r - 1) < 0 := by omega
      have y2n : ¬ (p) < 0 := by omega
      go_wp2
      go_roundw
      case rel =>
       obtain ⟨hW, hrun, hr, hp, hsl, hh, hO, hx, ha, hm⟩ := hS.out
       exact ⟨k + 1, by omega, by go_num, NRel.next hx hrun hst.out ha hr hp hsl hm.symm (hWk.out _ ((Only.refl _ ws).alloc _)) hh (hO.alloc _)⟩
      case measure => simp [intOf]; omega
     ·have hst := zh (zAN hmv.out (.inr (by simp only; omega)))
      have y2n : (p) < 0 := by omega
      go_wp2
      go_ret
      obtain ⟨hW, hrun, hr, hp, hsl, hh, hO, hx, ha, hm⟩ := hS.out
      exact ⟨zAJ (NRel.stop hx hrun hst.out), hO.alloc _⟩
    ·have hst := zh (zAN hmv.out (.inl (by simp only; omega)))
     have y1n : (r - 1) < 0 := by omega
     go_wp2
     go_ret
     obtain ⟨hW, hrun, hr, hp, hsl, hh, hO, hx, ha, hm⟩ := hS.out
     exact ⟨zAJ (NRel.stop hx hrun hst.out), hO.alloc _⟩
   by_cases k7 : xk = 7
   ·subst k7
    have hmv := zh (show jN ⟨r, ls, p⟩ 7 xa = some ⟨r, ls, p + xa⟩ from rfl)
    clear hm
    by_cases y1 : 0 <= r
    ·by_cases y2 : 0 <= p + xa
     ·have hst := zh (zAT hmv.out y1 y2)
      have y1n : ¬ (r) < 0 := by omega
      have y2n : ¬ (p + xa) < 0 := by omega
      go_wp2
      go_roundw
      case rel =>
       obtain ⟨hW, hrun, hr, hp, hsl, hh, hO, hx, ha, hm⟩ := hS.out
       exact ⟨k + 1, by omega, by go_num, NRel.next hx hrun hst.out ha hr hp hsl hm.symm (hWk.out _ ((Only.refl _ ws).alloc _)) hh (hO.alloc _)⟩
      case measure => simp [intOf]; omega
     ·have hst := zh (zAN hmv.out (.inr (by simp only; omega)))
      have y2n : (p + xa) < 0 := by omega
      go_wp2
      go_ret
      obtain ⟨hW, hrun, hr, hp, hsl, hh, hO, hx, ha, hm⟩ := hS.out
      exact ⟨zAJ (NRel.stop hx hrun hst.out), hO.alloc _⟩
    ·have hst := zh (zAN hmv.out (.inl (by simp only; omega)))
     have y1n : (r) < 0 := by omega
     go_wp2
     go_ret
     obtain ⟨hW, hrun, hr, hp, hsl, hh, hO, hx, ha, hm⟩ := hS.out
     exact ⟨zAJ (NRel.stop hx hrun hst.out), hO.alloc _⟩
   by_cases k8 : xk = 8
   ·subst k8
    have hmv := zh (show jN ⟨r, ls, p⟩ 8 xa = some ⟨r, ls, p - xa⟩ from rfl)
    clear hm
    by_cases y1 : 0 <= r
    ·by_cases y2 : 0 <= p - xa
     ·have hst := zh (zAT hmv.out y1 y2)
      have y1n : ¬ (r) < 0 := by omega
      have y2n : ¬ (p - xa) < 0 := by omega
      go_wp2
      go_roundw
      case rel =>
       obtain ⟨hW, hrun, hr, hp, hsl, hh, hO, hx, ha, hm⟩ := hS.out
       exact ⟨k + 1, by omega, by go_num, NRel.next hx hrun hst.out ha hr hp hsl hm.symm (hWk.out _ ((Only.refl _ ws).alloc _)) hh (hO.alloc _)⟩
      case measure => simp [intOf]; omega
     ·have hst := zh (zAN hmv.out (.inr (by simp only; omega)))
      have y2n : (p - xa) < 0 := by omega
      go_wp2
      go_ret
      obtain ⟨hW, hrun, hr, hp, hsl, hh, hO, hx, ha, hm⟩ := hS.out
      exact ⟨zAJ (NRel.stop hx hrun hst.out), hO.alloc _⟩
    ·have hst := zh (zAN hmv.out (.inl (by simp only; omega)))
     have y1n : (r) < 0 := by omega
     go_wp2
     go_ret
     obtain ⟨hW, hrun, hr, hp, hsl, hh, hO, hx, ha, hm⟩ := hS.out
     exact ⟨zAJ (NRel.stop hx hrun hst.out), hO.alloc _⟩
   have e3 : (xk == 3) = false := by simpa using k3
   have e4 : (xk == 4) = false := by simpa using k4
   have e7 : (xk == 7) = false := by simpa using k7
   have e8 : (xk == 8) = false := by simpa using k8
   by_cases k5 : xk = 5
   ·subst k5
    clear k3 k4 k7 k8 e3 e4 e7 e8
    have wJ : (ws.alloc (.cells [.int .i64 5, .int .i64 xa, .int .i64 xb].toArray 94)).heap[ws.heap.size]? = some (.cells [.int .i64 5, .int .i64 xa, .int .i64 xb].toArray 94 (0, 0)) := zAB _ _ rfl
    have hO1 : Only (fun _ => False) ws (ws.alloc (.cells [.int .i64 5, .int .i64 xa, .int .i64 xb].toArray 94)) := (Only.refl _ ws).alloc _
    have xP := zh wJ
    have vB := zh hO1
    clear wJ hO1
    have hm' := zh hm
    clear hm
    go_wp2
    generalize World.alloc ws _ = W1 at xP vB ⊢
    have t1 := zAA xP.out (i := 1) rfl
    go_loopw [32] (fun i wl => ∃ j : Nat, j <= m /\ i = .int .i64 j /\ xa ∉ ls.take j /\ W1 = wl) (fun i _ => m - (intOf i).toNat)
    case atStart => exact ⟨0, Nat.zero_le _, rfl, by simp, rfl⟩
    case round =>
     obtain ⟨j, hj, rfl, wM, rfl⟩ := hrel
     by_cases hjm : j < m
     ·have jIk : (j : Int) < (m : Int) := by omega
      obtain ⟨g, og, cp2, _, hv, _, _, _, hc, _⟩ := (hWk.out _ vB.out).at_ (by omega)
      cases hv
      obtain ⟨y, hy⟩ : ∃ y, ls[j]? = some y := ⟨ls[j]'(by have := hm'.out; omega), List.getElem?_eq_getElem _⟩
      have c0 : W1.cell? ⟨g, og + j, none⟩ = some (.int .i64 y) := hc j _ (by simp [hy, mkI])
      have hy' := zh hy
      have zJ := zh wM
      clear hc hy wM
      by_cases hax : y = xa
      ·have u1 : (y == xa) = true := by simpa using hax
       have hst := zh (zBO (s := ⟨r, ls, p⟩) (k := 5) (a := xa) (by
        have : xa ∈ ls := by rw [<- hax]; exact List.mem_of_getElem? hy'.out
        unfold jN; simp [this]))
       clear hax
       go_wp2
       go_ret
       obtain ⟨hW, hrun, hr, hp, hsl, hh, hO, hx, ha, hm⟩ := hS.out
       exact ⟨zAJ (NRel.stop hx hrun hst.out), hO.trans' vB.out⟩
      ·have u1 : (y == xa) = false := by simpa using hax
       have hst := zh (show xa ∉ ls.take (j + 1) by
        rw [List.take_add_one, hy'.out]
        intro hmm
        rcases List.mem_append.1 hmm with hmm | hmm
        ·exact zJ.out hmm
        ·simp at hmm; exact hax hmm.symm)
       clear hax
       go_wp2
       go_roundw
       case rel => exact ⟨j + 1, by omega, by go_num, hst.out, trivial⟩
       case measure => simp [intOf]; omega
     ·obtain rfl : j = m := by omega
      have jDq : xa ∉ ls := by
       rw [List.take_of_length_le (by have := hm'.out; omega)] at wM
       exact wM
      have hmv := zh (show jN ⟨r, ls, p⟩ 5 xa = some ⟨r, ls ++ [xa], p⟩ by unfold jN; simp [jDq])
      clear wM jDq
      by_cases y1 : 0 <= r
      ·by_cases y2 : 0 <= p
       ·have hst := zh (zAT hmv.out y1 y2)
        have y1n : ¬ r < 0 := by omega
        have y2n : ¬ p < 0 := by omega
        go_wp2_with (at_builtin; refine zAP rfl _ _ 24 rfl 3 (Value.int .i64 0) 1 8 Tryz.underlying24 zHF rfl (by decide) rfl (hWk.out _ (vB.out.alloc _)) _ 1 1 rfl [mkI xa] rfl (fun _ => ⟨_, rfl, zB0 (zAB _ _ rfl)⟩) (by simp [mkI, Value.oneCell']) (by unfold maxLen; omega) (by omega) ?_; intro v4 w4 h4 hW4 hO4 hh4; obtain ⟨p4, c4, rfl, _, _⟩ := hW4.out.form)
        go_roundw
        case rel =>
         obtain ⟨hW, hrun, hr, hp, hsl, hh, hO, hx, ha, hm⟩ := hS.out
         obtain ⟨w1, w2⟩ := zCL ((hO.trans' vB.out).alloc _) hO4.out hh hh4.out
         exact ⟨k + 1, by omega, by go_num, NRel.next hx hrun hst.out ha hr hp hsl (by rw [List.length_append, <- hm]; rfl) (by rw [List.map_append]; exact hW4.out) w2 w1⟩
        case measure => simp [intOf]; omega
       ·have hst := zh (zAN hmv.out (.inr (by simp only; omega)))
        have y2n : p < 0 := by omega
        go_wp2_with (at_builtin; refine zAP rfl _ _ 24 rfl 3 (Value.int .i64 0) 1 8 Tryz.underlying24 zHF rfl (by decide) rfl (hWk.out _ (vB.out.alloc _)) _ 1 1 rfl [mkI xa] rfl (fun _ => ⟨_, rfl, zB0 (zAB _ _ rfl)⟩) (by simp [mkI, Value.oneCell']) (by unfold maxLen; omega) (by omega) ?_; intro v4 w4 h4 hW4 hO4 hh4; obtain ⟨p4, c4, rfl, _, _⟩ := hW4.out.form)
        go_ret
        obtain ⟨hW, hrun, hr, hp, hsl, hh, hO, hx, ha, hm⟩ := hS.out
        obtain ⟨w1, w2⟩ := zCL ((hO.trans' vB.out).alloc _) hO4.out hh hh4.out
        exact ⟨zAJ (NRel.stop hx hrun hst.out), w1⟩
      ·have hst := zh (zAN hmv.out (.inl (by simp only; omega)))
       have y1n : r < 0 := by omega
       go_wp2_with (at_builtin; refine zAP rfl _ _ 24 rfl 3 (Value.int .i64 0) 1 8 Tryz.underlying24 zHF rfl (by decide) rfl (hWk.out _ (vB.out.alloc _)) _ 1 1 rfl [mkI xa] rfl (fun _ => ⟨_, rfl, zB0 (zAB _ _ rfl)⟩) (by simp [mkI, Value.oneCell']) (by unfold maxLen; omega) (by omega) ?_; intro v4 w4 h4 hW4 hO4 hh4; obtain ⟨p4, c4, rfl, _, _⟩ := hW4.out.form)
       go_ret
       obtain ⟨hW, hrun, hr, hp, hsl, hh, hO, hx, ha, hm⟩ := hS.out
       obtain ⟨w1, w2⟩ := zCL ((hO.trans' vB.out).alloc _) hO4.out hh hh4.out
       exact ⟨zAJ (NRel.stop hx hrun hst.out), w1⟩
   by_cases k6 : xk = 6
   ·subst k6
    clear k3 k4 k7 k8 e3 e4 e7 e8 k5
    rcases List.eq_nil_or_concat ls with hnil | ⟨ls', y, hls⟩
    ·have hst := zh (zBO (s := ⟨r, ls, p⟩) (k := 6) (a := xa) (by unfold jN; simp [hnil]))
     have hm0 : m = 0 := by rw [hm, hnil]; rfl
     clear hm hnil
     subst hm0
     go_wp2
     go_quiet (fail)
     go_wp2
     go_ret
     obtain ⟨hW, hrun, hr, hp, hsl, hh, hO, hx, ha, hm⟩ := hS.out
     exact ⟨zAJ (NRel.stop hx hrun hst.out), (hO.alloc _).drewN _⟩
    ·rw [List.concat_eq_append] at hls
     obtain ⟨q, hq⟩ : ∃ q, ls'.length = q := ⟨_, rfl⟩
     have hmq : m = q + 1 := by rw [hm, hls]; simp [hq]
     obtain ⟨g, og, cp2, hog, hv, _, _, hgs, hc, _⟩ := hWs.out.at_ (by omega)
     cases hv
     have c0 : ws.cell? ⟨g, og + q, none⟩ = some (.int .i64 y) := by
      refine hc q _ ?_
      rw [hls, List.map_append, List.getElem?_append_right (by simp [hq])]
      simp [hq, mkI]
     have hL1 : (m : Int) - 1 = (q : Int) := by omega
     have hq0 : (0 : Int) <= (q : Int) := by omega
     have hq1 : (q : Int) < (m : Int) := by omega
     have hq2 : (q : Int) <= (cp : Int) := by omega
     have hq3 : q <= 64 := by omega
     have hmz : ((m : Int) == 0) = false := by simp; omega
     have hwr : IntKind.i64.wrap ((m : Int) - 1) = (q : Int) := (IntWalk.i64_in _ (by omega)).trans hL1
     have hz1 : (m == 0) = false := by simp; omega
     have hz2 : decide (m = 0) = false := by simp; omega
     have hz3 : ¬ m = 0 := by omega
     have jFi := zh (And.intro hls (And.intro hq hmq))
     by_cases hya : y = xa
     ·have u1 : (y == xa) = true := by simpa using hya
      have u2 : (y != xa) = false := by simpa using hya
      have hmv := zh (show jN ⟨r, ls, p⟩ 6 xa = some ⟨r, ls', p⟩ by unfold jN; simp [hls, hya])
      clear hc hls hq hmq hm hya hog
      by_cases y1 : 0 <= r
      ·by_cases y2 : 0 <= p
       ·have hst := zh (zAT hmv.out y1 y2)
        have y1n : ¬ r < 0 := by omega
        have y2n : ¬ p < 0 := by omega
        go_wp2
        go_quiet (fail)
        go_wp2
        go_roundw
        case rel =>
         obtain ⟨hW, hrun, hr, hp, hsl, hh, hO, hx, ha, hm⟩ := hS.out
         obtain ⟨hls, hq, hmq⟩ := jFi.out
         have ht := (hWs.out.take (k := q) (by omega)).kept (((Only.refl (fun _ => False) ws).alloc (.cells #[.int .i64 6, .int .i64 xa, .int .i64 xb] 94)).drewN nq) (fun _ _ h => h)
         rw [hls, List.map_append, List.take_left' (by simp [hq])] at ht
         exact ⟨k + 1, by omega, by go_num, NRel.next hx hrun hst.out ha hr hp hsl hq ht hh ((hO.alloc _).drewN _)⟩
        case measure => simp [intOf]; omega
       ·have hst := zh (zAN hmv.out (.inr (by simp only; omega)))
        have y2n : p < 0 := by omega
        go_wp2
        go_quiet (fail)
        go_wp2
        go_ret
        obtain ⟨hW, hrun, hr, hp, hsl, hh, hO, hx, ha, hm⟩ := hS.out
        exact ⟨zAJ (NRel.stop hx hrun hst.out), (hO.alloc _).drewN _⟩
      ·have hst := zh (zAN hmv.out (.inl (by simp only; omega)))
       have y1n : r < 0 := by omega
       go_wp2
       go_quiet (fail)
       go_wp2
       go_ret
       obtain ⟨hW, hrun, hr, hp, hsl, hh, hO, hx, ha, hm⟩ := hS.out
       exact ⟨zAJ (NRel.stop hx hrun hst.out), (hO.alloc _).drewN _⟩
     ·have u1 : (y == xa) = false := by simpa using hya
      have u2 : (y != xa) = true := by simpa using hya
      have hst := zh (zBO (s := ⟨r, ls, p⟩) (k := 6) (a := xa) (by unfold jN; simp [hls, hya]))
      clear hc hls hq hmq hm hya hog
      go_wp2
      go_quiet (fail)
      go_wp2
      go_ret
      obtain ⟨hW, hrun, hr, hp, hsl, hh, hO, hx, ha, hm⟩ := hS.out
      exact ⟨zAJ (NRel.stop hx hrun hst.out), (hO.alloc _).drewN _⟩
   ·have e5 : (xk == 5) = false := by simpa using k5
    have e6 : (xk == 6) = false := by simpa using k6
    have hmv := zh (show jN ⟨r, ls, p⟩ xk xa = some ⟨r, ls, p⟩ by unfold jN; rw [if_neg k3, if_neg k4, if_neg k5, if_neg k6, if_neg k7, if_neg k8])
    clear hm k3 k4 k5 k6 k7 k8
    by_cases y1 : 0 <= r
    ·by_cases y2 : 0 <= p
     ·have hst := zh (zAT hmv.out y1 y2)
      have y1n : ¬ (r) < 0 := by omega
      have y2n : ¬ (p) < 0 := by omega
      go_wp2
      go_roundw
      case rel =>
       obtain ⟨hW, hrun, hr, hp, hsl, hh, hO, hx, ha, hm⟩ := hS.out
       exact ⟨k + 1, by omega, by go_num, NRel.next hx hrun hst.out ha hr hp hsl hm.symm (hWk.out _ ((Only.refl _ ws).alloc _)) hh (hO.alloc _)⟩
      case measure => simp [intOf]; omega
     ·have hst := zh (zAN hmv.out (.inr (by simp only; omega)))
      have y2n : (p) < 0 := by omega
      go_wp2
      go_ret
      obtain ⟨hW, hrun, hr, hp, hsl, hh, hO, hx, ha, hm⟩ := hS.out
      exact ⟨zAJ (NRel.stop hx hrun hst.out), hO.alloc _⟩
    ·have hst := zh (zAN hmv.out (.inl (by simp only; omega)))
     have y1n : (r) < 0 := by omega
     go_wp2
     go_ret
     obtain ⟨hW, hrun, hr, hp, hsl, hh, hO, hx, ha, hm⟩ := hS.out
     exact ⟨zAJ (NRel.stop hx hrun hst.out), hO.alloc _⟩
  ·obtain rfl : k = n := by omega
   have hd : l.drop k = [] := List.drop_of_length_le (by have := hn'.out; omega)
   rw [hd] at hrun
   have hO' := zh hO
   have hz : decide (ls = []) = decide (m = 0) := by
    rw [hm]
    exact decide_eq_decide.2 ⟨fun h => by rw [h]; rfl, fun h => List.eq_nil_of_length_eq_zero h⟩
   have hnb : ∀ e, nestB l e = (!e || (decide (r = 0) && decide (m = 0))) := fun e => by unfold nestB; rw [hrun]; simp only [jP, doneB]; rw [hz]
   rw [<- hm]
   cases e with
   | false =>
    have hv := zh (show true = nestB l false by rw [hnb]; rfl)
    clear hW hrun hh hO hd hz hm hnb
    go_wp2
    go_ret
    exact ⟨zAJ hv.out, hO'.out⟩
   | true =>
    by_cases z1 : r = 0
    ·by_cases z2 : m = 0
     ·have hv := zh (show true = nestB l true by rw [hnb]; simp [z1, z2])
      subst z1
      subst z2
      clear hW hrun hh hO hd hz hm hnb
      go_wp2
      go_ret
      exact ⟨zAJ hv.out, hO'.out⟩
     ·have hv := zh (show false = nestB l true by rw [hnb]; simp [z2])
      have z3 : ((m : Int) == 0) = false := by simpa using z2
      subst z1
      clear hW hrun hh hO hd hz hm hnb z2
      go_wp2
      go_ret
      exact ⟨zAJ hv.out, hO'.out⟩
    ·have hv := zh (show false = nestB l true by rw [hnb]; simp [z1])
     have z3 : (r == 0) = false := by simpa using z1
     clear hW hrun hh hO hd hz hm hnb z1
     go_wp2
     go_ret
     exact ⟨zAJ hv.out, hO'.out⟩
theorem zD4 (a : List Opn) (x : Opn) (s : NS) : jP (a ++ [x]) s = match jP a s with
  | none => none
  | some t => jO t x.k x.a := by
 induction a generalizing s with
 | nil =>
  simp only [List.nil_append, jP]
  cases jO s x.k x.a <;> rfl
 | cons y a ih =>
  simp only [List.cons_append, jP]
  cases jO s y.k y.a with
  | none => rfl
  | some t => exact ih t
theorem zB4 {α : Type} {m : List α} {j : Nat} {x : α} (h : m[j]? = some x) : m.take (j + 1) = m.take j ++ [x] := by
 rw [List.take_add_one, h]
 rfl
theorem zKP (w : World) (A : Option Addr) (n cap : Nat) (m g c l : Int) (h : n = 0 ∨ 64 < n) : Calls Tryz.prog 86 #[.slice A n cap, .int .i64 m, .int .i64 g, .int .i64 c, .int .i64 l] w (GrowI (if n = 0 then 1 else 4) w) := by
 by_cases h0 : n = 0
 ·have hv := zh (show (1 : Int) = (if n = 0 then 1 else 4) by rw [if_pos h0])
  obtain ⟨v, hvv⟩ : ∃ v : Int, v = (if n = 0 then 1 else 4) := ⟨_, rfl⟩
  rw [<- hvv] at hv ⊢
  subst h0
  clear h hvv
  go_enter Tryz.func86, Tryz.ntmps86
  go_wp2
  go_ret
  exact ⟨zAI hv.out, Only.refl _ w⟩
 ·have h1 : 64 < n := by omega
  have hv := zh (show (4 : Int) = (if n = 0 then 1 else 4) by rw [if_neg h0])
  obtain ⟨v, hvv⟩ : ∃ v : Int, v = (if n = 0 then 1 else 4) := ⟨_, rfl⟩
  rw [<- hvv] at hv ⊢
  have h2 : (64 : Int) < (n : Int) := by omega
  have h3 : ((n : Int) == 0) = false := by simpa using h0
  clear h hvv
  go_enter Tryz.func86, Tryz.ntmps86
  go_wp2
  go_ret
  exact ⟨zAI hv.out, Only.refl _ w⟩
set_option maxHeartbeats 2000000 in
theorem zIO {w : World} {A : Option Addr} {n cap : Nat} {l : List Opn} (hl : OpnRow w A l) (hn : l.length = n) (xI : n <= cap) (r : jF) (hr : r.ok) (h0 : n ≠ 0) (h1 : n <= 64) : Calls Tryz.prog 86 #[.slice A n cap, .int .i64 r.m, .int .i64 r.g, .int .i64 r.c, .int .i64 r.l] w (GrowI (vI l ns0 r) w) := by
 have hl' := zh hl
 have hn' := zh hn
 have hr' := zh hr
 have h2 : ¬ (64 : Int) < (n : Int) := by omega
 have h3 : ((n : Int) == 0) = false := by simpa using h0
 clear hl hn hr h0
 go_enter Tryz.func86, Tryz.ntmps86
 go_wp2
 go_loopw [22] (fun i wr => ∃ k : Nat, k <= n /\ i = .int .i64 k /\ (∃ s, jP (l.take k) ns0 = some s /\ vI l ns0 r = vI (l.drop k) s r) /\ (∀ x ∈ l.take k, 0 <= x.a /\ x.a <= 5000) /\ Only (fun _ => False) w wr) (fun i _ => n - (intOf i).toNat)
 case atStart => exact ⟨0, Nat.zero_le _, rfl, ⟨ns0, rfl, rfl⟩, (fun x hx => by simp at hx), Only.refl _ _⟩
 case round =>
  obtain ⟨k, hk, rfl, ⟨s, kW, hrun⟩, hok, hO⟩ := hrel
  obtain ⟨ws, hws⟩ : ∃ ws : World, ws = wr := ⟨_, rfl⟩
  subst hws
  by_cases hkn : k < n
  ·have vR : (k : Int) < (n : Int) := by omega
   obtain ⟨x, hx⟩ : ∃ x, l[k]? = some x := ⟨l[k]'(by have := hn'.out; omega), List.getElem?_eq_getElem _⟩
   obtain ⟨bb, off, hA, hbb, q0, q1, q2⟩ := (hl'.out.new hO) k x hx
   subst hA
   have hop := zh (fun W => zQW W x r hr'.out)
   rw [show x.val = .agg #[.int .i64 x.k, .int .i64 x.a, .int .i64 x.b] from rfl] at hop
   have hS := zh (And.intro kW (And.intro hrun (And.intro hok (And.intro hO hx))))
   by_cases hz : opZ x r = 0
   ·have hz' := zh hz
    rw [hz] at hop
    have yP : ∀ y ∈ l.take (k + 1), 0 <= y.a /\ y.a <= 5000 := by
     intro y hy
     rw [zB4 hx] at hy
     rcases List.mem_append.1 hy with hy | hy
     ·exact hok y hy
     ·obtain rfl : y = x := by simpa using hy
      exact (zD8 hr'.out hz).2
    have hrow : OpnRow w (some ⟨bb, off, none⟩) (l.take (k + 1)) := fun i y hy => by
     rw [List.getElem?_take] at hy
     split at hy
     ·exact hl'.out i y hy
     ·cases hy
    have jAj : (l.take (k + 1)).length = k + 1 := by rw [List.length_take]; have := hn'.out; omega
    have hne := zh (fun W (hW : Only (fun _ => False) ws W) => zHI (cap := cap) (hrow.new (hO.trans' hW)) jAj (by omega) yP false)
    have jFj := zh yP
    have hns : nestB (l.take (k + 1)) false = (match jO s x.k x.a with
      | none => false
      | some _ => true) := by
     unfold nestB
     rw [zB4 hx, zD4, kW]
     simp only
     cases hq : jO s x.k x.a <;> simp
    have hi1 : (k : Int) + 1 <= (cap : Int) := by omega
    have hi0 : (0 : Int) <= (k : Int) + 1 := by omega
    have hwr : IntKind.i64.wrap ((k : Int) + 1) = (k : Int) + 1 := IntWalk.i64_in _ (by omega)
    have htn : ((k : Int) + 1).toNat = k + 1 := by omega
    clear kW hrun hok hO hx hz yP hrow jAj
    cases hstep : jO s x.k x.a with
    | none =>
     rw [hstep] at hns
     rw [hns] at hne
     have vC := zh hstep
     clear hstep hns
     go_wp2_with fail
     refine (hop.out _).mono ?_
     rintro e W2 ⟨rfl, hO2⟩
     have kC := zh (((Only.refl (fun _ => False) ws).alloc _).trans' hO2)
     clear hO2 q0 q1 q2
     go_wp2_with fail
     refine (hne.out W2 kC.out).mono ?_
     rintro e W3 ⟨rfl, hO3⟩
     have vT := zh hO3
     clear hO3
     go_wp2
     go_ret
     obtain ⟨kW, hrun, hok, hO, hx⟩ := hS.out
     exact ⟨zAI (by rw [hrun, zD9 hx hz'.out, vC.out]), (hO.trans' kC.out).trans' vT.out⟩
    | some t =>
     rw [hstep] at hns
     rw [hns] at hne
     have vC := zh hstep
     clear hstep hns
     go_wp2_with fail
     refine (hop.out _).mono ?_
     rintro e W2 ⟨rfl, hO2⟩
     have kC := zh (((Only.refl (fun _ => False) ws).alloc _).trans' hO2)
     clear hO2 q0 q1 q2
     go_wp2_with fail
     refine (hne.out W2 kC.out).mono ?_
     rintro e W3 ⟨rfl, hO3⟩
     have vT := zh hO3
     clear hO3
     go_wp2
     go_roundw
     case rel =>
      obtain ⟨kW, hrun, hok, hO, hx⟩ := hS.out
      exact ⟨k + 1, by omega, by go_num, ⟨t, by rw [zB4 hx, zD4, kW]; exact vC.out, by rw [hrun, zD9 hx hz'.out, vC.out]⟩, jFj.out, (hO.trans' kC.out).trans' vT.out⟩
     case measure => simp [intOf]; omega
   ·obtain ⟨z, hzz⟩ : ∃ z, z = opZ x r := ⟨_, rfl⟩
    rw [<- hzz] at hop hz
    have hz0 : (z == 0) = false := by simpa using hz
    have hz1 : (z != 0) = true := by simpa using hz
    have zK := zh (And.intro hzz hz)
    clear kW hrun hok hO hx hz hzz
    go_wp2_with fail
    refine (hop.out _).mono ?_
    rintro e W2 ⟨rfl, hO2⟩
    have kC := zh (((Only.refl (fun _ => False) ws).alloc _).trans' hO2)
    clear hO2 q0 q1 q2
    go_wp2
    go_ret
    obtain ⟨kW, hrun, hok, hO, hx⟩ := hS.out
    exact ⟨zAI (by rw [hrun, zL0 hx (by rw [<- zK.out.1]; exact zK.out.2)]; exact zK.out.1), hO.trans' kC.out⟩
  ·obtain rfl : k = n := by omega
   have hd : l.drop k = [] := List.drop_of_length_le (by have := hn'.out; omega)
   have ht : l.take k = l := List.take_of_length_le (by have := hn'.out; omega)
   rw [hd] at hrun
   rw [ht] at kW hok
   have hne := zh (zHI (cap := cap) (hl'.out.new hO) hn'.out h1 hok true)
   have hnb : nestB l true = doneB s := by unfold nestB; rw [kW]; rfl
   have hO' := zh hO
   rw [hnb] at hne
   cases hdn : doneB s with
   | true =>
    rw [hdn] at hne
    have hv := zh (show (0 : Int) = vI l ns0 r by rw [hrun, vI, if_pos hdn])
    clear hdn kW hrun hok hO hd ht hnb
    go_wp2_with fail
    refine hne.out.mono ?_
    rintro e W2 ⟨rfl, hO2⟩
    have kC := zh hO2
    clear hO2
    go_wp2
    go_ret
    exact ⟨zAI hv.out, hO'.out.trans' kC.out⟩
   | false =>
    rw [hdn] at hne
    have hv := zh (show (9 : Int) = vI l ns0 r by rw [hrun, vI, if_neg (by rw [hdn]; simp)])
    clear hdn kW hrun hok hO hd ht hnb
    go_wp2_with fail
    refine hne.out.mono ?_
    rintro e W2 ⟨rfl, hO2⟩
    have kC := zh hO2
    clear hO2
    go_wp2
    go_ret
    exact ⟨zAI hv.out, hO'.out.trans' kC.out⟩
theorem zKQ {w : World} {A : Option Addr} {cap : Nat} {l : List Opn} (hl : OpnRow w A l) (xI : l.length <= cap) (r : jF) (hr : r.ok) : Calls Tryz.prog 86 #[.slice A l.length cap, .int .i64 r.m, .int .i64 r.g, .int .i64 r.c, .int .i64 r.l] w (GrowI (checkZ l r) w) := by
 by_cases h0 : l.length = 0 ∨ 64 < l.length
 ·have := zKP w A l.length cap r.m r.g r.c r.l h0
  rwa [show checkZ l r = (if l.length = 0 then 1 else 4) by
   unfold checkZ
   by_cases h : l.length = 0
   ·rw [if_pos h, if_pos h]
   ·rw [if_neg h, if_neg h, if_pos (by omega)]]
 ·have := zIO hl rfl xI r hr (by omega) (by omega)
  rwa [show checkZ l r = vI l ns0 r by unfold checkZ; rw [if_neg (by omega), if_neg (by omega)]]
