/- container/heap's up over a pile. -/
import Derived.Test.YtkolbaadakhciaaEHeap
import Derived.LoopTactic
namespace Go.Proofs.Ytkolbaadakhciaa
namespace Edf
open Go Go.RowKit

def Heaped (w : World) (r : Nat) (o : Option Nat) (T : Ws) (es : List En) (i0 n : Nat) (w' : World) : Prop :=
  ∃ es', RAt w' r o T es' ∧ List.Perm es' es ∧ HeapFrom es' i0 n ∧ (∀ k, n ≤ k → es'[k]? = es[k]?) ∧ Only (fun k => o = some k) w w'
def UpEnd (w : World) (r : Nat) (o : Option Nat) (T : Ws) (es : List En) (n : Nat) (e : Ending) (w' : World) : Prop := e = .returned (.tuple #[]) ∧ Heaped w r o T es 0 n w'

def UpRel (w : World) (r : Nat) (o : Option Nat) (T : Ws) (es : List En) (n j : Nat) (w' : World) : Prop :=
  ∃ es', RAt w' r o T es' ∧ List.Perm es' es ∧ UpInv es' n j ∧ j < n ∧ (∀ k, n ≤ k → es'[k]? = es[k]?) ∧ Only (fun k => o = some k) w w'

theorem up_rel_step {w w1 w2 : World} {r n i j : Nat} {T : Ws} {o : Option Nat} {es es1 : List En} {x y : En} (hA : RAt w2 r o T (sw es1 i j x y)) (hp : List.Perm es1 es) (hu : UpInv es1 n j) (hj : j < n) (hj0 : 0 < j) (hi : i = (j - 1) / 2) (hx : es1[i]? = some x) (hy : es1[j]? = some y) (hn : n ≤ es1.length) (hlt : ltB y x = true) (hk : ∀ k, n ≤ k → es1[k]? = es[k]?) (h1 : Only (fun k => o = some k) w w1) (h2 : Only (fun k => o = some k) w1 w2) : UpRel w r o T es n i w2 := by
  refine ⟨_, hA, (sw_perm hx hy).trans hp, up_step hu hn hj0 hj hi hx hlt, by omega, fun k hk' => ?_, h1.trans' h2⟩
  rw [sw_at (by omega) (by omega), if_neg (by omega), if_neg (by omega)]
  exact hk k hk'

set_option maxRecDepth 100000 in
set_option maxHeartbeats 2000000 in
theorem up_any {w : World} {r : Nat} {T : Ws} {o : Option Nat} {es : List En} (h : RAt w r o T es) (n j : Nat) (hn : n ≤ es.length) (hb : n ≤ 4000) (hj : j < n) (hu : UpInv es n j) : Calls Try.prog 57 #[.iface 76 (.pointer (some ⟨r, 0, none⟩)), .int .i64 j] w (UpEnd w r o T es n) := by
  have ml := mLess
  have ms := mSwap
  have hs := Lib.hid (show UpRel w r o T es n j w from ⟨es, h, List.Perm.refl _, hu, hj, fun _ _ => rfl, Only.refl _ _⟩)
  have hn' := Lib.hid hn
  clear h hn hu
  go_enter Try.func57, Try.ntmps57
  go_wp2
  go_loopw [1] (fun v wr => ∃ k : Nat, v = .int .i64 k ∧ k < n ∧ UpRel w r o T es n k wr) (fun v _ => (intOf v).toNat)
  case atStart => exact ⟨j, rfl, hj, hs.out⟩
  case round =>
    obtain ⟨k, rfl, hk, hrel⟩ := hrel
    obtain ⟨ws, hws⟩ : ∃ ws : World, ws = wr := ⟨_, rfl⟩
    subst hws
    obtain ⟨es1, hA, hp, hu, _, ho, hO⟩ := hrel
    have hlen : n ≤ es1.length := by rw [hp.length_eq]; exact hn'.out
    by_cases h0 : k = 0
    · subst h0
      have hE := Lib.hid (show UpEnd w r o T es n (.returned (.tuple #[])) ws from ⟨rfl, es1, hA, hp, up_stop hu (.inl rfl), ho, hO⟩)
      clear hA hp hu ho hO hlen
      go_wp2
      go_end0
      exact hE.out
    · obtain ⟨i, hi⟩ : ∃ i, i = (k - 1) / 2 := ⟨_, rfl⟩
      obtain ⟨x, hx⟩ : ∃ x, es1[i]? = some x := ⟨es1[i]'(by omega), List.getElem?_eq_getElem _⟩
      obtain ⟨y, hy⟩ : ∃ y, es1[k]? = some y := ⟨es1[k]'(by omega), List.getElem?_eq_getElem _⟩
      have hik : i < k := by omega
      have hq : ((k : Int) - 1) / 2 = (i : Int) := by omega
      have hne : ((i : Int) == (k : Int)) = false := by simp; omega
      have hk1 : 1 ≤ (k : Int) := by omega
      have hless := Lib.hid (less_any hA k i y x hy hx)
      cases hlt : ltB y x with
      | false =>
        have hE := Lib.hid (show ∀ W, Only (fun _ => False) ws W → UpEnd w r o T es n (.returned (.tuple #[])) W from fun W hW => ⟨rfl, es1, hA.new hW, hp, up_stop hu (.inr (fun a b ha hb => by
          rw [← hi] at ha
          rw [hx] at ha; rw [hy] at hb
          cases ha; cases hb
          exact nlt_le hlt)), ho, hO.trans' (hW.mono (fun _ _ h => h.elim))⟩)
        have hlt' := Lib.hid hlt
        clear hA hp hu ho hO hlen hx hy hi hlt
        go_wp2_with fail
        refine hless.out.mono ?_
        rintro e W ⟨rfl, hW⟩
        rw [hlt'.out]
        have hE' := Lib.hid (hE.out W hW)
        clear hW
        go_wp2
        go_end0
        exact hE'.out
      | true =>
        have hsw := Lib.hid (fun W (hW : Only (fun _ => False) ws W) => swap_two (hA.new hW) i k x y hx hy (by omega))
        have hE := Lib.hid (show ∀ W W', Only (fun _ => False) ws W → RAt W' r o T (sw es1 i k x y) → Only (fun k => o = some k) W W' → UpRel w r o T es n i W' from fun W W' hW hA' hO' =>
          up_rel_step hA' hp hu hk (by omega) hi hx hy hlen hlt ho hO ((hW.mono (fun _ _ h => h.elim)).trans' hO'))
        have hlt' := Lib.hid hlt
        clear hA hp hu ho hO hlen hx hy hi hlt
        go_wp2_with fail
        refine hless.out.mono ?_
        rintro e W ⟨rfl, hW⟩
        rw [hlt'.out]
        have hW' := Lib.hid hW
        clear hW
        go_wp2_with fail
        refine (hsw.out W hW'.out).mono ?_
        rintro e W' ⟨rfl, hA', hO'⟩
        have hE' := Lib.hid (hE.out W W' hW'.out hA' hO')
        clear hA' hO'
        go_wp2
        go_roundw
        case rel => exact ⟨i, rfl, by omega, hE'.out⟩
        case measure => simp [intOf]; omega
end Edf
end Go.Proofs.Ytkolbaadakhciaa
