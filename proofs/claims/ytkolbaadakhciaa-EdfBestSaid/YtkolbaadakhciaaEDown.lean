/- container/heap's down over a pile. -/
import Derived.Test.YtkolbaadakhciaaEUp
namespace Go.Proofs.Ytkolbaadakhciaa
namespace Edf
open Go Go.RowKit

def DownEnd (w : World) (r : Nat) (o : Option Nat) (T : Ws) (es : List En) (i0 n : Nat) (e : Ending) (w' : World) : Prop := (∃ b, e = .returned (.bool b)) ∧ Heaped w r o T es i0 n w'
def DownRel (w : World) (r : Nat) (o : Option Nat) (T : Ws) (es : List En) (i0 n i : Nat) (w' : World) : Prop :=
  ∃ es', RAt w' r o T es' ∧ List.Perm es' es ∧ DownInv es' i0 n i ∧ i0 ≤ i ∧ (∀ k, n ≤ k → es'[k]? = es[k]?) ∧ Only (fun k => o = some k) w w'
theorem down_rel_step {w w1 w2 : World} {r n i0 i j : Nat} {T : Ws} {o : Option Nat} {es es1 : List En} {x y : En} (hA : RAt w2 r o T (sw es1 i j x y)) (hp : List.Perm es1 es) (hu : DownInv es1 i0 n i) (hk : Kid es1 n i j) (hi0 : i0 ≤ i) (hij : i < j) (hx : es1[i]? = some x) (hy : es1[j]? = some y) (hn : n ≤ es1.length) (hlt : ltB y x = true) (ho : ∀ k, n ≤ k → es1[k]? = es[k]?) (h1 : Only (fun k => o = some k) w w1) (h2 : Only (fun k => o = some k) w1 w2) : DownRel w r o T es i0 n j w2 := by
  have hjn := hk.2.1
  refine ⟨_, hA, (sw_perm hx hy).trans hp, down_step hu hk hn hi0 hx hy hlt, by omega, fun k hk' => ?_, h1.trans' h2⟩
  rw [sw_at (by omega) (by omega), if_neg (by omega), if_neg (by omega)]
  exact ho k hk'
/-- Behind the choice of the child. -/
theorem down_stays {w ws W : World} {r n i0 i j : Nat} {T : Ws} {o : Option Nat} {es es1 : List En} {x y : En} (hA : RAt ws r o T es1) (hp : List.Perm es1 es) (hu : DownInv es1 i0 n i) (hk : Kid es1 n i j) (hx : es1[i]? = some x) (hy : es1[j]? = some y) (hn : n ≤ es1.length) (hlt : ltB y x = false) (ho : ∀ k, n ≤ k → es1[k]? = es[k]?) (h1 : Only (fun k => o = some k) w ws) (hW : Only (fun _ => False) ws W) : Heaped w r o T es i0 n W :=
  ⟨es1, hA.new hW, hp, down_stop hu hk (fun a b ha hb => by
    rw [hx] at ha; rw [hy] at hb
    cases ha; cases hb
    exact nlt_le hlt) hn, ho, h1.trans' (hW.mono (fun _ _ h => h.elim))⟩
theorem kid_first {es : List En} {n i j1 : Nat} {c1 : En} (h1 : j1 = 2 * i + 1) (h2 : j1 < n) (hc : es[j1]? = some c1) (h : j1 + 1 < n → ∃ c2, es[j1 + 1]? = some c2 ∧ ltB c2 c1 = false) : Kid es n i j1 :=
  ⟨by omega, h2, by omega, fun k k1 k2 k3 a b ha hb => by
    rw [hc] at ha
    cases ha
    by_cases hk : k = j1
    · subst hk
      rw [hc] at hb
      cases hb
      exact le_refl _
    · obtain rfl : k = j1 + 1 := by omega
      obtain ⟨c2, e2, e3⟩ := h k2
      rw [e2] at hb
      cases hb
      exact nlt_le e3⟩
theorem kid_second {es : List En} {n i j1 : Nat} {c1 c2 : En} (h1 : j1 = 2 * i + 1) (h2 : j1 + 1 < n) (hc : es[j1]? = some c1) (hd : es[j1 + 1]? = some c2) (h : ltB c2 c1 = true) : Kid es n i (j1 + 1) :=
  ⟨by omega, h2, by omega, fun k k1 k2 k3 a b ha hb => by
    rw [hd] at ha
    cases ha
    by_cases hk : k = j1
    · subst hk
      rw [hc] at hb
      cases hb
      exact lt_le h
    · obtain rfl : k = j1 + 1 := by omega
      rw [hd] at hb
      cases hb
      exact le_refl _⟩

set_option maxRecDepth 100000 in
set_option maxHeartbeats 2000000 in
theorem down_any {w : World} {r : Nat} {T : Ws} {o : Option Nat} {es : List En} (h : RAt w r o T es) (i0 n : Nat) (hn : n ≤ es.length) (hb : n ≤ 4000) (hi0 : i0 ≤ 4000) (hu : HeapFrom es (i0 + 1) n) : Calls Try.prog 53 #[.iface 76 (.pointer (some ⟨r, 0, none⟩)), .int .i64 i0, .int .i64 n] w (DownEnd w r o T es i0 n) := by
  have ml := mLess
  have ms := mSwap
  have hs := Lib.hid (show DownRel w r o T es i0 n i0 w from ⟨es, h, List.Perm.refl _, down_start hu, Nat.le_refl _, fun _ _ => rfl, Only.refl _ _⟩)
  have hn' := Lib.hid hn
  clear h hn hu
  go_enter Try.func53, Try.ntmps53
  go_wp2
  go_loopw [7] (fun v wr => ∃ k : Nat, v = .int .i64 k ∧ k ≤ 4000 ∧ DownRel w r o T es i0 n k wr) (fun v _ => 4000 - (intOf v).toNat)
  case atStart => exact ⟨i0, rfl, hi0, hs.out⟩
  case round =>
    obtain ⟨k, rfl, hk, hrel⟩ := hrel
    obtain ⟨ws, hws⟩ : ∃ ws : World, ws = wr := ⟨_, rfl⟩
    subst hws
    obtain ⟨es1, hA, hp, hu, hik, ho, hO⟩ := hrel
    have hlen : n ≤ es1.length := by rw [hp.length_eq]; exact hn'.out
    obtain ⟨j1, hj1⟩ : ∃ j1, j1 = 2 * k + 1 := ⟨_, rfl⟩
    have hJ1 : 2 * (k : Int) + 1 = (j1 : Int) := by omega
    have hjb : j1 ≤ 8001 := by omega
    by_cases h1 : n ≤ j1
    · have h1' : (n : Int) ≤ (j1 : Int) := by omega
      have hE := Lib.hid (show Heaped w r o T es i0 n ws from ⟨es1, hA, hp, down_leaf hu (by omega), ho, hO⟩)
      have hj1' := Lib.hid hj1
      clear hA hp hu ho hO hlen hj1
      go_wp2
      go_ret
      exact ⟨⟨_, rfl⟩, hE.out⟩
    · have h1' : ¬ (n : Int) ≤ (j1 : Int) := by omega
      obtain ⟨x, hx⟩ : ∃ x, es1[k]? = some x := ⟨es1[k]'(by omega), List.getElem?_eq_getElem _⟩
      obtain ⟨c1, hc1⟩ : ∃ c1, es1[j1]? = some c1 := ⟨es1[j1]'(by omega), List.getElem?_eq_getElem _⟩
      have hjz : ¬ (j1 : Int) < 0 := by omega
      have hj1' := Lib.hid hj1
      obtain ⟨j2, hj2⟩ : ∃ j2, j2 = j1 + 1 := ⟨_, rfl⟩
      have hJ2 : (j1 : Int) + 1 = (j2 : Int) := by omega
      have hj2' := Lib.hid hj2
      have hkj : k < j1 := by omega
      by_cases h2 : j2 < n
      · have h2' : (j2 : Int) < (n : Int) := by omega
        obtain ⟨c2, hc2⟩ : ∃ c2, es1[j1 + 1]? = some c2 := ⟨es1[j1 + 1]'(by omega), List.getElem?_eq_getElem _⟩
        have hl2 := Lib.hid (less_any hA j2 j1 c2 c1 (hj2 ▸ hc2) hc1)
        cases hlt2 : ltB c2 c1 with
        | true =>
          have hkid := kid_second (es := es1) (n := n) (i := k) hj1 (by omega) hc1 hc2 hlt2
          rw [← hj2] at hkid hc2
          have hless := Lib.hid (fun V (hV : Only (fun _ => False) ws V) => less_any (hA.new hV) j2 k c2 x hc2 hx)
          cases hlt : ltB c2 x with
          | false =>
            have hE := Lib.hid (fun W (hW : Only (fun _ => False) ws W) => down_stays hA hp hu hkid hx hc2 hlen hlt ho hO hW)
            have hlt' := Lib.hid hlt
            have hlt2' := Lib.hid hlt2
            clear hA hp hu ho hO hlen hx hc1 hc2 hj1 hj2 hkid hlt hlt2
            go_wp2_with fail
            refine hl2.out.mono ?_
            rintro e V ⟨rfl, hV⟩
            rw [hlt2'.out]
            have hV' := Lib.hid hV
            clear hV
            go_wp2_with fail
            refine (hless.out _ hV'.out).mono ?_
            rintro e W ⟨rfl, hW⟩
            rw [hlt'.out]
            have hE' := Lib.hid (hE.out W (hV'.out.trans' hW))
            clear hW
            go_wp2
            go_ret
            exact ⟨⟨_, rfl⟩, hE'.out⟩
          | true =>
            have hsw := Lib.hid (fun W (hW : Only (fun _ => False) ws W) => swap_two (hA.new hW) k j2 x c2 hx hc2 (by omega))
            have hE := Lib.hid (show ∀ W W', Only (fun _ => False) ws W → RAt W' r o T (sw es1 k j2 x c2) → Only (fun k => o = some k) W W' → DownRel w r o T es i0 n j2 W' from fun W W' hW hA' hO' =>
              down_rel_step (i := k) (j := j2) hA' hp hu hkid hik (by omega) hx hc2 hlen hlt ho hO ((hW.mono (fun _ _ h => h.elim)).trans' hO'))
            have hlt' := Lib.hid hlt
            have hlt2' := Lib.hid hlt2
            clear hA hp hu ho hO hlen hx hc1 hc2 hj1 hj2 hkid hlt hlt2
            go_wp2_with fail
            refine hl2.out.mono ?_
            rintro e V ⟨rfl, hV⟩
            rw [hlt2'.out]
            have hV' := Lib.hid hV
            clear hV
            go_wp2_with fail
            refine (hless.out _ hV'.out).mono ?_
            rintro e W ⟨rfl, hW⟩
            rw [hlt'.out]
            have hW' := Lib.hid (hV'.out.trans' hW)
            clear hW
            go_wp2_with fail
            refine (hsw.out W hW'.out).mono ?_
            rintro e W' ⟨rfl, hA', hO'⟩
            have hE' := Lib.hid (hE.out W W' hW'.out hA' hO')
            clear hA' hO'
            go_wp2
            go_roundw
            case rel => exact ⟨j2, rfl, by omega, hE'.out⟩
            case measure => simp [intOf]; omega
        | false =>
          have hkid := kid_first (es := es1) (n := n) (i := k) hj1 (by omega) hc1 (fun _ => ⟨c2, hc2, hlt2⟩)
          have hless := Lib.hid (fun V (hV : Only (fun _ => False) ws V) => less_any (hA.new hV) j1 k c1 x hc1 hx)
          cases hlt : ltB c1 x with
          | false =>
            have hE := Lib.hid (fun W (hW : Only (fun _ => False) ws W) => down_stays hA hp hu hkid hx hc1 hlen hlt ho hO hW)
            have hlt' := Lib.hid hlt
            have hlt2' := Lib.hid hlt2
            clear hA hp hu ho hO hlen hx hc1 hc2 hj1 hj2 hkid hlt hlt2
            go_wp2_with fail
            refine hl2.out.mono ?_
            rintro e V ⟨rfl, hV⟩
            rw [hlt2'.out]
            have hV' := Lib.hid hV
            clear hV
            go_wp2_with fail
            refine (hless.out _ hV'.out).mono ?_
            rintro e W ⟨rfl, hW⟩
            rw [hlt'.out]
            have hE' := Lib.hid (hE.out W (hV'.out.trans' hW))
            clear hW
            go_wp2
            go_ret
            exact ⟨⟨_, rfl⟩, hE'.out⟩
          | true =>
            have hsw := Lib.hid (fun W (hW : Only (fun _ => False) ws W) => swap_two (hA.new hW) k j1 x c1 hx hc1 (by omega))
            have hE := Lib.hid (show ∀ W W', Only (fun _ => False) ws W → RAt W' r o T (sw es1 k j1 x c1) → Only (fun k => o = some k) W W' → DownRel w r o T es i0 n j1 W' from fun W W' hW hA' hO' =>
              down_rel_step (i := k) (j := j1) hA' hp hu hkid hik (by omega) hx hc1 hlen hlt ho hO ((hW.mono (fun _ _ h => h.elim)).trans' hO'))
            have hlt' := Lib.hid hlt
            have hlt2' := Lib.hid hlt2
            clear hA hp hu ho hO hlen hx hc1 hc2 hj1 hj2 hkid hlt hlt2
            go_wp2_with fail
            refine hl2.out.mono ?_
            rintro e V ⟨rfl, hV⟩
            rw [hlt2'.out]
            have hV' := Lib.hid hV
            clear hV
            go_wp2_with fail
            refine (hless.out _ hV'.out).mono ?_
            rintro e W ⟨rfl, hW⟩
            rw [hlt'.out]
            have hW' := Lib.hid (hV'.out.trans' hW)
            clear hW
            go_wp2_with fail
            refine (hsw.out W hW'.out).mono ?_
            rintro e W' ⟨rfl, hA', hO'⟩
            have hE' := Lib.hid (hE.out W W' hW'.out hA' hO')
            clear hA' hO'
            go_wp2
            go_roundw
            case rel => exact ⟨j1, rfl, by omega, hE'.out⟩
            case measure => simp [intOf]; omega
      · have h2' : ¬ (j2 : Int) < (n : Int) := by omega
        have hkid := kid_first (es := es1) (n := n) (i := k) hj1 (by omega) hc1 (fun h => absurd h (by omega))
        have hless := Lib.hid (fun V (hV : Only (fun _ => False) ws V) => less_any (hA.new hV) j1 k c1 x hc1 hx)
        cases hlt : ltB c1 x with
        | false =>
          have hE := Lib.hid (fun W (hW : Only (fun _ => False) ws W) => down_stays hA hp hu hkid hx hc1 hlen hlt ho hO hW)
          have hlt' := Lib.hid hlt
          clear hA hp hu ho hO hlen hx hc1 hj1 hj2 hkid hlt
          go_wp2_with fail
          refine (hless.out _ (Only.refl _ ws)).mono ?_
          rintro e W ⟨rfl, hW⟩
          rw [hlt'.out]
          have hE' := Lib.hid (hE.out W ((Only.refl _ ws).trans' hW))
          clear hW
          go_wp2
          go_ret
          exact ⟨⟨_, rfl⟩, hE'.out⟩
        | true =>
          have hsw := Lib.hid (fun W (hW : Only (fun _ => False) ws W) => swap_two (hA.new hW) k j1 x c1 hx hc1 (by omega))
          have hE := Lib.hid (show ∀ W W', Only (fun _ => False) ws W → RAt W' r o T (sw es1 k j1 x c1) → Only (fun k => o = some k) W W' → DownRel w r o T es i0 n j1 W' from fun W W' hW hA' hO' =>
            down_rel_step (i := k) (j := j1) hA' hp hu hkid hik (by omega) hx hc1 hlen hlt ho hO ((hW.mono (fun _ _ h => h.elim)).trans' hO'))
          have hlt' := Lib.hid hlt
          clear hA hp hu ho hO hlen hx hc1 hj1 hj2 hkid hlt
          go_wp2_with fail
          refine (hless.out _ (Only.refl _ ws)).mono ?_
          rintro e W ⟨rfl, hW⟩
          rw [hlt'.out]
          have hW' := Lib.hid ((Only.refl _ ws).trans' hW)
          clear hW
          go_wp2_with fail
          refine (hsw.out W hW'.out).mono ?_
          rintro e W' ⟨rfl, hA', hO'⟩
          have hE' := Lib.hid (hE.out W W' hW'.out hA' hO')
          clear hA' hO'
          go_wp2
          go_roundw
          case rel => exact ⟨j1, rfl, by omega, hE'.out⟩
          case measure => simp [intOf]; omega
end Edf
end Go.Proofs.Ytkolbaadakhciaa
