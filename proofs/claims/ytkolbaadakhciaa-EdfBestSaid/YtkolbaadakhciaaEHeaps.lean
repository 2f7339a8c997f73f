/- container/heap's Push, Pop and Init over a pile. -/
import Derived.Test.YtkolbaadakhciaaEDown
namespace Go.Proofs.Ytkolbaadakhciaa
namespace Edf
open Go Go.RowKit

/-- What pushing leaves. -/
def HPushEnd (w : World) (r : Nat) (o : Option Nat) (T : Ws) (es : List En) (x : En) (e : Ending) (w' : World) : Prop :=
  e = .returned (.tuple #[]) ∧ ∃ o' es', RAt w' r o' T es' ∧ List.Perm es' (es ++ [x]) ∧ HeapFrom es' 0 es'.length ∧ (o' = o ∨ ∃ g, o' = some g ∧ w.heap.size ≤ g) ∧ Only (fp r o) w w'

theorem up_start {es : List En} {x : En} (h : HeapFrom es 0 es.length) : UpInv (es ++ [x]) (es.length + 1) es.length := by
  refine ⟨fun k h1 h2 h3 a b ha hb => ?_, fun k h1 h2 h3 h4 => by omega⟩
  rw [List.getElem?_append_left (by omega)] at ha hb
  exact h k h1 (by omega) (by omega) _ _ ha hb

theorem only_fp {w W w' : World} {r : Nat} {o o' : Option Nat} (h1 : Only (fp r o) w W) (ho : o' = o ∨ ∃ g, o' = some g ∧ w.heap.size ≤ g) (h2 : Only (fun k => o' = some k) W w') : Only (fp r o) w w' :=
  h1.trans h2 (fun k hk e => by
    rcases ho with rfl | ⟨g, rfl, hg⟩
    · exact .inr e
    · cases e; omega)

set_option maxRecDepth 100000 in
set_option maxHeartbeats 2000000 in
theorem hpush_any {w : World} {r : Nat} {T : Ws} {o : Option Nat} {es : List En} (h : RAt w r o T es) (hh : HeapFrom es 0 es.length) (hn : es.length ≤ 3900) (x : En) (hx : ∃ y, T.l[x.n]? = some y ∧ (y.d : Int) = x.e.t) : Calls Try.prog 52 #[.iface 76 (.pointer (some ⟨r, 0, none⟩)), .iface 3 (.int .i64 (x.n : Int))] w (HPushEnd w r o T es x) := by
  have mp := mPush
  have ml := mLen
  have hl := Lib.hid (push_any h (by omega) x hx)
  have hu := Lib.hid (up_start (x := x) hh)
  obtain ⟨n, hn'⟩ : ∃ n, n = es.length := ⟨_, rfl⟩
  have hE := Lib.hid hn'
  rw [← hn'] at hn
  have hlen : ∀ y : En, (es ++ [y]).length = n + 1 := fun y => by rw [hn']; simp
  have hlen' := Lib.hid hlen
  clear h hh hn' hlen hx
  go_enter Try.func52, Try.ntmps52
  go_wp2_with fail
  refine hl.out.mono ?_
  rintro e W ⟨rfl, o', hA, hoo, hO⟩
  have hlenW := len_any hA
  have hup := up_any hA (n + 1) n (by rw [hlen'.out]; exact Nat.le_refl _) (by omega) (by omega) (by rw [hE.out]; exact hu.out)
  rw [hlen'.out] at hlenW
  have hlenW' := Lib.hid hlenW
  have hup' := Lib.hid hup
  have hR := Lib.hid (And.intro hoo hO)
  have hq : ((n + 1 : Nat) : Int) - 1 = (n : Int) := by omega
  obtain ⟨L, hL⟩ : ∃ L, L = n + 1 := ⟨_, rfl⟩
  rw [← hL] at hq hlenW'
  have hL' : (L : Int) ≤ 4000 := by omega
  have hL1 : 1 ≤ (L : Int) := by omega
  have hL'' := Lib.hid hL
  clear hlenW hup hA hoo hO hL
  go_wp2_with fail
  refine hlenW'.out.mono ?_
  rintro e W1 ⟨rfl, rfl⟩
  go_wp2_with fail
  refine hup'.out.mono ?_
  rintro e W2 ⟨rfl, es', hA', hp, hf, -, hO'⟩
  have hR' := Lib.hid (And.intro hA' (And.intro hp (And.intro hf hO')))
  clear hA' hp hf hO'
  go_wp2
  go_end0
  obtain ⟨hA', hp, hf, hO'⟩ := hR'.out
  refine ⟨rfl, o', es', hA', hp, ?_, hR.out.1, only_fp hR.out.2 hR.out.1 hO'⟩
  rw [hp.length_eq, hlen'.out]
  exact hf

/-- What popping leaves. -/
def HPopEnd (w : World) (r : Nat) (o : Option Nat) (T : Ws) (es : List En) (x : En) (e : Ending) (w' : World) : Prop :=
  e = .returned (.iface 3 (.int .i64 (x.n : Int))) ∧ ∃ es', RAt w' r o T es' ∧ List.Perm (es' ++ [x]) es ∧ HeapFrom es' 0 es'.length ∧ Only (fp r o) w w'

theorem swap_ends {w : World} {r : Nat} {T : Ws} {o : Option Nat} {es : List En} (h : RAt w r o T es) (n : Nat) (hn : es.length = n + 1) (x y : En) (hx : es[0]? = some x) (hy : es[n]? = some y) : Calls Try.prog 81 #[.pointer (some ⟨r, 0, none⟩), .int .i64 0, .int .i64 n] w (SwapEnd w r o T (sw es 0 n x y)) := by
  by_cases h0 : n = 0
  · subst h0
    rw [hx] at hy
    cases hy
    exact swap_same h 0 x hx
  · exact swap_two h 0 n x y hx hy (by omega)

theorem pop_start {es : List En} {n : Nat} {x y : En} (hh : HeapFrom es 0 es.length) (hn : es.length = n + 1) : HeapFrom (sw es 0 n x y) (0 + 1) n := by
  intro k h1 h2 h3 a b ha hb
  rw [sw_at (by omega) (by omega)] at ha hb
  rw [if_neg (by omega), if_neg (by omega)] at ha hb
  exact hh k h1 (by omega) (by omega) _ _ ha hb
theorem split_last {es : List En} {n : Nat} {x : En} (hn : es.length = n + 1) (hx : es[n]? = some x) : es = es.take n ++ [x] := by
  have h1 := List.take_add_one (l := es) (i := n)
  rw [hx] at h1
  rw [List.take_of_length_le (by omega)] at h1
  exact h1
theorem heap_take {es : List En} {n : Nat} (h : HeapFrom es 0 n) (hn : n ≤ es.length) : HeapFrom (es.take n) 0 (es.take n).length := by
  have hl : (es.take n).length = n := by rw [List.length_take]; omega
  rw [hl]
  intro k h1 h2 h3 a b ha hb
  rw [List.getElem?_take, if_pos (by omega)] at ha hb
  exact h k h1 h2 h3 _ _ ha hb

set_option maxRecDepth 100000 in
set_option maxHeartbeats 2000000 in
theorem hpop_any {w : World} {r : Nat} {T : Ws} {o : Option Nat} {es : List En} (h : RAt w r o T es) (hh : HeapFrom es 0 es.length) (hn : es.length ≤ 4000) (x : En) (hx : es[0]? = some x) : Calls Try.prog 45 #[.iface 76 (.pointer (some ⟨r, 0, none⟩))] w (HPopEnd w r o T es x) := by
  have mp := mPop
  have ml := mLen
  have ms := mSwap
  obtain ⟨hpos, -⟩ := List.getElem?_eq_some_iff.1 hx
  obtain ⟨n, hn'⟩ : ∃ n, es.length = n + 1 := ⟨es.length - 1, by omega⟩
  have hlen := len_any h
  obtain ⟨y, hy⟩ : ∃ y, es[n]? = some y := ⟨es[n]'(by omega), List.getElem?_eq_getElem _⟩
  have hsw := Lib.hid (swap_ends h n hn' x y hx hy)
  have hst := Lib.hid (And.intro (pop_start (x := x) (y := y) hh hn') (And.intro hn' (And.intro hx hy)))
  obtain ⟨L, hL⟩ : ∃ L, L = es.length := ⟨_, rfl⟩
  rw [← hL] at hlen
  have hq : (L : Int) - 1 = (n : Int) := by omega
  have hL' : (L : Int) ≤ 4000 := by omega
  have hL1 : 1 ≤ (L : Int) := by omega
  have hnb : n ≤ 4000 := by omega
  have hlen' := Lib.hid hlen
  clear h hh hn hx hpos hn' hlen hy hL
  go_enter Try.func45, Try.ntmps45
  go_wp2_with fail
  refine hlen'.out.mono ?_
  rintro e W1 ⟨rfl, rfl⟩
  go_wp2_with fail
  refine hsw.out.mono ?_
  rintro e W ⟨rfl, hA, hO⟩
  obtain ⟨hs1, hs2, hs3, hs4⟩ := hst.out
  have hd := Lib.hid (down_any hA 0 n (by rw [sw_length]; omega) hnb (by omega) hs1)
  have hO' := Lib.hid hO
  clear hA hO hs1 hs2 hs3 hs4
  go_wp2_with fail
  refine hd.out.mono ?_
  rintro e W2 ⟨⟨b, rfl⟩, es2, hA2, hp2, hf2, hk2, hO2⟩
  obtain ⟨hs1, hs2, hs3, hs4⟩ := hst.out
  have hl2 : es2.length = n + 1 := by rw [hp2.length_eq, sw_length]; exact hs2
  have hx2 : es2[n]? = some x := by
    rw [hk2 n (Nat.le_refl _), sw_at (by omega) (by omega), if_pos rfl]
  have hsp := split_last hl2 hx2
  have hA2' := hA2
  rw [hsp] at hA2'
  have hpop := Lib.hid (pop_any hA2' (by rw [List.length_take]; omega))
  have hE := Lib.hid (And.intro (heap_take hf2 (by omega)) (And.intro (hsp ▸ hp2.trans (sw_perm hs3 hs4)) hO2))
  clear hs1 hs2 hs3 hs4 hA2 hp2 hf2 hk2 hO2 hl2 hx2 hsp hA2'
  go_wp2_with fail
  refine hpop.out.mono ?_
  rintro e W3 ⟨rfl, hA3, hO3⟩
  have hF := Lib.hid (And.intro hA3 hO3)
  clear hA3 hO3
  go_wp2
  go_ret
  refine ⟨rfl, _, hF.out.1, hE.out.2.1, hE.out.1, ?_⟩
  exact ((hO'.out.trans' hE.out.2.2).mono (T := fp r o) (fun _ _ h => .inr h)).trans hF.out.2 (fun _ _ h => .inl h)
end Edf
end Go.Proofs.Ytkolbaadakhciaa
