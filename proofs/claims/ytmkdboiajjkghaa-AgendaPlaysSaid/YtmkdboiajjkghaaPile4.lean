/- The pile's Pop and Push. -/
import Derived.Test.YtmkdboiajjkghaaPile3
namespace Go.Proofs.Ytmkdboiajjkghaa
open Go Go.RowKit

/-- What taking the last entry away leaves. -/
def PopEnd (w : World) (r : Nat) (o : Option Nat) (T : Nat) (es : List En) (x : En) (e : Ending) (w' : World) : Prop :=
  e = .returned (.iface 29 x.e.val) ∧ AgAt w' r o T es ∧ Only (fun k => k = r) w w'

set_option maxHeartbeats 400000 in
theorem pop_any {w : World} {r T : Nat} {o : Option Nat} {es : List En} {x : En} (h : AgAt w r o T (es ++ [x])) (hn : es.length ≤ 1000) : Calls Try.prog 38 #[.pointer (some ⟨r, 0, none⟩)] w (fun e w' => PopEnd w r o T es x e w') := by
  obtain ⟨p, cap, h1, h2, hb, h3, h4⟩ := h.block
  obtain ⟨n, hn'⟩ : ∃ n, n = es.length := ⟨_, rfl⟩
  have hl : (es ++ [x]).length = n + 1 := by simp [hn']
  obtain ⟨L, hL⟩ : ∃ L, L = n + 1 := ⟨_, rfl⟩
  rw [hl, ← hL] at h1 hb h3
  obtain ⟨g, off, cap', ho, hv, h5, h6, h7, h8, h9⟩ := win_en h3 (by omega)
  cases hv
  have hr := row_lt hb
  have c0 := row_cell hb (i := 0) rfl
  have f0 := row_free hb 0
  obtain ⟨a0, a1, a2, a3, a4, a5⟩ := h8 n x (by simp [hn'])
  have hL1 : (L : Int) - 1 = (n : Int) := by omega
  have hcn : (n : Int) ≤ (cap : Int) := by omega
  have hn1 : (n : Int) < (L : Int) := by omega
  have hn2 : (0 : Int) ≤ (n : Int) := by omega
  have hn3 : n ≤ 1000 := by omega
  have hb' := Lib.hid hb
  have hE := Lib.hid (fun W (hW : W.heap[r]? = some (.cells [.slice (some ⟨g, off, none⟩) n cap, .int .u64 T].toArray 42 (0, 0)) ∧ Only (fun k => k = r) w W) => show AgAt W r o T es from by
    have ht := h3.take (k := n) (by omega)
    rw [enCells_append, List.take_left' (by rw [enCells_length, hn'])] at ht
    subst hn'
    exact ⟨_, hW.1, ht.kept hW.2 (fun k hk e => h4 k hk e), h4⟩)
  clear h h1 h2 h3 h4 hb hn' hl h5 h6 h8 h9 ho hL
  go_enter Try.func38, Try.ntmps38
  go_wp2
  go_ret
  refine ⟨rfl, hE.out _ ⟨heap_kept_alloc (row_set hb'.out 0 _) _, ((Only.refl (fun k => k = r) w).setCell (p := ⟨r, 0, none⟩) (fun _ => rfl) _).alloc _⟩, ?_⟩
  exact ((Only.refl (fun k => k = r) w).setCell (p := ⟨r, 0, none⟩) (fun _ => rfl) _).alloc _

theorem ta1 (v : Value) (w : World) : (Instr.typeAssert (.iface 29 v) 20 29 true).run Try.prog w = .ok (.tuple #[v, .bool true]) w := by kernel_rfl
theorem ta2 (v : Value) (w : World) : (Instr.typeAssert (.iface 22 v) 20 29 true).run Try.prog w = .ok (.tuple #[zev, .bool false]) w := by kernel_rfl
theorem ta3 (v : Value) (w : World) : (Instr.typeAssert (.iface 22 v) 20 22 true).run Try.prog w = .ok (.tuple #[v, .bool true]) w := by kernel_rfl
theorem ta4 (v : Value) (w : World) : (Instr.typeAssert (.iface 29 v) 20 29 false).run Try.prog w = .ok v w := by kernel_rfl
theorem mLess (a : Addr) (w : World) : (method 174 45 (.pointer (some a)) "Less").run Try.prog w = .ok (37, .pointer (some a)) w := by kernel_rfl
theorem mSwap (a : Addr) (w : World) : (method 174 45 (.pointer (some a)) "Swap").run Try.prog w = .ok (39, .pointer (some a)) w := by kernel_rfl
theorem mLen (a : Addr) (w : World) : (method 174 45 (.pointer (some a)) "Len").run Try.prog w = .ok (16, .pointer (some a)) w := by kernel_rfl
theorem mPush (a : Addr) (w : World) : (method 174 45 (.pointer (some a)) "Push").run Try.prog w = .ok (12, .pointer (some a)) w := by kernel_rfl
theorem mPop (a : Addr) (w : World) : (method 174 45 (.pointer (some a)) "Pop").run Try.prog w = .ok (38, .pointer (some a)) w := by kernel_rfl

theorem LayEnd.old {w W : World} {r T : Nat} {o : Option Nat} {es : List En} {x : En} {e : Ending} {w' : World} (hW : Only (fun _ => False) w W) (h : LayEnd W r o T es x e w') : LayEnd w r o T es x e w' := by
  obtain ⟨he, o', h1, h2, h3⟩ := h
  refine ⟨he, o', h1, ?_, (hW.mono (T := fp r o) (fun _ _ h => h.elim)).trans' h3⟩
  rcases h2 with h2 | ⟨g, hg, hge⟩
  · exact .inl h2
  · exact .inr ⟨g, hg, Nat.le_trans hW.size hge⟩

set_option maxHeartbeats 400000 in
/-- Pushing an event. -/
theorem push_any {w : World} {r T : Nat} {o : Option Nat} {es : List En} (h : AgAt w r o T es) (hn : es.length ≤ 1000) (hT : T ≤ 1000) (x : Ev) : Calls Try.prog 12 #[.pointer (some ⟨r, 0, none⟩), .iface 29 x.val] w (LayEnd w r o T es ⟨x, T⟩) := by
  have hl := Lib.hid (fun (W : World) (hW : Only (fun _ => False) w W) => lay_any (h.new hW) hn hT x)
  have t1 := ta1
  clear h hn hT
  unfold Ev.val at *
  go_enter Try.func12, Try.ntmps12
  go_wp2_with fail
  refine (hl.out _ ((Only.refl _ w).alloc _)).mono ?_
  rintro e w' he
  have he' := Lib.hid (he.old ((Only.refl _ w).alloc _))
  obtain ⟨rfl, -⟩ := he
  go_wp2
  go_end0
  exact he'.out
end Go.Proofs.Ytmkdboiajjkghaa
