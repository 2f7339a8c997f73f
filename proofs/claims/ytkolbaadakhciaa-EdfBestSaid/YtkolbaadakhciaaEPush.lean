/- edf's ready works: Push, and what the library asks of the object. -/
import Derived.Test.YtkolbaadakhciaaEPile
namespace Go.Proofs.Ytkolbaadakhciaa
namespace Edf
open Go Go.RowKit

theorem info3 : (Try.prog.info? 3).map (fun i => (i.zero, i.size, i.bytes)) = some (some (.int .i64 0), 1, 8) := by kernel_rfl
theorem row_one {w : World} {X : Nat} {v : Value} {e : TypeId} (h : w.heap[X]? = some (.cells [v].toArray e (0, 0))) : ∀ j u, [v][j]? = some u → w.cell? ((⟨X, 0, none⟩ : Addr).add j) = some u := fun j u hu => by
  rw [Addr.add_lit, Nat.zero_add]
  exact row_cell (L := [v]) h hu
theorem ta1 (v : Value) (w : World) : (Instr.typeAssert (.iface 3 v) 20 3 false).run Try.prog w = .ok v w := by kernel_rfl
theorem mLess (a : Addr) (w : World) : (method 83 76 (.pointer (some a)) "Less").run Try.prog w = .ok (78, .pointer (some a)) w := by kernel_rfl
theorem mSwap (a : Addr) (w : World) : (method 83 76 (.pointer (some a)) "Swap").run Try.prog w = .ok (81, .pointer (some a)) w := by kernel_rfl
theorem mLen (a : Addr) (w : World) : (method 83 76 (.pointer (some a)) "Len").run Try.prog w = .ok (43, .pointer (some a)) w := by kernel_rfl
theorem mPush (a : Addr) (w : World) : (method 83 76 (.pointer (some a)) "Push").run Try.prog w = .ok (80, .pointer (some a)) w := by kernel_rfl
theorem mPop (a : Addr) (w : World) : (method 83 76 (.pointer (some a)) "Pop").run Try.prog w = .ok (79, .pointer (some a)) w := by kernel_rfl

def PushEnd (w : World) (r : Nat) (o : Option Nat) (T : Ws) (es : List En) (x : En) (e : Ending) (w' : World) : Prop :=
  e = .returned (.tuple #[]) ∧ ∃ o', RAt w' r o' T (es ++ [x]) ∧ (o' = o ∨ ∃ g, o' = some g ∧ w.heap.size ≤ g) ∧ Only (fp r o) w w'

theorem push_end {w W w4 : World} {p : Option Addr} {cap r n : Nat} {T : Ws} {o h4 : Option Nat} {v4 : Value} {es : List En} {x : En} (hb : w.heap[r]? = some (.cells [.slice (some ⟨T.b, 0, none⟩) T.l.length T.l.length, .slice p es.length cap].toArray 79 (0, 0))) (ho : ∀ k, o = some k → k ≠ r ∧ k ≠ T.b) (hT : w.heap[T.b]? = some (.cells (wkCells T.l).toArray 53 (0, 0))) (hTr : T.b ≠ r) (hf : Fit T es) (hx : ∃ y, T.l[x.n]? = some y ∧ (y.d : Int) = x.e.t)
    (hn : n = es.length) (hW : Only (fun _ => False) w W) (h4w : Win w4 3 1 v4 h4 (n + 1) (plc es ++ [.int .i64 (x.n : Int)])) (h4o : Only (fun k => some k = o) W w4) (hh : h4 = o ∨ ∃ g, h4 = some g ∧ W.heap.size ≤ g) :
    ∃ o', RAt (w4.setCell ⟨r, 1, none⟩ v4) r o' T (es ++ [x]) ∧ (o' = o ∨ ∃ g, o' = some g ∧ w.heap.size ≤ g) ∧ Only (fp r o) w (w4.setCell ⟨r, 1, none⟩ v4) := by
  have hr := row_lt hb
  have hTl := row_lt hT
  have hs := hW.size
  have b4 := h4o.heap (hW.heap hb (fun h => h)) (fun e => (ho r e.symm).1 rfl)
  have T4 := h4o.heap (hW.heap hT (fun h => h)) (fun e => (ho T.b e.symm).2 rfl)
  have hne : ∀ k, h4 = some k → k ≠ r ∧ k ≠ T.b := by
    rintro k rfl
    rcases hh with hh | ⟨g, hg, hge⟩
    · exact ho k hh.symm
    · cases hg; omega
  have hO : Only (fun k => k = r) w4 (w4.setCell ⟨r, 1, none⟩ v4) := (Only.refl (fun k => k = r) w4).setCell (p := ⟨r, 1, none⟩) (fun _ => rfl) _
  subst hn
  refine ⟨h4, ⟨v4, row_set b4 1 v4, ?_, hne, hO.heap T4 hTr, hTr, ?_⟩, ?_, ?_⟩
  · rw [List.length_append, plc_append]
    exact h4w.kept hO (fun k hk e => (hne k hk).1 e)
  · intro z hz
    rcases List.mem_append.1 hz with hz | hz
    · exact hf z hz
    · rw [List.mem_singleton.1 hz]; exact hx
  · rcases hh with hh | ⟨g, hg, hge⟩
    · exact .inl hh
    · exact .inr ⟨g, hg, by omega⟩
  · exact ((hW.mono (T := fp r o) (fun _ _ h => h.elim)).trans h4o (fun k _ hk => .inr hk.symm)).trans hO (fun k _ hk => .inl hk)

set_option maxHeartbeats 1000000 in
theorem push_any {w : World} {r : Nat} {T : Ws} {o : Option Nat} {es : List En} (h : RAt w r o T es) (hn : es.length ≤ 1000000) (x : En) (hx : ∃ y, T.l[x.n]? = some y ∧ (y.d : Int) = x.e.t) : Calls Try.prog 80 #[.pointer (some ⟨r, 0, none⟩), .iface 3 (.int .i64 (x.n : Int))] w (PushEnd w r o T es x) := by
  obtain ⟨p, cap, h1, h2, hb, h3, h4, hT, hTr, hf⟩ := h.block
  obtain ⟨n, hn'⟩ : ∃ n, n = es.length := ⟨_, rfl⟩
  have hr := row_lt hb
  have c1 := row_cell hb (i := 1) rfl
  have t1 := ta1
  have hfin := Lib.hid (fun W w4 h4' v4 (hW : Only (fun _ => False) w W) (h4w : Win w4 3 1 v4 h4' (n + 1) (plc es ++ [.int .i64 (x.n : Int)])) h4o hh => push_end (W := W) (w4 := w4) (h4 := h4') (v4 := v4) hb h4 hT hTr hf hx hn' hW h4w h4o hh)
  have hk := Lib.hid (fun (W w4 : World) (hW : Only (fun _ => False) w W) (h4o : Only (fun k => some k = o) W w4) => by
    have b4 := h4o.heap (hW.heap hb (fun h => h)) (fun e => (h4 r e.symm).1 rfl)
    exact And.intro (row_cell b4 (i := 1) rfl) (row_free b4 1))
  have h3' := Lib.hid h3
  rw [← hn'] at c1 h3' hk hn
  clear h h1 h2 h3 h4 hb hn' hT hTr hf hx
  go_enter Try.func80, Try.ntmps80
  go_region_law (refine step_append_win rfl (.tmp 8) (.tmp 11) 44 rfl 3 (.int .i64 0) 1 8 Try.underlying44 info3 rfl (by decide) (v := .slice p n cap) (by rfl) (h3'.out.kept (by repeat (first | exact Only.refl _ _ | apply Only.alloc | apply Only.drew)) (fun _ _ h => h)) (some ⟨w.heap.size, 0, none⟩) 1 1 (by rfl) [.int .i64 (x.n : Int)] rfl (fun _ => ⟨_, rfl, row_one (heap_new_at _ _ (by simp))⟩) (by simp [Value.oneCell']) (by unfold maxLen; omega) (by omega) ?_; intro v4 w4 h4 hW4 hO4 hh4; obtain ⟨p4, c4, rfl, _⟩ := hW4.out.form; obtain ⟨d0, d1⟩ := hk.out _ _ (by repeat (first | exact Only.refl _ _ | apply Only.alloc | apply Only.drew)) hO4.out)
  all_goals
    go_end0
    exact ⟨rfl, hfin.out _ _ _ _ (by repeat (first | exact Only.refl _ _ | apply Only.alloc | apply Only.drew)) hW4.out hO4.out hh4.out⟩
end Edf
end Go.Proofs.Ytkolbaadakhciaa
