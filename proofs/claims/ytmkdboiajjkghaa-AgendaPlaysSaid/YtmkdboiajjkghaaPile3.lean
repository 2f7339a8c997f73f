/- The pile's lay, Pop and Push. -/
import Derived.Test.YtmkdboiajjkghaaPile2
import Derived.Deep.RegionLaw
import Derived.WalkLawsBesides
import Derived.WalkSpells
import Derived.WalkSmall
import Derived.OwnWalk
import Derived.Deep.DrawnRows
namespace Go.Proofs.Ytmkdboiajjkghaa
open Go Go.RowKit

def zen : Value := .agg #[.int .i64 0, .int .i64 0, .int .i64 0, .int .i64 0, .int .i64 0, .int .u64 0]
def zev : Value := .agg #[.int .i64 0, .int .i64 0, .int .i64 0, .int .i64 0, .int .i64 0]
theorem info48 : (Try.prog.info? 48).map (fun i => (i.zero, i.size, i.bytes)) = some (some zen, 6, 48) := by kernel_rfl
theorem info29 : (Try.prog.info? 29).map (fun i => (i.zero, i.size, i.bytes)) = some (some zev, 5, 40) := by kernel_rfl
theorem row_all {w : World} {X : Nat} {L : List Value} {e : TypeId} (h : w.heap[X]? = some (.cells L.toArray e (0, 0))) : ∀ j u, L[j]? = some u → w.cell? ((⟨X, 0, none⟩ : Addr).add j) = some u := fun j u hu => by
  rw [Addr.add_lit, Nat.zero_add]
  exact row_cell (L := L) h hu
theorem enOne (x : En) : ∀ u ∈ x.cells, u.oneCell' = true := by
  intro u hu
  simp only [En.cells, List.mem_cons, List.mem_nil_iff, or_false] at hu
  rcases hu with rfl | rfl | rfl | rfl | rfl | rfl <;> rfl
theorem evOne (x : Ev) : ∀ u ∈ x.cells, u.oneCell' = true := by
  intro u hu
  simp only [Ev.cells, List.mem_cons, List.mem_nil_iff, or_false] at hu
  rcases hu with rfl | rfl | rfl | rfl | rfl <;> rfl
theorem enCells_append (a b : List En) : enCells (a ++ b) = enCells a ++ enCells b := by simp [enCells]
theorem evCells_append (a b : List Ev) : evCells (a ++ b) = evCells a ++ evCells b := by simp [evCells]
theorem enCells_one (x : En) : enCells [x] = x.cells := by simp [enCells]
theorem evCells_one (x : Ev) : evCells [x] = x.cells := by simp [evCells]

/-- What the object's block is, behind whatever left it. -/
theorem AgAt.block {w : World} {r T : Nat} {o : Option Nat} {es : List En} (h : AgAt w r o T es) : ∃ p cap, es.length ≤ cap ∧ cap ≤ maxLen ∧ w.heap[r]? = some (.cells [.slice p es.length cap, .int .u64 T].toArray 42 (0, 0)) ∧ Win w 48 6 (.slice p es.length cap) o es.length (enCells es) ∧ ∀ k, o = some k → k ≠ r := by
  obtain ⟨v, h1, h2, h3⟩ := h
  obtain ⟨p, cap, rfl, h4, h5⟩ := h2.form
  exact ⟨p, cap, h4, h5, h1, h2, h3⟩

/-- What laying leaves. -/
def LayEnd (w : World) (r : Nat) (o : Option Nat) (T : Nat) (es : List En) (x : En) (e : Ending) (w' : World) : Prop :=
  e = .returned (.tuple #[]) ∧ ∃ o', AgAt w' r o' (T + 1) (es ++ [x]) ∧ (o' = o ∨ ∃ g, o' = some g ∧ w.heap.size ≤ g) ∧ Only (fp r o) w w'

theorem lay_end {w W w4 : World} {p : Option Addr} {cap r T n : Nat} {o h4 : Option Nat} {v4 : Value} {es : List En} {x : En} (hb : w.heap[r]? = some (.cells [.slice p es.length cap, .int .u64 T].toArray 42 (0, 0))) (ho : ∀ k, o = some k → k ≠ r) (hn : n = es.length) (hW : Only (fun _ => False) w W)
    (h4w : Win w4 48 6 v4 h4 (n + 1) (enCells es ++ x.cells)) (h4o : Only (fun k => some k = o) W w4) (hh : h4 = o ∨ ∃ g, h4 = some g ∧ W.heap.size ≤ g) (c : Int) (hc : c = ((T + 1 : Nat) : Int)) :
    ∃ o', AgAt ((w4.setCell ⟨r, 0, none⟩ v4).setCell ⟨r, 1, none⟩ (.int .u64 c)) r o' (T + 1) (es ++ [x]) ∧ (o' = o ∨ ∃ g, o' = some g ∧ w.heap.size ≤ g) ∧ Only (fp r o) w ((w4.setCell ⟨r, 0, none⟩ v4).setCell ⟨r, 1, none⟩ (.int .u64 c)) := by
  have hr := row_lt hb
  have hs := hW.size
  have b4 := h4o.heap (hW.heap hb (fun h => h)) (fun e => ho r e.symm rfl)
  have hne : ∀ k, h4 = some k → k ≠ r := by
    rintro k rfl
    rcases hh with hh | ⟨g, hg, hge⟩
    · exact ho k hh.symm
    · cases hg; omega
  have hO : Only (fun k => k = r) w4 ((w4.setCell ⟨r, 0, none⟩ v4).setCell ⟨r, 1, none⟩ (.int .u64 c)) := ((Only.refl (fun k => k = r) w4).setCell (p := ⟨r, 0, none⟩) (fun _ => rfl) _).setCell (p := ⟨r, 1, none⟩) (fun _ => rfl) _
  subst hc
  subst hn
  refine ⟨h4, ⟨v4, ?_, ?_, hne⟩, ?_, ?_⟩
  · exact row_set (row_set b4 0 v4) 1 _
  · rw [List.length_append, enCells_append, enCells_one]
    exact h4w.kept hO (fun k hk e => hne k hk e)
  · rcases hh with hh | ⟨g, hg, hge⟩
    · exact .inl hh
    · exact .inr ⟨g, hg, by omega⟩
  · exact ((hW.mono (T := fp r o) (fun _ _ h => h.elim)).trans h4o (fun k _ hk => .inr hk.symm)).trans hO (fun k _ hk => .inl hk)

set_option maxHeartbeats 400000 in
theorem lay_any {w : World} {r T : Nat} {o : Option Nat} {es : List En} (h : AgAt w r o T es) (hn : es.length ≤ 1000) (hT : T ≤ 1000) (x : Ev) : Calls Try.prog 17 #[.pointer (some ⟨r, 0, none⟩), x.val] w (LayEnd w r o T es ⟨x, T⟩) := by
  obtain ⟨p, cap, h1, h2, hb, h3, h4⟩ := h.block
  obtain ⟨n, hn'⟩ : ∃ n, n = es.length := ⟨_, rfl⟩
  have hr := row_lt hb
  have c0 := row_cell hb (i := 0) rfl
  have c1 := row_cell hb (i := 1) rfl
  have hE := Lib.hid (And.intro hb (And.intro h4 hn'))
  have hk := Lib.hid (fun (W w4 : World) (hW : Only (fun _ => False) w W) (h4o : Only (fun k => some k = o) W w4) => by
    have b4 := h4o.heap (hW.heap hb (fun h => h)) (fun e => h4 r e.symm rfl)
    exact And.intro (row_cell b4 (i := 0) rfl) (And.intro (row_cell b4 (i := 1) rfl) (And.intro (row_free b4 0) (row_free b4 1))))
  have h3' := Lib.hid h3
  rw [← hn'] at c0 h3' hk hn
  have hwr : IntKind.u64.wrap ((T : Int) + 1) = (T : Int) + 1 := IntWalk.u64_in _ (by omega)
  clear h h1 h2 h3 h4 hb hn'
  unfold Ev.val
  go_enter Try.func17, Try.ntmps17
  go_wp2
  go_region_law (refine step_append_win rfl (.tmp 8) (.tmp 15) 37 rfl 48 zen 6 48 Try.underlying37 info48 rfl (by decide) (v := .slice p n cap) (by simp [Act.eval]) (h3'.out.kept (by first | exact (((Only.refl (fun _ => False) w).alloc _).alloc _).drew | exact (((Only.refl (fun _ => False) w).alloc _).drew).alloc _) (fun _ _ h => h)) (some ⟨w.heap.size + 1, 0, none⟩) 1 1 (by simp [Act.eval]) (En.cells ⟨x, T⟩) rfl (fun _ => ⟨_, rfl, row_all (heap_new_at _ _ (by simp))⟩) (enOne _) (by unfold maxLen; omega) (by omega) ?_; intro v4 w4 h4 hW4 hO4 hh4; obtain ⟨p4, c4, rfl, _⟩ := hW4.out.form; obtain ⟨d0, d1, d2, d3⟩ := hk.out _ _ (by first | exact (((Only.refl (fun _ => False) w).alloc _).alloc _).drew | exact (((Only.refl (fun _ => False) w).alloc _).drew).alloc _) hO4.out)
  all_goals
    go_wp2
    go_end0
    exact ⟨rfl, lay_end (x := ⟨x, T⟩) hE.out.1 hE.out.2.1 hE.out.2.2 (by first | exact (((Only.refl (fun _ => False) w).alloc _).alloc _).drew | exact (((Only.refl (fun _ => False) w).alloc _).drew).alloc _) hW4.out hO4.out hh4.out _ (by omega)⟩

end Go.Proofs.Ytmkdboiajjkghaa
