/- Pushing a frame. -/
import Derived.Test.YteniphdfhmbbeaaFrames
namespace Go.Proofs.Yteniphdfhmbbeaa
open Go Go.RowKit

theorem push_nil (who size : Int) (w : World) : Calls Try.prog 8 #[.pointer none, .int .i64 who, .int .i64 size] w fun e w' => e = .returned (.tuple #[.int .i64 0, .int .i64 1]) ∧ w = w' := by
  go_enter Try.func8, Try.ntmps8
  go_wp2
  go_ret2
  exact ⟨rfl, rfl⟩
theorem push_range (a : Addr) (who : Int) {size : Int} (hs : size < 0 ∨ 4096 < size) (w : World) : Calls Try.prog 8 #[.pointer (some a), .int .i64 who, .int .i64 size] w fun e w' => e = .returned (.tuple #[.int .i64 0, .int .i64 5]) ∧ w = w' := by
  by_cases h0 : size < 0
  · clear hs
    go_enter Try.func8, Try.ntmps8
    go_wp2
    go_ret2
    exact ⟨rfl, rfl⟩
  · have h1 : 4096 < size := by omega
    clear hs
    go_enter Try.func8, Try.ntmps8
    go_wp2
    go_ret2
    exact ⟨rfl, rfl⟩

/-- What pushing leaves. -/
def PushEnd (w : World) (b : Nat) (o : Option Nat) (pk : Int) (fs : List Fr) (who size : Int) (e : Ending) (w' : World) : Prop :=
  e = .returned (.tuple #[.int .i64 (deep fs), .int .i64 0]) ∧ ∃ o', StAt w' b o' (max pk (deep fs + size)) (fs ++ [⟨who, deep fs, size⟩]) ∧ (o' = o ∨ ∃ g, o' = some g ∧ w.heap.size ≤ g) ∧ Only (fp b o) w w'

theorem push_end {w W w4 : World} {p : Option Addr} {cap b n : Nat} {o h4 : Option Nat} {pk m m' : Int} {v4 : Value} {fs : List Fr} {x : Fr} (hb : w.heap[b]? = some (.cells [.slice p n cap, .int .i64 pk].toArray 43 (0, 0))) (ho : ∀ k, o = some k → k ≠ b) (hn : n = fs.length) (hW : Only (fun _ => False) w W)
    (h4w : Win w4 31 3 v4 h4 (n + 1) (frCells fs ++ x.cells)) (h4o : Only (fun k => some k = o) W w4) (hh : h4 = o ∨ ∃ g, h4 = some g ∧ W.heap.size ≤ g) (hm : m' = m) :
    ∃ o', StAt ((w4.setCell ⟨b, 0, none⟩ v4).setCell ⟨b, 1, none⟩ (.int .i64 m')) b o' m (fs ++ [x]) ∧ (o' = o ∨ ∃ g, o' = some g ∧ w.heap.size ≤ g) ∧ Only (fp b o) w ((w4.setCell ⟨b, 0, none⟩ v4).setCell ⟨b, 1, none⟩ (.int .i64 m')) := by
  subst hm
  have hr := row_lt hb
  have hs := hW.size
  have b4 := h4o.heap (hW.heap hb (fun h => h)) (fun e => ho b e.symm rfl)
  have hne : ∀ k, h4 = some k → k ≠ b := by
    rintro k rfl
    rcases hh with hh | ⟨g, hg, hge⟩
    · exact ho k hh.symm
    · cases hg; omega
  have hO : Only (fun k => k = b) w4 ((w4.setCell ⟨b, 0, none⟩ v4).setCell ⟨b, 1, none⟩ (.int .i64 m')) := ((Only.refl (fun k => k = b) w4).setCell (p := ⟨b, 0, none⟩) (fun _ => rfl) _).setCell (p := ⟨b, 1, none⟩) (fun _ => rfl) _
  subst hn
  refine ⟨h4, ⟨v4, ?_, ?_, hne⟩, ?_, ?_⟩
  · exact row_set (row_set b4 0 v4) 1 _
  · rw [List.length_append, frCells_append, frCells_one]
    exact h4w.kept hO (fun k hk e => hne k hk e)
  · rcases hh with hh | ⟨g, hg, hge⟩
    · exact .inl hh
    · exact .inr ⟨g, hg, by omega⟩
  · exact ((hW.mono (T := fp b o) (fun _ _ h => h.elim)).trans h4o (fun k _ hk => .inr hk.symm)).trans hO (fun k _ hk => .inl hk)

set_option maxRecDepth 100000 in
set_option maxHeartbeats 800000 in
theorem push_ok {w : World} {b : Nat} {o : Option Nat} {pk : Int} {fs : List Fr} (h : StAt w b o pk fs) (hs : Stand 0 fs) (hn : fs.length ≤ 255) (who : Int) {size : Int} (h0 : 0 ≤ size) (h1 : size ≤ 4096) :
    Calls Try.prog 8 #[.pointer (some ⟨b, 0, none⟩), .int .i64 who, .int .i64 size] w (PushEnd w b o pk fs who size) := by
  have hdp := Lib.hid (depth_any h hs (by omega))
  have hbd := stand_bound hs
  obtain ⟨p, cap, h1', h2, hb, h3, h4⟩ := h.block
  obtain ⟨n, hn'⟩ : ∃ n, n = fs.length := ⟨_, rfl⟩
  obtain ⟨d, hd⟩ : ∃ d, d = deep fs := ⟨_, rfl⟩
  obtain ⟨m, hm⟩ : ∃ m, m = max pk (d + size) := ⟨_, rfl⟩
  unfold PushEnd
  rw [← hd] at hdp hbd ⊢
  rw [← hm]
  have hr := row_lt hb
  have c0 := row_cell hb (i := 0) rfl
  have hE := Lib.hid (And.intro hb (And.intro h4 hn'))
  have hk := Lib.hid (fun (W w4 : World) (hW : Only (fun _ => False) w W) (h4o : Only (fun k => some k = o) W w4) => by
    have b4 := h4o.heap (hW.heap hb (fun h => h)) (fun e => h4 b e.symm rfl)
    exact And.intro (row_cell b4 (i := 0) rfl) (And.intro (row_cell b4 (i := 1) rfl) (And.intro (row_free b4 0) (row_free b4 1))))
  have h3' := Lib.hid h3
  rw [← hn'] at c0 h3' hk hn
  have hwr : IntKind.i64.wrap (d + size) = d + size := IntWalk.i64_in _ (by omega)
  have hn1 : ((n : Int) < 256) := by omega
  have hbd' := Lib.hid hbd
  have hhm := Lib.hid hm
  clear h hs h1' h2 h3 h4 hb hn' hbd hd hm
  go_enter Try.func8, Try.ntmps8
  go_wp2_with fail
  refine hdp.out.mono ?_
  rintro e w1 ⟨rfl, ho⟩
  have ho' := Lib.hid ho
  have c0' := ho.cell c0 (fun h => h)
  have hr' : b < w1.heap.size := Nat.lt_of_lt_of_le hr ho.size
  clear ho c0 hr
  go_wp2_with (at_builtin; refine wpList_append_win rfl _ _ 26 rfl 31 zfr.val 3 24 Try.underlying26 info31 rfl (by decide) rfl (h3'.out.kept ((ho'.out.alloc (.cells #[.int .i64 who, .int .i64 d, .int .i64 size] 31))) (fun _ _ h => h)) (some ⟨w1.heap.size, 0, none⟩) 1 1 rfl (Fr.cells ⟨who, d, size⟩) rfl (fun _ => ⟨_, rfl, row_all (heap_new_at _ _ rfl)⟩) (frOne _) (by unfold maxLen; omega) (by omega) ?_; intro v4 w4 h4 hW4 hO4 hh4; obtain ⟨p4, c4, rfl, _⟩ := hW4.out.form; obtain ⟨d0, d1, d2, d3⟩ := hk.out _ _ (ho'.out.alloc _) hO4.out)
  all_goals
    rename_i hle
    go_ret2
    refine ⟨rfl, push_end (x := ⟨who, d, size⟩) (hE.out.2.2 ▸ hE.out.1) hE.out.2.1 hE.out.2.2 (ho'.out.alloc _) hW4.out hO4.out hh4.out ?_⟩
    have := hhm.out
    rw [Int.max_def] at this
    split at this <;> omega
end Go.Proofs.Yteniphdfhmbbeaa
