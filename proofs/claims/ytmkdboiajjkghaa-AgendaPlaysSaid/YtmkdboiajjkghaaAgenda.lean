/- The agenda's own calls, over the row of what is in it, in the order in which it was put. -/
import Derived.Test.YtmkdboiajjkghaaFill
namespace Go.Proofs.Ytmkdboiajjkghaa
open Go Go.RowKit

/-- The agenda at r: rs is in it, in the order in which it was put. -/
def Ag (w : World) (r : Nat) (o : Option Nat) (T : Nat) (rs : List En) : Prop :=
  ∃ es, AgAt w r o T es ∧ HeapFrom es 0 es.length ∧ List.Perm es rs ∧ rs.Pairwise (fun x y => x.n < y.n) ∧ (∀ x ∈ rs, x.n < T) ∧ rs.length ≤ T
/-- x is the first of them. -/
def IsFirst (rs : List En) (k : Nat) (x : En) : Prop := rs[k]? = some x ∧ ∀ j y, rs[j]? = some y → x.e.t ≤ y.e.t ∧ (j < k → x.e.t < y.e.t)

theorem Ag.kept {S : Nat → Prop} {w w' : World} {r T : Nat} {o : Option Nat} {rs : List En} (h : Ag w r o T rs) (ho : Only S w w') (hS : ∀ k, fp r o k → ¬ S k) : Ag w' r o T rs := by
  obtain ⟨es, h1, h2⟩ := h
  exact ⟨es, h1.kept ho hS, h2⟩
theorem Ag.new {w w' : World} {r T : Nat} {o : Option Nat} {rs : List En} (h : Ag w r o T rs) (ho : Only (fun _ => False) w w') : Ag w' r o T rs := h.kept ho (fun _ _ h => h)
theorem Ag.lt {w : World} {r T : Nat} {o : Option Nat} {rs : List En} (h : Ag w r o T rs) : ∀ k, fp r o k → k < w.heap.size := by
  obtain ⟨es, h1, _⟩ := h
  exact h1.lt
theorem Ag.len {w : World} {r T : Nat} {o : Option Nat} {rs : List En} (h : Ag w r o T rs) : rs.length ≤ T := by
  obtain ⟨es, _, _, _, _, _, h⟩ := h
  exact h

theorem ents_n (n : Nat) (l : List Ev) : (ents n l).Pairwise (fun x y => x.n < y.n) ∧ ∀ x ∈ ents n l, n ≤ x.n ∧ x.n < n + l.length := by
  induction l generalizing n with
  | nil => exact ⟨List.Pairwise.nil, fun x hx => by cases hx⟩
  | cons y l ih =>
    obtain ⟨h1, h2⟩ := ih (n + 1)
    refine ⟨List.pairwise_cons.2 ⟨fun x hx => ?_, h1⟩, fun x hx => ?_⟩
    · have := h2 x hx
      show n < x.n
      omega
    · simp only [ents, List.mem_cons] at hx
      rcases hx with rfl | hx
      · simp
      · have := h2 x hx
        simp only [List.length_cons]
        omega
theorem isFirst_of {es rs : List En} {x : En} (hp : List.Perm es rs) (hs : rs.Pairwise (fun x y => x.n < y.n)) (hx : es[0]? = some x) (hh : HeapFrom es 0 es.length) : ∃ k, IsFirst rs k x := by
  have hm : x ∈ rs := hp.subset (List.mem_of_getElem? hx)
  obtain ⟨k, hk⟩ := List.mem_iff_getElem?.1 hm
  refine ⟨k, hk, fun j y hy => ?_⟩
  have hy' : y ∈ es := hp.symm.subset (List.mem_of_getElem? hy)
  obtain ⟨i, hi⟩ := List.mem_iff_getElem?.1 hy'
  have hle := heap_min hh (Nat.le_refl _) i (List.getElem?_eq_some_iff.1 hi).1 _ _ hx hi
  unfold le at hle
  refine ⟨by omega, fun hjk => ?_⟩
  have hj := (List.getElem?_eq_some_iff.1 hy).1
  have hk' := (List.getElem?_eq_some_iff.1 hk).1
  have := List.pairwise_iff_getElem.1 hs j k hj hk' hjk
  rw [(List.getElem?_eq_some_iff.1 hy).2, (List.getElem?_eq_some_iff.1 hk).2] at this
  omega
theorem perm_erase {es rs : List En} {x : En} {k : Nat} (hp : List.Perm (es ++ [x]) rs) (hk : rs[k]? = some x) : List.Perm es (rs.eraseIdx k) := by
  obtain ⟨h1, h2⟩ := List.getElem?_eq_some_iff.1 hk
  have h3 : rs = rs.take k ++ x :: rs.drop (k + 1) := by rw [← h2, ← List.drop_eq_getElem_cons h1, List.take_append_drop]
  have h5 : List.Perm rs (x :: (rs.take k ++ rs.drop (k + 1))) := by
    refine List.Perm.trans (List.Perm.of_eq h3) ?_
    exact List.perm_middle
  have h4 : List.Perm (x :: es) (x :: (rs.take k ++ rs.drop (k + 1))) := ((List.perm_append_comm (l₁ := [x]) (l₂ := es)).trans hp).trans h5
  rw [List.eraseIdx_eq_take_drop_succ]
  exact (List.perm_cons x).1 h4

theorem len_nil (w : World) : Calls Try.prog 11 #[.pointer none] w fun e w' => e = .returned (.int .i64 0) ∧ w = w' := by
  go_enter Try.func11, Try.ntmps11
  go_wp2
  go_ret
  exact ⟨rfl, rfl⟩
theorem alen_any {w : World} {r T : Nat} {o : Option Nat} {rs : List En} (h : Ag w r o T rs) : Calls Try.prog 11 #[.pointer (some ⟨r, 0, none⟩)] w fun e w' => e = .returned (.int .i64 rs.length) ∧ w = w' := by
  obtain ⟨es, hA, _, hp, _⟩ := h
  have hl := len_any hA
  rw [hp.length_eq] at hl
  obtain ⟨n, hn⟩ : ∃ n, n = rs.length := ⟨_, rfl⟩
  rw [← hn] at hl ⊢
  have hl' := Lib.hid hl
  clear hl hA hp hn
  go_enter Try.func11, Try.ntmps11
  go_wp2_with fail
  refine hl'.out.mono ?_
  rintro e w' ⟨rfl, rfl⟩
  go_wp2
  go_ret
  exact ⟨rfl, rfl⟩
theorem next_nil (w : World) : Calls Try.prog 9 #[.pointer none] w fun e w' => e = .returned (.tuple #[.int .i64 0, .bool false]) ∧ w = w' := by
  go_enter Try.func9, Try.ntmps9
  go_wp2_with (go_at_call 11; refine (len_nil _).mono ?_; rintro e w' ⟨rfl, rfl⟩)
  go_ret2
  exact ⟨rfl, rfl⟩
theorem next_none {w : World} {r T : Nat} {o : Option Nat} (h : Ag w r o T []) : Calls Try.prog 9 #[.pointer (some ⟨r, 0, none⟩)] w fun e w' => e = .returned (.tuple #[.int .i64 0, .bool false]) ∧ w = w' := by
  have hl := Lib.hid (alen_any h)
  clear h
  go_enter Try.func9, Try.ntmps9
  go_wp2_with (go_at_call 11; refine hl.out.mono ?_; rintro e w' ⟨rfl, rfl⟩)
  go_ret2
  exact ⟨rfl, rfl⟩
/-- Of a heap that isn't empty the head, and where it stands in the row. -/
theorem Ag.head {w : World} {r T : Nat} {o : Option Nat} {rs : List En} (h : Ag w r o T rs) (hr : 0 < rs.length) : ∃ k x es, IsFirst rs k x ∧ AgAt w r o T es ∧ HeapFrom es 0 es.length ∧ List.Perm es rs ∧ es[0]? = some x := by
  obtain ⟨es, hA, hh, hp, hs, _⟩ := h
  have h0 : 0 < es.length := by rw [hp.length_eq]; exact hr
  obtain ⟨k, hk⟩ := isFirst_of hp hs (List.getElem?_eq_getElem h0) hh
  exact ⟨k, _, es, hk, hA, hh, hp, List.getElem?_eq_getElem h0⟩
theorem isFirst_unique {rs : List En} {k l : Nat} {x y : En} (h : IsFirst rs k x) (g : IsFirst rs l y) : k = l ∧ x = y := by
  have h1 := h.2 l y g.1
  have h2 := g.2 k x h.1
  have : k = l := by
    rcases Nat.lt_trichotomy k l with hlt | rfl | hlt
    · have := h2.2 hlt; omega
    · rfl
    · have := h1.2 hlt; omega
  subst this
  have e := h.1
  rw [g.1] at e
  cases e
  exact ⟨rfl, rfl⟩
theorem next_some {w : World} {r T : Nat} {o : Option Nat} {rs : List En} (h : Ag w r o T rs) {k : Nat} {x : En} (hx : IsFirst rs k x) : Calls Try.prog 9 #[.pointer (some ⟨r, 0, none⟩)] w fun e w' => e = .returned (.tuple #[.int .i64 x.e.t, .bool true]) ∧ w = w' := by
  have hl := alen_any h
  have hr : 0 < rs.length := by have := (List.getElem?_eq_some_iff.1 hx.1).1; omega
  obtain ⟨k', x', es, hx', hA, hh, hp, h0⟩ := h.head hr
  obtain ⟨rfl, rfl⟩ := isFirst_unique hx hx'
  obtain ⟨p, cap, h1, h2, c0, c1, f0, f1, h3⟩ := hA.cells
  obtain ⟨g, off, cap', ho, hv, h4, h5, h6, h7, h8⟩ := win_en h3 (by rw [hp.length_eq]; exact hr)
  cases hv
  obtain ⟨a0, -⟩ := h7 0 x h0
  rw [Nat.zero_mul, Nat.add_zero] at a0
  rw [hp.length_eq] at c0
  obtain ⟨n, hn⟩ : ∃ n, n = rs.length := ⟨_, rfl⟩
  rw [← hn] at hl c0 hr
  have hl' := Lib.hid hl
  have hn0 : ((n : Int) == 0) = false := by simp; omega
  have hn1 : (0 : Int) < (n : Int) := by omega
  clear hl hx hx' hA hh hp h0 h1 h2 h3 h4 h5 h7 h8 hn h c1 f0 f1 ho
  go_enter Try.func9, Try.ntmps9
  go_wp2_with (go_at_call 11; refine hl'.out.mono ?_; rintro e w' ⟨rfl, rfl⟩)
  go_ret2
  exact ⟨rfl, rfl⟩

/-- What taking the first one out leaves. -/
def APopEnd (w : World) (r : Nat) (o : Option Nat) (T : Nat) (rs : List En) (k : Nat) (x : En) (e : Ending) (w' : World) : Prop :=
  e = .returned x.e.val ∧ Ag w' r o T (rs.eraseIdx k) ∧ Only (fp r o) w w'
set_option maxHeartbeats 400000 in
theorem apop_any {w : World} {r T : Nat} {o : Option Nat} {rs : List En} (h : Ag w r o T rs) (hT : T ≤ 900) {k : Nat} {x : En} (hx : IsFirst rs k x) : Calls Try.prog 15 #[.pointer (some ⟨r, 0, none⟩)] w (APopEnd w r o T rs k x) := by
  have hr : 0 < rs.length := by have := (List.getElem?_eq_some_iff.1 hx.1).1; omega
  have hlt := h.len
  obtain ⟨k', x', es, hx', hA, hh, hp, h0⟩ := h.head hr
  obtain ⟨rfl, rfl⟩ := isFirst_unique hx hx'
  obtain ⟨-, -, -, -, hs, hb, -⟩ := h
  have hpop := Lib.hid (fun (W : World) (hW : Only (fun _ => False) w W) => hpop_any (hA.new hW) hh (by rw [hp.length_eq]; omega) x h0)
  have hE := Lib.hid (show ∀ W W', Only (fun _ => False) w W → HPopEnd W r o T es x (.returned (.iface 29 x.e.val)) W' → Ag W' r o T (rs.eraseIdx k) ∧ Only (fp r o) w W' from fun W W' hW hP => by
    obtain ⟨-, es', q1, q2, q3, q4⟩ := hP
    have hpe := perm_erase (q2.trans hp) hx.1
    have hsub := List.eraseIdx_sublist rs k
    exact ⟨⟨es', q1, q3, hpe, hs.sublist hsub, fun y hy => hb y (hsub.subset hy), Nat.le_trans hsub.length_le hlt⟩, (hW.mono (fun _ _ h => h.elim)).trans' q4⟩)
  have t4 := ta4
  have hlt2 := Lib.hid hA.lt
  clear hx hx' hA hh hp h0 hr hs hb hlt
  unfold Ev.val at *
  go_enter Try.func15, Try.ntmps15
  go_wp2_with fail
  refine (hpop.out _ ((Only.refl _ w).alloc _)).mono ?_
  rintro e W hP
  have he := hP.1
  subst he
  have hR := Lib.hid (hE.out _ _ ((Only.refl _ w).alloc _) hP)
  obtain ⟨B, hB⟩ : ∃ B, B = w.heap.size := ⟨_, rfl⟩
  have hblk : W.heap[B]? = some (.cells [.int .i64 0, .int .i64 0, .int .i64 0, .int .i64 0, .int .i64 0].toArray 29 (0, 0)) := by
    obtain ⟨-, es', q1, q2, q3, q4⟩ := hP
    refine q4.heap (heap_new_at _ _ hB.symm) (fun hf => ?_)
    have := hlt2.out B hf
    omega
  rw [← hB]
  have c0 := row_cell hblk (i := 0) rfl
  have c1 := row_cell hblk (i := 1) rfl
  have c2 := row_cell hblk (i := 2) rfl
  have c3 := row_cell hblk (i := 3) rfl
  have c4 := row_cell hblk (i := 4) rfl
  have f0 := row_free hblk 0
  have f1 := row_free hblk 1
  have f2 := row_free hblk 2
  have f3 := row_free hblk 3
  have f4 := row_free hblk 4
  have hB' := Lib.hid hB
  clear hP hblk hB
  rw [show x.e.val = .agg #[.int .i64 x.e.t, .int .i64 x.e.k, .int .i64 x.e.a, .int .i64 x.e.b, .int .i64 x.e.c] from rfl]
  go_wp2
  refine bodyPost_ret (v := .agg #[.int .i64 x.e.t, .int .i64 x.e.k, .int .i64 x.e.a, .int .i64 x.e.b, .int .i64 x.e.c]) (by simp [results, Try.results15, go_sem, c0, c1, c2, c3, c4]) rfl ⟨rfl, ?_⟩
  have hO : Only (fun k => k = B) W (((((W.setCell ⟨B, 0, none⟩ (.int .i64 x.e.t)).setCell ⟨B, 1, none⟩ (.int .i64 x.e.k)).setCell ⟨B, 2, none⟩ (.int .i64 x.e.a)).setCell ⟨B, 3, none⟩ (.int .i64 x.e.b)).setCell ⟨B, 4, none⟩ (.int .i64 x.e.c)) :=
    (((((Only.refl (fun k => k = B) W).setCell (p := ⟨B, 0, none⟩) (fun _ => rfl) _).setCell (p := ⟨B, 1, none⟩) (fun _ => rfl) _).setCell (p := ⟨B, 2, none⟩) (fun _ => rfl) _).setCell (p := ⟨B, 3, none⟩) (fun _ => rfl) _).setCell (p := ⟨B, 4, none⟩) (fun _ => rfl) _
  have hBw := hB'.out
  exact ⟨hR.out.1.kept hO (fun k hk e => by have := hlt2.out k hk; omega), hR.out.2.trans hO (fun k hk e => by omega)⟩

/-- What putting one in leaves. -/
def PutEnd (w : World) (r : Nat) (o : Option Nat) (T : Nat) (rs : List En) (x : Ev) (e : Ending) (w' : World) : Prop :=
  e = .returned (.tuple #[]) ∧ ∃ o', Ag w' r o' (T + 1) (rs ++ [⟨x, T⟩]) ∧ (o' = o ∨ ∃ g, o' = some g ∧ w.heap.size ≤ g) ∧ Only (fp r o) w w'
theorem put_nil (x : Ev) (w : World) : Calls Try.prog 7 #[.pointer none, x.val] w fun e w' => e = .returned (.tuple #[]) ∧ Only (fun _ => False) w w' := by
  unfold Ev.val
  go_enter Try.func7, Try.ntmps7
  go_wp2
  go_end0
  exact ⟨rfl, (Only.refl _ w).alloc _⟩
set_option maxHeartbeats 400000 in
theorem put_any {w : World} {r T : Nat} {o : Option Nat} {rs : List En} (h : Ag w r o T rs) (hT : T ≤ 900) (x : Ev) : Calls Try.prog 7 #[.pointer (some ⟨r, 0, none⟩), x.val] w (PutEnd w r o T rs x) := by
  obtain ⟨es, hA, hh, hp, hs, hb, hl⟩ := h
  have hpu := Lib.hid (fun (W : World) (hW : Only (fun _ => False) w W) => hpush_any (hA.new hW) hh (by rw [hp.length_eq]; omega) hT x)
  have hE := Lib.hid (show ∀ W e W', Only (fun _ => False) w W → HPushEnd W r o T es x e W' → PutEnd w r o T rs x e W' from fun W e W' hW hP => by
    obtain ⟨he, o', es', q1, q2, q3, q4, q5⟩ := hP
    refine ⟨he, o', ⟨es', q1, q3, q2.trans (hp.append_right _), ?_, ?_, ?_⟩, ?_, (hW.mono (fun _ _ h => h.elim)).trans' q5⟩
    · refine List.pairwise_append.2 ⟨hs, List.pairwise_singleton _ _, fun a ha b hb' => ?_⟩
      obtain rfl : b = ⟨x, T⟩ := by simpa using hb'
      exact hb a ha
    · intro y hy
      rcases List.mem_append.1 hy with hy | hy
      · have := hb y hy; omega
      · obtain rfl : y = ⟨x, T⟩ := by simpa using hy
        show T < T + 1
        omega
    · simp; omega
    · rcases q4 with q4 | ⟨g, hg, hge⟩
      · exact .inl q4
      · exact .inr ⟨g, hg, Nat.le_trans hW.size hge⟩)
  clear hA hh hp hs hb hl
  unfold Ev.val at *
  go_enter Try.func7, Try.ntmps7
  go_wp2
  refine wp_region_quiet_tail_lit 6 (by kernel_rfl) (by kernel_rfl) ?_
  simp only [List.take_succ_cons, List.take_zero, List.drop_succ_cons, List.drop_zero]
  repeat (go_big_quiet_step (fail))
  refine wpQuiet_nil ?_
  rintro _ ⟨nq, rfl⟩
  go_wp2_with fail
  refine (hpu.out _ (((Only.refl _ w).alloc _).drewN nq)).mono ?_
  rintro e W hP
  have hR := Lib.hid (hE.out _ _ _ (((Only.refl _ w).alloc _).drewN nq) hP)
  obtain ⟨rfl, -⟩ := hP
  go_wp2
  go_end0
  exact hR.out

/-- What making one leaves. -/
def NewEnd (w : World) (l : List Ev) (e : Ending) (w' : World) : Prop :=
  e = .returned (.pointer (some ⟨w.heap.size, 0, none⟩)) ∧ ∃ o, Ag w' w.heap.size o l.length (ents 0 l) ∧ (∀ g, o = some g → w.heap.size ≤ g) ∧ Only (fun _ => False) w w'
set_option maxHeartbeats 400000 in
theorem new_any {w : World} {A : Option Addr} {cap : Nat} {l : List Ev} (hl : EvRow w A l) (hn : l.length ≤ 500) : Calls Try.prog 6 #[.slice A l.length cap] w (NewEnd w l) := by
  obtain ⟨r, hr⟩ : ∃ r, r = w.heap.size := ⟨_, rfl⟩
  have hfill := fun (W : World) (hW : AgAt W r none 0 []) (hO : Only (fun _ => False) w W) => fill_any (cap := cap) hW (hl.only hO (fun _ h => h.elim)) (fun h0 b off e => by
    obtain ⟨b', off', e', hlt, _⟩ := hl.at_ h0
    rw [e] at e'
    cases e'
    omega) hn
  have h0 : ∀ W : World, W = w.alloc (.cells #[.slice none 0 0, .int .u64 0] 42) → AgAt W r none 0 [] := by
    rintro _ rfl
    exact ⟨_, heap_new_at _ _ hr.symm, Win.nil _ _ _, fun k hk => by cases hk⟩
  have hfill' := Lib.hid (hfill _ (h0 _ rfl) ((Only.refl _ w).alloc _))
  obtain ⟨n, hn'⟩ : ∃ n, n = l.length := ⟨_, rfl⟩
  have hE := Lib.hid (And.intro hn' hr)
  rw [← hn'] at hfill' ⊢
  clear hfill h0 hl hn' hr
  go_enter Try.func6, Try.ntmps6
  go_wp2_with fail
  rw [← hE.out.2]
  refine hfill'.out.mono ?_
  rintro e W ⟨rfl, o, hAg, hog, hO⟩
  have hlr := ents_length 0 (l.take l.length)
  rw [List.take_length] at hAg hlr
  have hin := Lib.hid (init_any hAg (by omega))
  have hO' := Lib.hid (And.intro hog hO)
  clear hAg hog hO hlr
  go_wp2_with fail
  refine hin.out.mono ?_
  rintro e W' ⟨rfl, es', q1, q2, q3, q4, q5⟩
  have hF := Lib.hid (And.intro q1 (And.intro q2 (And.intro q3 q5)))
  clear q1 q2 q3 q4 q5
  go_wp2
  go_ret
  obtain ⟨q1, q2, q3, q5⟩ := hF.out
  obtain ⟨hog, hO⟩ := hO'.out
  have hr := hE.out.2
  unfold NewEnd
  rw [← hE.out.2]
  have hs : w.heap.size < (w.alloc (.cells #[.slice none 0 0, .int .u64 0] 42)).heap.size := by simp
  refine ⟨rfl, o, ⟨es', q1, by rw [q2.length_eq]; exact q3, q2, (ents_n 0 l).1, fun x hx => by have := ((ents_n 0 l).2 x hx).2; omega, by rw [ents_length]; exact Nat.le_refl _⟩, fun g hg => by have := hog g hg; omega, ?_⟩
  refine (((Only.refl (fun _ => False) w).alloc _).trans hO (fun k hk e => by omega)).trans q5 (fun k hk e => by have := hog k e; omega)
end Go.Proofs.Ytmkdboiajjkghaa
