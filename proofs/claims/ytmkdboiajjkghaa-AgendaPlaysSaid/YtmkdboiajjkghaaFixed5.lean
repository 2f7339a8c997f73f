/- The fixed calls of the agenda's statements, and AgendaNone's walk. -/
import Derived.Test.YtmkdboiajjkghaaFirst
namespace Go.Proofs.Ytmkdboiajjkghaa
open Go Go.RowKit

def ev1 : Ev := ⟨5, 1, 0, 0, 0⟩
def ev2 : Ev := ⟨3, 2, 0, 0, 0⟩
def ev3 : Ev := ⟨3, 3, 0, 0, 0⟩
def fixedRow : List Ev := [ev1, ev2, ev3]

theorem first_a : IsFirst (ents 0 fixedRow) 1 ⟨ev2, 1⟩ := ⟨rfl, fun j y hy => by
  match j with
  | 0 => cases hy; simp [ev1, ev2]
  | 1 => cases hy; simp [ev2]
  | 2 => cases hy; simp [ev2, ev3]
  | j + 3 => simp [ents, fixedRow] at hy⟩
theorem first_b : IsFirst [⟨ev1, 0⟩, ⟨ev3, 2⟩] 1 ⟨ev3, 2⟩ := ⟨rfl, fun j y hy => by
  match j with
  | 0 => cases hy; simp [ev1, ev3]
  | 1 => cases hy; simp [ev3]
  | j + 2 => simp at hy⟩
theorem first_c : IsFirst [⟨ev1, 0⟩] 0 ⟨ev1, 0⟩ := ⟨rfl, fun j y hy => by
  match j with
  | 0 => cases hy; simp [ev1]
  | j + 1 => simp at hy⟩
theorem takes_fixed {out : List Ev} {rs' : List En} (h : Takes 4 (ents 0 fixedRow) out rs') (hs : ∀ k x, IsFirst rs' k x → 4 < x.e.t) : out = [ev2, ev3] ∧ rs' = [⟨ev1, 0⟩] := by
  cases out with
  | nil =>
    have e : ents 0 fixedRow = rs' := h
    subst e
    have := hs _ _ first_a
    simp [ev2] at this
  | cons e out =>
    obtain ⟨k, x, h1, h2, h3, h4⟩ := h
    obtain ⟨rfl, rfl⟩ := isFirst_unique h1 first_a
    subst h2
    have e2 : (ents 0 fixedRow).eraseIdx 1 = [⟨ev1, 0⟩, ⟨ev3, 2⟩] := rfl
    rw [e2] at h4
    cases out with
    | nil =>
      have e : [⟨ev1, 0⟩, ⟨ev3, 2⟩] = rs' := h4
      subst e
      have := hs _ _ first_b
      simp [ev3] at this
    | cons e out =>
      obtain ⟨k, x, g1, g2, g3, g4⟩ := h4
      obtain ⟨rfl, rfl⟩ := isFirst_unique g1 first_b
      subst g2
      have e3 : ([⟨ev1, 0⟩, ⟨ev3, 2⟩] : List En).eraseIdx 1 = [⟨ev1, 0⟩] := rfl
      rw [e3] at g4
      cases out with
      | nil =>
        have e : [⟨ev1, 0⟩] = rs' := g4
        subst e
        exact ⟨rfl, rfl⟩
      | cons e out =>
        obtain ⟨k, x, f1, f2, f3, f4⟩ := g4
        obtain ⟨rfl, rfl⟩ := isFirst_unique f1 first_c
        simp [ev1] at f3

theorem row_ev {w : World} {X : Nat} {l : List Ev} (h : w.heap[X]? = some (.cells (evCells l).toArray 29 (0, 0))) : EvRow w (some ⟨X, 0, none⟩) l := by
  intro k x hx
  have q : ∀ j u, j < 5 → x.cells[j]? = some u → w.cell? ⟨X, 0 + k * 5 + j, none⟩ = some u := fun j u hj hu => by
    rw [Nat.zero_add]
    exact row_cell h ((evCells_at l k x hx j hj).trans hu)
  exact ⟨X, 0, rfl, row_lt h, q 0 _ (by omega) rfl, q 1 _ (by omega) rfl, q 2 _ (by omega) rfl, q 3 _ (by omega) rfl, q 4 _ (by omega) rfl⟩

theorem new_fixed (w W : World) (hW : W = w.alloc (.cells #[.int .i64 5, .int .i64 1, .int .i64 0, .int .i64 0, .int .i64 0, .int .i64 3, .int .i64 2, .int .i64 0, .int .i64 0, .int .i64 0, .int .i64 3, .int .i64 3, .int .i64 0, .int .i64 0, .int .i64 0] 29)) : Calls Try.prog 6 #[.slice (some ⟨w.heap.size, 0, none⟩) 3 3] W (NewEnd W fixedRow) := by
  subst hW
  have hr : EvRow (w.alloc (.cells (evCells fixedRow).toArray 29)) (some ⟨w.heap.size, 0, none⟩) fixedRow := row_ev (heap_new_at _ _ rfl)
  exact new_any (l := fixedRow) (cap := 3) hr (by simp [fixedRow])

set_option maxHeartbeats 800000 in
theorem fixed_any (w : World) : Calls Try.prog 5 #[] w fun e w' => e = .returned (.bool true) ∧ Below w.heap.size w w' := by
  have hn := Lib.hid (new_fixed w _ rfl)
  obtain ⟨B, hB⟩ : ∃ B, B = w.heap.size := ⟨_, rfl⟩
  have hB' := Lib.hid hB
  clear hB
  go_enter Try.func5, Try.ntmps5
  go_wp2_with fail
  refine hn.out.mono ?_
  rintro e W ⟨rfl, o, hAg, hog, hO⟩
  obtain ⟨r, hr⟩ : ∃ r, r = w.heap.size + 1 := ⟨_, rfl⟩
  rw [show (w.alloc (.cells #[.int .i64 5, .int .i64 1, .int .i64 0, .int .i64 0, .int .i64 0, .int .i64 3, .int .i64 2, .int .i64 0, .int .i64 0, .int .i64 0, .int .i64 3, .int .i64 3, .int .i64 0, .int .i64 0, .int .i64 0] 29)).heap.size = r by rw [alloc_size, hr]] at hAg hog ⊢
  have hnx := Lib.hid (next_some hAg first_a)
  have htk := Lib.hid (take_any hAg (by decide) 4)
  have hE := Lib.hid (And.intro hr (And.intro hog hO))
  clear hAg hog hO hr
  go_wp2_with fail
  refine hnx.out.mono ?_
  rintro e w1 ⟨rfl, rfl⟩
  rw [show ev2.t = 3 from rfl]
  go_wp2_with fail
  refine htk.out.mono ?_
  rintro e W2 ⟨out, rs', p, cap, h, rfl, ht, hs, hWn, hf, hA2, hO2⟩
  obtain ⟨rfl, rfl⟩ := takes_fixed ht hs
  rw [show [ev2, ev3].length = 2 from rfl]
  have hlen := alen_any hA2
  rw [show [(⟨ev1, 0⟩ : En)].length = 1 from rfl] at hlen
  obtain ⟨g, off, rfl, hg, hc⟩ := (win_ev hWn).at_ (by decide)
  obtain ⟨_, d0, _⟩ := hc 0 ev2 rfl
  obtain ⟨_, d1, _⟩ := hc 1 ev3 rfl
  rw [Nat.zero_mul, Nat.add_zero] at d0
  rw [Nat.one_mul] at d1
  rw [show ev2.k = 2 from rfl] at d0
  rw [show ev3.k = 3 from rfl] at d1
  have hlen' := Lib.hid hlen
  have hO2' := Lib.hid hO2
  clear ht hs hWn hf hA2 hO2 hlen hc
  go_wp2_with fail
  refine hlen'.out.mono ?_
  rintro e w3 ⟨rfl, rfl⟩
  go_wp2
  go_ret
  refine ⟨rfl, ?_⟩
  obtain ⟨hr, hog, hO⟩ := hE.out
  have h1 : Only (fun _ => False) w W := ((Only.refl _ w).alloc _).trans' hO
  refine ((h1.mono (T := fun k => w.heap.size ≤ k) (fun _ _ h => h.elim)).trans hO2'.out (fun k hk hfp => ?_)).below (Nat.le_refl _) (fun _ h => h)
  rcases hfp with rfl | hfp
  · omega
  · have := hog k hfp; omega

theorem none_any (e : Ev) (at_ : Int) (w : World) : Calls Try.prog 4 #[e.val, .int .i64 at_] w fun e w' => e = .returned (.bool true) ∧ Below w.heap.size w w' := by
  have hput := put_nil e
  unfold Ev.val at *
  go_enter Try.func4, Try.ntmps4
  go_wp2_with fail
  refine (fixed_any _).mono ?_
  rintro _ w1 ⟨rfl, hb1⟩
  have hblk := (Only.of_new hb1 (fun _ => False)).heap (heap_new_at w (.cells [.int .i64 e.t, .int .i64 e.k, .int .i64 e.a, .int .i64 e.b, .int .i64 e.c].toArray 29) rfl) (fun h => h)
  have c0 := row_cell hblk (i := 0) rfl
  have c1 := row_cell hblk (i := 1) rfl
  have c2 := row_cell hblk (i := 2) rfl
  have c3 := row_cell hblk (i := 3) rfl
  have c4 := row_cell hblk (i := 4) rfl
  have hb1' := Lib.hid hb1
  clear hb1 hblk
  go_wp2_with fail
  refine (hput _).mono ?_
  rintro _ w2 ⟨rfl, hO2⟩
  have hO2' := Lib.hid hO2
  clear hO2 c0 c1 c2 c3 c4
  go_wp2_with (first | (go_at_call 9; refine (next_nil _).mono ?_; rintro _ _ ⟨rfl, rfl⟩) | (go_at_call 11; refine (len_nil _).mono ?_; rintro _ _ ⟨rfl, rfl⟩) | (go_at_call 10; refine (take_nil _ _).mono ?_; rintro _ _ ⟨rfl, rfl⟩))
  go_ret
  refine ⟨rfl, ?_⟩
  exact ((((Only.refl (fun _ => False) w).alloc _).trans' ((Only.of_new hb1'.out (fun _ => False)))).trans' hO2'.out).below (Nat.le_refl _) (fun _ h => h.elim)
end Go.Proofs.Ytmkdboiajjkghaa
