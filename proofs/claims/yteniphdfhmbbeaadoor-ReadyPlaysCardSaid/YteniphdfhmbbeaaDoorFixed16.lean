/- The fixed calls of ReadyPlays. -/
import Derived.Test.YteniphdfhmbbeaaDoorMC
import Derived.Test.YteniphdfhmbbeaaDoorRNew
namespace Go.Proofs.YteniphdfhmbbeaaDoor
open Go Go.RowKit Go.Maps Ring Band

theorem ints_none (w : World) : IntsAt w ⟨none, 0, 0⟩ [] := ⟨rfl, Nat.le_refl _, fun k z hz => by simp at hz⟩
def twoT (p : Int) (X : Nat) : TaskV := ⟨p, p, 9, 9, 0, 0, ⟨some ⟨X, 0, none⟩, 1, 1⟩⟩
def twoC (X : Nat) : ConfV := ⟨1, 1, 1, 1, ⟨none, 0, 0⟩, 0, ⟨none, 0, 0⟩, ⟨none, 0, 0⟩, ⟨some ⟨X + 1, 0, none⟩, 2, 2⟩, ⟨none, 0, 0⟩⟩
def twoP (X : Nat) : Tks := [(twoT 1 X, [⟨1, 2, 0⟩]), (twoT 4 X, [⟨1, 2, 0⟩])]
def noD : ConfL := ⟨[], [], [], []⟩
def noC : ConfV := ⟨0, 0, 0, 0, ⟨none, 0, 0⟩, 0, ⟨none, 0, 0⟩, ⟨none, 0, 0⟩, ⟨none, 0, 0⟩, ⟨none, 0, 0⟩⟩
theorem two_zero (X : Nat) : confZ (twoC X) noD (twoP X) = 0 := by rfl
theorem no_range : confZ noC noD [] = 5 := by rfl
theorem no_conf (w : World) : ConfAt w noC noD [] :=
  ⟨⟨ints_none _, ints_none _, ints_none _, ints_none _, (by show 0 ≤ 1000000; omega), (by show 0 ≤ 1000000; omega), (by show 0 ≤ 1000000; omega), (by show 0 ≤ 1000000; omega), (by show 0 ≤ 1000000; omega)⟩, ⟨rfl, Nat.le_refl _, fun k t ht => by simp [Tks.ts] at ht⟩, ⟨fun k t l ht => by simp at ht⟩⟩
theorem two_conf {w : World} {X : Nat} (h1 : w.heap[X]? = some (.cells [.int .i64 1, .int .i64 2, .int .i64 0].toArray 56 (0, 0))) (h2 : w.heap[X + 1]? = some (.cells ((twoT 1 X).cells ++ (twoT 4 X).cells).toArray 53 (0, 0))) : ConfAt w (twoC X) noD (twoP X) := by
  have hop : OpnRow w (some ⟨X, 0, none⟩) [⟨1, 2, 0⟩] := fun k o ho => by
    match k, ho with
    | 0, ho => cases ho; exact ⟨X, 0, rfl, row_lt h1, row_cell h1 (i := 0) rfl, row_cell h1 (i := 1) rfl, row_cell h1 (i := 2) rfl⟩
    | k + 1, ho => simp at ho
  refine ⟨⟨ints_none _, ints_none _, ints_none _, ints_none _, (by show 0 ≤ 1000000; omega), (by show 0 ≤ 1000000; omega), (by show 0 ≤ 1000000; omega), (by show 0 ≤ 1000000; omega), (by show 2 ≤ 1000000; omega)⟩, ⟨rfl, Nat.le_refl _, fun k o ho => ?_⟩, ⟨fun k t l ht => ?_⟩⟩
  · match k, ho with
    | 0, ho => cases ho; exact ⟨X + 1, 0, rfl, row_lt h2, row_cell h2 (i := 0) rfl, row_cell h2 (i := 1) rfl, row_cell h2 (i := 2) rfl, row_cell h2 (i := 3) rfl, row_cell h2 (i := 4) rfl, row_cell h2 (i := 5) rfl, row_cell h2 (i := 6) rfl⟩
    | 1, ho => cases ho; exact ⟨X + 1, 0, rfl, row_lt h2, row_cell h2 (i := 7) rfl, row_cell h2 (i := 8) rfl, row_cell h2 (i := 9) rfl, row_cell h2 (i := 10) rfl, row_cell h2 (i := 11) rfl, row_cell h2 (i := 12) rfl, row_cell h2 (i := 13) rfl⟩
    | k + 2, ho => simp [twoP, Tks.ts] at ho
  · match k, ht with
    | 0, ht => cases ht; exact ⟨hop, rfl, (by show 1 ≤ 1000000; omega), Nat.le_refl _⟩
    | 1, ht => cases ht; exact ⟨hop, rfl, (by show 1 ≤ 1000000; omega), Nat.le_refl _⟩
    | k + 2, ht => simp [twoP] at ht
theorem p0 (X : Nat) : pN (twoP X).ts 0 = 1 := rfl
theorem p1 (X : Nat) : pN (twoP X).ts 1 = 4 := rfl

set_option maxRecDepth 100000 in
set_option maxHeartbeats 4000000 in
theorem fixed_any (w : World) (hw : Words w) : Calls Tryd.prog 4 #[] w fun e w' => e = .returned (.bool true) ∧ Only (fun _ => False) w w' := by
  obtain ⟨X, hX⟩ : ∃ X, X = w.heap.size := ⟨_, rfl⟩
  have hX' := Lib.hid hX
  obtain ⟨W, hW⟩ : ∃ W, W = ((w.alloc (.cells #[.int .i64 1, .int .i64 2, .int .i64 0] 56)).alloc (.cells #[.int .i64 1, .int .i64 1, .int .i64 9, .int .i64 9, .int .i64 0, .int .i64 0, .slice (some ⟨X, 0, none⟩) 1 1, .int .i64 4, .int .i64 4, .int .i64 9, .int .i64 9, .int .i64 0, .int .i64 0, .slice (some ⟨X, 0, none⟩) 1 1] 53)).alloc (.cells #[.int .i64 1, .int .i64 1, .int .i64 1, .int .i64 1, .slice none 0 0, .int .i64 0, .slice none 0 0, .slice none 0 0, .slice (some ⟨X + 1, 0, none⟩) 2 2, .slice none 0 0] 27) := ⟨_, rfl⟩
  have hW' := Lib.hid hW
  have hO : Only (fun _ => False) w W := by rw [hW]; exact (((Only.refl _ w).alloc _).alloc _).alloc _
  have hc : ConfAt W (twoC X) noD (twoP X) := two_conf (by rw [hW]; exact heap_kept_alloc (heap_kept_alloc (heap_new_at _ _ hX.symm) _) _) (by rw [hW]; exact heap_kept_alloc (heap_new_at _ _ (by simp [hX])) _)
  have hwo := fun W' (h : Only (fun _ => False) w W') => (show Words W' from fun k s n h1 h2 => ⟨h.cell (hw k s n h1 h2).1 (fun h => h), h.cell (hw k s n h1 h2).2 (fun h => h)⟩)
  have hnew := Lib.hid (rnew_any (hwo _ hO) hc)
  rw [two_zero] at hnew
  have hn2 := Lib.hid (fun W' (h : Only (fun _ => False) w W') => no_range ▸ rnew_any (hwo _ h) (no_conf W'))
  have hO' := Lib.hid hO
  have hs0 := hO.size
  rw [show (twoC X).val = .agg #[.int .i64 1, .int .i64 1, .int .i64 1, .int .i64 1, .slice none 0 0, .int .i64 0, .slice none 0 0, .slice none 0 0, .slice (some ⟨X + 1, 0, none⟩) 2 2, .slice none 0 0] from rfl] at hnew
  rw [show noC.val = .agg #[.int .i64 0, .int .i64 0, .int .i64 0, .int .i64 0, .slice none 0 0, .int .i64 0, .slice none 0 0, .slice none 0 0, .slice none 0 0, .slice none 0 0] from rfl] at hn2
  clear hX hW hO hc hwo hw
  go_enter Tryd.func4, Tryd.ntmps4
  go_wp2_with fail
  rw [← hX'.out, ← hW'.out]
  refine hnew.out.mono ?_
  intro e w1 hq
  unfold RNewEnd at hq
  rw [if_pos rfl] at hq
  obtain ⟨r, G, bs, bm, ring, rfl, hR, hb, ho⟩ := hq
  obtain ⟨P, hP⟩ : ∃ P, P = pN (twoP X).ts := ⟨_, rfl⟩
  have hp0 : P 0 = 1 := by rw [hP]; rfl
  have hp1 : P 1 = 4 := by rw [hP]; rfl
  rw [← hP] at hR hb
  rw [show (twoC X).ta.n = 2 from rfl] at hR hb
  have qr1 := Lib.hid (release_any hR hb (t := 0) (by omega) (by show 0 ≤ 1000000; omega) 3)
  rw [if_pos (by show 0 < 4; omega)] at qr1
  rw [show (fun _ => ([] : List Jb)) 0 ++ [(⟨((0 : Nat) : Int), (((fun _ => 0) 0 : Nat) : Int), 3⟩ : Jb)] = [⟨0, 0, 3⟩] from rfl] at qr1
  have qr1' := Lib.hid (show Calls Tryd.prog 9 #[.pointer (some ⟨r, 0, none⟩), .int .i64 0, .int .i64 3] w1 (RelEnd w1 W.heap.size r G bs bm 2 P (upd (fun _ => 0) 0 1) ring (fun _ => none) (upd (fun _ => []) 0 [⟨0, 0, 3⟩]) ⟨0, 0, 3⟩ 0) from qr1.out)
  have ho1 := Lib.hid (hO'.out.trans' ho)
  have hlt0 := Lib.hid hR.lt
  clear hR hb ho qr1 hP hnew hW' hX'
  go_wp2_with fail
  refine qr1'.out.mono ?_
  rintro e w2 ⟨rfl, o1, m1, hR1, hb1, h1, -⟩
  rw [show Jb.val ⟨0, 0, 3⟩ = .agg #[.int .i64 0, .int .i64 0, .int .i64 3] from rfl]
  have hO2 := Lib.hid (ho1.out.trans h1 (fun k hk hr => by have := (hlt0.out k hr).2; omega))
  obtain ⟨w2a, hw2a⟩ : ∃ w2a, w2a = w2.alloc (.cells #[.int .i64 0, .int .i64 0, .int .i64 3] 37) := ⟨_, rfl⟩
  have o2 : Only (fun _ => False) w2 w2a := by rw [hw2a]; exact (Only.refl _ w2).alloc _
  have hR1a := hR1.new o2
  have hlt1 := Lib.hid hR1a.lt
  have qr2 := Lib.hid (release_any hR1a hb1 (t := 1) (by omega) (by show 0 ≤ 1000000; omega) 5)
  rw [if_pos (by show 0 < 4; omega)] at qr2
  have qr2' := Lib.hid (show Calls Tryd.prog 9 #[.pointer (some ⟨r, 0, none⟩), .int .i64 1, .int .i64 5] w2a (RelEnd w2a W.heap.size r G bs bm 2 P (upd (upd (fun _ => 0) 0 1) 1 1) ring o1 (upd (upd (fun _ => []) 0 [⟨0, 0, 3⟩]) 1 [⟨1, 0, 5⟩]) ⟨1, 0, 5⟩ 0) from qr2.out)
  have hO2a := Lib.hid (hO2.out.trans' o2)
  have hw2a' := Lib.hid hw2a
  clear hR1 hb1 h1 qr2 hR1a o2 hw2a qr1'
  go_wp2_with fail
  rw [← hw2a'.out]
  refine qr2'.out.mono ?_
  rintro e w3 ⟨rfl, o2, m2, hR2, hb2, h2, -⟩
  rw [show Jb.val ⟨1, 0, 5⟩ = .agg #[.int .i64 1, .int .i64 0, .int .i64 5] from rfl]
  have hO3 := Lib.hid (hO2a.out.trans h2 (fun k hk hr => by have := (hlt1.out k hr).2; omega))
  obtain ⟨B7, hB7⟩ : ∃ B7, B7 = w3.heap.size := ⟨_, rfl⟩
  obtain ⟨w3a, hw3a⟩ : ∃ w3a, w3a = w3.alloc (.cells #[.int .i64 1, .int .i64 0, .int .i64 5] 37) := ⟨_, rfl⟩
  have o3 : Only (fun _ => False) w3 w3a := by rw [hw3a]; exact (Only.refl _ w3).alloc _
  have hj7 : w3a.heap[B7]? = some (.cells #[.int .i64 1, .int .i64 0, .int .i64 5] 37 (0, 0)) := by rw [hw3a]; exact heap_new_at _ _ hB7.symm
  have hR3 := hR2.new o3
  have qf := Lib.hid (first_some hR3 hb2 (t := 1) (x := ⟨1, 0, 5⟩) (l := []) ⟨by omega, by show [(⟨1, 0, 5⟩ : Jb)] ≠ []; simp, fun i hi _ => by
    match i, hi with
    | 0, _ => omega
    | 1, _ => omega⟩ rfl)
  rw [hp1] at qf
  rw [show Jb.val ⟨1, 0, 5⟩ = .agg #[.int .i64 1, .int .i64 0, .int .i64 5] from rfl] at qf
  have hO3a := Lib.hid (hO3.out.trans' o3)
  have hw3a' := Lib.hid hw3a
  have hB7' := Lib.hid hB7
  have hj7' := Lib.hid hj7
  have hR3' := Lib.hid hR3
  clear hR2 hb2 h2 o3 hw3a hB7 hj7 hR3 hw2a' qr2'
  go_wp2_with fail
  rw [← hB7'.out, ← hw3a'.out]
  refine qf.out.mono ?_
  rintro e w4 ⟨rfl, h4⟩
  obtain ⟨B9, hB9⟩ : ∃ B9, B9 = w4.heap.size := ⟨_, rfl⟩
  obtain ⟨w4a, hw4a⟩ : ∃ w4a, w4a = w4.alloc (.cells #[.int .i64 1, .int .i64 0, .int .i64 5] 37) := ⟨_, rfl⟩
  have o4 : Only (fun _ => False) w3a w4a := by rw [hw4a]; exact h4.alloc _
  have hj9' := Lib.hid (show w4a.heap[B9]? = some (.cells #[.int .i64 1, .int .i64 0, .int .i64 5] 37 (0, 0)) by rw [hw4a]; exact heap_new_at _ _ hB9.symm)
  have qn := Lib.hid (release_no (hR3'.out.new o4) (t := 2) (.inr (by omega)) 5)
  rw [show zjb.val = .agg #[.int .i64 0, .int .i64 0, .int .i64 0] from rfl] at qn
  have o4' := Lib.hid o4
  have hw4a' := Lib.hid hw4a
  have hB9' := Lib.hid hB9
  clear h4 hw4a hB9 o4 hw3a'
  go_wp2_with fail
  rw [← hB9'.out, ← hw4a'.out]
  refine qn.out.mono ?_
  rintro e w5 ⟨rfl, h5⟩
  have o5 := Lib.hid (show Only (fun _ => False) w3a (w5.alloc (.cells #[.int .i64 0, .int .i64 0, .int .i64 0] 37)) from o4'.out.trans' (h5.alloc _))
  have o5b := Lib.hid (show Only (fun _ => False) w4a (w5.alloc (.cells #[.int .i64 0, .int .i64 0, .int .i64 0] 37)) from h5.alloc _)
  have qn3 := Lib.hid (hn2.out _ (hO3a.out.trans' o5.out))
  clear h5 hw4a' qn qf hn2
  go_wp2_with fail
  refine qn3.out.mono ?_
  intro e w6 hq
  unfold RNewEnd at hq
  rw [if_neg (by omega)] at hq
  obtain ⟨rfl, h6⟩ := hq
  have o6 := Lib.hid (o5.out.trans' h6)
  have hj7 := Lib.hid (o6.out.heap hj7'.out (fun h => h))
  have hj9 := Lib.hid ((o5b.out.trans' h6).heap hj9'.out (fun h => h))
  have a0 := row_cell (L := [_, _, _]) hj7.out (i := 0) rfl
  have a1 := row_cell (L := [_, _, _]) hj7.out (i := 1) rfl
  have a2 := row_cell (L := [_, _, _]) hj7.out (i := 2) rfl
  have c0 := row_cell (L := [_, _, _]) hj9.out (i := 0) rfl
  have c1 := row_cell (L := [_, _, _]) hj9.out (i := 1) rfl
  have c2 := row_cell (L := [_, _, _]) hj9.out (i := 2) rfl
  have ql := Lib.hid (rlen_any (hR3'.out.new o6.out) (by omega))
  have ql' := Lib.hid (show Calls Tryd.prog 10 #[.pointer (some ⟨r, 0, none⟩)] w6 (fun e w' => e = .returned (.int .i64 2) ∧ Only (fun _ => False) w6 w') from ql.out)
  have hO6 := Lib.hid (hO3a.out.trans' o6.out)
  clear h6 ql hj7 hj9
  go_wp2_with fail
  refine ql'.out.mono ?_
  rintro e w7 ⟨rfl, h7⟩
  have hO7 := Lib.hid (hO6.out.trans' h7)
  clear h7 a0 a1 a2 c0 c1 c2
  go_wp2
  go_ret
  exact ⟨rfl, hO7.out⟩
end Go.Proofs.YteniphdfhmbbeaaDoor
