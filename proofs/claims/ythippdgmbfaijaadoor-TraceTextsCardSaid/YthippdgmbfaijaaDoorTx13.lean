/- The trace's Count. -/
import Derived.Test.YthippdgmbfaijaaDoorTx12
namespace Go.Proofs.YthippdgmbfaijaaDoor
open Go Go.RowKit

/-- A row of nine numbers. -/
def row9 (c : Nat → Int) : List Value := [.int .i64 (c 0), .int .i64 (c 1), .int .i64 (c 2), .int .i64 (c 3), .int .i64 (c 4), .int .i64 (c 5), .int .i64 (c 6), .int .i64 (c 7), .int .i64 (c 8)]
theorem row9_set (n : Nat → Int) {k : Nat} (hk : k < 9) (z : Int) : (row9 n).set k (.int .i64 z) = row9 (upd n k z) := by
  match k, hk with
  | 0, _ | 1, _ | 2, _ | 3, _ | 4, _ | 5, _ | 6, _ | 7, _ | 8, _ => simp [row9, upd]
theorem row9_get (n : Nat → Int) {k : Nat} (hk : k < 9) : (row9 n)[k]? = some (.int .i64 (n k)) := by
  match k, hk with
  | 0, _ | 1, _ | 2, _ | 3, _ | 4, _ | 5, _ | 6, _ | 7, _ | 8, _ => rfl
/-- Where a kind is counted. -/
def slotK (k : Int) : Nat := if okK k = true then k.toNat else 0
theorem slotK_lt (k : Int) : slotK k < 9 := by
  unfold slotK
  split
  · next h =>
    have := of_decide_eq_true h
    omega
  · omega
def cntL : List RecV → Nat → Int
  | [], _ => 0
  | r :: l, i => cntL l i + if slotK r.k = i then 1 else 0
theorem cntL_snoc (l : List RecV) (r : RecV) : cntL (l ++ [r]) = upd (cntL l) (slotK r.k) (cntL l (slotK r.k) + 1) := by
  funext i
  induction l with
  | nil =>
    unfold upd
    by_cases h : i = slotK r.k
    · rw [if_pos h]
      subst h
      simp [cntL]
    · rw [if_neg h]
      simp [cntL]
      exact fun e => h e.symm
  | cons a l ih =>
    unfold upd at ih ⊢
    simp only [List.cons_append, cntL, ih]
    by_cases h : i = slotK r.k
    · rw [if_pos h, if_pos h, h]
      omega
    · rw [if_neg h, if_neg h]
theorem cntL_le : ∀ (l : List RecV) (i : Nat), 0 ≤ cntL l i ∧ cntL l i ≤ l.length
  | [], i => by simp [cntL]
  | r :: l, i => by
    have := cntL_le l i
    simp only [cntL, List.length_cons]
    split <;> omega
def CountEnd (l : List RecV) (w : World) (e : Ending) (w' : World) : Prop := e = .returned (.agg (row9 (cntL l)).toArray) ∧ Only (fun _ => False) w w'

def st9 (w : World) (g : Nat) (a b c d f h i j k : Value) : World := ((st7 w g a b c d f h i).setCell ⟨g, 7, none⟩ j).setCell ⟨g, 8, none⟩ k
theorem st9_row {w : World} {g : Nat} {e : TypeId} {c : Nat → Int} (h : w.heap[g]? = some (.cells (row9 c).toArray e (0, 0))) (a b c d f h' i j k : Value) : (st9 w g a b c d f h' i j k).heap[g]? = some (.cells [a, b, c, d, f, h', i, j, k].toArray e (0, 0)) := by
  unfold row9 at h
  have h0 := row_set h 0 a
  have h1 := row_set (L := [a, _, _, _, _, _, _, _, _]) h0 1 b
  have h2 := row_set (L := [a, b, _, _, _, _, _, _, _]) h1 2 c
  have h3 := row_set (L := [a, b, c, _, _, _, _, _, _]) h2 3 d
  have h4 := row_set (L := [a, b, c, d, _, _, _, _, _]) h3 4 f
  have h5 := row_set (L := [a, b, c, d, f, _, _, _, _]) h4 5 h'
  have h6 := row_set (L := [a, b, c, d, f, h', _, _, _]) h5 6 i
  have h7 := row_set (L := [a, b, c, d, f, h', i, _, _]) h6 7 j
  exact row_set (L := [a, b, c, d, f, h', i, j, _]) h7 8 k
theorem st9_only (w : World) (g : Nat) (a b c d f h i j k : Value) : Only (fun k => k = g) w (st9 w g a b c d f h i j k) :=
  ((st7_only _ _ _ _ _ _ _ _ _).trans' (only_set _ _ _ _)).trans' (only_set _ _ _ _)

set_option maxRecDepth 100000 in
set_option maxHeartbeats 4000000 in
theorem count_any {w : World} {A : Option Addr} {n cap : Nat} {l : List RecV} (hl : RecRow w A l) (hn : l.length = n) (hmax : n ≤ 1000000) : Calls Tryd.prog 16 #[.slice A n cap] w (CountEnd l w) := by
  have hl' := Lib.hid hl
  have hn' := Lib.hid hn
  clear hl hn
  have hO0 := Lib.hid (((Only.refl (fun _ => False) w).alloc (.cells (row9 (fun _ => 0)).toArray 37)).alloc (.cells (row9 (fun _ => 0)).toArray 37))
  have hR := Lib.hid (heap_kept_alloc (heap_new_at w (.cells (row9 (fun _ => 0)).toArray 37) rfl) (.cells (row9 (fun _ => 0)).toArray 37))
  have hC := Lib.hid (heap_new_at (w.alloc (.cells (row9 (fun _ => 0)).toArray 37)) (.cells (row9 (fun _ => 0)).toArray 37) (by simp : _ = w.heap.size + 1))
  go_enter Tryd.func16, Tryd.ntmps16
  go_wp2
  have hO0' := Lib.hid (show Only (fun _ => False) w ((w.alloc (.cells #[.int .i64 0, .int .i64 0, .int .i64 0, .int .i64 0, .int .i64 0, .int .i64 0, .int .i64 0, .int .i64 0, .int .i64 0] 37)).alloc (.cells #[.int .i64 0, .int .i64 0, .int .i64 0, .int .i64 0, .int .i64 0, .int .i64 0, .int .i64 0, .int .i64 0, .int .i64 0] 37)) from hO0.out)
  clear hO0
  have hR' := Lib.hid (show ((w.alloc (.cells #[.int .i64 0, .int .i64 0, .int .i64 0, .int .i64 0, .int .i64 0, .int .i64 0, .int .i64 0, .int .i64 0, .int .i64 0] 37)).alloc (.cells #[.int .i64 0, .int .i64 0, .int .i64 0, .int .i64 0, .int .i64 0, .int .i64 0, .int .i64 0, .int .i64 0, .int .i64 0] 37)).heap[w.heap.size]? = some (.cells (row9 (fun _ => 0)).toArray 37) from hR.out)
  have hC' := Lib.hid (show ((w.alloc (.cells #[.int .i64 0, .int .i64 0, .int .i64 0, .int .i64 0, .int .i64 0, .int .i64 0, .int .i64 0, .int .i64 0, .int .i64 0] 37)).alloc (.cells #[.int .i64 0, .int .i64 0, .int .i64 0, .int .i64 0, .int .i64 0, .int .i64 0, .int .i64 0, .int .i64 0, .int .i64 0] 37)).heap[w.heap.size + 1]? = some (.cells (row9 (fun _ => 0)).toArray 37) from hC.out)
  clear hR hC
  generalize (w.alloc (.cells #[.int .i64 0, .int .i64 0, .int .i64 0, .int .i64 0, .int .i64 0, .int .i64 0, .int .i64 0, .int .i64 0, .int .i64 0] 37)).alloc (.cells #[.int .i64 0, .int .i64 0, .int .i64 0, .int .i64 0, .int .i64 0, .int .i64 0, .int .i64 0, .int .i64 0, .int .i64 0] 37) = W0 at hO0' hR' hC' ⊢
  have hs0 := Lib.hid (show w.heap.size < W0.heap.size ∧ w.heap.size + 1 < W0.heap.size from ⟨row_lt hR'.out, row_lt hC'.out⟩)
  go_loopw [8] (fun i wr => ∃ k : Nat, k ≤ n ∧ i = .int .i64 k ∧ wr.heap[w.heap.size + 1]? = some (.cells (row9 (cntL (l.take k))).toArray 37 (0, 0)) ∧ Only (fun x => x = w.heap.size + 1) W0 wr) (fun i _ => n - (intOf i).toNat)
  case atStart => exact ⟨0, Nat.zero_le _, rfl, hC'.out, Only.refl _ _⟩
  case round =>
    obtain ⟨k, hk, rfl, hrow, hO⟩ := hrel
    obtain ⟨ws, hws⟩ : ∃ ws : World, ws = wr := ⟨_, rfl⟩
    subst hws
    have hrow' := Lib.hid hrow
    have hO' := Lib.hid hO
    have hOw := Lib.hid (show Only (fun _ => False) w ws from hO0'.out.trans hO (fun x hx e => by omega))
    have hlw := row_lt hrow
    clear hrow hO
    by_cases hkn : k < n
    · have hkn' : (k : Int) < (n : Int) := by omega
      obtain ⟨x, hx⟩ : ∃ x, l[k]? = some x := ⟨_, List.getElem?_eq_getElem (by have := hn'.out; omega)⟩
      obtain ⟨b, off, rfl, hb, hc⟩ := hl'.out.new hOw.out k x hx
      have hle := Lib.hid (cntL_le (l.take k))
      have hsn := Lib.hid (show cntL (l.take (k + 1)) = upd (cntL (l.take k)) (slotK x.k) (cntL (l.take k) (slotK x.k) + 1) by rw [List.take_add_one, hx]; exact cntL_snoc _ _)
      have htl : (l.take k).length ≤ n := by rw [List.length_take]; have := hn'.out; omega
      have hbn : ¬ b = w.heap.size + 1 := fun e => by
        obtain ⟨b', off', hA', hb', -⟩ := hl'.out k x hx
        cases hA'
        omega
      obtain ⟨C, hC⟩ : ∃ C, C = cntL (l.take k) := ⟨_, rfl⟩
      rw [← hC] at hrow' hle hsn
      obtain ⟨m, hm⟩ : ∃ m, m = slotK x.k := ⟨_, rfl⟩
      have hm9 := slotK_lt x.k
      rw [← hm] at hsn hm9
      have hcm := hle.out m
      have hrow := hrow'.out
      obtain ⟨d0, d1, d2, d3, d4, d5, d6⟩ := hc
      obtain ⟨x0, x1, x2, x3, x4, x5, x6⟩ := x
      dsimp only at d0 d1 d2 d3 d4 d5 d6 hm
      obtain ⟨z, hz⟩ : ∃ z, z = C m := ⟨_, rfl⟩
      rw [← hz] at hsn hcm
      have y0 : ws.cell? ⟨w.heap.size + 1, m, none⟩ = some (.int .i64 z) := by rw [hz]; exact row_cell hrow (row9_get C hm9)
      have f0 := row_free hrow m
      have hnew := Lib.hid (show ∀ W : World, W.heap[w.heap.size + 1]? = some (.cells (row9 C).toArray 37 (0, 0)) → (W.setCell ⟨w.heap.size + 1, m, none⟩ (.int .i64 (z + 1))).heap[w.heap.size + 1]? = some (.cells (row9 (upd C m (z + 1))).toArray 37 (0, 0)) from fun W hW => by
        have := row_set hW m (.int .i64 (z + 1))
        rwa [row9_set C hm9] at this)
      have hbox := Lib.hid (hrow'.out)
      have hisk := Lib.hid (isKind_any x1)
      have hz1 : z + 1 ≤ 1000001 := by omega
      clear hrow hx hC hz
      cases hK : okK x1 with
      | false =>
        obtain rfl : m = 0 := by rw [hm]; unfold slotK; rw [hK]; rfl
        rw [hK] at hisk
        clear hK hm
        go_wp2_with fail
        refine (hisk.out _).mono ?_
        rintro e w' ⟨rfl, rfl⟩
        go_wp2
        go_roundw
        case rel => exact ⟨k + 1, by omega, by go_num, by rw [hsn.out]; exact heap_kept_alloc (hnew.out ws hbox.out) _, (hO'.out.trans (only_set _ _ _ _) (fun _ _ h => h)).alloc _⟩
        case measure => simp [intOf]; omega
      | true =>
        obtain ⟨hk1, hk2⟩ : 1 ≤ x1 ∧ x1 ≤ 8 := of_decide_eq_true hK
        obtain rfl : x1 = (m : Int) := by rw [hm]; unfold slotK; rw [if_pos hK]; omega
        rw [hK] at hisk
        clear hK hm
        go_wp2_with fail
        refine (hisk.out _).mono ?_
        rintro e w' ⟨rfl, rfl⟩
        go_wp2
        go_roundw
        case rel => exact ⟨k + 1, by omega, by go_num, by rw [hsn.out]; exact heap_kept_alloc (hnew.out ws hbox.out) _, (hO'.out.trans (only_set _ _ _ _) (fun _ _ h => h)).alloc _⟩
        case measure => simp [intOf]; omega
    · have hkn2 : k = n := by omega
      subst hkn2
      have htk := Lib.hid (show l.take k = l from List.take_of_length_le (by have := hn'.out; omega))
      rw [htk.out] at hrow'
      have hrr := hO'.out.heap hR'.out (fun e => by omega)
      have y0 := row_cell hrow'.out (i := 0) rfl
      have y1 := row_cell hrow'.out (i := 1) rfl
      have y2 := row_cell hrow'.out (i := 2) rfl
      have y3 := row_cell hrow'.out (i := 3) rfl
      have y4 := row_cell hrow'.out (i := 4) rfl
      have y5 := row_cell hrow'.out (i := 5) rfl
      have y6 := row_cell hrow'.out (i := 6) rfl
      have y7 := row_cell hrow'.out (i := 7) rfl
      have y8 := row_cell hrow'.out (i := 8) rfl
      have z0 := row_free hrr 0
      have z1 := row_free hrr 1
      have z2 := row_free hrr 2
      have z3 := row_free hrr 3
      have z4 := row_free hrr 4
      have z5 := row_free hrr 5
      have z6 := row_free hrr 6
      have z7 := row_free hrr 7
      have z8 := row_free hrr 8
      have hrl := row_lt hrr
      have q0 := row_cell hrr (i := 0) rfl
      have q1 := row_cell hrr (i := 1) rfl
      have q2 := row_cell hrr (i := 2) rfl
      have q3 := row_cell hrr (i := 3) rfl
      have q4 := row_cell hrr (i := 4) rfl
      have q5 := row_cell hrr (i := 5) rfl
      have q6 := row_cell hrr (i := 6) rfl
      have q7 := row_cell hrr (i := 7) rfl
      have q8 := row_cell hrr (i := 8) rfl
      have h9 := Lib.hid (st9_row hrr (.int .i64 (cntL l 0)) (.int .i64 (cntL l 1)) (.int .i64 (cntL l 2)) (.int .i64 (cntL l 3)) (.int .i64 (cntL l 4)) (.int .i64 (cntL l 5)) (.int .i64 (cntL l 6)) (.int .i64 (cntL l 7)) (.int .i64 (cntL l 8)))
      clear hrr
      go_wp2
      change bodyPost _ _ _ _ _ (st9 ws w.heap.size (.int .i64 (cntL l 0)) (.int .i64 (cntL l 1)) (.int .i64 (cntL l 2)) (.int .i64 (cntL l 3)) (.int .i64 (cntL l 4)) (.int .i64 (cntL l 5)) (.int .i64 (cntL l 6)) (.int .i64 (cntL l 7)) (.int .i64 (cntL l 8)))
      have o9 := Lib.hid (hOw.out.trans (st9_only ws w.heap.size (.int .i64 (cntL l 0)) (.int .i64 (cntL l 1)) (.int .i64 (cntL l 2)) (.int .i64 (cntL l 3)) (.int .i64 (cntL l 4)) (.int .i64 (cntL l 5)) (.int .i64 (cntL l 6)) (.int .i64 (cntL l 7)) (.int .i64 (cntL l 8))) (fun x hx e => by omega))
      generalize st9 ws w.heap.size (.int .i64 (cntL l 0)) (.int .i64 (cntL l 1)) (.int .i64 (cntL l 2)) (.int .i64 (cntL l 3)) (.int .i64 (cntL l 4)) (.int .i64 (cntL l 5)) (.int .i64 (cntL l 6)) (.int .i64 (cntL l 7)) (.int .i64 (cntL l 8)) = V at h9 o9 ⊢
      have r0 := row_cell h9.out (i := 0) rfl
      have r1 := row_cell h9.out (i := 1) rfl
      have r2 := row_cell h9.out (i := 2) rfl
      have r3 := row_cell h9.out (i := 3) rfl
      have r4 := row_cell h9.out (i := 4) rfl
      have r5 := row_cell h9.out (i := 5) rfl
      have r6 := row_cell h9.out (i := 6) rfl
      have r7 := row_cell h9.out (i := 7) rfl
      have r8 := row_cell h9.out (i := 8) rfl
      exact bodyPost_ret (v := .agg (row9 (cntL l)).toArray) (by simp [row9, results, Tryd.results16, go_sem, r0, r1, r2, r3, r4, r5, r6, r7, r8]) rfl ⟨rfl, o9.out⟩
end Go.Proofs.YthippdgmbfaijaaDoor
