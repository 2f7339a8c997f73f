/- section: what an operation does. -/
import Derived.Test.YtdoimkmhincmmaaSec
namespace Go.Proofs.Ytdoimkmhincmmaa
namespace Sct
open Go Go.RowKit Lin Lck

def DoEnd (a b g n : Nat) (z : Nat → Int) (th : Int) (s : St) (w : World) (e : Ending) (w' : World) : Prop :=
  e = .returned (.tuple #[]) ∧ WkAt w' a b g n z th s ∧ Only (fun k => k = a ∨ k = g) w w'
theorem do_reg {w W : World} {a b g n : Nat} {z : Nat → Int} {th : Int} {s : St} (H : WkAt w a b g n z th s) (hO : Only (fun _ => False) w W) (r : Nat) {v : Value} (hv : v = .int .i64 (r : Int)) : WkAt (W.setCell ⟨a, 2, none⟩ v) a b g n z th ⟨r, s.d⟩ ∧ Only (fun k => k = a ∨ k = g) w (W.setCell ⟨a, 2, none⟩ v) := by
  subst hv
  have hB := hO.heap H.box (fun h => h)
  have hs := row_set (L := [.int .i64 th, .pointer (some ⟨b, 0, none⟩), .int .i64 (s.reg : Int)]) hB 2 (.int .i64 (r : Int))
  have ho : Only (fun k => k = a) W (W.setCell ⟨a, 2, none⟩ (.int .i64 (r : Int))) := (Only.refl (fun k => k = a) W).setCell (p := ⟨a, 2, none⟩) (fun _ => rfl) _
  exact ⟨⟨hs, (H.lk.new hO).kept ho (fun e => H.ne.1 e.symm) (fun e => H.ne.2 e.symm), H.ne⟩, (hO.mono (fun _ _ h => h.elim)).trans ho (fun _ _ e => .inl e)⟩
theorem do_lk {w W w' : World} {a b g n : Nat} {z : Nat → Int} {th : Int} {s : St} {d : Nat → Bool} (H : WkAt w a b g n z th s) (hO : Only (fun _ => False) w W) (hL : LkAt w' b g n z (fun _ => 0) d) (ho : Only (fun k => k = g) W w') : WkAt w' a b g n z th ⟨s.reg, d⟩ ∧ Only (fun k => k = a ∨ k = g) w w' :=
  ⟨⟨ho.heap (hO.heap H.box (fun h => h)) H.ne.2, hL, H.ne⟩, (hO.mono (fun _ _ h => h.elim)).trans ho (fun _ _ e => .inr e)⟩

structure Pre (w W : World) (a b g n X : Nat) (z : Nat → Int) (th : Int) (r : Nat) (d : Nat → Bool) (K A B : Int) : Prop where
  hX : X = w.heap.size
  hW : W = w.alloc (.cells #[.int .i64 K, .int .i64 A, .int .i64 B] 48)
  hO : Only (fun _ => False) w W
  H : WkAt w a b g n z th ⟨r, d⟩
  hy : W.heap[X]? = some (.cells #[.int .i64 K, .int .i64 A, .int .i64 B] 48 (0, 0))
  hb : W.heap[a]? = some (.cells #[.int .i64 th, .pointer (some ⟨b, 0, none⟩), .int .i64 (r : Int)] 95 (0, 0))
theorem Pre.mk' {w : World} {a b g n : Nat} {z : Nat → Int} {th : Int} {r : Nat} {d : Nat → Bool} (H : WkAt w a b g n z th ⟨r, d⟩) (K A B : Int) : Pre w (w.alloc (.cells #[.int .i64 K, .int .i64 A, .int .i64 B] 48)) a b g n w.heap.size z th r d K A B := by
  have hO := (Only.refl (fun _ => False) w).alloc (.cells #[.int .i64 K, .int .i64 A, .int .i64 B] 48)
  exact ⟨rfl, rfl, hO, H, heap_new_at _ _ rfl, hO.heap H.box (fun h => h)⟩
theorem Pre.cells {w W : World} {a b g n X : Nat} {z : Nat → Int} {th : Int} {r : Nat} {d : Nat → Bool} {K A B : Int} (P : Pre w W a b g n X z th r d K A B) :
    W.cell? ⟨a, 2, none⟩ = some (.int .i64 (r : Int)) ∧ W.frozen? ⟨a, 2, none⟩ = false ∧ W.cell? ⟨X, 0, none⟩ = some (.int .i64 K) ∧ W.cell? ⟨X, 1, none⟩ = some (.int .i64 A) ∧ W.cell? ⟨a, 1, none⟩ = some (.pointer (some ⟨b, 0, none⟩)) ∧ a < W.heap.size ∧ X < W.heap.size :=
  ⟨row_cell (L := [.int .i64 th, .pointer (some ⟨b, 0, none⟩), .int .i64 (r : Int)]) P.hb (i := 2) rfl, row_free (L := [.int .i64 th, .pointer (some ⟨b, 0, none⟩), .int .i64 (r : Int)]) P.hb 2,
    row_cell (L := [.int .i64 K, .int .i64 A, .int .i64 B]) P.hy (i := 0) rfl, row_cell (L := [.int .i64 K, .int .i64 A, .int .i64 B]) P.hy (i := 1) rfl, row_cell (L := [.int .i64 th, .pointer (some ⟨b, 0, none⟩), .int .i64 (r : Int)]) P.hb (i := 1) rfl, row_lt P.hb, row_lt P.hy⟩
theorem Pre.keep {w W : World} {a b g n X : Nat} {z : Nat → Int} {th : Int} {r : Nat} {d : Nat → Bool} {K A B : Int} (P : Pre w W a b g n X z th r d K A B) (W0 : World) (h0 : Only (fun k => k = g) W W0) :
    W0.cell? ⟨a, 1, none⟩ = some (.pointer (some ⟨b, 0, none⟩)) ∧ W0.cell? ⟨X, 1, none⟩ = some (.int .i64 A) ∧ a < W0.heap.size ∧ X < W0.heap.size := by
  obtain ⟨_, _, _, c1, c2, c3, c4⟩ := P.cells
  exact ⟨h0.cell c2 P.H.ne.2, h0.cell c1 (fun e => by have h1 := P.H.lk.lt.2; have h2 := P.hX; simp at e; omega), Nat.lt_of_lt_of_le c3 h0.size, Nat.lt_of_lt_of_le c4 h0.size⟩

set_option maxRecDepth 100000 in
set_option maxHeartbeats 2000000 in
theorem do3 {w W : World} {a b g n X : Nat} {z : Nat → Int} {th : Int} {r : Nat} {d : Nat → Bool} {A B : Int} (P : Pre w W a b g n X z th r d 3 A B) (hr : r ≤ 1000000) : Calls Try.prog 80 #[.pointer (some ⟨a, 0, none⟩), .agg #[.int .i64 3, .int .i64 A, .int .i64 B]] w (DoEnd a b g n z th ⟨r + 1, d⟩ w) := by
  obtain ⟨Z, hZ⟩ : ∃ Z, Z = DoEnd a b g n z th ⟨r + 1, d⟩ w := ⟨_, rfl⟩
  rw [← hZ]
  have hZ' := Lib.hid hZ
  have P' := Lib.hid P
  have hX' := Lib.hid P.hX
  have hW' := Lib.hid P.hW
  obtain ⟨c2, f2, y0, y1, k1, hla, hlX⟩ := P.cells
  clear P hZ
  have hfin := Lib.hid (show Z (.returned (.tuple #[])) (W.setCell ⟨a, 2, none⟩ (.int .i64 ((r : Int) + 1))) from by
    rw [hZ'.out]
    obtain ⟨q1, q2⟩ := do_reg P'.out.H P'.out.hO (r + 1) (v := .int .i64 ((r : Int) + 1)) (by first | (push_cast; rfl) | (congr 1; omega))
    exact ⟨rfl, q1, q2⟩)
  go_enter Try.func80, Try.ntmps80
  go_upto_region 1 with fail
  rw [← hX'.out, ← hW'.out]
  go_wp2
  go_end0
  exact hfin.out

set_option maxRecDepth 100000 in
set_option maxHeartbeats 2000000 in
theorem do4 {w W : World} {a b g n X : Nat} {z : Nat → Int} {th : Int} {r : Nat} {d : Nat → Bool} {A B : Int} (P : Pre w W a b g n X z th r d 4 A B) (hr : r ≤ 1000000) : Calls Try.prog 80 #[.pointer (some ⟨a, 0, none⟩), .agg #[.int .i64 4, .int .i64 A, .int .i64 B]] w (DoEnd a b g n z th ⟨r - 1, d⟩ w) := by
  obtain ⟨Z, hZ⟩ : ∃ Z, Z = DoEnd a b g n z th ⟨r - 1, d⟩ w := ⟨_, rfl⟩
  rw [← hZ]
  have hZ' := Lib.hid hZ
  have P' := Lib.hid P
  have hX' := Lib.hid P.hX
  have hW' := Lib.hid P.hW
  obtain ⟨c2, f2, y0, y1, k1, hla, hlX⟩ := P.cells
  clear P hZ
  by_cases h0 : r = 0
  · have hfin := Lib.hid (show Z (.returned (.tuple #[])) (W.setCell ⟨a, 2, none⟩ (.int .i64 0)) from by
      rw [hZ'.out]
      obtain ⟨q1, q2⟩ := do_reg P'.out.H P'.out.hO (r - 1) (v := .int .i64 0) (by rw [h0]; rfl)
      exact ⟨rfl, q1, q2⟩)
    have h1 : ¬ (0 : Int) ≤ (r : Int) - 1 := by omega
    clear h0
    go_enter Try.func80, Try.ntmps80
    go_upto_region 1 with fail
    rw [← hX'.out, ← hW'.out]
    go_wp2
    go_end0
    exact hfin.out
  · have hfin := Lib.hid (show Z (.returned (.tuple #[])) (W.setCell ⟨a, 2, none⟩ (.int .i64 ((r : Int) - 1))) from by
      rw [hZ'.out]
      obtain ⟨q1, q2⟩ := do_reg P'.out.H P'.out.hO (r - 1) (v := .int .i64 ((r : Int) - 1)) (by congr 1; omega)
      exact ⟨rfl, q1, q2⟩)
    have h1 : (0 : Int) ≤ (r : Int) - 1 := by omega
    clear h0
    go_enter Try.func80, Try.ntmps80
    go_upto_region 1 with fail
    rw [← hX'.out, ← hW'.out]
    go_wp2
    go_end0
    exact hfin.out

set_option maxRecDepth 100000 in
set_option maxHeartbeats 2000000 in
theorem do5 {w W : World} {a b g n X : Nat} {z : Nat → Int} {th : Int} {r : Nat} {d : Nat → Bool} {A B : Int} (P : Pre w W a b g n X z th r d 5 A B) (_hr : r ≤ 1000000) : Calls Try.prog 80 #[.pointer (some ⟨a, 0, none⟩), .agg #[.int .i64 5, .int .i64 A, .int .i64 B]] w (DoEnd a b g n z th ⟨r, setD d A true⟩ w) := by
  obtain ⟨Z, hZ⟩ : ∃ Z, Z = DoEnd a b g n z th ⟨r, setD d A true⟩ w := ⟨_, rfl⟩
  rw [← hZ]
  have hZ' := Lib.hid hZ
  have P' := Lib.hid P
  have hX' := Lib.hid P.hX
  have hW' := Lib.hid P.hW
  obtain ⟨c2, f2, y0, y1, k1, hla, hlX⟩ := P.cells
  clear P hZ
  have hlk := Lib.hid (fun W0 (h0 : Only (fun _ => False) W W0) => lockU_any (P'.out.H.lk.new (P'.out.hO.trans' h0)) A)
  have hkeep := Lib.hid P'.out.keep
  have hfin := Lib.hid (fun (W0 w3 : World) (v : Int) (h0 : Only (fun _ => False) W W0) (hL : LkAt w3 b g n z (fun _ => 0) (setD d A true)) (ho : Only (fun k => k = g) W0 w3) => show Z (.returned (.tuple #[])) w3 from by
    rw [hZ'.out]
    obtain ⟨q1, q2⟩ := do_lk P'.out.H (P'.out.hO.trans' h0) hL ho
    exact ⟨rfl, q1, q2⟩)
  go_enter Try.func80, Try.ntmps80
  go_upto_region 1 with fail
  rw [← hX'.out, ← hW'.out]
  go_wp2_with fail
  go_region_held3 (fun W0 => W0.cell? ⟨a, 1, none⟩ = some (.pointer (some ⟨b, 0, none⟩)) ∧ W0.cell? ⟨X, 1, none⟩ = some (.int .i64 A) ∧ a < W0.heap.size ∧ X < W0.heap.size)
    (exact hkeep.out _ (by repeat (first | assumption | exact Only.refl _ _ | apply Only.drew)))
    (first
      | (go_at_call 93; (with_reducible refine (hlk.out _ (by repeat (first | assumption | exact Only.refl _ _ | apply Only.drew))).mono ?_); rintro _ w3 ⟨v, rfl, hL3, ho3⟩; have hend := Lib.hid (hfin.out _ w3 v (by repeat (first | assumption | exact Only.refl _ _ | apply Only.drew)) hL3 ho3); have hO9 : Only (fun k => k = g) W w3 := Only.trans' (by repeat (first | assumption | exact Only.refl _ _ | apply Only.drew)) ho3; clear hL3 ho3))
  all_goals
    go_wp2
    go_end0
    exact hend.out

set_option maxRecDepth 100000 in
set_option maxHeartbeats 2000000 in
theorem do6 {w W : World} {a b g n X : Nat} {z : Nat → Int} {th : Int} {r : Nat} {d : Nat → Bool} {A B : Int} (P : Pre w W a b g n X z th r d 6 A B) (_hr : r ≤ 1000000) : Calls Try.prog 80 #[.pointer (some ⟨a, 0, none⟩), .agg #[.int .i64 6, .int .i64 A, .int .i64 B]] w (DoEnd a b g n z th ⟨r, setD d A false⟩ w) := by
  obtain ⟨Z, hZ⟩ : ∃ Z, Z = DoEnd a b g n z th ⟨r, setD d A false⟩ w := ⟨_, rfl⟩
  rw [← hZ]
  have hZ' := Lib.hid hZ
  have P' := Lib.hid P
  have hX' := Lib.hid P.hX
  have hW' := Lib.hid P.hW
  obtain ⟨c2, f2, y0, y1, k1, hla, hlX⟩ := P.cells
  clear P hZ
  have hlk := Lib.hid (fun W0 (h0 : Only (fun _ => False) W W0) => unlockU_any (P'.out.H.lk.new (P'.out.hO.trans' h0)) A)
  have hkeep := Lib.hid P'.out.keep
  have hfin := Lib.hid (fun (W0 w3 : World) (v : Int) (h0 : Only (fun _ => False) W W0) (hL : LkAt w3 b g n z (fun _ => 0) (setD d A false)) (ho : Only (fun k => k = g) W0 w3) => show Z (.returned (.tuple #[])) w3 from by
    rw [hZ'.out]
    obtain ⟨q1, q2⟩ := do_lk P'.out.H (P'.out.hO.trans' h0) hL ho
    exact ⟨rfl, q1, q2⟩)
  go_enter Try.func80, Try.ntmps80
  go_upto_region 1 with fail
  rw [← hX'.out, ← hW'.out]
  go_wp2_with fail
  go_region_held3 (fun W0 => W0.cell? ⟨a, 1, none⟩ = some (.pointer (some ⟨b, 0, none⟩)) ∧ W0.cell? ⟨X, 1, none⟩ = some (.int .i64 A) ∧ a < W0.heap.size ∧ X < W0.heap.size)
    (exact hkeep.out _ (by repeat (first | assumption | exact Only.refl _ _ | apply Only.drew)))
    (first
      | (go_at_call 94; (with_reducible refine (hlk.out _ (by repeat (first | assumption | exact Only.refl _ _ | apply Only.drew))).mono ?_); rintro _ w3 ⟨v, rfl, hL3, ho3⟩; have hend := Lib.hid (hfin.out _ w3 v (by repeat (first | assumption | exact Only.refl _ _ | apply Only.drew)) hL3 ho3); have hO9 : Only (fun k => k = g) W w3 := Only.trans' (by repeat (first | assumption | exact Only.refl _ _ | apply Only.drew)) ho3; clear hL3 ho3))
  all_goals
    go_wp2
    go_end0
    exact hend.out

set_option maxRecDepth 100000 in
set_option maxHeartbeats 2000000 in
theorem do0 {w W : World} {a b g n X : Nat} {z : Nat → Int} {th : Int} {r : Nat} {d : Nat → Bool} {K A B : Int} (P : Pre w W a b g n X z th r d K A B) (_hr : r ≤ 1000000) (h3 : K ≠ 3) (h4 : K ≠ 4) (h5 : K ≠ 5) (h6 : K ≠ 6) : Calls Try.prog 80 #[.pointer (some ⟨a, 0, none⟩), .agg #[.int .i64 K, .int .i64 A, .int .i64 B]] w (DoEnd a b g n z th ⟨r, d⟩ w) := by
  obtain ⟨Z, hZ⟩ : ∃ Z, Z = DoEnd a b g n z th ⟨r, d⟩ w := ⟨_, rfl⟩
  rw [← hZ]
  have hZ' := Lib.hid hZ
  have P' := Lib.hid P
  have hX' := Lib.hid P.hX
  have hW' := Lib.hid P.hW
  obtain ⟨c2, f2, y0, y1, k1, hla, hlX⟩ := P.cells
  clear P hZ
  have g3 : (K == 3) = false := beq_eq_false_iff_ne.2 h3
  have g4 : (K == 4) = false := beq_eq_false_iff_ne.2 h4
  have g5 : (K == 5) = false := beq_eq_false_iff_ne.2 h5
  have g6 : (K == 6) = false := beq_eq_false_iff_ne.2 h6
  have hfin := Lib.hid (show Z (.returned (.tuple #[])) W from by
    rw [hZ'.out]
    exact ⟨rfl, P'.out.H.new P'.out.hO, P'.out.hO.mono (fun _ _ h => h.elim)⟩)
  clear h3 h4 h5 h6
  go_enter Try.func80, Try.ntmps80
  go_upto_region 1 with fail
  rw [← hX'.out, ← hW'.out]
  go_wp2
  go_end0
  exact hfin.out

theorem wdo_any {w : World} {a b g n : Nat} {z : Nat → Int} {th : Int} {s : St} (H : WkAt w a b g n z th s) (hr : s.reg ≤ 1000000) (o : Opn) : Calls Try.prog 80 #[.pointer (some ⟨a, 0, none⟩), o.val] w (DoEnd a b g n z th (doS s o) w) := by
  obtain ⟨K, A, B⟩ := o
  obtain ⟨r, d⟩ := s
  have P := Pre.mk' H K A B
  show Calls Try.prog 80 #[.pointer (some ⟨a, 0, none⟩), .agg #[.int .i64 K, .int .i64 A, .int .i64 B]] w _
  by_cases h3 : K = 3
  · subst h3; exact do3 P hr
  by_cases h4 : K = 4
  · subst h4; exact do4 P hr
  by_cases h5 : K = 5
  · subst h5; exact do5 P hr
  by_cases h6 : K = 6
  · subst h6; exact do6 P hr
  have e : doS ⟨r, d⟩ ⟨K, A, B⟩ = ⟨r, d⟩ := by unfold doS; simp [h3, h4, h5, h6]
  rw [e]
  exact do0 P hr h3 h4 h5 h6
end Sct
end Go.Proofs.Ytdoimkmhincmmaa
