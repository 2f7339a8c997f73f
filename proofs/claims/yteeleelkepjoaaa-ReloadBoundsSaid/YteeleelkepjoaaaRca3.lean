/- The reference's cache: accesses, twins. -/
import Derived.Test.YteeleelkepjoaaaRca2
import Derived.Deep.RegionHeld3
import Derived.Deep.RegionLaw
namespace Go.Proofs.Yteeleelkepjoaaa
namespace Rca
open Go Go.RowKit

def AccEnd (a S W : Nat) (U : List Nat) (b : Nat) (w : World) (e : Ending) (w' : World) : Prop :=
  e = .returned (.bool (Lru.hitB S W U.reverse b)) ∧ ∃ h', RC w' a S W h' (U ++ [b]) ∧ Only (fun k => k = a) w w' ∧ (∀ g, h' = some g → w.heap.size ≤ g)
theorem dat_append (A B : List Nat) : dat A ++ dat B = dat (A ++ B) := by simp [dat]

theorem acc_end {w w2 : World} {a S W n : Nat} {U : List Nat} {b : Nat} {p q : Option Addr} {c cq : Nat} {h2 : Option Nat} (hn : n = U.length) (hb : w.heap[a]? = some (.cells #[.int .i64 (S : Int), .int .i64 (W : Int), .slice p n c] 42 (0, 0)))
    (hO : Only (fun _ => False) w w2) (hW : Win w2 3 1 (.slice q (n + 1) cq) h2 (n + 1) (dat U ++ [.int .i64 (b : Int)])) (hf : ∀ g, h2 = some g → w.heap.size ≤ g) :
    ∃ h', RC (w2.setCell ⟨a, 2, none⟩ (.slice q (n + 1) cq)) a S W h' (U ++ [b]) ∧ Only (fun k => k = a) w (w2.setCell ⟨a, 2, none⟩ (.slice q (n + 1) cq)) ∧ (∀ g, h' = some g → w.heap.size ≤ g) := by
  have hl := row_lt hb
  have h1 := hO.heap hb (fun h => h)
  have h2' := row_set (L := [.int .i64 (S : Int), .int .i64 (W : Int), .slice p n c]) h1 2 (.slice q (n + 1) cq)
  have ho : Only (fun k => k = a) w2 (w2.setCell ⟨a, 2, none⟩ (.slice q (n + 1) cq)) := (Only.refl (fun k => k = a) w2).setCell (p := ⟨a, 2, none⟩) (fun _ => rfl) _
  refine ⟨h2, ⟨q, cq, ?_, ?_⟩, ((hO.mono (fun _ _ h => h.elim)).trans' ho), hf⟩
  · rw [List.length_append, ← hn]
    exact h2'
  · have hW' := hW.kept ho (fun g hg e => by have := hf g hg; omega)
    rw [List.length_append, ← hn]
    rw [show [Value.int .i64 (b : Int)] = dat [b] from rfl, dat_append] at hW'
    exact hW'

set_option maxRecDepth 100000 in
set_option maxHeartbeats 2000000 in
theorem access_any {w : World} {a S W : Nat} {h : Option Nat} {U : List Nat} (H : RC w a S W h U) (hS : 0 < S) (hU : U.length ≤ 1000000) (hW : W ≤ 1000) (b : Nat) (hb : b ≤ 255) :
    Calls Try.prog 10 #[.pointer (some ⟨a, 0, none⟩), .int .i64 (b : Int)] w (AccEnd a S W U b w) := by
  obtain ⟨Z, hZ⟩ : ∃ Z, Z = AccEnd a S W U b w := ⟨_, rfl⟩
  rw [← hZ]
  have hZ' := Lib.hid hZ
  have q1 := Lib.hid (age_any H hS hU hW b hb)
  have hh : (decide (0 ≤ ageZ (rowL S W (b % S) U) b)) = Lru.hitB S W U.reverse b := age_hit
  obtain ⟨B, hB⟩ : ∃ B, B = Lru.hitB S W U.reverse b := ⟨_, rfl⟩
  rw [← hB] at hh
  have hB' := Lib.hid hB
  obtain ⟨z, hz⟩ : ∃ z, z = ageZ (rowL S W (b % S) U) b := ⟨_, rfl⟩
  rw [← hz] at q1 hh
  obtain ⟨p, c, hbx, hWin⟩ := H.box
  obtain ⟨n, hn⟩ : ∃ n, n = U.length := ⟨_, rfl⟩
  rw [← hn] at hbx hWin hU
  have hn' := Lib.hid hn
  have hbx' := Lib.hid hbx
  have hWin' := Lib.hid hWin
  have hlt := row_lt hbx
  clear H hn hbx hWin hZ hB hz
  go_enter Try.func10, Try.ntmps10
  go_wp2_with fail
  refine q1.out.mono ?_
  rintro e w0 ⟨rfl, hO⟩
  have hO' := Lib.hid hO
  have hb0 := Lib.hid (hO.heap hbx'.out (fun h => h))
  have c2 := row_cell hb0.out (i := 2) rfl
  have hW0 := Lib.hid (hWin'.out.kept hO (fun _ _ h => h))
  have hlt0 := Nat.lt_of_lt_of_le hlt hO.size
  have hlen : (dat U).length = n * 1 := by rw [dat_length, ← hn'.out]; omega
  have hlen' := Lib.hid hlen
  have hone := dat_one U
  have hone' := Lib.hid hone
  clear hO q1 hlen hone
  have hfin : ∀ (w2 : World) (q : Option Addr) (cq : Nat) (h2 : Option Nat), Only (fun _ => False) w0 w2 → Win w2 3 1 (.slice q (n + 1) cq) h2 (n + 1) (dat U ++ [.int .i64 (b : Int)]) → (∀ g, h2 = some g → w0.heap.size ≤ g) → Z (.returned (.bool B)) (w2.setCell ⟨a, 2, none⟩ (.slice q (n + 1) cq)) := by
    intro w2 q cq h2 o1 o2 o3
    rw [hZ'.out, hB'.out]
    refine ⟨rfl, ?_⟩
    exact acc_end hn'.out hbx'.out (hO'.out.trans' o1) o2 (fun g hg => Nat.le_trans hO'.out.size (o3 g hg))
  have hfin' := Lib.hid hfin
  clear hfin
  go_wp2_with (at_builtin; first
    | ((refine wpList_append_win rfl (.tmp 11) (.tmp 15) 24 rfl 3 (Value.int .i64 0) 1 8 Try.underlying24 info3 rfl (by decide) (v := .slice (some ⟨w0.heap.size, 0, none⟩) 0 0) rfl (Win.empty _ 3 1 _) p n c rfl (dat U) hlen'.out ((hW0.out.kept ((Only.refl (fun _ => False) w0).alloc _) (fun _ _ h => h)).src) hone'.out (by unfold maxLen; omega) (by omega) ?_; intro v1 w1 h1 hW1 hO1 hh1; obtain ⟨p1, c1, rfl, _, _⟩ := hW1.out.form; have hW1b := Lib.hid (show Win w1 3 1 (.slice p1 n c1) h1 n (dat U) from by simpa using hW1.out)))
    | ((refine wpList_append_win rfl (.tmp 16) (.tmp 18) 24 rfl 3 (Value.int .i64 0) 1 8 Try.underlying24 info3 rfl (by decide) (v := .slice p1 n c1) rfl (hW1b.out.kept ((Only.refl (fun _ => False) w1).alloc _) (fun _ _ h => h)) _ 1 1 rfl [.int .i64 (b : Int)] rfl (fun _ => ⟨_, rfl, row_one (heap_new_at _ _ rfl)⟩) (by simp [Value.oneCell']) (by unfold maxLen; omega) (by omega) ?_; intro v2 w2 h2 hW2 hO2 hh2; obtain ⟨p2, c2', rfl, _, _⟩ := hW2.out.form; have hb2 := hO2.out.heap (heap_kept_alloc (hO1.out.heap (heap_kept_alloc hb0.out _) (fun e => by cases e)) _) (fun e => by
        rcases hh1.out with h9 | ⟨g9, h9, hge⟩
        · rw [h9] at e; cases e
        · rw [h9] at e; cases e
          rw [alloc_size] at hge
          omega); have d2 := row_cell (L := [.int .i64 (S : Int), .int .i64 (W : Int), .slice p n c]) hb2 (i := 2) rfl; have f2 := row_free (L := [.int .i64 (S : Int), .int .i64 (W : Int), .slice p n c]) hb2 2; have l2 := row_lt hb2; clear hb2)))
  go_wp2
  refine hfin'.out _ _ _ h2 ?_ hW2.out (fun g hg => ?_)
  · exact ((((Only.refl (fun _ => False) w0).alloc _).trans hO1.out (fun x hx e => by cases e)).alloc _).trans hO2.out (fun x hx e => by
      rcases hh1.out with h9 | ⟨g9, h9, hge⟩
      · rw [h9] at e; cases e
      · rw [h9] at e; cases e
        rw [alloc_size] at hge
        omega)
  · have z1 := hO1.out.size
    rw [alloc_size] at z1
    rcases hh2.out with h9 | ⟨g9, h9, hge⟩
    · rw [h9] at hg
      rcases hh1.out with h8 | ⟨g8, h8, hge⟩
      · rw [h8] at hg; cases hg
      · rw [h8] at hg; cases hg
        rw [alloc_size] at hge
        omega
    · rw [h9] at hg; cases hg
      rw [alloc_size] at hge
      omega

def TwinEnd (S W : Nat) (U : List Nat) (w : World) (e : Ending) (w' : World) : Prop :=
  ∃ x h', e = .returned (.pointer (some ⟨x, 0, none⟩)) ∧ RC w' x S W h' U ∧ Only (fun _ => False) w w' ∧ w.heap.size ≤ x ∧ (∀ g, h' = some g → w.heap.size ≤ g)
theorem twin_end {w w1 W2 : World} {S W n : Nat} {U : List Nat} {q : Option Addr} {cq : Nat} {h1 : Option Nat} (hn : n = U.length) (hO : Only (fun _ => False) w w1) (hW : Win w1 3 1 (.slice q n cq) h1 n (dat U)) (hf : ∀ g, h1 = some g → w.heap.size ≤ g)
    (hO2 : Only (fun _ => False) w1 W2) {z : Nat} (hz : z = W2.heap.size) : TwinEnd S W U w (.returned (.pointer (some ⟨z, 0, none⟩))) (W2.alloc (.cells #[.int .i64 (S : Int), .int .i64 (W : Int), .slice q n cq] 42)) := by
  subst hz
  subst hn
  have ho := (Only.refl (fun _ => False) W2).alloc (.cells #[.int .i64 (S : Int), .int .i64 (W : Int), .slice q U.length cq] 42)
  refine ⟨_, h1, rfl, ⟨q, cq, heap_new_at W2 _ rfl, hW.kept (hO2.trans' ho) (fun _ _ h => h)⟩, (hO.trans' hO2).trans' ho, Nat.le_trans hO.size hO2.size, hf⟩

set_option maxRecDepth 100000 in
set_option maxHeartbeats 2000000 in
theorem twin_any {w : World} {a S W : Nat} {h : Option Nat} {U : List Nat} (H : RC w a S W h U) (hU : U.length ≤ 1000000) :
    Calls Try.prog 11 #[.pointer (some ⟨a, 0, none⟩)] w (TwinEnd S W U w) := by
  obtain ⟨Z, hZ⟩ : ∃ Z, Z = TwinEnd S W U w := ⟨_, rfl⟩
  rw [← hZ]
  have hZ' := Lib.hid hZ
  obtain ⟨p, c, hbx, hWin⟩ := H.box
  obtain ⟨n, hn⟩ : ∃ n, n = U.length := ⟨_, rfl⟩
  rw [← hn] at hbx hWin hU
  have hn' := Lib.hid hn
  have hlt := row_lt hbx
  have c0 := row_cell hbx (i := 0) rfl
  have c1 := row_cell hbx (i := 1) rfl
  have c2 := row_cell hbx (i := 2) rfl
  have hkeep := Lib.hid (fun W0 (h0 : Only (fun _ => False) w W0) => show W0.cell? ⟨a, 0, none⟩ = some (.int .i64 (S : Int)) ∧ W0.cell? ⟨a, 1, none⟩ = some (.int .i64 (W : Int)) ∧ W0.cell? ⟨a, 2, none⟩ = some (.slice p n c) ∧ a < W0.heap.size from by
    have q := h0.heap hbx (fun h => h)
    exact ⟨row_cell q (i := 0) rfl, row_cell q (i := 1) rfl, row_cell q (i := 2) rfl, row_lt q⟩)
  have hsrc := Lib.hid (fun W0 (h0 : Only (fun _ => False) w W0) => (hWin.kept h0 (fun _ _ h => h)).src)
  have hlen' := Lib.hid (show (dat U).length = n * 1 by rw [dat_length, ← hn]; omega)
  have hone' := Lib.hid (dat_one U)
  clear H hn hbx hWin hZ
  go_enter Try.func11, Try.ntmps11
  go_wp2
  go_region_held3 (fun W' => W'.cell? ⟨a, 0, none⟩ = some (.int .i64 (S : Int)) ∧ W'.cell? ⟨a, 1, none⟩ = some (.int .i64 (W : Int)) ∧ W'.cell? ⟨a, 2, none⟩ = some (.slice p n c) ∧ a < W'.heap.size)
    (exact hkeep.out _ (by repeat (first | assumption | exact Only.refl _ _ | apply Only.drew | apply Only.alloc)))
    (first
      | (refine step_append_win rfl (.tmp 11) (.tmp 15) 24 rfl 3 (Value.int .i64 0) 1 8 Try.underlying24 info3 rfl (by decide) (v := .slice (some ⟨_, 0, none⟩) 0 0) (by rfl) (Win.empty _ 3 1 _) p n c (by rfl) (dat U) hlen'.out (hsrc.out _ (by repeat (first | assumption | exact Only.refl _ _ | apply Only.drew | apply Only.alloc))) hone'.out (by unfold maxLen; omega) (by omega) ?_; intro v1 w1 h1 hW1 hO1 hh1; obtain ⟨p1, c1, rfl, _, _⟩ := hW1.out.form; have hW1b := Lib.hid (show Win w1 3 1 (.slice p1 n c1) h1 n (dat U) from by simpa using hW1.out); have hO1b := Lib.hid (ord_only hO1.out); have hO1c : Only (fun _ => False) w w1 := Only.trans' (by repeat (first | assumption | exact Only.refl _ _ | apply Only.drew | apply Only.alloc)) hO1b.out))
  have hfin : Z (.returned (.pointer (some ⟨w1.heap.size, 0, none⟩))) (w1.alloc (.cells #[.int .i64 (S : Int), .int .i64 (W : Int), .slice p1 n c1] 42)) := by
    rw [hZ'.out]
    refine twin_end hn'.out hO1c hW1b.out (fun g hg => ?_) (Only.refl _ _) rfl
    rcases hh1.out with h9 | ⟨g9, h9, hge⟩
    · rw [h9] at hg; cases hg
    · rw [h9] at hg; cases hg
      simp [World.drew] at hge
      omega
  have hfin' := Lib.hid hfin
  clear hfin
  go_wp2
  exact hfin'.out
end Rca
end Go.Proofs.Yteeleelkepjoaaa
