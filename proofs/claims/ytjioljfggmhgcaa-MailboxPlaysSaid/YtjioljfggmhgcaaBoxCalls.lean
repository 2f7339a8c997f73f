/- Sending, receiving, telling all. -/
import Derived.Test.YtjioljfggmhgcaaBoxNew
namespace Go.Proofs.Ytjioljfggmhgcaa
open Go Go.RowKit RingI

theorem all_ring_nil (w : World) : Calls Try.prog 16 #[.pointer none] w fun e w' => e = .returned (.slice none 0 0) ∧ w = w' := by
  go_enter Try.func16, Try.ntmps16
  go_wp2_with (go_at_call 20; refine (len_nil _).mono ?_; rintro e w' ⟨rfl, rfl⟩)
  go_ret
  exact ⟨rfl, rfl⟩
theorem all_ring_none {w : World} {r : Nat} {o : Option Nat} {room : Nat} (h : RingAt w r o room []) : Calls Try.prog 16 #[.pointer (some ⟨r, 0, none⟩)] w fun e w' => e = .returned (.slice none 0 0) ∧ w = w' := by
  go_enter Try.func16, Try.ntmps16
  go_wp2_with (go_at_call 20; refine (len_any h).mono ?_; rintro e w' ⟨rfl, rfl⟩)
  go_ret
  exact ⟨rfl, rfl⟩

/-- All that is in it. -/
def AllEnd (w : World) (q : List Int) (e : Ending) (w' : World) : Prop :=
  ∃ v h, e = .returned v ∧ Win w' 3 1 v h q.length (q.map mk) ∧ Only (fun _ => False) w w'

theorem all_some {w : World} {r room : Nat} {o : Option Nat} {x : Int} {q : List Int} (hR : RingAt w r o room (x :: q)) :
    Calls Try.prog 16 #[.pointer (some ⟨r, 0, none⟩)] w (AllEnd w (x :: q)) := by
  obtain ⟨g, rfl⟩ : ∃ g, o = some g := by
    obtain ⟨g, _, _, h, _⟩ := hR.slot
    exact ⟨g, h⟩
  obtain ⟨first, L, c0, c1, c2, c3, f0, f1, f2, f3, h1, h2, h3⟩ := hR.cells
  obtain ⟨hb1, hb2⟩ := hR.bounds
  obtain ⟨k, hk⟩ : ∃ k, k = (x :: q).length := ⟨_, rfl⟩
  obtain ⟨Q, hQ⟩ : ∃ Q, Q = x :: q := ⟨_, rfl⟩
  rw [← hk] at c2 hb1
  have hk0 : ((k : Int) == 0) = false := by rw [hk]; simp; omega
  rw [← hQ] at hk hR ⊢
  obtain ⟨B, hB⟩ : ∃ B, B = w.heap.size := ⟨_, rfl⟩
  have hrB : r < B := hB ▸ hR.lt r (.inl rfl)
  have hgB : g < B := hB ▸ hR.lt g (.inr rfl)
  have hlen := len_any hR
  rw [← hk] at hlen
  have hmk := fun W => run_make_row' (P := Try.prog) 22 3 (Value.int .i64 0) 8 Try.underlying22 infoE rfl .i64 .i64 k (by omega) (by omega) W
  have hm : madeCells #[Value.int .i64 0] k = (List.replicate k (Value.int .i64 0)).toArray := by rw [← toList_madeCells_one]
  rw [hm] at hmk
  have hlay : ∀ W : World, W = w.alloc (.cells (List.replicate k (Value.int .i64 0)).toArray 3) → Calls Try.prog 21 #[.pointer (some ⟨r, 0, none⟩), .slice (some ⟨B, 0, none⟩) k k] W (Lay B Q (List.replicate k (Value.int .i64 0)) W) := by
    rintro _ rfl
    have hRW := hR.kept ((Only.refl (fun _ => False) w).alloc (.cells (List.replicate k (Value.int .i64 0)).toArray 3)) (fun _ _ h => h)
    have := lay_some (h := B) (D := List.replicate k (Value.int .i64 0)) (cap := k) hRW (by rw [hB]; exact heap_alloc_new _ _) ⟨by omega, by omega⟩ (by rw [List.length_replicate, hk]; exact Nat.le_refl _) (by omega) (by omega)
    rw [← hk] at this
    exact this
  have hlen' := Lib.hid hlen
  have hlay' := Lib.hid hlay
  have hB' := Lib.hid hB
  have hk' := Lib.hid hk
  clear hlen hlay hB hk hR c0 c1 c3 f0 f1 f2 f3 h1 h2 h3 hQ hm
  go_enter Try.func16, Try.ntmps16
  go_wp2_with (go_at_call 20; refine hlen'.out.mono ?_; rintro e w' ⟨rfl, rfl⟩)
  rw [← hB'.out]
  refine (hlay'.out _ rfl).mono ?_
  rintro e W ⟨rfl, hD, ho⟩
  go_wp2
  go_ret
  refine ⟨_, some B, rfl, ?_, ?_⟩
  · rw [← hk'.out]
    refine Win.of_row ?_ (by simp [hk'.out]) (by unfold maxLen; omega)
    rw [hD, ← hk'.out]
    simp [hk'.out]
  · exact ((Only.refl (fun _ => False) _).alloc _).trans ho (fun y hy e => by have := hB'.out; omega)

theorem all_ring {w : World} {r room : Nat} {o : Option Nat} {q : List Int} (hR : RingAt w r o room q) : Calls Try.prog 16 #[.pointer (some ⟨r, 0, none⟩)] w (AllEnd w q) := by
  cases q with
  | nil => exact (all_ring_none hR).mono fun e w' ⟨h1, h2⟩ => ⟨_, none, h1, Win.nil _ _ _, h2 ▸ Only.refl _ _⟩
  | cons x q => exact all_some hR

theorem send_nil (i v : Int) (w : World) : Calls Try.prog 8 #[.pointer none, .int .i64 i, .int .i64 v] w fun e w' => e = .returned (.int .i64 6) ∧ w = w' := by
  go_enter Try.func8, Try.ntmps8
  go_wp2_with (go_at_call 13; refine (has_nil _ _).mono ?_; rintro e w' ⟨rfl, rfl⟩)
  go_ret
  exact ⟨rfl, rfl⟩
theorem recv_nil (i : Int) (w : World) : Calls Try.prog 7 #[.pointer none, .int .i64 i] w fun e w' => e = .returned (.tuple #[.int .i64 0, .int .i64 6]) ∧ w = w' := by
  go_enter Try.func7, Try.ntmps7
  go_wp2_with (go_at_call 13; refine (has_nil _ _).mono ?_; rintro e w' ⟨rfl, rfl⟩)
  go_ret2
  exact ⟨rfl, rfl⟩

section
variable {w : World} {B b g n : Nat} {r room : Nat → Nat} {o : Nat → Option Nat} {q : Nat → List Int}

theorem send_no (h : BoxesAt w B b g n r room o q) {i : Int} (hi : i < 0 ∨ n ≤ i) (v : Int) : Calls Try.prog 8 #[.pointer (some ⟨b, 0, none⟩), .int .i64 i, .int .i64 v] w fun e w' => e = .returned (.int .i64 6) ∧ w = w' := by
  have hh := Lib.hid (has_no h.cells.1 hi)
  clear h hi
  go_enter Try.func8, Try.ntmps8
  go_wp2_with (go_at_call 13; refine hh.out.mono ?_; rintro e w' ⟨rfl, rfl⟩)
  go_ret
  exact ⟨rfl, rfl⟩
theorem recv_no (h : BoxesAt w B b g n r room o q) {i : Int} (hi : i < 0 ∨ n ≤ i) : Calls Try.prog 7 #[.pointer (some ⟨b, 0, none⟩), .int .i64 i] w fun e w' => e = .returned (.tuple #[.int .i64 0, .int .i64 6]) ∧ w = w' := by
  have hh := Lib.hid (has_no h.cells.1 hi)
  clear h hi
  go_enter Try.func7, Try.ntmps7
  go_wp2_with (go_at_call 13; refine hh.out.mono ?_; rintro e w' ⟨rfl, rfl⟩)
  go_ret2
  exact ⟨rfl, rfl⟩
theorem all_no (h : BoxesAt w B b g n r room o q) {i : Int} (hi : i < 0 ∨ n ≤ i) : Calls Try.prog 9 #[.pointer (some ⟨b, 0, none⟩), .int .i64 i] w fun e w' => e = .returned (.slice none 0 0) ∧ w = w' := by
  have hh := Lib.hid (has_no h.cells.1 hi)
  clear h hi
  go_enter Try.func9, Try.ntmps9
  go_wp2_with (go_at_call 13; refine hh.out.mono ?_; rintro e w' ⟨rfl, rfl⟩)
  go_ret
  exact ⟨rfl, rfl⟩

def SendEnd (w : World) (B b g n : Nat) (r room : Nat → Nat) (o : Nat → Option Nat) (q : Nat → List Int) (i : Nat) (v : Int) (e : Ending) (w' : World) : Prop :=
  e = .returned (.int .i64 0) ∧ ∃ o', BoxesAt w' B b g n r room (upd o i o') (upd q i (q i ++ [v])) ∧ (o' = o i ∨ o' = some w.heap.size) ∧ Only (fp (r i) (o i)) w w'
theorem send_room (h : BoxesAt w B b g n r room o q) {i : Nat} (hi : i < n) (hroom : (q i).length < room i) (v : Int) : Calls Try.prog 8 #[.pointer (some ⟨b, 0, none⟩), .int .i64 i, .int .i64 v] w (SendEnd w B b g n r room o q i v) := by
  have hh := Lib.hid (has_yes h.cells.1 hi)
  obtain ⟨c0, c1⟩ := h.cells
  replace c1 := c1 i hi
  have hput := Lib.hid (put_any (h.rings i hi) hroom v)
  have hs := Lib.hid h
  have hi' : (i : Int) < n := by omega
  clear h hroom
  go_enter Try.func8, Try.ntmps8
  go_wp2_with (first | (go_at_call 13; refine hh.out.mono ?_; rintro e w' ⟨rfl, rfl⟩) | (go_at_call 15; refine hput.out.mono ?_; rintro e w3 ⟨rfl, o3, hR3, hoo, ho3⟩; have hE := Lib.hid (And.intro hR3 (And.intro hoo ho3)); clear hR3 hoo ho3))
  go_ret
  obtain ⟨h1, h2, h3⟩ := hE.out
  exact ⟨rfl, o3, hs.out.step hi h1 h2 h3, h2, h3⟩
theorem send_full (h : BoxesAt w B b g n r room o q) {i : Nat} (hi : i < n) (hfull : (q i).length = room i) (v : Int) : Calls Try.prog 8 #[.pointer (some ⟨b, 0, none⟩), .int .i64 i, .int .i64 v] w fun e w' => e = .returned (.int .i64 7) ∧ ∃ m, w' = w.drewN m := by
  have hh := Lib.hid (has_yes h.cells.1 hi)
  obtain ⟨c0, c1⟩ := h.cells
  replace c1 := c1 i hi
  have hput := Lib.hid (put_full (h.rings i hi) hfull v)
  have hi' : (i : Int) < n := by omega
  clear h hfull
  go_enter Try.func8, Try.ntmps8
  go_wp2_with (first | (go_at_call 13; refine hh.out.mono ?_; rintro e w' ⟨rfl, rfl⟩) | (go_at_call 15; refine hput.out.mono ?_; rintro e _ ⟨rfl, m, rfl⟩))
  go_ret
  exact ⟨rfl, m, rfl⟩
theorem recv_none (h : BoxesAt w B b g n r room o q) {i : Nat} (hi : i < n) (hq : q i = []) : Calls Try.prog 7 #[.pointer (some ⟨b, 0, none⟩), .int .i64 i] w fun e w' => e = .returned (.tuple #[.int .i64 0, .int .i64 8]) ∧ w = w' := by
  have hh := Lib.hid (has_yes h.cells.1 hi)
  obtain ⟨c0, c1⟩ := h.cells
  replace c1 := c1 i hi
  have hR := h.rings i hi
  rw [hq] at hR
  have htk := Lib.hid (take_none hR)
  have hi' : (i : Int) < n := by omega
  clear h hq hR
  go_enter Try.func7, Try.ntmps7
  go_wp2_with (first | (go_at_call 13; refine hh.out.mono ?_; rintro e w' ⟨rfl, rfl⟩) | (go_at_call 14; refine htk.out.mono ?_; rintro e _ ⟨rfl, rfl⟩))
  go_ret2
  exact ⟨rfl, rfl⟩
def RecvEnd (w : World) (B b g n : Nat) (r room : Nat → Nat) (o : Nat → Option Nat) (q : Nat → List Int) (i : Nat) (x : Int) (t : List Int) (e : Ending) (w' : World) : Prop :=
  e = .returned (.tuple #[.int .i64 x, .int .i64 0]) ∧ BoxesAt w' B b g n r room o (upd q i t) ∧ Only (fp (r i) (o i)) w w'
theorem recv_some (h : BoxesAt w B b g n r room o q) {i : Nat} (hi : i < n) {x : Int} {t : List Int} (hq : q i = x :: t) : Calls Try.prog 7 #[.pointer (some ⟨b, 0, none⟩), .int .i64 i] w (RecvEnd w B b g n r room o q i x t) := by
  have hh := Lib.hid (has_yes h.cells.1 hi)
  obtain ⟨c0, c1⟩ := h.cells
  replace c1 := c1 i hi
  have hR := h.rings i hi
  rw [hq] at hR
  have htk := Lib.hid (take_some hR)
  have hi' : (i : Int) < n := by omega
  have hs := Lib.hid h
  clear h hq hR
  go_enter Try.func7, Try.ntmps7
  go_wp2_with (first | (go_at_call 13; refine hh.out.mono ?_; rintro e w' ⟨rfl, rfl⟩) | (go_at_call 14; refine htk.out.mono ?_; rintro e w3 ⟨rfl, hR3, ho3⟩; have hE := Lib.hid (And.intro hR3 ho3); clear hR3 ho3))
  go_ret2
  obtain ⟨h1, h2⟩ := hE.out
  have h3 := hs.out.step hi h1 (.inl rfl) h2
  rw [upd_same] at h3
  exact ⟨rfl, h3, h2⟩
theorem all_in (h : BoxesAt w B b g n r room o q) {i : Nat} (hi : i < n) : Calls Try.prog 9 #[.pointer (some ⟨b, 0, none⟩), .int .i64 i] w (AllEnd w (q i)) := by
  have hh := Lib.hid (has_yes h.cells.1 hi)
  obtain ⟨c0, c1⟩ := h.cells
  replace c1 := c1 i hi
  have htk := Lib.hid (all_ring (h.rings i hi))
  have hi' : (i : Int) < n := by omega
  clear h
  go_enter Try.func9, Try.ntmps9
  go_wp2_with (first | (go_at_call 13; refine hh.out.mono ?_; rintro e w' ⟨rfl, rfl⟩) | (go_at_call 16; refine htk.out.mono ?_; rintro e w3 ⟨v, hb, rfl, hW, ho3⟩; have hE := Lib.hid (And.intro hW ho3); clear hW ho3))
  go_ret
  obtain ⟨h1, h2⟩ := hE.out
  exact ⟨v, hb, rfl, h1, h2⟩
end
end Go.Proofs.Ytjioljfggmhgcaa
