/- The other calls of a ring of ints, and the fixed calls of the ring's statements. -/
import Derived.Test.YtbmegpcdcbfjmaaTakeI
namespace Go.Proofs.Ytbmegpcdcbfjmaa.RingI
open Go.RowKit

theorem room_nil (w : World) : Calls Try.prog 13 #[.pointer none] w fun e w' => e = .returned (.int .i64 0) ∧ w' = w := by
  go_enter Try.func13, Try.ntmps13
  go_wp2
  go_ret
  exact ⟨rfl, rfl⟩
theorem room_any {w : World} {r : Nat} {o : Option Nat} {room : Nat} {q : List Int} (h : RingAt w r o room q) : Calls Try.prog 13 #[.pointer (some ⟨r, 0, none⟩)] w fun e w' => e = .returned (.int .i64 room) ∧ w' = w := by
  obtain ⟨first, L, c0, c1, c2, c3, f0, f1, f2, f3, h1, h2, h3⟩ := h.cells
  clear h1 h2 h c0
  go_enter Try.func13, Try.ntmps13
  go_wp2
  go_ret
  exact ⟨rfl, rfl⟩
theorem all_nil (w : World) : Calls Try.prog 14 #[.pointer none] w fun e w' => e = .returned (.slice none 0 0) ∧ w' = w := by
  go_enter Try.func14, Try.ntmps14
  go_wp2_with (go_at_call 12; refine (len_nil _).mono ?_; rintro e w' ⟨rfl, rfl⟩)
  go_ret
  exact ⟨rfl, rfl⟩
theorem all_none {w : World} {r : Nat} {o : Option Nat} {room : Nat} (h : RingAt w r o room []) : Calls Try.prog 14 #[.pointer (some ⟨r, 0, none⟩)] w fun e w' => e = .returned (.slice none 0 0) ∧ w' = w := by
  go_enter Try.func14, Try.ntmps14
  go_wp2_with (go_at_call 12; refine (len_any h).mono ?_; rintro e w' ⟨rfl, rfl⟩)
  go_ret
  exact ⟨rfl, rfl⟩

/-- All that is in it, in a block of its own. -/
def AllEnd (w : World) (q : List Int) (e : Ending) (w' : World) : Prop :=
  e = .returned (.slice (some ⟨w.heap.size, 0, none⟩) q.length q.length) ∧ w'.heap[w.heap.size]? = some (.cells (q.map mk).toArray 3 (0, 0)) ∧ Only (fun _ => False) w w'

theorem all_some {w : World} {r room : Nat} {o : Option Nat} {x : Int} {q : List Int} (hR : RingAt w r o room (x :: q)) :
    Calls Try.prog 14 #[.pointer (some ⟨r, 0, none⟩)] w (AllEnd w (x :: q)) := by
  obtain ⟨g, rfl⟩ : ∃ g, o = some g := by
    obtain ⟨g, _, _, h, _⟩ := hR.slot
    exact ⟨g, h⟩
  obtain ⟨first, L, c0, c1, c2, c3, f0, f1, f2, f3, h1, h2, h3⟩ := hR.cells
  obtain ⟨hb1, hb2⟩ := hR.bounds
  obtain ⟨k, hk⟩ : ∃ k, k = (x :: q).length := ⟨_, rfl⟩
  obtain ⟨Q, hQ⟩ : ∃ Q, Q = x :: q := ⟨_, rfl⟩
  rw [← hk] at c2 hb1
  have hk0 : ((k : Int) == 0) = false := by rw [hk]; simp; omega
  rw [← hQ] at hk hR ⊢
  obtain ⟨B, hB⟩ : ∃ B, B = w.heap.size := ⟨_, rfl⟩
  have hrB : r < B := hB ▸ hR.lt r (.inl rfl)
  have hgB : g < B := hB ▸ hR.lt g (.inr rfl)
  have hlen := len_any hR
  rw [← hk] at hlen
  have hmk := fun W => run_make_row' (P := Try.prog) 22 3 (Value.int .i64 0) 8 Try.underlying22 infoE rfl .i64 .i64 k (by omega) (by omega) W
  have hm : madeCells #[Value.int .i64 0] k = (List.replicate k (Value.int .i64 0)).toArray := by rw [← toList_madeCells_one]
  rw [hm] at hmk
  have hlay : ∀ W : World, W = w.alloc (.cells (List.replicate k (Value.int .i64 0)).toArray 3) → Calls Try.prog 35 #[.pointer (some ⟨r, 0, none⟩), .slice (some ⟨B, 0, none⟩) k k] W (Lay B Q (List.replicate k (Value.int .i64 0)) W) := by
    rintro _ rfl
    have hRW := hR.kept ((Only.refl (fun _ => False) w).alloc (.cells (List.replicate k (Value.int .i64 0)).toArray 3)) (fun _ _ h => h)
    have := lay_some (h := B) (D := List.replicate k (Value.int .i64 0)) (cap := k) hRW (by rw [hB]; exact heap_alloc_new _ _) ⟨by omega, by omega⟩ (by rw [List.length_replicate, hk]; exact Nat.le_refl _) (by omega) (by omega)
    rw [← hk] at this
    exact this
  have hlen' := Lib.hid hlen
  have hlay' := Lib.hid hlay
  have hB' := Lib.hid hB
  have hk' := Lib.hid hk
  clear hlen hlay hB hk hR c0 c1 c3 f0 f1 f2 f3 h1 h2 h3 hQ hm
  go_enter Try.func14, Try.ntmps14
  go_wp2_with (go_at_call 12; refine hlen'.out.mono ?_; rintro e w' ⟨rfl, rfl⟩)
  rw [← hB'.out]
  refine (hlay'.out _ rfl).mono ?_
  rintro e W ⟨rfl, hD, ho⟩
  go_wp2
  go_ret
  refine ⟨by rw [← hB'.out, ← hk'.out]; rfl, ?_, ?_⟩
  · rw [← hB'.out, hD, ← hk'.out]
    simp
  · exact ((Only.refl (fun _ => False) _).alloc _).trans ho (fun y hy e => by have := hB'.out; omega)

theorem new_1 (w : World) : Calls Try.prog 8 #[.int .i64 1] w fun e w' => e = .returned (.pointer (some ⟨w.heap.size, 0, none⟩)) ∧ RingAt w' w.heap.size none 1 [] ∧ Only (fun _ => False) w w' := new_ok 1 w (by omega)

theorem fixed_any (w : World) : Calls Try.prog 7 #[] w fun e w' => e = .returned (.bool true) ∧ Below w.heap.size w w' := by
  go_enter Try.func7, Try.ntmps7
  go_wp2_with fail
  refine (new_1 _).mono ?_
  rintro e w1 ⟨rfl, hR1, ho1⟩
  obtain ⟨r, hr⟩ : ∃ r, r = w.heap.size := ⟨_, rfl⟩
  rw [← hr] at hR1 ⊢
  have hr' := Lib.hid hr
  have ho1' := Lib.hid ho1
  clear ho1 hr
  go_wp2_with fail
  refine (put_any hR1 (by simp) 7).mono ?_
  rintro e w2 ⟨rfl, o2, hR2, hoo, ho2⟩
  have hoo' := Lib.hid hoo
  clear hoo
  have ho2' := Lib.hid ho2
  clear ho2
  go_wp2_with fail
  refine (put_full hR2 rfl 8).mono ?_
  rintro e _ ⟨rfl, m, rfl⟩
  go_wp2_with fail
  refine (take_some (hR2.drewN m)).mono ?_
  rintro e w3 ⟨rfl, hR3, ho3⟩
  simp only [mk]
  have ho3' := Lib.hid ho3
  clear ho3
  go_wp2_with fail
  refine (take_none hR3).mono ?_
  rintro e w' ⟨rfl, rfl⟩
  go_wp2_with fail
  refine (room_any hR3).mono ?_
  rintro e w' ⟨rfl, rfl⟩
  go_wp2_with fail
  refine (new_no (-1) _ (by omega)).mono ?_
  rintro e w' ⟨rfl, rfl⟩
  go_wp2
  go_ret
  refine ⟨rfl, ?_⟩
  have hr := hr'.out
  have hs1 := ho1'.out.size
  have hs2 := ho2'.out.size
  have A : Only (fun k => r ≤ k) w w2 := (ho1'.out.mono (T := fun k => r ≤ k) (fun _ _ h => h.elim)).trans ho2'.out (fun x hx h => by
    rcases h with rfl | h
    · exact Nat.le_refl _
    · cases h)
  have C : Only (fun k => r ≤ k) w w' := (A.drewN m).trans ho3'.out (fun x hx h => by
    rcases h with rfl | h
    · exact Nat.le_refl _
    · rcases hoo'.out with rfl | rfl
      · cases h
      · cases h; show r ≤ _; omega)
  exact C.below (Nat.le_refl _) (fun k h => by omega)
end Go.Proofs.Ytbmegpcdcbfjmaa.RingI
