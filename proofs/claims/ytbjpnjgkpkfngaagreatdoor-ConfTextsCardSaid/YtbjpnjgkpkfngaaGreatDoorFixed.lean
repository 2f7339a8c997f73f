/- The fixed calls of the laws on programs. -/
import Derived.Test.YtbjpnjgkpkfngaaGreatDoorTextof
namespace Go.Proofs.YtbjpnjgkpkfngaaGreatDoor
open Go Go.RowKit

set_option maxHeartbeats 800000 in
theorem textOf_nokind {w : World} (hb : Bas w) (x : Opn) (hx : x.k < 1 ∨ 15 < x.k) : Calls Tryz.prog 75 #[.agg #[.int .i64 x.k, .int .i64 x.a, .int .i64 x.b]] w (GrowT ⟨#[]⟩ false w) := by
  have hn := fun W (hW : Only (fun _ => False) w W) => numbers_any (hb.words.new hW) x.k
  rw [show numZ x.k = -1 by unfold numZ; rw [if_pos hx]] at hn
  have hn' := Lib.hid hn
  clear hn hb hx
  go_enter Tryz.func75, Tryz.ntmps75
  go_wp2_with (go_at_call 88; refine (hn'.out _ ((Only.refl _ w).alloc _)).mono ?_; rintro e w' ⟨rfl, rfl⟩)
  go_ret2
  exact ⟨rfl, (Only.refl _ w).alloc _⟩
theorem one_ok {w : World} (hb : Bas w) (x : Opn) (ha : fitI x.a) (hbb : fitI x.b) : OneOk w optT x := by
  intro W hW
  by_cases hk : x.k < 1 ∨ 15 < x.k
  · have : okT x = false := decide_eq_false (fun h => by omega)
    unfold optT
    rw [this, if_neg (by simp)]
    exact textOf_nokind (hb.new hW) x hk
  · refine (textOf_some (hb.new hW) x (by omega) (by omega) ha hbb).mono ?_
    rintro e w' ⟨rfl, ho⟩
    unfold optT
    cases h : okT x
    · exact ⟨rfl, ho⟩
    · exact ⟨rfl, ho⟩

set_option maxHeartbeats 1000000 in
theorem numberOf_nought (s : ByteArray) (h2 : s.size = 2) (h0 : ∀ h : 0 < s.size, (s[0].toNat : Int) = 48) (w : World) : Calls Tryz.prog 110 #[.string s] w (RetKB 0 false w) := by
  have hsz : s.data.toList.length = s.size := by rw [Array.length_toList]; rfl
  have he : (s.toList == ([] : List UInt8)) = false := by
    refine beq_eq_false_iff_ne.2 (fun h => ?_)
    rw [ByteArray.toList_eq] at h
    rw [h] at hsz
    simp only [List.length_nil] at hsz
    omega
  have g0 : 0 < s.size := by omega
  have h1 := h0 g0
  clear h0 hsz
  go_enter Tryz.func110, Tryz.ntmps110
  go_wp2
  go_ret2
  exact ⟨rfl, rfl⟩

set_option maxRecDepth 100000 in
set_option maxHeartbeats 1000000 in
/-- "compute 05" is none's text. -/
theorem opOf_bad {w : World} (hb : Bas w) : Calls Tryz.prog 97 #[.string ⟨#[99, 111, 109, 112, 117, 116, 101, 32, 48, 53]⟩] w (OpEnd ⟨0, 0, 0⟩ false w) := by
  have q1 := Lib.hid (fun W (hW : Only (fun _ => False) w W) => cut_yes (hb.new hW) 32 (wname 1) [48, 53] (by decide) (by decide))
  have q2 := Lib.hid (fun W (hW : Only (fun _ => False) w W) => kindOf_name (hb.words.new hW) 1 (by decide) (by decide))
  have q3 := Lib.hid (fun W (hW : Only (fun _ => False) w W) => numbers_any (hb.words.new hW) 1)
  have q4 := Lib.hid (fun W (hW : Only (fun _ => False) w W) => cut_no (hb.new hW) 32 [48, 53] (by decide) (by decide))
  rw [show numZ 1 = 1 from by decide] at q3
  rw [← wname_BA] at q2
  rw [show toBA (wname 1 ++ 32 :: [48, 53]) = ⟨#[99, 111, 109, 112, 117, 116, 101, 32, 48, 53]⟩ from rfl] at q1
  clear hb
  have q5 : ∀ W : World, Calls Tryz.prog 110 #[.string (toBA [48, 53])] W (RetKB 0 false W) := fun W => numberOf_nought _ rfl (fun _ => rfl) W
  have q5' := Lib.hid q5
  clear q5
  go_enter Tryz.func97, Tryz.ntmps97
  go_wp2_with fail
  have hO0 := Lib.hid (show Only (fun _ => False) w (w.alloc (.cells #[.int .i64 0, .int .i64 0, .int .i64 0] 69)) from (Only.refl _ w).alloc _)
  have hB0 := Lib.hid (heap_new_at w (.cells [.int .i64 0, .int .i64 0, .int .i64 0].toArray 69) rfl)
  refine (q1.out _ hO0.out).mono ?_
  rintro e W1 ⟨rfl, hO1⟩
  have hO1' := Lib.hid (hO0.out.trans' hO1)
  have hB1 := Lib.hid (hO1.heap hB0.out (fun h => h))
  clear hO1 hB0 hO0
  go_wp2_with fail
  refine (q2.out _ hO1'.out).mono ?_
  rintro e W1b ⟨rfl, hw1⟩
  subst hw1
  go_wp2_with fail
  have hO2 := Lib.hid (hO1'.out.trans' (show Only (fun _ => False) W1 (W1.alloc (.cells #[.int .i64 0, .int .i64 0] 129)) from (Only.refl _ W1).alloc _))
  have hG := Lib.hid (heap_new_at W1 (.cells [.int .i64 0, .int .i64 0].toArray 129) rfl)
  have hB2 := Lib.hid (heap_kept_alloc hB1.out (.cells #[.int .i64 0, .int .i64 0] 129))
  have hlt := Lib.hid (row_lt hB1.out)
  refine (q3.out _ hO2.out).mono ?_
  rintro e W2 ⟨rfl, hw2⟩
  rw [hw2] at hO2
  rw [show (W1.alloc (.cells [.int .i64 0, .int .i64 0].toArray 129)) = W2 from hw2] at hG
  rw [show (W1.alloc (.cells [.int .i64 0, .int .i64 0].toArray 129)) = W2 from hw2] at hB2
  clear hw2
  obtain ⟨B, hB⟩ : ∃ B, B = w.heap.size := ⟨_, rfl⟩
  obtain ⟨G, hGe⟩ : ∃ G, G = W1.heap.size := ⟨_, rfl⟩
  have hB' := Lib.hid hB
  rw [← hB] at hB2 hlt ⊢
  rw [← hGe] at hG hlt ⊢
  clear hB hGe hB1 hO1' q2 q3 q1
  go_wp2
  go_loopw [5, 6, 28] (fun r m i wr => i = .int .i64 0 ∧ r = .string (toBA [48, 53]) ∧ Hid (W2 = wr)) (fun _ _ i _ => 0)
  case atStart => exact ⟨rfl, rfl, Lib.hid rfl⟩
  case round =>
    obtain ⟨rfl, rfl, hwr⟩ := hrel
    have hwr' := hwr.out
    subst hwr'
    go_wp2_with fail
    refine (q4.out _ hO2.out).mono ?_
    rintro e W3 ⟨rfl, hO3⟩
    have hB3 := Lib.hid (hO3.heap hB2.out (fun h => h))
    have hG3 := Lib.hid (hO3.heap hG.out (fun h => h))
    have hOO := Lib.hid (hO2.out.trans' hO3)
    clear hO3
    go_wp2_with fail
    refine (q5'.out _).mono ?_
    rintro e W4 ⟨rfl, hw4⟩
    rw [hw4] at hB3 hG3 hOO
    clear hw4
    have f0 := row_free hG3.out 0
    have d0 := row_cell hG3.out (i := 0) rfl
    have b0 := row_cell hB3.out (i := 0) rfl
    have b1 := row_cell hB3.out (i := 1) rfl
    have b2 := row_cell hB3.out (i := 2) rfl
    have e0 := row_free hB3.out 0
    have e1 := row_free hB3.out 1
    have e2 := row_free hB3.out 2
    have hne : (G = B) = False := by have := hlt.out; simp; omega
    go_wp2
    refine bodyPost_ret (v := .tuple #[Opn.val ⟨0, 0, 0⟩, .bool false]) (by simp [results, Tryz.results97, go_sem, Opn.val, b0, b1, b2, hne]) rfl ⟨rfl, ?_⟩
    have hA := hOO.out.trans ((Only.refl (fun k => k = G) W4).setCell (p := ⟨G, 0, none⟩) (fun _ => rfl) (.int .i64 0)) (fun y hy e => by have := hlt.out; have := hB'.out; omega)
    exact hA.trans ((((Only.refl (fun k => k = B) _).setCell (p := ⟨B, 0, none⟩) (fun _ => rfl) _).setCell (p := ⟨B, 1, none⟩) (fun _ => rfl) _).setCell (p := ⟨B, 2, none⟩) (fun _ => rfl) _) (fun y hy e => by have := hB'.out; omega)

set_option maxRecDepth 100000 in
set_option maxHeartbeats 1000000 in
theorem parse_bad {w : World} (hb : Bas w) : Calls Tryz.prog 78 #[.string ⟨#[99, 111, 109, 112, 117, 116, 101, 32, 48, 53]⟩] w (fun e w' => e = .returned (.tuple #[.slice none 0 0, .int .i64 2]) ∧ Only (fun _ => False) w w') := by
  have q1 := Lib.hid (cut_no hb 59 [99, 111, 109, 112, 117, 116, 101, 32, 48, 53] (by decide) (by decide))
  rw [show toBA [99, 111, 109, 112, 117, 116, 101, 32, 48, 53] = ⟨#[99, 111, 109, 112, 117, 116, 101, 32, 48, 53]⟩ from rfl] at q1
  have q2 := Lib.hid (fun W (hW : Only (fun _ => False) w W) => opOf_bad (hb.new hW))
  unfold CutEnd at q1
  rw [show toBA [99, 111, 109, 112, 117, 116, 101, 32, 48, 53] = ⟨#[99, 111, 109, 112, 117, 116, 101, 32, 48, 53]⟩ from rfl] at q1
  clear hb
  go_enter Tryz.func78, Tryz.ntmps78
  go_wp2
  go_loopw [0, 4, 5] (fun s l m wr => s = .string ⟨#[99, 111, 109, 112, 117, 116, 101, 32, 48, 53]⟩ ∧ m = .bool true ∧ w = wr) (fun _ _ _ _ => 0)
  case atStart => exact ⟨rfl, rfl, rfl⟩
  case round =>
    obtain ⟨rfl, rfl, rfl⟩ := hrel
    go_wp2_with fail
    refine q1.out.mono ?_
    rintro e W1 ⟨rfl, hO1⟩
    have hO1' := Lib.hid hO1
    clear hO1
    go_wp2_with fail
    refine (q2.out _ hO1'.out).mono ?_
    rintro e W2 ⟨rfl, hO2⟩
    have hO2' := Lib.hid (hO1'.out.trans' hO2)
    clear hO2
    rw [show Opn.val ⟨0, 0, 0⟩ = .agg #[.int .i64 0, .int .i64 0, .int .i64 0] from rfl]
    go_wp2
    go_ret2
    exact ⟨rfl, hO2'.out.alloc _⟩
end Go.Proofs.YtbjpnjgkpkfngaaGreatDoor
