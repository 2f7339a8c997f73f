/- The document's text of an operation. -/
import Derived.Test.YtbjpnjgkpkfngaaGreatDoorDigits
import Derived.Deep.RegionWith
namespace Go.Proofs.YtbjpnjgkpkfngaaGreatDoor
open Go Go.RowKit

def nameCells : List Value := wnames.map Value.string
theorem names_any (w : World) : Calls Tryz.prog 83 #[] w fun e w' => e = .returned (.slice (some ⟨w.heap.size, 0, none⟩) 16 16) ∧ w' = w.alloc (.cells nameCells.toArray 9) := by
  go_enter Tryz.func83, Tryz.ntmps83
  go_wp2
  go_ret
  exact ⟨rfl, rfl⟩
theorem name_cell (W : World) (k : Nat) (hk : k < 16) : (W.alloc (.cells nameCells.toArray 9)).cell? ⟨W.heap.size, k, none⟩ = some (.string (wnames.getD k ⟨#[]⟩)) := by
  refine row_cell (heap_new_at W (.cells nameCells.toArray 9) rfl) ?_
  unfold nameCells
  rw [List.getElem?_map, List.getElem?_eq_getElem (show k < wnames.length from hk), List.getD_eq_getElem?_getD, List.getElem?_eq_getElem (show k < wnames.length from hk)]
  rfl

theorem okT_not {x : Opn} (h : numZ x.k < 0 ∨ x.a < 0 ∨ x.b < 0 ∨ (numZ x.k < 1 ∧ x.a ≠ 0) ∨ (numZ x.k < 2 ∧ x.b ≠ 0)) : okT x = false := by
  refine decide_eq_false ?_
  rintro ⟨p0, p00, p1, p2, p3, p4⟩
  rcases h with h | h | h | ⟨h, g⟩ | ⟨h, g⟩
  · obtain ⟨k, hk⟩ : ∃ k : Nat, x.k = k := ⟨x.k.toNat, by omega⟩
    rw [hk, numZ_in (by omega) (by omega)] at h
    have key : ∀ i : Fin 16, 0 ≤ wnums.getD i.1 0 := by decide
    have := key ⟨k, by omega⟩
    simp only at this
    omega
  · omega
  · omega
  · exact g (p3 h)
  · exact g (p4 h)

set_option maxRecDepth 100000 in
set_option maxHeartbeats 1000000 in
theorem one_not (x : Opn) (h : numZ x.k < 0 ∨ x.a < 0 ∨ x.b < 0 ∨ (numZ x.k < 1 ∧ x.a ≠ 0) ∨ (numZ x.k < 2 ∧ x.b ≠ 0)) (w : World) : Calls Tryz.prog 62 #[.agg #[.int .i64 x.k, .int .i64 x.a, .int .i64 x.b]] w (GrowT ⟨#[]⟩ false w) := by
  have hn' := Lib.hid (fun W => rnumbers_any W x.k)
  obtain ⟨c, hc⟩ : ∃ c, c = numZ x.k := ⟨_, rfl⟩
  rw [← hc] at hn' h
  obtain ⟨k, a, b⟩ := x
  simp only at *
  clear hc
  have fin : ∀ (hc : Bool), True := fun _ => trivial
  by_cases h1 : c < 0
  · clear h
    go_enter Tryz.func62, Tryz.ntmps62
    go_wp2_with (go_at_call 82; refine (hn'.out _).mono ?_; rintro e w' ⟨rfl, rfl⟩)
    go_ret2
    exact ⟨rfl, (Only.refl _ w).alloc _⟩
  · by_cases h2 : a < 0
    · clear h
      go_enter Tryz.func62, Tryz.ntmps62
      go_wp2_with (go_at_call 82; refine (hn'.out _).mono ?_; rintro e w' ⟨rfl, rfl⟩)
      go_ret2
      exact ⟨rfl, (Only.refl _ w).alloc _⟩
    · by_cases h3 : b < 0
      · clear h
        go_enter Tryz.func62, Tryz.ntmps62
        go_wp2_with (go_at_call 82; refine (hn'.out _).mono ?_; rintro e w' ⟨rfl, rfl⟩)
        go_ret2
        exact ⟨rfl, (Only.refl _ w).alloc _⟩
      · by_cases h4 : c < 1 ∧ a ≠ 0
        · obtain ⟨h4, h5⟩ := h4
          have h5' : (a != 0) = true := by simpa using h5
          clear h
          go_enter Tryz.func62, Tryz.ntmps62
          go_wp2_with (go_at_call 82; refine (hn'.out _).mono ?_; rintro e w' ⟨rfl, rfl⟩)
          go_ret2
          exact ⟨rfl, (Only.refl _ w).alloc _⟩
        · obtain ⟨h6, h7⟩ : c < 2 ∧ b ≠ 0 := by
            rcases h with h | h | h | h | h
            · exact absurd h h1
            · exact absurd h h2
            · exact absurd h h3
            · exact absurd h h4
            · exact h
          have h7' : (b != 0) = true := by simpa using h7
          clear h
          by_cases h8 : c < 1
          · obtain rfl : a = 0 := by
              by_cases ha : a = 0
              · exact ha
              · exact absurd ⟨h8, ha⟩ h4
            clear h4
            go_enter Tryz.func62, Tryz.ntmps62
            go_wp2_with (go_at_call 82; refine (hn'.out _).mono ?_; rintro e w' ⟨rfl, rfl⟩)
            go_ret2
            exact ⟨rfl, (Only.refl _ w).alloc _⟩
          · clear h4
            go_enter Tryz.func62, Tryz.ntmps62
            go_wp2_with (go_at_call 82; refine (hn'.out _).mono ?_; rintro e w' ⟨rfl, rfl⟩)
            go_ret2
            exact ⟨rfl, (Only.refl _ w).alloc _⟩

theorem count_of {x : Opn} (h1 : 1 ≤ x.k) (h2 : x.k ≤ 15) : numZ x.k = 0 ∨ numZ x.k = 1 ∨ numZ x.k = 2 := by
  obtain ⟨k, hk⟩ : ∃ k : Nat, x.k = k := ⟨x.k.toNat, by omega⟩
  rw [hk, numZ_in (by omega) (by omega)]
  have key : ∀ i : Fin 16, wnums.getD i.1 0 = 0 ∨ wnums.getD i.1 0 = 1 ∨ wnums.getD i.1 0 = 2 := by decide
  exact key ⟨k, by omega⟩
def OneEnd (x : Opn) (w : World) (e : Ending) (w' : World) : Prop := e = .returned (.tuple #[.string (toBA (oneT x)), .bool true]) ∧ Only (fun _ => False) w w'

set_option maxRecDepth 100000 in
set_option maxHeartbeats 2000000 in
theorem one_nought (k : Nat) (h1 : 1 ≤ k) (h2 : k ≤ 15) (hc : numZ (k : Int) = 0) (w : World) : Calls Tryz.prog 62 #[.agg #[.int .i64 k, .int .i64 0, .int .i64 0]] w (OneEnd ⟨k, 0, 0⟩ w) := by
  have hn' := Lib.hid (fun W => rnumbers_any W k)
  rw [hc] at hn'
  have ht : oneT ⟨k, 0, 0⟩ = wname k := by
    unfold oneT
    simp only [hc, Int.toNat_natCast]
    simp
  obtain ⟨S, hS⟩ : ∃ S, S = toBA (oneT ⟨k, 0, 0⟩) := ⟨_, rfl⟩
  have hend : OneEnd ⟨k, 0, 0⟩ w = fun e w' => e = .returned (.tuple #[.string S, .bool true]) ∧ Only (fun _ => False) w w' := by
    rw [hS]
    rfl
  rw [hend]
  rw [ht] at hS
  clear hend ht
  have hnc := fun W => name_cell W k (by omega)
  rw [← wname_BA] at hnc
  obtain ⟨s, hs⟩ : ∃ s, s = toBA (wname k) := ⟨_, rfl⟩
  rw [← hs] at hnc
  rw [← hs] at hS
  subst hS
  obtain ⟨C, hC⟩ : ∃ C, C = nameCells.toArray := ⟨_, rfl⟩
  have hnm := Lib.hid (fun W => names_any W)
  rw [← hC] at hnc hnm
  have hk1 : (k : Int) < 16 := by omega
  have hk0 : (0 : Int) ≤ (k : Int) := by omega
  clear hs hC hc
  go_enter Tryz.func62, Tryz.ntmps62
  go_wp2_with (go_at_call 82; refine (hn'.out _).mono ?_; rintro e w' ⟨rfl, rfl⟩)
  have hO := Lib.hid (show Only (fun _ => False) w (w.alloc (.cells #[.int .i64 k, .int .i64 0, .int .i64 0] 69)) from (Only.refl _ w).alloc _)
  have hB := heap_new_at w (.cells [.int .i64 k, .int .i64 0, .int .i64 0].toArray 69) rfl
  obtain ⟨B, hBe⟩ : ∃ B, B = w.heap.size := ⟨_, rfl⟩
  rw [← hBe] at hB ⊢
  clear hBe
  generalize World.alloc w _ = W1 at hO hB ⊢
  have b0 := row_cell hB (i := 0) rfl
  have hlt := row_lt hB
  have hB' := Lib.hid hB
  clear hB
  go_region_with (go_at_call 83; refine (hnm.out _).mono ?_; rintro e w' ⟨rfl, rfl⟩)
  all_goals
    have hO2 := Lib.hid (show Only (fun _ => False) W1 (W1.alloc (.cells C 9)).drew from ((Only.refl _ W1).alloc _).drew)
    generalize World.drew _ = W2 at hO2 ⊢
    clear b0 hlt
    go_wp2
    go_ret2
    exact ⟨rfl, hO.out.trans' hO2.out⟩

set_option maxRecDepth 100000 in
set_option maxHeartbeats 2000000 in
theorem one_single (k : Nat) (h1 : 1 ≤ k) (h2 : k ≤ 15) (hc : numZ (k : Int) = 1) (a : Nat) (ha : (a : Int) ≤ 9223372036854775807) (w : World) : Calls Tryz.prog 62 #[.agg #[.int .i64 k, .int .i64 a, .int .i64 0]] w (OneEnd ⟨k, a, 0⟩ w) := by
  have hn' := Lib.hid (fun W => rnumbers_any W k)
  rw [hc] at hn'
  have ht : oneT ⟨k, a, 0⟩ = wname k ++ 32 :: Lib.decDigits a := by
    unfold oneT
    simp only [hc, Int.toNat_natCast]
    simp
  have hda := Lib.hid (fun W => digits_any a ha W)
  have hsa : (toBA (Lib.decDigits a)).size ≤ 19 := by rw [toBA_size]; exact dec_nineteen (by omega)
  have hja := Lib.hid (show (toBA (wname k) ++ ⟨#[32]⟩) ++ toBA (Lib.decDigits a) = toBA (wname k ++ 32 :: Lib.decDigits a) from by
    rw [show (⟨#[32]⟩ : ByteArray) = toBA [32] from rfl, toBA_app, toBA_app]
    simp)
  have hsk : (toBA (wname k)).size ≤ 7 := by rw [toBA_size]; exact (wname_fit k (by omega)).2.2
  have hskk : (toBA (wname k ++ 32 :: Lib.decDigits a)).size ≤ 27 := by rw [toBA_size] at hsa hsk ⊢; simp; omega
  obtain ⟨S, hS⟩ : ∃ S, S = toBA (oneT ⟨k, a, 0⟩) := ⟨_, rfl⟩
  have hend : OneEnd ⟨k, a, 0⟩ w = fun e w' => e = .returned (.tuple #[.string S, .bool true]) ∧ Only (fun _ => False) w w' := by
    rw [hS]
    rfl
  rw [hend]
  rw [ht] at hS
  clear hend ht
  have hnc := fun W => name_cell W k (by omega)
  rw [← wname_BA] at hnc
  obtain ⟨s, hs⟩ : ∃ s, s = toBA (wname k) := ⟨_, rfl⟩
  rw [← hs] at hnc
  rw [← hs] at hja hsk
  obtain ⟨sa, hsae⟩ : ∃ s, s = toBA (Lib.decDigits a) := ⟨_, rfl⟩
  rw [← hsae] at hja hsa
  have hda' := Lib.hid (show ∀ W, Calls Tryz.prog 61 #[.int .i64 a] W (fun e w' => e = .returned (.string sa) ∧ Only (fun _ => False) W w') from fun W => by rw [hsae]; exact hda.out W)
  obtain ⟨ta, hta⟩ : ∃ s, s = toBA (wname k ++ 32 :: Lib.decDigits a) := ⟨_, rfl⟩
  rw [← hta] at hja hskk
  clear hda hsae
  rw [← hta] at hS
  subst hS
  clear hta
  obtain ⟨C, hC⟩ : ∃ C, C = nameCells.toArray := ⟨_, rfl⟩
  have hnm := Lib.hid (fun W => names_any W)
  rw [← hC] at hnc hnm
  have hk1 : (k : Int) < 16 := by omega
  have hk0 : (0 : Int) ≤ (k : Int) := by omega
  clear hs hC hc
  go_enter Tryz.func62, Tryz.ntmps62
  go_wp2_with (go_at_call 82; refine (hn'.out _).mono ?_; rintro e w' ⟨rfl, rfl⟩)
  have hO := Lib.hid (show Only (fun _ => False) w (w.alloc (.cells #[.int .i64 k, .int .i64 a, .int .i64 0] 69)) from (Only.refl _ w).alloc _)
  have hB := heap_new_at w (.cells [.int .i64 k, .int .i64 a, .int .i64 0].toArray 69) rfl
  obtain ⟨B, hBe⟩ : ∃ B, B = w.heap.size := ⟨_, rfl⟩
  rw [← hBe] at hB ⊢
  clear hBe
  generalize World.alloc w _ = W1 at hO hB ⊢
  have b0 := row_cell hB (i := 0) rfl
  have hlt := row_lt hB
  have hB' := Lib.hid hB
  clear hB
  go_region_with (go_at_call 83; refine (hnm.out _).mono ?_; rintro e w' ⟨rfl, rfl⟩)
  all_goals
    have hO2 := Lib.hid (show Only (fun _ => False) W1 (W1.alloc (.cells C 9)).drew from ((Only.refl _ W1).alloc _).drew)
    generalize World.drew _ = W2 at hO2 ⊢
    clear b0 hlt
    have b1 := row_cell (hO2.out.heap hB'.out (fun h => h)) (i := 1) rfl
    go_wp2_with fail
    refine (hda'.out _).mono ?_
    rintro e W3 ⟨rfl, hO3⟩
    have hO3' := Lib.hid (hO2.out.trans' hO3)
    clear hO3
    go_wp2
    go_ret2
    exact ⟨by rw [hja.out]; rfl, hO.out.trans' hO3'.out⟩

set_option maxRecDepth 100000 in
set_option maxHeartbeats 2000000 in
theorem one_double (k : Nat) (h1 : 1 ≤ k) (h2 : k ≤ 15) (hc : numZ (k : Int) = 2) (a b : Nat) (ha : (a : Int) ≤ 9223372036854775807) (hb : (b : Int) ≤ 9223372036854775807) (w : World) : Calls Tryz.prog 62 #[.agg #[.int .i64 k, .int .i64 a, .int .i64 b]] w (OneEnd ⟨k, a, b⟩ w) := by
  have hn' := Lib.hid (fun W => rnumbers_any W k)
  rw [hc] at hn'
  have ht : oneT ⟨k, a, b⟩ = (wname k ++ 32 :: Lib.decDigits a) ++ 32 :: Lib.decDigits b := by
    unfold oneT
    simp only [hc, Int.toNat_natCast]
    simp
  have hda := Lib.hid (fun W => digits_any a ha W)
  have hsa : (toBA (Lib.decDigits a)).size ≤ 19 := by rw [toBA_size]; exact dec_nineteen (by omega)
  have hja := Lib.hid (show (toBA (wname k) ++ ⟨#[32]⟩) ++ toBA (Lib.decDigits a) = toBA (wname k ++ 32 :: Lib.decDigits a) from by
    rw [show (⟨#[32]⟩ : ByteArray) = toBA [32] from rfl, toBA_app, toBA_app]
    simp)
  have hsk : (toBA (wname k)).size ≤ 7 := by rw [toBA_size]; exact (wname_fit k (by omega)).2.2
  have hskk : (toBA (wname k ++ 32 :: Lib.decDigits a)).size ≤ 27 := by rw [toBA_size] at hsa hsk ⊢; simp; omega
  have hdb := Lib.hid (fun W => digits_any b hb W)
  have hsb : (toBA (Lib.decDigits b)).size ≤ 19 := by rw [toBA_size]; exact dec_nineteen (by omega)
  have hjb := Lib.hid (show (toBA (wname k ++ 32 :: Lib.decDigits a) ++ ⟨#[32]⟩) ++ toBA (Lib.decDigits b) = toBA ((wname k ++ 32 :: Lib.decDigits a) ++ 32 :: Lib.decDigits b) from by
    rw [show (⟨#[32]⟩ : ByteArray) = toBA [32] from rfl, toBA_app, toBA_app]
    simp)
  obtain ⟨S, hS⟩ : ∃ S, S = toBA (oneT ⟨k, a, b⟩) := ⟨_, rfl⟩
  have hend : OneEnd ⟨k, a, b⟩ w = fun e w' => e = .returned (.tuple #[.string S, .bool true]) ∧ Only (fun _ => False) w w' := by
    rw [hS]
    rfl
  rw [hend]
  rw [ht] at hS
  clear hend ht
  have hnc := fun W => name_cell W k (by omega)
  rw [← wname_BA] at hnc
  obtain ⟨s, hs⟩ : ∃ s, s = toBA (wname k) := ⟨_, rfl⟩
  rw [← hs] at hnc
  rw [← hs] at hja hsk
  obtain ⟨sa, hsae⟩ : ∃ s, s = toBA (Lib.decDigits a) := ⟨_, rfl⟩
  rw [← hsae] at hja hsa
  have hda' := Lib.hid (show ∀ W, Calls Tryz.prog 61 #[.int .i64 a] W (fun e w' => e = .returned (.string sa) ∧ Only (fun _ => False) W w') from fun W => by rw [hsae]; exact hda.out W)
  obtain ⟨ta, hta⟩ : ∃ s, s = toBA (wname k ++ 32 :: Lib.decDigits a) := ⟨_, rfl⟩
  rw [← hta] at hja hskk
  clear hda hsae
  rw [← hta] at hjb
  obtain ⟨sb, hsbe⟩ : ∃ s, s = toBA (Lib.decDigits b) := ⟨_, rfl⟩
  rw [← hsbe] at hjb hsb
  have hdb' := Lib.hid (show ∀ W, Calls Tryz.prog 61 #[.int .i64 b] W (fun e w' => e = .returned (.string sb) ∧ Only (fun _ => False) W w') from fun W => by rw [hsbe]; exact hdb.out W)
  rw [← hS] at hjb
  clear hdb hsbe hta hS
  obtain ⟨C, hC⟩ : ∃ C, C = nameCells.toArray := ⟨_, rfl⟩
  have hnm := Lib.hid (fun W => names_any W)
  rw [← hC] at hnc hnm
  have hk1 : (k : Int) < 16 := by omega
  have hk0 : (0 : Int) ≤ (k : Int) := by omega
  clear hs hC hc
  go_enter Tryz.func62, Tryz.ntmps62
  go_wp2_with (go_at_call 82; refine (hn'.out _).mono ?_; rintro e w' ⟨rfl, rfl⟩)
  have hO := Lib.hid (show Only (fun _ => False) w (w.alloc (.cells #[.int .i64 k, .int .i64 a, .int .i64 b] 69)) from (Only.refl _ w).alloc _)
  have hB := heap_new_at w (.cells [.int .i64 k, .int .i64 a, .int .i64 b].toArray 69) rfl
  obtain ⟨B, hBe⟩ : ∃ B, B = w.heap.size := ⟨_, rfl⟩
  rw [← hBe] at hB ⊢
  clear hBe
  generalize World.alloc w _ = W1 at hO hB ⊢
  have b0 := row_cell hB (i := 0) rfl
  have hlt := row_lt hB
  have hB' := Lib.hid hB
  clear hB
  go_region_with (go_at_call 83; refine (hnm.out _).mono ?_; rintro e w' ⟨rfl, rfl⟩)
  all_goals
    have hO2 := Lib.hid (show Only (fun _ => False) W1 (W1.alloc (.cells C 9)).drew from ((Only.refl _ W1).alloc _).drew)
    generalize World.drew _ = W2 at hO2 ⊢
    clear b0 hlt
    have b1 := row_cell (hO2.out.heap hB'.out (fun h => h)) (i := 1) rfl
    go_wp2_with fail
    refine (hda'.out _).mono ?_
    rintro e W3 ⟨rfl, hO3⟩
    have hO3' := Lib.hid (hO2.out.trans' hO3)
    clear hO3
    have b2 := row_cell (hO3'.out.heap hB'.out (fun h => h)) (i := 2) rfl
    have hja' := hja.out
    go_wp2_with fail
    refine (hdb'.out _).mono ?_
    rintro e W4 ⟨rfl, hO4⟩
    have hO4' := Lib.hid (hO3'.out.trans' hO4)
    clear hO4
    go_wp2
    go_ret2
    exact ⟨by rw [hjb.out]; rfl, hO.out.trans' hO4'.out⟩

end Go.Proofs.YtbjpnjgkpkfngaaGreatDoor
