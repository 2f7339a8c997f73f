/- Merged: Ops Ops2 Conf Conf2 Conf3 Conf4 Conf5. -/
import Derived.Test.YtlbinlhaejhobaaGreatDoorRows
import Derived.Test.YtlbinlhaejhobaaGreatDoorPA
import Derived.StillTailTactics
import Derived.BigQuiet
import Derived.BigRegion
import Derived.ProofKit
import Derived.Outline
import Derived.RegionTactic
import Derived.Deep.RegionLaw
import Derived.WalkLawsBesides
import Derived.WalkSpells
import Derived.WalkSmall
import Derived.OwnWalk
import Derived.IntWalk
import Derived.LoopTactic
import Derived.Deep.LoopGhost
/- Package prog's Numbers and Op, and the document's own: one number for both. -/
namespace Go.Proofs.YtlbinlhaejhobaaGreatDoor
open Go Go.RowKit

def wnums : List Int := [0, 1, 1, 0, 0, 1, 1, 1, 1, 2, 1, 2, 2, 2, 1, 1]
def wnames : List ByteArray := [⟨#[]⟩, ⟨#[99, 111, 109, 112, 117, 116, 101]⟩, ⟨#[97, 99, 99, 101, 115, 115]⟩, ⟨#[101, 110, 116, 101, 114]⟩, ⟨#[101, 120, 105, 116]⟩, ⟨#[108, 111, 99, 107]⟩, ⟨#[117, 110, 108, 111, 99, 107]⟩, ⟨#[112, 117, 115, 104]⟩, ⟨#[112, 111, 112]⟩, ⟨#[115, 101, 110, 100]⟩, ⟨#[114, 101, 99, 118]⟩, ⟨#[115, 101, 116]⟩, ⟨#[99, 108, 101, 97, 114]⟩, ⟨#[116, 101, 115, 116]⟩, ⟨#[103, 105, 118, 101]⟩, ⟨#[116, 97, 107, 101]⟩]
/-- The table of words, in the block of its variable. -/
def Words (w : World) : Prop := ∀ (k : Nat) (s : ByteArray) (n : Int), wnames[k]? = some s → wnums[k]? = some n → w.cell? ⟨0, k * 2, none⟩ = some (.string s) ∧ w.cell? ⟨0, k * 2 + 1, none⟩ = some (.int .i64 n)
theorem Words.new {w w' : World} (h : Words w) (ho : Only (fun _ => False) w w') : Words w' := fun k s n h1 h2 => ⟨ho.cell (h k s n h1 h2).1 (fun h => h), ho.cell (h k s n h1 h2).2 (fun h => h)⟩

/-- Answers: a number, the world as it was; a bool or a number, the world grown. -/
def RetI (v : Int) (w : World) (e : Ending) (w' : World) : Prop := e = .returned (.int .i64 v) ∧ w = w'
def GrowI (v : Int) (w : World) (e : Ending) (w' : World) : Prop := e = .returned (.int .i64 v) ∧ Only (fun _ => False) w w'
def RetB (v : Bool) (w : World) (e : Ending) (w' : World) : Prop := e = .returned (.bool v) ∧ w = w'
def GrowB (v : Bool) (w : World) (e : Ending) (w' : World) : Prop := e = .returned (.bool v) ∧ Only (fun _ => False) w w'
def GrowV (v : Value) (w : World) (e : Ending) (w' : World) : Prop := e = .returned v ∧ Only (fun _ => False) w w'
theorem ret_int {k : IntKind} {a b : Int} (h : a = b) : Ending.returned (.int k a) = .returned (.int k b) := by rw [h]
theorem ret_bool {a b : Bool} (h : a = b) : Ending.returned (.bool a) = .returned (.bool b) := by rw [h]
/-- Is a number from one to another one? -/
def inB (a b n : Int) : Bool := decide (a ≤ n ∧ n ≤ b)

/-- How many numbers a kind has. -/
def numZ (k : Int) : Int := if k < 1 ∨ 15 < k then -1 else wnums.getD k.toNat 0
theorem kinds {k : Int} (h : ¬ (k < 1 ∨ 15 < k)) : k = 1 ∨ k = 2 ∨ k = 3 ∨ k = 4 ∨ k = 5 ∨ k = 6 ∨ k = 7 ∨ k = 8 ∨ k = 9 ∨ k = 10 ∨ k = 11 ∨ k = 12 ∨ k = 13 ∨ k = 14 ∨ k = 15 := by omega

theorem words_at {w : World} (hw : Words w) (k : Nat) (hk : k < 16) : w.cell? ⟨0, k * 2, none⟩ = some (.string (wnames.getD k ⟨#[]⟩)) ∧ w.cell? ⟨0, k * 2 + 1, none⟩ = some (.int .i64 (wnums.getD k 0)) :=
  hw k _ _ (by rw [List.getD_eq_getElem?_getD, List.getElem?_eq_getElem (show k < wnames.length from hk)]; rfl) (by rw [List.getD_eq_getElem?_getD, List.getElem?_eq_getElem (show k < wnums.length from hk)]; rfl)
theorem numZ_in {k : Nat} (h1 : 1 ≤ k) (h2 : k ≤ 15) : numZ (k : Int) = wnums.getD k 0 := by
  unfold numZ
  rw [if_neg (by omega)]
  rfl

theorem numbers_any {w : World} (hw : Words w) (n : Int) : Calls Tryz.prog 172 #[.int .i64 n] w (RetI (numZ n) w) := by
  by_cases hk : n < 1 ∨ 15 < n
  · have hz := Lib.hid (show -1 = numZ n by unfold numZ; rw [if_pos hk])
    clear hw
    by_cases h1 : n < 1
    · clear hk
      go_enter Tryz.func172, Tryz.ntmps172
      go_wp2
      go_ret
      exact ⟨ret_int hz.out, rfl⟩
    · have h2 : 15 < n := by omega
      clear hk
      go_enter Tryz.func172, Tryz.ntmps172
      go_wp2
      go_ret
      exact ⟨ret_int hz.out, rfl⟩
  · obtain ⟨k, rfl⟩ : ∃ k : Nat, n = k := ⟨n.toNat, by omega⟩
    have h1 : 1 ≤ k := by omega
    have h2 : k ≤ 15 := by omega
    obtain ⟨-, c⟩ := words_at hw k (by omega)
    have hz := Lib.hid (numZ_in h1 h2)
    obtain ⟨z, hzz⟩ : ∃ z, z = wnums.getD k 0 := ⟨_, rfl⟩
    rw [← hzz] at c
    have hz' := Lib.hid hzz
    have g1 : ¬ (k : Int) < 1 := by omega
    have g2 : ¬ 15 < (k : Int) := by omega
    have g3 : (k : Int) < 16 := by omega
    have g4 : (0 : Int) ≤ (k : Int) := by omega
    clear hk hw hzz h1
    go_enter Tryz.func172, Tryz.ntmps172
    go_wp2
    go_ret
    exact ⟨ret_int (by rw [hz.out, ← hz'.out]), rfl⟩

set_option maxHeartbeats 800000 in
theorem rnumbers_any (w : World) (n : Int) : Calls Tryz.prog 153 #[.int .i64 n] w (RetI (numZ n) w) := by
  by_cases hk : n < 1 ∨ 15 < n
  · have hz := Lib.hid (show -1 = numZ n by unfold numZ; rw [if_pos hk])
    have e3 : (n == 3) = false := by simp; omega
    have e4 : (n == 4) = false := by simp; omega
    have e9 : (n == 9) = false := by simp; omega
    have e11 : (n == 11) = false := by simp; omega
    have e12 : (n == 12) = false := by simp; omega
    have e13 : (n == 13) = false := by simp; omega
    by_cases h1 : n < 1
    · clear hk
      go_enter Tryz.func153, Tryz.ntmps153
      go_wp2
      go_ret
      exact ⟨ret_int hz.out, rfl⟩
    · have h2 : 15 < n := by omega
      clear hk
      go_enter Tryz.func153, Tryz.ntmps153
      go_wp2
      go_ret
      exact ⟨ret_int hz.out, rfl⟩
  · rcases kinds hk with rfl | rfl | rfl | rfl | rfl | rfl | rfl | rfl | rfl | rfl | rfl | rfl | rfl | rfl | rfl
    all_goals
      clear hk
      go_enter Tryz.func153, Tryz.ntmps153
      go_wp2
      go_ret
      exact ⟨rfl, rfl⟩

theorem in_any (w : World) (n a b : Int) : Calls Tryz.prog 154 #[.int .i64 n, .int .i64 a, .int .i64 b] w (RetB (inB a b n) w) := by
  by_cases h1 : a ≤ n
  · by_cases h2 : n ≤ b
    · have hz := Lib.hid (show true = inB a b n by simp [inB, h1, h2])
      go_enter Tryz.func154, Tryz.ntmps154
      go_wp2
      go_ret
      exact ⟨ret_bool hz.out, rfl⟩
    · have hz := Lib.hid (show false = inB a b n by simp [inB]; omega)
      go_enter Tryz.func154, Tryz.ntmps154
      go_wp2
      go_ret
      exact ⟨ret_bool hz.out, rfl⟩
  · have hz := Lib.hid (show false = inB a b n by simp [inB]; omega)
    go_enter Tryz.func154, Tryz.ntmps154
    go_wp2
    go_ret
    exact ⟨ret_bool hz.out, rfl⟩

def spanV (a b : Int) : Value := .agg #[.int .i64 a, .int .i64 b]
theorem has_any (w : World) (n a b : Int) : Calls Tryz.prog 174 #[spanV a b, .int .i64 n] w (GrowB (inB a b n) w) := by
  unfold spanV
  by_cases h1 : a ≤ n
  · by_cases h2 : n ≤ b
    · have hz := Lib.hid (show true = inB a b n by simp [inB, h1, h2])
      go_enter Tryz.func174, Tryz.ntmps174
      go_wp2
      go_ret
      exact ⟨ret_bool hz.out, (Only.refl _ w).alloc _⟩
    · have hz := Lib.hid (show false = inB a b n by simp [inB]; omega)
      go_enter Tryz.func174, Tryz.ntmps174
      go_wp2
      go_ret
      exact ⟨ret_bool hz.out, (Only.refl _ w).alloc _⟩
  · have hz := Lib.hid (show false = inB a b n by simp [inB]; omega)
    go_enter Tryz.func174, Tryz.ntmps174
    go_wp2
    go_ret
    exact ⟨ret_bool hz.out, (Only.refl _ w).alloc _⟩

theorem objects_any (w : World) (c : Int) (hc : -1000 ≤ c ∧ c ≤ 1000) : Calls Tryz.prog 195 #[.int .i64 c] w (GrowV (spanV 0 (max c 0 - 1)) w) := by
  obtain ⟨h1, h2⟩ := hc
  by_cases h0 : c < 0
  · have hm := Lib.hid (show max c 0 - 1 = -1 by omega)
    go_enter Tryz.func195, Tryz.ntmps195
    go_wp2
    refine bodyPost_ret (v := .agg #[.int .i64 0, .int .i64 (-1)]) (by simp [results, Tryz.results195, go_sem]) rfl ⟨by unfold spanV; rw [hm.out], (Only.refl _ w).alloc _⟩
  · have hm := Lib.hid (show max c 0 - 1 = c - 1 by omega)
    go_enter Tryz.func195, Tryz.ntmps195
    go_wp2
    refine bodyPost_ret (v := .agg #[.int .i64 0, .int .i64 (c - 1)]) (by simp [results, Tryz.results195, go_sem]) rfl ⟨by unfold spanV; rw [hm.out], (Only.refl _ w).alloc _⟩

/-- What there is: how many objects of each kind. -/
structure RoomV where
  m : Int
  g : Int
  c : Int
  l : Int
def RoomV.val (r : RoomV) : Value := .agg #[.int .i64 r.m, .int .i64 r.g, .int .i64 r.c, .int .i64 r.l]
def RoomV.ok (r : RoomV) : Prop := (-1000 ≤ r.m ∧ r.m ≤ 1000) ∧ (-1000 ≤ r.g ∧ r.g ≤ 1000) ∧ (-1000 ≤ r.c ∧ r.c ≤ 1000) ∧ (-1000 ≤ r.l ∧ r.l ≤ 1000)
/-- The greatest number that A may be, and the least; of B. -/
def hiA (k : Nat) (r : RoomV) : Int := [0, 1000, 255, 0, 0, max r.l 0 - 1, max r.l 0 - 1, 4096, 4096, max r.m 0 - 1, max r.m 0 - 1, max r.g 0 - 1, max r.g 0 - 1, max r.g 0 - 1, max r.c 0 - 1, max r.c 0 - 1].getD k 0
def loA (k : Nat) : Int := [0, 1, 0, 0, 0, 0, 0, 1, 1, 0, 0, 0, 0, 0, 0, 0].getD k 0
def hiB (k : Nat) : Int := [0, 0, 0, 0, 0, 0, 0, 0, 0, 255, 0, 255, 255, 255, 0, 0].getD k 0

set_option maxRecDepth 100000 in
set_option maxHeartbeats 2000000 in
theorem firsts_any (w : World) (r : RoomV) (hr : r.ok) (k : Nat) (h1 : 1 ≤ k) (h2 : k ≤ 15) : Calls Tryz.prog 173 #[.int .i64 k, r.val] w (GrowV (spanV (loA k) (hiA k r)) w) := by
  obtain ⟨⟨m1, m2⟩, ⟨g1, g2⟩, ⟨c1, c2⟩, l1, l2⟩ := hr
  have om := Lib.hid (fun W => objects_any W r.m ⟨m1, m2⟩)
  have og := Lib.hid (fun W => objects_any W r.g ⟨g1, g2⟩)
  have oc := Lib.hid (fun W => objects_any W r.c ⟨c1, c2⟩)
  have ol := Lib.hid (fun W => objects_any W r.l ⟨l1, l2⟩)
  clear m1 m2 g1 g2 c1 c2 l1 l2
  unfold RoomV.val
  have hk : k = 1 ∨ k = 2 ∨ k = 3 ∨ k = 4 ∨ k = 5 ∨ k = 6 ∨ k = 7 ∨ k = 8 ∨ k = 9 ∨ k = 10 ∨ k = 11 ∨ k = 12 ∨ k = 13 ∨ k = 14 ∨ k = 15 := by omega
  clear h1 h2
  rcases hk with rfl | rfl | rfl | rfl | rfl | rfl | rfl | rfl | rfl | rfl | rfl | rfl | rfl | rfl | rfl
  · go_enter Tryz.func173, Tryz.ntmps173
    go_wp2
    exact bodyPost_ret (v := spanV 1 1000) (by simp [results, Tryz.results173, go_sem, spanV]) rfl ⟨rfl, ((Only.refl _ w).alloc _).alloc _⟩
  · go_enter Tryz.func173, Tryz.ntmps173
    go_wp2
    exact bodyPost_ret (v := spanV 0 255) (by simp [results, Tryz.results173, go_sem, spanV]) rfl ⟨rfl, ((Only.refl _ w).alloc _).alloc _⟩
  · go_enter Tryz.func173, Tryz.ntmps173
    go_wp2
    exact bodyPost_ret (v := spanV 0 0) (by simp [results, Tryz.results173, go_sem, spanV]) rfl ⟨rfl, ((Only.refl _ w).alloc _).alloc _⟩
  · go_enter Tryz.func173, Tryz.ntmps173
    go_wp2
    exact bodyPost_ret (v := spanV 0 0) (by simp [results, Tryz.results173, go_sem, spanV]) rfl ⟨rfl, ((Only.refl _ w).alloc _).alloc _⟩
  · go_enter Tryz.func173, Tryz.ntmps173
    go_wp2_with fail
    refine (ol.out _).mono ?_
    rintro e w' ⟨rfl, ho⟩
    obtain ⟨B, hB⟩ : ∃ B, B = w.heap.size + 1 := ⟨_, rfl⟩
    have hblk := ho.heap (heap_new_at _ (.cells [.int .i64 0, .int .i64 0].toArray 182) (X := B) (by rw [hB]; simp)) (fun h => h)
    have d0 := row_cell hblk (i := 0) rfl
    have d1 := row_cell hblk (i := 1) rfl
    have f0 := row_free hblk 0
    have f1 := row_free hblk 1
    have ho' := Lib.hid ho
    rw [← hB]
    have hB' := Lib.hid hB
    obtain ⟨z, hz⟩ : ∃ z, z = max r.l 0 - 1 := ⟨_, rfl⟩
    rw [← hz]
    unfold spanV
    have hz' := Lib.hid hz
    clear hblk ho hB hz
    go_wp2
    refine bodyPost_ret (v := spanV 0 z) (by simp [results, Tryz.results173, go_sem, spanV, d0, d1]) rfl ⟨by rw [hz'.out]; rfl, ?_⟩
    exact ((((Only.refl (fun _ => False) w).alloc _).alloc _).trans' ho'.out).trans (((Only.refl (fun k => k = B) w').setCell (p := ⟨B, 0, none⟩) (fun _ => rfl) _).setCell (p := ⟨B, 1, none⟩) (fun _ => rfl) _) (fun x hx e => by have := hB'.out; omega)
  · go_enter Tryz.func173, Tryz.ntmps173
    go_wp2_with fail
    refine (ol.out _).mono ?_
    rintro e w' ⟨rfl, ho⟩
    obtain ⟨B, hB⟩ : ∃ B, B = w.heap.size + 1 := ⟨_, rfl⟩
    have hblk := ho.heap (heap_new_at _ (.cells [.int .i64 0, .int .i64 0].toArray 182) (X := B) (by rw [hB]; simp)) (fun h => h)
    have d0 := row_cell hblk (i := 0) rfl
    have d1 := row_cell hblk (i := 1) rfl
    have f0 := row_free hblk 0
    have f1 := row_free hblk 1
    have ho' := Lib.hid ho
    rw [← hB]
    have hB' := Lib.hid hB
    obtain ⟨z, hz⟩ : ∃ z, z = max r.l 0 - 1 := ⟨_, rfl⟩
    rw [← hz]
    unfold spanV
    have hz' := Lib.hid hz
    clear hblk ho hB hz
    go_wp2
    refine bodyPost_ret (v := spanV 0 z) (by simp [results, Tryz.results173, go_sem, spanV, d0, d1]) rfl ⟨by rw [hz'.out]; rfl, ?_⟩
    exact ((((Only.refl (fun _ => False) w).alloc _).alloc _).trans' ho'.out).trans (((Only.refl (fun k => k = B) w').setCell (p := ⟨B, 0, none⟩) (fun _ => rfl) _).setCell (p := ⟨B, 1, none⟩) (fun _ => rfl) _) (fun x hx e => by have := hB'.out; omega)
  · go_enter Tryz.func173, Tryz.ntmps173
    go_wp2
    exact bodyPost_ret (v := spanV 1 4096) (by simp [results, Tryz.results173, go_sem, spanV]) rfl ⟨rfl, ((Only.refl _ w).alloc _).alloc _⟩
  · go_enter Tryz.func173, Tryz.ntmps173
    go_wp2
    exact bodyPost_ret (v := spanV 1 4096) (by simp [results, Tryz.results173, go_sem, spanV]) rfl ⟨rfl, ((Only.refl _ w).alloc _).alloc _⟩
  · go_enter Tryz.func173, Tryz.ntmps173
    go_wp2_with fail
    refine (om.out _).mono ?_
    rintro e w' ⟨rfl, ho⟩
    obtain ⟨B, hB⟩ : ∃ B, B = w.heap.size + 1 := ⟨_, rfl⟩
    have hblk := ho.heap (heap_new_at _ (.cells [.int .i64 0, .int .i64 0].toArray 182) (X := B) (by rw [hB]; simp)) (fun h => h)
    have d0 := row_cell hblk (i := 0) rfl
    have d1 := row_cell hblk (i := 1) rfl
    have f0 := row_free hblk 0
    have f1 := row_free hblk 1
    have ho' := Lib.hid ho
    rw [← hB]
    have hB' := Lib.hid hB
    obtain ⟨z, hz⟩ : ∃ z, z = max r.m 0 - 1 := ⟨_, rfl⟩
    rw [← hz]
    unfold spanV
    have hz' := Lib.hid hz
    clear hblk ho hB hz
    go_wp2
    refine bodyPost_ret (v := spanV 0 z) (by simp [results, Tryz.results173, go_sem, spanV, d0, d1]) rfl ⟨by rw [hz'.out]; rfl, ?_⟩
    exact ((((Only.refl (fun _ => False) w).alloc _).alloc _).trans' ho'.out).trans (((Only.refl (fun k => k = B) w').setCell (p := ⟨B, 0, none⟩) (fun _ => rfl) _).setCell (p := ⟨B, 1, none⟩) (fun _ => rfl) _) (fun x hx e => by have := hB'.out; omega)
  · go_enter Tryz.func173, Tryz.ntmps173
    go_wp2_with fail
    refine (om.out _).mono ?_
    rintro e w' ⟨rfl, ho⟩
    obtain ⟨B, hB⟩ : ∃ B, B = w.heap.size + 1 := ⟨_, rfl⟩
    have hblk := ho.heap (heap_new_at _ (.cells [.int .i64 0, .int .i64 0].toArray 182) (X := B) (by rw [hB]; simp)) (fun h => h)
    have d0 := row_cell hblk (i := 0) rfl
    have d1 := row_cell hblk (i := 1) rfl
    have f0 := row_free hblk 0
    have f1 := row_free hblk 1
    have ho' := Lib.hid ho
    rw [← hB]
    have hB' := Lib.hid hB
    obtain ⟨z, hz⟩ : ∃ z, z = max r.m 0 - 1 := ⟨_, rfl⟩
    rw [← hz]
    unfold spanV
    have hz' := Lib.hid hz
    clear hblk ho hB hz
    go_wp2
    refine bodyPost_ret (v := spanV 0 z) (by simp [results, Tryz.results173, go_sem, spanV, d0, d1]) rfl ⟨by rw [hz'.out]; rfl, ?_⟩
    exact ((((Only.refl (fun _ => False) w).alloc _).alloc _).trans' ho'.out).trans (((Only.refl (fun k => k = B) w').setCell (p := ⟨B, 0, none⟩) (fun _ => rfl) _).setCell (p := ⟨B, 1, none⟩) (fun _ => rfl) _) (fun x hx e => by have := hB'.out; omega)
  · go_enter Tryz.func173, Tryz.ntmps173
    go_wp2_with fail
    refine (og.out _).mono ?_
    rintro e w' ⟨rfl, ho⟩
    obtain ⟨B, hB⟩ : ∃ B, B = w.heap.size + 1 := ⟨_, rfl⟩
    have hblk := ho.heap (heap_new_at _ (.cells [.int .i64 0, .int .i64 0].toArray 182) (X := B) (by rw [hB]; simp)) (fun h => h)
    have d0 := row_cell hblk (i := 0) rfl
    have d1 := row_cell hblk (i := 1) rfl
    have f0 := row_free hblk 0
    have f1 := row_free hblk 1
    have ho' := Lib.hid ho
    rw [← hB]
    have hB' := Lib.hid hB
    obtain ⟨z, hz⟩ : ∃ z, z = max r.g 0 - 1 := ⟨_, rfl⟩
    rw [← hz]
    unfold spanV
    have hz' := Lib.hid hz
    clear hblk ho hB hz
    go_wp2
    refine bodyPost_ret (v := spanV 0 z) (by simp [results, Tryz.results173, go_sem, spanV, d0, d1]) rfl ⟨by rw [hz'.out]; rfl, ?_⟩
    exact ((((Only.refl (fun _ => False) w).alloc _).alloc _).trans' ho'.out).trans (((Only.refl (fun k => k = B) w').setCell (p := ⟨B, 0, none⟩) (fun _ => rfl) _).setCell (p := ⟨B, 1, none⟩) (fun _ => rfl) _) (fun x hx e => by have := hB'.out; omega)
  · go_enter Tryz.func173, Tryz.ntmps173
    go_wp2_with fail
    refine (og.out _).mono ?_
    rintro e w' ⟨rfl, ho⟩
    obtain ⟨B, hB⟩ : ∃ B, B = w.heap.size + 1 := ⟨_, rfl⟩
    have hblk := ho.heap (heap_new_at _ (.cells [.int .i64 0, .int .i64 0].toArray 182) (X := B) (by rw [hB]; simp)) (fun h => h)
    have d0 := row_cell hblk (i := 0) rfl
    have d1 := row_cell hblk (i := 1) rfl
    have f0 := row_free hblk 0
    have f1 := row_free hblk 1
    have ho' := Lib.hid ho
    rw [← hB]
    have hB' := Lib.hid hB
    obtain ⟨z, hz⟩ : ∃ z, z = max r.g 0 - 1 := ⟨_, rfl⟩
    rw [← hz]
    unfold spanV
    have hz' := Lib.hid hz
    clear hblk ho hB hz
    go_wp2
    refine bodyPost_ret (v := spanV 0 z) (by simp [results, Tryz.results173, go_sem, spanV, d0, d1]) rfl ⟨by rw [hz'.out]; rfl, ?_⟩
    exact ((((Only.refl (fun _ => False) w).alloc _).alloc _).trans' ho'.out).trans (((Only.refl (fun k => k = B) w').setCell (p := ⟨B, 0, none⟩) (fun _ => rfl) _).setCell (p := ⟨B, 1, none⟩) (fun _ => rfl) _) (fun x hx e => by have := hB'.out; omega)
  · go_enter Tryz.func173, Tryz.ntmps173
    go_wp2_with fail
    refine (og.out _).mono ?_
    rintro e w' ⟨rfl, ho⟩
    obtain ⟨B, hB⟩ : ∃ B, B = w.heap.size + 1 := ⟨_, rfl⟩
    have hblk := ho.heap (heap_new_at _ (.cells [.int .i64 0, .int .i64 0].toArray 182) (X := B) (by rw [hB]; simp)) (fun h => h)
    have d0 := row_cell hblk (i := 0) rfl
    have d1 := row_cell hblk (i := 1) rfl
    have f0 := row_free hblk 0
    have f1 := row_free hblk 1
    have ho' := Lib.hid ho
    rw [← hB]
    have hB' := Lib.hid hB
    obtain ⟨z, hz⟩ : ∃ z, z = max r.g 0 - 1 := ⟨_, rfl⟩
    rw [← hz]
    unfold spanV
    have hz' := Lib.hid hz
    clear hblk ho hB hz
    go_wp2
    refine bodyPost_ret (v := spanV 0 z) (by simp [results, Tryz.results173, go_sem, spanV, d0, d1]) rfl ⟨by rw [hz'.out]; rfl, ?_⟩
    exact ((((Only.refl (fun _ => False) w).alloc _).alloc _).trans' ho'.out).trans (((Only.refl (fun k => k = B) w').setCell (p := ⟨B, 0, none⟩) (fun _ => rfl) _).setCell (p := ⟨B, 1, none⟩) (fun _ => rfl) _) (fun x hx e => by have := hB'.out; omega)
  · go_enter Tryz.func173, Tryz.ntmps173
    go_wp2_with fail
    refine (oc.out _).mono ?_
    rintro e w' ⟨rfl, ho⟩
    obtain ⟨B, hB⟩ : ∃ B, B = w.heap.size + 1 := ⟨_, rfl⟩
    have hblk := ho.heap (heap_new_at _ (.cells [.int .i64 0, .int .i64 0].toArray 182) (X := B) (by rw [hB]; simp)) (fun h => h)
    have d0 := row_cell hblk (i := 0) rfl
    have d1 := row_cell hblk (i := 1) rfl
    have f0 := row_free hblk 0
    have f1 := row_free hblk 1
    have ho' := Lib.hid ho
    rw [← hB]
    have hB' := Lib.hid hB
    obtain ⟨z, hz⟩ : ∃ z, z = max r.c 0 - 1 := ⟨_, rfl⟩
    rw [← hz]
    unfold spanV
    have hz' := Lib.hid hz
    clear hblk ho hB hz
    go_wp2
    refine bodyPost_ret (v := spanV 0 z) (by simp [results, Tryz.results173, go_sem, spanV, d0, d1]) rfl ⟨by rw [hz'.out]; rfl, ?_⟩
    exact ((((Only.refl (fun _ => False) w).alloc _).alloc _).trans' ho'.out).trans (((Only.refl (fun k => k = B) w').setCell (p := ⟨B, 0, none⟩) (fun _ => rfl) _).setCell (p := ⟨B, 1, none⟩) (fun _ => rfl) _) (fun x hx e => by have := hB'.out; omega)
  · go_enter Tryz.func173, Tryz.ntmps173
    go_wp2_with fail
    refine (oc.out _).mono ?_
    rintro e w' ⟨rfl, ho⟩
    obtain ⟨B, hB⟩ : ∃ B, B = w.heap.size + 1 := ⟨_, rfl⟩
    have hblk := ho.heap (heap_new_at _ (.cells [.int .i64 0, .int .i64 0].toArray 182) (X := B) (by rw [hB]; simp)) (fun h => h)
    have d0 := row_cell hblk (i := 0) rfl
    have d1 := row_cell hblk (i := 1) rfl
    have f0 := row_free hblk 0
    have f1 := row_free hblk 1
    have ho' := Lib.hid ho
    rw [← hB]
    have hB' := Lib.hid hB
    obtain ⟨z, hz⟩ : ∃ z, z = max r.c 0 - 1 := ⟨_, rfl⟩
    rw [← hz]
    unfold spanV
    have hz' := Lib.hid hz
    clear hblk ho hB hz
    go_wp2
    refine bodyPost_ret (v := spanV 0 z) (by simp [results, Tryz.results173, go_sem, spanV, d0, d1]) rfl ⟨by rw [hz'.out]; rfl, ?_⟩
    exact ((((Only.refl (fun _ => False) w).alloc _).alloc _).trans' ho'.out).trans (((Only.refl (fun k => k = B) w').setCell (p := ⟨B, 0, none⟩) (fun _ => rfl) _).setCell (p := ⟨B, 1, none⟩) (fun _ => rfl) _) (fun x hx e => by have := hB'.out; omega)
end Go.Proofs.YtlbinlhaejhobaaGreatDoor
/- Package prog's Op, and the document's own: one answer for both. -/
namespace Go.Proofs.YtlbinlhaejhobaaGreatDoor
open Go Go.RowKit

/-- An operation. -/
structure Opn where
  k : Int
  a : Int
  b : Int
def Opn.val (o : Opn) : Value := .agg #[.int .i64 o.k, .int .i64 o.a, .int .i64 o.b]
def Opn.cells (o : Opn) : List Value := [.int .i64 o.k, .int .i64 o.a, .int .i64 o.b]
/-- The answer for a kind that is one. -/
def opV (k : Nat) (a b : Int) (r : RoomV) : Int := if inB (loA k) (hiA k r) a = true ∧ inB 0 (hiB k) b = true then 0 else 5
def opZ (o : Opn) (r : RoomV) : Int :=
  if o.k < 1 ∨ 15 < o.k then 1 else opV o.k.toNat o.a o.b r

set_option maxHeartbeats 800000 in
theorem seconds_any {w : World} (hw : Words w) (k : Nat) (h1 : 1 ≤ k) (h2 : k ≤ 15) : Calls Tryz.prog 175 #[.int .i64 k] w (GrowV (spanV 0 (hiB k)) w) := by
  have hn := Lib.hid (fun W (hW : Only (fun _ => False) w W) => numbers_any (hw.new hW) (k : Int))
  have hnz := numZ_in h1 h2
  by_cases h22 : numZ (k : Int) = 2
  · have hb : hiB k = 255 := by
      rw [hnz] at h22
      have hk : k = 1 ∨ k = 2 ∨ k = 3 ∨ k = 4 ∨ k = 5 ∨ k = 6 ∨ k = 7 ∨ k = 8 ∨ k = 9 ∨ k = 10 ∨ k = 11 ∨ k = 12 ∨ k = 13 ∨ k = 14 ∨ k = 15 := by omega
      rcases hk with rfl | rfl | rfl | rfl | rfl | rfl | rfl | rfl | rfl | rfl | rfl | rfl | rfl | rfl | rfl <;> first | rfl | (exfalso; revert h22; decide)
    rw [hb]
    rw [h22] at hn
    clear hnz hw h1 h2 hb h22
    go_enter Tryz.func175, Tryz.ntmps175
    go_wp2_with (go_at_call 172; refine (hn.out _ ((Only.refl _ w).alloc _)).mono ?_; rintro e w' ⟨rfl, rfl⟩)
    exact bodyPost_ret (v := spanV 0 255) (by simp [results, Tryz.results175, go_sem, spanV]) rfl ⟨rfl, (Only.refl _ w).alloc _⟩
  · have hb : hiB k = 0 := by
      rw [hnz] at h22
      have hk : k = 1 ∨ k = 2 ∨ k = 3 ∨ k = 4 ∨ k = 5 ∨ k = 6 ∨ k = 7 ∨ k = 8 ∨ k = 9 ∨ k = 10 ∨ k = 11 ∨ k = 12 ∨ k = 13 ∨ k = 14 ∨ k = 15 := by omega
      rcases hk with rfl | rfl | rfl | rfl | rfl | rfl | rfl | rfl | rfl | rfl | rfl | rfl | rfl | rfl | rfl <;> first | rfl | (exfalso; revert h22; decide)
    rw [hb]
    have hne : (numZ (k : Int) == 2) = false := by simpa using h22
    obtain ⟨z, hz⟩ : ∃ z, z = numZ (k : Int) := ⟨_, rfl⟩
    rw [← hz] at hn hne
    clear hnz hw h1 h2 hb h22 hz
    go_enter Tryz.func175, Tryz.ntmps175
    go_wp2_with (go_at_call 172; refine (hn.out _ ((Only.refl _ w).alloc _)).mono ?_; rintro e w' ⟨rfl, rfl⟩)
    exact bodyPost_ret (v := spanV 0 0) (by simp [results, Tryz.results175, go_sem, spanV]) rfl ⟨rfl, (Only.refl _ w).alloc _⟩

set_option maxHeartbeats 800000 in
theorem op_none {w : World} (hw : Words w) (o : Opn) (r : RoomV) (hk : o.k < 1 ∨ 15 < o.k) : Calls Tryz.prog 136 #[o.val, r.val] w (GrowI 1 w) := by
  have hn := fun W (hW : Only (fun _ => False) w W) => numbers_any (hw.new hW) o.k
  rw [show numZ o.k = -1 by unfold numZ; rw [if_pos hk]] at hn
  have hn' := Lib.hid hn
  clear hw hk hn
  unfold Opn.val RoomV.val
  go_enter Tryz.func136, Tryz.ntmps136
  go_wp2_with (go_at_call 172; refine (hn'.out _ (((Only.refl _ w).alloc _).alloc _)).mono ?_; rintro e w' ⟨rfl, rfl⟩)
  go_ret
  exact ⟨rfl, ((Only.refl _ w).alloc _).alloc _⟩

set_option maxHeartbeats 2000000 in
theorem op_some {w : World} (hw : Words w) (a b : Int) (k : Nat) (h1 : 1 ≤ k) (h2 : k ≤ 15) (r : RoomV) (hr : r.ok) : Calls Tryz.prog 136 #[Opn.val ⟨k, a, b⟩, r.val] w (GrowI (opV k a b r) w) := by
  have hn := fun W (hW : Only (fun _ => False) w W) => numbers_any (hw.new hW) (k : Int)
  rw [numZ_in h1 h2] at hn
  obtain ⟨z, hz⟩ : ∃ z, z = wnums.getD k 0 := ⟨_, rfl⟩
  rw [← hz] at hn
  have hz0 : ¬ z < 0 := by
    rw [hz]
    have hk : k = 1 ∨ k = 2 ∨ k = 3 ∨ k = 4 ∨ k = 5 ∨ k = 6 ∨ k = 7 ∨ k = 8 ∨ k = 9 ∨ k = 10 ∨ k = 11 ∨ k = 12 ∨ k = 13 ∨ k = 14 ∨ k = 15 := by omega
    rcases hk with rfl | rfl | rfl | rfl | rfl | rfl | rfl | rfl | rfl | rfl | rfl | rfl | rfl | rfl | rfl <;> decide
  have hn' := Lib.hid hn
  have hw' := Lib.hid hw
  have hr' := Lib.hid hr
  clear hw hr hz hn
  unfold Opn.val
  have hrv : r.val = .agg #[.int .i64 r.m, .int .i64 r.g, .int .i64 r.c, .int .i64 r.l] := rfl
  rw [hrv]
  have hrv' := Lib.hid hrv
  clear hrv
  go_enter Tryz.func136, Tryz.ntmps136
  go_wp2_with (go_at_call 172; refine (hn'.out _ (((Only.refl _ w).alloc _).alloc _)).mono ?_; rintro e w' ⟨rfl, rfl⟩)
  have hO : Only (fun _ => False) w ((w.alloc (.cells #[.int .i64 k, .int .i64 a, .int .i64 b] 90)).alloc (.cells #[.int .i64 r.m, .int .i64 r.g, .int .i64 r.c, .int .i64 r.l] 125)) := ((Only.refl _ w).alloc _).alloc _
  have b1 : ((w.alloc (.cells #[.int .i64 k, .int .i64 a, .int .i64 b] 90)).alloc (.cells #[.int .i64 r.m, .int .i64 r.g, .int .i64 r.c, .int .i64 r.l] 125)).heap[w.heap.size]? = some (.cells [.int .i64 k, .int .i64 a, .int .i64 b].toArray 90 (0, 0)) := heap_kept_alloc (heap_new_at _ _ rfl) _
  have b2 : ((w.alloc (.cells #[.int .i64 k, .int .i64 a, .int .i64 b] 90)).alloc (.cells #[.int .i64 r.m, .int .i64 r.g, .int .i64 r.c, .int .i64 r.l] 125)).heap[w.heap.size + 1]? = some (.cells [.int .i64 r.m, .int .i64 r.g, .int .i64 r.c, .int .i64 r.l].toArray 125 (0, 0)) := heap_new_at _ _ (by simp)
  generalize World.alloc (World.alloc w _) _ = W0 at *
  have c0 := wd_cell (row_cell b1 (i := 0) rfl)
  have c1 := wd_cell (row_cell b1 (i := 1) rfl)
  have c2 := wd_cell (row_cell b1 (i := 2) rfl)
  have r0 := wd_cell (row_cell b2 (i := 0) rfl)
  have r1 := wd_cell (row_cell b2 (i := 1) rfl)
  have r2 := wd_cell (row_cell b2 (i := 2) rfl)
  have r3 := wd_cell (row_cell b2 (i := 3) rfl)
  have hex := wd_ex W0
  have hO' := Lib.hid hO
  have hfi := Lib.hid (fun x : Wd W0 => Calls.wd (x := x) (firsts_any x.W r hr'.out k h1 h2))
  have hse := Lib.hid (fun x : Wd W0 => Calls.wd (x := x) (seconds_any (hw'.out.new (hO.trans' x.ok)) k h1 h2))
  rw [hrv'.out] at hfi
  obtain ⟨iA, hiA'⟩ : ∃ iA, iA = inB (loA k) (hiA k r) a := ⟨_, rfl⟩
  obtain ⟨iB, hiB'⟩ : ∃ iB, iB = inB 0 (hiB k) b := ⟨_, rfl⟩
  have hhA := fun x : Wd W0 => Calls.wd (x := x) (has_any x.W a (loA k) (hiA k r))
  have hhB := fun x : Wd W0 => Calls.wd (x := x) (has_any x.W b 0 (hiB k))
  rw [← hiA'] at hhA
  rw [← hiB'] at hhB
  have hAB := Lib.hid (And.intro hiA' hiB')
  have hhA' := Lib.hid hhA
  have hhB' := Lib.hid hhB
  clear b1 b2 hO hhA hhB hiA' hiB' h1 h2
  cases iA with
  | false =>
    refine wp_region_wd (by kernel_rfl) (by kernel_rfl) ?_
    repeat (go_big_quiet_step (first | (go_at_call 173; exact hfi.out _) | (go_at_call 174; exact hhA'.out _)))
    refine wpQuiet_nil ?_
    rintro _ ⟨x, rfl⟩
    have hx := Lib.hid (hO'.out.trans' x.ok)
    go_wp2
    go_ret
    exact ⟨ret_int (by unfold opV; rw [← hAB.out.1, ← hAB.out.2, if_neg (by simp)]), hx.out⟩
  | true =>
    cases iB with
    | false =>
      refine wp_region_wd (by kernel_rfl) (by kernel_rfl) ?_
      repeat (go_big_quiet_step (first | (go_at_call 173; exact hfi.out _) | (go_at_call 175; exact hse.out _) | (go_at_call 174; first | (with_reducible exact hhA'.out _) | (with_reducible exact hhB'.out _))))
      refine wpQuiet_nil ?_
      rintro _ ⟨x, rfl⟩
      have hx := Lib.hid (hO'.out.trans' x.ok)
      go_wp2
      go_ret
      exact ⟨ret_int (by unfold opV; rw [← hAB.out.1, ← hAB.out.2, if_neg (by simp)]), hx.out⟩
    | true =>
      refine wp_region_wd (by kernel_rfl) (by kernel_rfl) ?_
      repeat (go_big_quiet_step (first | (go_at_call 173; exact hfi.out _) | (go_at_call 175; exact hse.out _) | (go_at_call 174; first | (with_reducible exact hhA'.out _) | (with_reducible exact hhB'.out _))))
      refine wpQuiet_nil ?_
      rintro _ ⟨x, rfl⟩
      have hx := Lib.hid (hO'.out.trans' x.ok)
      go_wp2
      go_ret
      exact ⟨ret_int (by unfold opV; rw [← hAB.out.1, ← hAB.out.2, if_pos (by simp)]), hx.out⟩

theorem op_any {w : World} (hw : Words w) (o : Opn) (r : RoomV) (hr : r.ok) : Calls Tryz.prog 136 #[o.val, r.val] w (GrowI (opZ o r) w) := by
  obtain ⟨k, a, b⟩ := o
  by_cases hk : k < 1 ∨ 15 < k
  · have := op_none hw ⟨k, a, b⟩ r hk
    rwa [show opZ ⟨k, a, b⟩ r = 1 by unfold opZ; rw [if_pos hk]]
  · obtain ⟨n, rfl⟩ : ∃ n : Nat, k = n := ⟨k.toNat, by omega⟩
    have := op_some hw a b n (by omega) (by omega) r hr
    rwa [show opZ ⟨(n : Int), a, b⟩ r = opV n a b r by unfold opZ; rw [if_neg hk]; rfl]
end Go.Proofs.YtlbinlhaejhobaaGreatDoor
/- Configurations in memory; what asks their numbers. -/
namespace Go.Proofs.YtlbinlhaejhobaaGreatDoor
open Go Go.RowKit

/-- A slice's three numbers. -/
structure Sl where
  A : Option Addr
  n : Nat
  cap : Nat
def Sl.val (x : Sl) : Value := .slice x.A x.n x.cap
/-- A task's numbers and its program's slice. -/
structure TaskV where
  p : Int
  th : Int
  pe : Int
  de : Int
  fr : Int
  fl : Int
  o : Sl
def TaskV.cells (t : TaskV) : List Value := [.int .i64 t.p, .int .i64 t.th, .int .i64 t.pe, .int .i64 t.de, .int .i64 t.fr, .int .i64 t.fl, .slice t.o.A t.o.n t.o.cap]
def TaskV.val (t : TaskV) : Value := .agg #[.int .i64 t.p, .int .i64 t.th, .int .i64 t.pe, .int .i64 t.de, .int .i64 t.fr, .int .i64 t.fl, .slice t.o.A t.o.n t.o.cap]
/-- A configuration's. -/
structure ConfV where
  s : Int
  wy : Int
  h : Int
  mi : Int
  mb : Sl
  g : Int
  cn : Sl
  ce : Sl
  ta : Sl
  li : Sl
def ConfV.cells (c : ConfV) : List Value := [.int .i64 c.s, .int .i64 c.wy, .int .i64 c.h, .int .i64 c.mi, .slice c.mb.A c.mb.n c.mb.cap, .int .i64 c.g, .slice c.cn.A c.cn.n c.cn.cap, .slice c.ce.A c.ce.n c.ce.cap, .slice c.ta.A c.ta.n c.ta.cap, .slice c.li.A c.li.n c.li.cap]
def ConfV.val (c : ConfV) : Value := .agg #[.int .i64 c.s, .int .i64 c.wy, .int .i64 c.h, .int .i64 c.mi, .slice c.mb.A c.mb.n c.mb.cap, .int .i64 c.g, .slice c.cn.A c.cn.n c.cn.cap, .slice c.ce.A c.ce.n c.ce.cap, .slice c.ta.A c.ta.n c.ta.cap, .slice c.li.A c.li.n c.li.cap]

/-- Ints in memory. -/
structure IntsAt (w : World) (x : Sl) (l : List Int) : Prop where
  len : l.length = x.n
  cap : x.n ≤ x.cap
  at_ : ∀ (k : Nat) z, l[k]? = some z → ∃ b off, x.A = some ⟨b, off, none⟩ ∧ b < w.heap.size ∧ w.cell? ⟨b, off + k, none⟩ = some (.int .i64 z)
theorem IntsAt.new {w w' : World} {x : Sl} {l : List Int} (h : IntsAt w x l) (ho : Only (fun _ => False) w w') : IntsAt w' x l :=
  ⟨h.len, h.cap, fun k z hz => by
    obtain ⟨b, off, hA, hb, hc⟩ := h.at_ k z hz
    exact ⟨b, off, hA, Nat.lt_of_lt_of_le hb ho.size, ho.cell hc (fun h => h)⟩⟩
def allIn (lo hi : Int) (l : List Int) : Bool := l.all (inB lo hi)
theorem allIn_not {lo hi : Int} {l : List Int} {k : Nat} {z : Int} (h : l[k]? = some z) (hz : inB lo hi z = false) : allIn lo hi l = false := by
  unfold allIn
  rw [List.all_eq_false]
  exact ⟨z, List.mem_of_getElem? h, by simp [hz]⟩
theorem allIn_all {lo hi : Int} {l : List Int} (h : ∀ (k : Nat) z, l[k]? = some z → inB lo hi z = true) : allIn lo hi l = true := by
  unfold allIn
  rw [List.all_eq_true]
  intro z hz
  obtain ⟨k, hk⟩ := List.getElem?_of_mem hz
  exact h k z hk
theorem inB_lt {lo hi z : Int} (h : z < lo) : inB lo hi z = false := by unfold inB; simp; omega
theorem inB_gt {lo hi z : Int} (h : hi < z) : inB lo hi z = false := by unfold inB; simp; omega
theorem inB_ok {lo hi z : Int} (h1 : ¬ z < lo) (h2 : ¬ hi < z) : inB lo hi z = true := by unfold inB; simp; omega

theorem within_any {w : World} {x : Sl} {l : List Int} (hl : IntsAt w x l) (h9 : x.n ≤ 1000000) (lo hi : Int) : Calls Tryz.prog 98 #[.int .i64 lo, .int .i64 hi, .slice x.A x.n x.cap] w (RetB (allIn lo hi l) w) := by
  obtain ⟨A, n, cap⟩ := x
  have hl' := Lib.hid hl
  have hlen := hl.len
  simp only at *
  have hlen' := Lib.hid hlen
  clear hl hlen
  go_enter Tryz.func98, Tryz.ntmps98
  go_wp2
  go_loopw [11] (fun i wr => ∃ k : Nat, k ≤ n ∧ i = .int .i64 k ∧ (∀ (j : Nat) z, j < k → l[j]? = some z → inB lo hi z = true) ∧ w = wr) (fun i _ => n - (intOf i).toNat)
  case atStart => exact ⟨0, Nat.zero_le _, rfl, (fun j z hj => by omega), rfl⟩
  case round =>
    obtain ⟨k, hk, rfl, hall, rfl⟩ := hrel
    have hall' := Lib.hid hall
    clear hall
    by_cases hkn : k < n
    · have hkn' : (k : Int) < (n : Int) := by omega
      obtain ⟨z, hz⟩ : ∃ z, l[k]? = some z := ⟨_, List.getElem?_eq_getElem (by have := hlen'.out; omega)⟩
      obtain ⟨b, off, hA, hb, c0⟩ := hl'.out.at_ k z hz
      simp only at hA
      subst hA
      have hz' := Lib.hid hz
      clear hz
      by_cases h1 : z < lo
      · have hv := Lib.hid (allIn_not hz'.out (inB_lt h1 (hi := hi)))
        go_wp2
        go_ret
        exact ⟨ret_bool hv.out.symm, rfl⟩
      · by_cases h2 : hi < z
        · have hv := Lib.hid (allIn_not hz'.out (inB_gt h2 (lo := lo)))
          go_wp2
          go_ret
          exact ⟨ret_bool hv.out.symm, rfl⟩
        · have hnx := Lib.hid (show ∀ (j : Nat) y, j < k + 1 → l[j]? = some y → inB lo hi y = true from fun j y hj hy => by
            by_cases hjk : j < k
            · exact hall'.out j y hjk hy
            · obtain rfl : j = k := by omega
              rw [hz'.out] at hy
              cases hy
              exact inB_ok h1 h2)
          go_wp2
          go_roundw
          case rel => exact ⟨k + 1, by omega, by go_num, hnx.out, trivial⟩
          case measure => simp [intOf]; omega
    · obtain rfl : k = n := by omega
      have hv := Lib.hid (allIn_all (l := l) (fun j z hz => hall'.out j z (by have := (List.getElem?_eq_some_iff.1 hz).1; have := hlen'.out; omega) hz))
      go_wp2
      go_ret
      exact ⟨ret_bool hv.out.symm, rfl⟩
/-- One number, in a row that was just made. -/
theorem within_one {W : World} {X : Nat} (hX : W.heap.size = X) (z lo hi : Int) : Calls Tryz.prog 98 #[.int .i64 lo, .int .i64 hi, .slice (some ⟨X, 0, none⟩) 1 1] (W.alloc (.cells #[.int .i64 z] 3)) (RetB (inB lo hi z) (W.alloc (.cells #[.int .i64 z] 3))) := by
  have hb := heap_new_at W (.cells [.int .i64 z].toArray 3) hX
  have h := within_any (w := W.alloc (.cells #[.int .i64 z] 3)) (x := ⟨some ⟨X, 0, none⟩, 1, 1⟩) (l := [z]) ⟨rfl, Nat.le_refl _, fun k y hy => by
    cases k with
    | zero =>
      cases hy
      exact ⟨X, 0, rfl, row_lt hb, row_cell hb rfl⟩
    | succ k => simp at hy⟩ (by show 1 ≤ 1000000; omega) lo hi
  rw [show allIn lo hi [z] = inB lo hi z by simp [allIn]] at h
  exact h
theorem rin_any (w : World) (n a b : Int) : Calls Tryz.prog 49 #[.int .i64 n, .int .i64 a, .int .i64 b] w (RetB (inB a b n) w) := by
  by_cases h1 : a ≤ n
  · by_cases h2 : n ≤ b
    · have hz := Lib.hid (show true = inB a b n by simp [inB, h1, h2])
      go_enter Tryz.func49, Tryz.ntmps49
      go_wp2
      go_ret
      exact ⟨ret_bool hz.out, rfl⟩
    · have hz := Lib.hid (show false = inB a b n by simp [inB]; omega)
      go_enter Tryz.func49, Tryz.ntmps49
      go_wp2
      go_ret
      exact ⟨ret_bool hz.out, rfl⟩
  · have hz := Lib.hid (show false = inB a b n by simp [inB]; omega)
    go_enter Tryz.func49, Tryz.ntmps49
    go_wp2
    go_ret
    exact ⟨ret_bool hz.out, rfl⟩
theorem rall_any {w : World} {x : Sl} {l : List Int} (hl : IntsAt w x l) (h9 : x.n ≤ 1000000) (lo hi : Int) : Calls Tryz.prog 50 #[.slice x.A x.n x.cap, .int .i64 lo, .int .i64 hi] w (RetB (allIn lo hi l) w) := by
  obtain ⟨A, n, cap⟩ := x
  have hl' := Lib.hid hl
  have hlen := hl.len
  simp only at *
  have hlen' := Lib.hid hlen
  have q := Lib.hid (fun z => rin_any w z lo hi)
  clear hl hlen
  go_enter Tryz.func50, Tryz.ntmps50
  go_wp2
  go_loopw [11] (fun i wr => ∃ k : Nat, k ≤ n ∧ i = .int .i64 k ∧ (∀ (j : Nat) z, j < k → l[j]? = some z → inB lo hi z = true) ∧ w = wr) (fun i _ => n - (intOf i).toNat)
  case atStart => exact ⟨0, Nat.zero_le _, rfl, (fun j z hj => by omega), rfl⟩
  case round =>
    obtain ⟨k, hk, rfl, hall, rfl⟩ := hrel
    have hall' := Lib.hid hall
    clear hall
    by_cases hkn : k < n
    · have hkn' : (k : Int) < (n : Int) := by omega
      obtain ⟨z, hz⟩ : ∃ z, l[k]? = some z := ⟨_, List.getElem?_eq_getElem (by have := hlen'.out; omega)⟩
      obtain ⟨b, off, hA, hb, c0⟩ := hl'.out.at_ k z hz
      simp only at hA
      subst hA
      have hz' := Lib.hid hz
      have q1 := Lib.hid (q.out z)
      clear hz
      cases hv : inB lo hi z
      · rw [hv] at q1
        have hv' := Lib.hid (allIn_not hz'.out hv)
        clear hv
        go_wp2_with (go_at_call 49; refine q1.out.mono ?_; rintro e w' ⟨rfl, rfl⟩)
        go_ret
        exact ⟨ret_bool hv'.out.symm, rfl⟩
      · rw [hv] at q1
        have hnx := Lib.hid (show ∀ (j : Nat) y, j < k + 1 → l[j]? = some y → inB lo hi y = true from fun j y hj hy => by
          by_cases hjk : j < k
          · exact hall'.out j y hjk hy
          · obtain rfl : j = k := by omega
            rw [hz'.out] at hy
            cases hy
            exact hv)
        clear hv
        go_wp2_with (go_at_call 49; refine q1.out.mono ?_; rintro e w' ⟨rfl, rfl⟩)
        go_roundw
        case rel => exact ⟨k + 1, by omega, by go_num, hnx.out, trivial⟩
        case measure => simp [intOf]; omega
    · obtain rfl : k = n := by omega
      have hv := Lib.hid (allIn_all (l := l) (fun j z hz => hall'.out j z (by have := (List.getElem?_eq_some_iff.1 hz).1; have := hlen'.out; omega) hz))
      go_wp2
      go_ret
      exact ⟨ret_bool hv.out.symm, rfl⟩
end Go.Proofs.YtlbinlhaejhobaaGreatDoor
/- Machines and tasks: their numbers. -/
namespace Go.Proofs.YtlbinlhaejhobaaGreatDoor
open Go Go.RowKit

def machB (s wy h mi : Int) : Bool := inB 1 16 s && inB 1 4 wy && inB 1 100 h && inB h 100 mi
def taskB (p th pe de fr fl : Int) : Bool := inB 0 63 p && inB p 63 th && inB 1 1048576 pe && inB 1 pe de && inB 0 4096 fr && inB 0 1048576 fl
theorem retg_bool {a b : Bool} (h : a = b) {w w' : World} (ho : Only (fun _ => False) w w') : GrowB b w (.returned (.bool a)) w' := ⟨by rw [h], ho⟩

set_option maxRecDepth 100000 in
set_option maxHeartbeats 1000000 in
theorem machine_any (w : World) (s wy h mi : Int) : Calls Tryz.prog 71 #[.agg #[.int .i64 s, .int .i64 wy, .int .i64 h, .int .i64 mi]] w (GrowB (machB s wy h mi) w) := by
  obtain ⟨b1, e1⟩ : ∃ b, b = inB 1 16 s := ⟨_, rfl⟩
  have q1 := Lib.hid (fun (W : World) (X : Nat) (hX : W.heap.size = X) => within_one hX s 1 16)
  rw [← e1] at q1
  obtain ⟨b2, e2⟩ : ∃ b, b = inB 1 4 wy := ⟨_, rfl⟩
  have q2 := Lib.hid (fun (W : World) (X : Nat) (hX : W.heap.size = X) => within_one hX wy 1 4)
  rw [← e2] at q2
  obtain ⟨b3, e3⟩ : ∃ b, b = inB 1 100 h := ⟨_, rfl⟩
  have q3 := Lib.hid (fun (W : World) (X : Nat) (hX : W.heap.size = X) => within_one hX h 1 100)
  rw [← e3] at q3
  obtain ⟨b4, e4⟩ : ∃ b, b = inB h 100 mi := ⟨_, rfl⟩
  have q4 := Lib.hid (fun (W : World) (X : Nat) (hX : W.heap.size = X) => within_one hX mi h 100)
  rw [← e4] at q4
  have hv := Lib.hid (show machB s wy h mi = (b1 && b2 && b3 && b4) from by unfold machB; rw [← e1, ← e2, ← e3, ← e4])
  rw [hv.out]
  clear e1 e2 e3 e4 hv
  cases b1
  · skip
    go_enter Tryz.func71, Tryz.ntmps71
    go_wp2_with fail
    refine (q1.out _ _ (by simp)).mono ?_
    rintro e w' ⟨rfl, rfl⟩
    go_wp2
    go_ret
    refine retg_bool (by simp) ?_
    repeat first | exact Only.refl _ _ | refine Only.alloc ?_ _
  · skip
    cases b2
    · skip
      go_enter Tryz.func71, Tryz.ntmps71
      go_wp2_with fail
      refine (q1.out _ _ (by simp)).mono ?_
      rintro e w' ⟨rfl, rfl⟩
      go_wp2_with fail
      refine (q2.out _ _ (by simp)).mono ?_
      rintro e w' ⟨rfl, rfl⟩
      go_wp2
      go_ret
      refine retg_bool (by simp) ?_
      repeat first | exact Only.refl _ _ | refine Only.alloc ?_ _
    · skip
      cases b3
      · skip
        go_enter Tryz.func71, Tryz.ntmps71
        go_wp2_with fail
        refine (q1.out _ _ (by simp)).mono ?_
        rintro e w' ⟨rfl, rfl⟩
        go_wp2_with fail
        refine (q2.out _ _ (by simp)).mono ?_
        rintro e w' ⟨rfl, rfl⟩
        go_wp2_with fail
        refine (q3.out _ _ (by simp)).mono ?_
        rintro e w' ⟨rfl, rfl⟩
        go_wp2
        go_ret
        refine retg_bool (by simp) ?_
        repeat first | exact Only.refl _ _ | refine Only.alloc ?_ _
      · skip
        cases b4
        · skip
          go_enter Tryz.func71, Tryz.ntmps71
          go_wp2_with fail
          refine (q1.out _ _ (by simp)).mono ?_
          rintro e w' ⟨rfl, rfl⟩
          go_wp2_with fail
          refine (q2.out _ _ (by simp)).mono ?_
          rintro e w' ⟨rfl, rfl⟩
          go_wp2_with fail
          refine (q3.out _ _ (by simp)).mono ?_
          rintro e w' ⟨rfl, rfl⟩
          go_wp2_with fail
          refine (q4.out _ _ (by simp)).mono ?_
          rintro e w' ⟨rfl, rfl⟩
          go_wp2
          go_ret
          refine retg_bool (by simp) ?_
          repeat first | exact Only.refl _ _ | refine Only.alloc ?_ _
        · skip
          go_enter Tryz.func71, Tryz.ntmps71
          go_wp2_with fail
          refine (q1.out _ _ (by simp)).mono ?_
          rintro e w' ⟨rfl, rfl⟩
          go_wp2_with fail
          refine (q2.out _ _ (by simp)).mono ?_
          rintro e w' ⟨rfl, rfl⟩
          go_wp2_with fail
          refine (q3.out _ _ (by simp)).mono ?_
          rintro e w' ⟨rfl, rfl⟩
          go_wp2_with fail
          refine (q4.out _ _ (by simp)).mono ?_
          rintro e w' ⟨rfl, rfl⟩
          go_wp2
          go_ret
          refine retg_bool (by simp) ?_
          repeat first | exact Only.refl _ _ | refine Only.alloc ?_ _

set_option maxRecDepth 100000 in
set_option maxHeartbeats 1000000 in
theorem mayTask_any (w : World) (t : TaskV) : Calls Tryz.prog 100 #[t.val] w (GrowB (taskB t.p t.th t.pe t.de t.fr t.fl) w) := by
  obtain ⟨b1, e1⟩ : ∃ b, b = inB 0 63 t.p := ⟨_, rfl⟩
  have q1 := Lib.hid (fun (W : World) (X : Nat) (hX : W.heap.size = X) => within_one hX t.p 0 63)
  rw [← e1] at q1
  obtain ⟨b2, e2⟩ : ∃ b, b = inB t.p 63 t.th := ⟨_, rfl⟩
  have q2 := Lib.hid (fun (W : World) (X : Nat) (hX : W.heap.size = X) => within_one hX t.th t.p 63)
  rw [← e2] at q2
  obtain ⟨b3, e3⟩ : ∃ b, b = inB 1 1048576 t.pe := ⟨_, rfl⟩
  have q3 := Lib.hid (fun (W : World) (X : Nat) (hX : W.heap.size = X) => within_one hX t.pe 1 1048576)
  rw [← e3] at q3
  obtain ⟨b4, e4⟩ : ∃ b, b = inB 1 t.pe t.de := ⟨_, rfl⟩
  have q4 := Lib.hid (fun (W : World) (X : Nat) (hX : W.heap.size = X) => within_one hX t.de 1 t.pe)
  rw [← e4] at q4
  obtain ⟨b5, e5⟩ : ∃ b, b = inB 0 4096 t.fr := ⟨_, rfl⟩
  have q5 := Lib.hid (fun (W : World) (X : Nat) (hX : W.heap.size = X) => within_one hX t.fr 0 4096)
  rw [← e5] at q5
  obtain ⟨b6, e6⟩ : ∃ b, b = inB 0 1048576 t.fl := ⟨_, rfl⟩
  have q6 := Lib.hid (fun (W : World) (X : Nat) (hX : W.heap.size = X) => within_one hX t.fl 0 1048576)
  rw [← e6] at q6
  have hv := Lib.hid (show taskB t.p t.th t.pe t.de t.fr t.fl = (b1 && b2 && b3 && b4 && b5 && b6) from by unfold taskB; rw [← e1, ← e2, ← e3, ← e4, ← e5, ← e6])
  rw [hv.out]
  clear e1 e2 e3 e4 e5 e6 hv
  rw [show t.val = .agg #[.int .i64 t.p, .int .i64 t.th, .int .i64 t.pe, .int .i64 t.de, .int .i64 t.fr, .int .i64 t.fl, .slice t.o.A t.o.n t.o.cap] from rfl]
  cases b1
  · skip
    go_enter Tryz.func100, Tryz.ntmps100
    go_wp2_with fail
    refine (q1.out _ _ (by simp)).mono ?_
    rintro e w' ⟨rfl, rfl⟩
    go_wp2
    go_ret
    refine retg_bool (by simp) ?_
    repeat first | exact Only.refl _ _ | refine Only.alloc ?_ _
  · skip
    cases b2
    · skip
      go_enter Tryz.func100, Tryz.ntmps100
      go_wp2_with fail
      refine (q1.out _ _ (by simp)).mono ?_
      rintro e w' ⟨rfl, rfl⟩
      go_wp2_with fail
      refine (q2.out _ _ (by simp)).mono ?_
      rintro e w' ⟨rfl, rfl⟩
      go_wp2
      go_ret
      refine retg_bool (by simp) ?_
      repeat first | exact Only.refl _ _ | refine Only.alloc ?_ _
    · skip
      cases b3
      · skip
        go_enter Tryz.func100, Tryz.ntmps100
        go_wp2_with fail
        refine (q1.out _ _ (by simp)).mono ?_
        rintro e w' ⟨rfl, rfl⟩
        go_wp2_with fail
        refine (q2.out _ _ (by simp)).mono ?_
        rintro e w' ⟨rfl, rfl⟩
        go_wp2_with fail
        refine (q3.out _ _ (by simp)).mono ?_
        rintro e w' ⟨rfl, rfl⟩
        go_wp2
        go_ret
        refine retg_bool (by simp) ?_
        repeat first | exact Only.refl _ _ | refine Only.alloc ?_ _
      · skip
        cases b4
        · skip
          go_enter Tryz.func100, Tryz.ntmps100
          go_wp2_with fail
          refine (q1.out _ _ (by simp)).mono ?_
          rintro e w' ⟨rfl, rfl⟩
          go_wp2_with fail
          refine (q2.out _ _ (by simp)).mono ?_
          rintro e w' ⟨rfl, rfl⟩
          go_wp2_with fail
          refine (q3.out _ _ (by simp)).mono ?_
          rintro e w' ⟨rfl, rfl⟩
          go_wp2_with fail
          refine (q4.out _ _ (by simp)).mono ?_
          rintro e w' ⟨rfl, rfl⟩
          go_wp2
          go_ret
          refine retg_bool (by simp) ?_
          repeat first | exact Only.refl _ _ | refine Only.alloc ?_ _
        · skip
          cases b5
          · skip
            go_enter Tryz.func100, Tryz.ntmps100
            go_wp2_with fail
            refine (q1.out _ _ (by simp)).mono ?_
            rintro e w' ⟨rfl, rfl⟩
            go_wp2_with fail
            refine (q2.out _ _ (by simp)).mono ?_
            rintro e w' ⟨rfl, rfl⟩
            go_wp2_with fail
            refine (q3.out _ _ (by simp)).mono ?_
            rintro e w' ⟨rfl, rfl⟩
            go_wp2_with fail
            refine (q4.out _ _ (by simp)).mono ?_
            rintro e w' ⟨rfl, rfl⟩
            go_wp2_with fail
            refine (q5.out _ _ (by simp)).mono ?_
            rintro e w' ⟨rfl, rfl⟩
            go_wp2
            go_ret
            refine retg_bool (by simp) ?_
            repeat first | exact Only.refl _ _ | refine Only.alloc ?_ _
          · skip
            cases b6
            · skip
              go_enter Tryz.func100, Tryz.ntmps100
              go_wp2_with fail
              refine (q1.out _ _ (by simp)).mono ?_
              rintro e w' ⟨rfl, rfl⟩
              go_wp2_with fail
              refine (q2.out _ _ (by simp)).mono ?_
              rintro e w' ⟨rfl, rfl⟩
              go_wp2_with fail
              refine (q3.out _ _ (by simp)).mono ?_
              rintro e w' ⟨rfl, rfl⟩
              go_wp2_with fail
              refine (q4.out _ _ (by simp)).mono ?_
              rintro e w' ⟨rfl, rfl⟩
              go_wp2_with fail
              refine (q5.out _ _ (by simp)).mono ?_
              rintro e w' ⟨rfl, rfl⟩
              go_wp2_with fail
              refine (q6.out _ _ (by simp)).mono ?_
              rintro e w' ⟨rfl, rfl⟩
              go_wp2
              go_ret
              refine retg_bool (by simp) ?_
              repeat first | exact Only.refl _ _ | refine Only.alloc ?_ _
            · skip
              go_enter Tryz.func100, Tryz.ntmps100
              go_wp2_with fail
              refine (q1.out _ _ (by simp)).mono ?_
              rintro e w' ⟨rfl, rfl⟩
              go_wp2_with fail
              refine (q2.out _ _ (by simp)).mono ?_
              rintro e w' ⟨rfl, rfl⟩
              go_wp2_with fail
              refine (q3.out _ _ (by simp)).mono ?_
              rintro e w' ⟨rfl, rfl⟩
              go_wp2_with fail
              refine (q4.out _ _ (by simp)).mono ?_
              rintro e w' ⟨rfl, rfl⟩
              go_wp2_with fail
              refine (q5.out _ _ (by simp)).mono ?_
              rintro e w' ⟨rfl, rfl⟩
              go_wp2_with fail
              refine (q6.out _ _ (by simp)).mono ?_
              rintro e w' ⟨rfl, rfl⟩
              go_wp2
              go_ret
              refine retg_bool (by simp) ?_
              repeat first | exact Only.refl _ _ | refine Only.alloc ?_ _

end Go.Proofs.YtlbinlhaejhobaaGreatDoor
/- Rooms; too many; what objects may be. -/
namespace Go.Proofs.YtlbinlhaejhobaaGreatDoor
open Go Go.RowKit

def ConfV.room (c : ConfV) : RoomV := ⟨c.mb.n, c.g, c.cn.n, c.ce.n⟩
set_option maxRecDepth 100000 in
set_option maxHeartbeats 1000000 in
theorem room_any (c : ConfV) (w : World) : Calls Tryz.prog 99 #[c.val] w (GrowV c.room.val w) := by
  rw [show c.val = .agg #[.int .i64 c.s, .int .i64 c.wy, .int .i64 c.h, .int .i64 c.mi, .slice c.mb.A c.mb.n c.mb.cap, .int .i64 c.g, .slice c.cn.A c.cn.n c.cn.cap, .slice c.ce.A c.ce.n c.ce.cap, .slice c.ta.A c.ta.n c.ta.cap, .slice c.li.A c.li.n c.li.cap] from rfl]
  go_enter Tryz.func99, Tryz.ntmps99
  go_wp2
  exact bodyPost_ret (v := c.room.val) (by simp [results, Tryz.results99, go_sem, RoomV.val, ConfV.room]) rfl ⟨rfl, ((Only.refl _ w).alloc _).alloc _⟩

def max4 (a b c d : Int) : Int := (fun x => if d > x then d else x) ((fun x => if c > x then c else x) (if b > a then b else a))
theorem max4_lt (a b c d : Int) : 4 < max4 a b c d ↔ (4 < a ∨ 4 < b ∨ 4 < c ∨ 4 < d) := by
  unfold max4
  simp only
  split <;> split <;> split <;> omega
theorem run_max4 (P : Program) (t : Array TypeId) (y : TypeId) (a b c d : Int) (w : World) : Sem.run P (Builtin.max_ t y #[.int .i64 a, .int .i64 b, .int .i64 c, .int .i64 d]) w = .ok (.int .i64 (max4 a b c d)) w := rfl

def manyB (c : ConfV) : Bool := decide (4 < (c.mb.n : Int) ∨ 4 < c.g ∨ 4 < (c.cn.n : Int) ∨ 4 < (c.ce.n : Int) ∨ 8 < (c.ta.n : Int) ∨ 8 < (c.li.n : Int))
set_option maxRecDepth 100000 in
set_option maxHeartbeats 2000000 in
theorem many_any (c : ConfV) (w : World) : Calls Tryz.prog 72 #[c.val] w (GrowB (manyB c) w) := by
  have q := Lib.hid (fun W => room_any c W)
  rw [show c.room.val = .agg #[.int .i64 c.mb.n, .int .i64 c.g, .int .i64 c.cn.n, .int .i64 c.ce.n] from rfl] at q
  rw [show c.val = .agg #[.int .i64 c.s, .int .i64 c.wy, .int .i64 c.h, .int .i64 c.mi, .slice c.mb.A c.mb.n c.mb.cap, .int .i64 c.g, .slice c.cn.A c.cn.n c.cn.cap, .slice c.ce.A c.ce.n c.ce.cap, .slice c.ta.A c.ta.n c.ta.cap, .slice c.li.A c.li.n c.li.cap] from rfl] at q ⊢
  obtain ⟨v, hv⟩ : ∃ v, v = manyB c := ⟨_, rfl⟩
  have hv' := Lib.hid hv
  rw [← hv]
  clear hv
  obtain ⟨s, wy, h, mi, ⟨mA, mn, mc⟩, g, ⟨cA, cn, cc⟩, ⟨eA, en, ec⟩, ⟨tA, tn, tc⟩, ⟨lA, ln, lc⟩⟩ := c
  simp only at *
  go_enter Tryz.func72, Tryz.ntmps72
  go_wp2_with fail
  have hO := Lib.hid (show Only (fun _ => False) w (w.alloc (.cells [.int .i64 s, .int .i64 wy, .int .i64 h, .int .i64 mi, .slice mA mn mc, .int .i64 g, .slice cA cn cc, .slice eA en ec, .slice tA tn tc, .slice lA ln lc].toArray 27)) from (Only.refl _ w).alloc _)
  have hB := heap_new_at w (.cells [.int .i64 s, .int .i64 wy, .int .i64 h, .int .i64 mi, .slice mA mn mc, .int .i64 g, .slice cA cn cc, .slice eA en ec, .slice tA tn tc, .slice lA ln lc].toArray 27) rfl
  refine (q.out _).mono ?_
  rintro e w1 ⟨rfl, hO1⟩
  have hB1 := hO1.heap hB (fun h => h)
  have c8 := row_cell hB1 (i := 8) rfl
  have c9 := row_cell hB1 (i := 9) rfl
  have hlt := row_lt hB1
  have hO1' := Lib.hid (hO.out.trans' hO1)
  clear hO1 hB hB1
  have hM := fun W => run_max4 Tryz.prog #[3, 3, 3, 3] 3 mn g cn en W
  obtain ⟨M, hM0⟩ : ∃ M, M = max4 mn g cn en := ⟨_, rfl⟩
  have hm := max4_lt mn g cn en
  rw [← hM0] at hM hm
  clear hM0
  have hm' := Lib.hid hm
  clear hm
  by_cases h1 : 4 < M
  · have hz := Lib.hid (show v = true by rw [hv'.out]; unfold manyB; have := hm'.out.1 h1; simp only [decide_eq_true_eq]; omega)
    go_wp2
    go_ret
    exact ⟨ret_bool hz.out.symm, by first | exact hO1'.out | exact hO1'.out.alloc _⟩
  · by_cases h2 : 8 < (tn : Int)
    · have hz := Lib.hid (show v = true by rw [hv'.out]; unfold manyB; simp only [decide_eq_true_eq]; omega)
      go_wp2
      go_ret
      exact ⟨ret_bool hz.out.symm, by first | exact hO1'.out | exact hO1'.out.alloc _⟩
    · by_cases h3 : 8 < (ln : Int)
      · have hz := Lib.hid (show v = true by rw [hv'.out]; unfold manyB; simp only [decide_eq_true_eq]; omega)
        go_wp2
        go_ret
        exact ⟨ret_bool hz.out.symm, by first | exact hO1'.out | exact hO1'.out.alloc _⟩
      · have hz := Lib.hid (show v = false by rw [hv'.out]; unfold manyB; have := fun h => h1 (hm'.out.2 h); simp only [decide_eq_false_iff_not]; intro h; apply this; omega)
        go_wp2
        go_ret
        exact ⟨ret_bool (by rw [hz.out]; simp; omega), by first | exact hO1'.out | exact hO1'.out.alloc _⟩
end Go.Proofs.YtlbinlhaejhobaaGreatDoor
/- Objects: their numbers; priorities held; locks below. -/
namespace Go.Proofs.YtlbinlhaejhobaaGreatDoor
open Go Go.RowKit

structure ConfL where
  mb : List Int
  cn : List Int
  ce : List Int
  li : List Int
structure ObjsAt (w : World) (c : ConfV) (d : ConfL) : Prop where
  mb : IntsAt w c.mb d.mb
  cn : IntsAt w c.cn d.cn
  ce : IntsAt w c.ce d.ce
  li : IntsAt w c.li d.li
  s : c.mb.n ≤ 1000000 ∧ c.cn.n ≤ 1000000 ∧ c.ce.n ≤ 1000000 ∧ c.li.n ≤ 1000000 ∧ c.ta.n ≤ 1000000
theorem ObjsAt.new {w w' : World} {c : ConfV} {d : ConfL} (h : ObjsAt w c d) (ho : Only (fun _ => False) w w') : ObjsAt w' c d := ⟨h.mb.new ho, h.cn.new ho, h.ce.new ho, h.li.new ho, h.s⟩
def objB (c : ConfV) (d : ConfL) : Bool := allIn 1 8 d.mb && allIn 1 8 d.cn && allIn 0 63 d.ce && allIn 0 ((c.ta.n : Int) - 1) d.li

set_option maxRecDepth 100000 in
set_option maxHeartbeats 2000000 in
theorem confObjs_any {w : World} {c : ConfV} {d : ConfL} (hd : ObjsAt w c d) : Calls Tryz.prog 73 #[c.val] w (GrowB (objB c d) w) := by
  rw [show c.val = .agg #[.int .i64 c.s, .int .i64 c.wy, .int .i64 c.h, .int .i64 c.mi, .slice c.mb.A c.mb.n c.mb.cap, .int .i64 c.g, .slice c.cn.A c.cn.n c.cn.cap, .slice c.ce.A c.ce.n c.ce.cap, .slice c.ta.A c.ta.n c.ta.cap, .slice c.li.A c.li.n c.li.cap] from rfl]
  obtain ⟨b1, e1⟩ : ∃ b, b = allIn 1 8 d.mb := ⟨_, rfl⟩
  have q1 := Lib.hid (fun (W : World) (hW : Only (fun _ => False) w W) => within_any (hd.new hW).mb hd.s.1 1 8)
  rw [← e1] at q1
  obtain ⟨b2, e2⟩ : ∃ b, b = allIn 1 8 d.cn := ⟨_, rfl⟩
  have q2 := Lib.hid (fun (W : World) (hW : Only (fun _ => False) w W) => within_any (hd.new hW).cn hd.s.2.1 1 8)
  rw [← e2] at q2
  obtain ⟨b3, e3⟩ : ∃ b, b = allIn 0 63 d.ce := ⟨_, rfl⟩
  have q3 := Lib.hid (fun (W : World) (hW : Only (fun _ => False) w W) => within_any (hd.new hW).ce hd.s.2.2.1 0 63)
  rw [← e3] at q3
  obtain ⟨b4, e4⟩ : ∃ b, b = allIn 0 ((c.ta.n : Int) - 1) d.li := ⟨_, rfl⟩
  have q4 := Lib.hid (fun (W : World) (hW : Only (fun _ => False) w W) => within_any (hd.new hW).li hd.s.2.2.2.1 0 ((c.ta.n : Int) - 1))
  rw [← e4] at q4
  have hv := Lib.hid (show objB c d = (b1 && b2 && b3 && b4) from by unfold objB; rw [← e1, ← e2, ← e3, ← e4])
  rw [hv.out]
  have hs5 := hd.s.2.2.2.2
  clear e1 e2 e3 e4 hv hd
  obtain ⟨s, wy, h, mi, ⟨mA, mn, mc⟩, g, ⟨cA, cn, cc⟩, ⟨eA, en, ec⟩, ⟨tA, tn, tc⟩, ⟨lA, ln, lc⟩⟩ := c
  simp only at *
  have hO := fun o => (Only.refl (fun _ => False) w).alloc o
  have hO' := Lib.hid hO
  clear hO
  cases b1
  · skip
    go_enter Tryz.func73, Tryz.ntmps73
    go_wp2_with fail
    refine (q1.out _ (hO'.out _)).mono ?_
    rintro e w' ⟨rfl, rfl⟩
    go_wp2
    go_ret
    exact retg_bool (by simp) (hO'.out _)
  · skip
    cases b2
    · skip
      go_enter Tryz.func73, Tryz.ntmps73
      go_wp2_with fail
      refine (q1.out _ (hO'.out _)).mono ?_
      rintro e w' ⟨rfl, rfl⟩
      go_wp2_with fail
      refine (q2.out _ (hO'.out _)).mono ?_
      rintro e w' ⟨rfl, rfl⟩
      go_wp2
      go_ret
      exact retg_bool (by simp) (hO'.out _)
    · skip
      cases b3
      · skip
        go_enter Tryz.func73, Tryz.ntmps73
        go_wp2_with fail
        refine (q1.out _ (hO'.out _)).mono ?_
        rintro e w' ⟨rfl, rfl⟩
        go_wp2_with fail
        refine (q2.out _ (hO'.out _)).mono ?_
        rintro e w' ⟨rfl, rfl⟩
        go_wp2_with fail
        refine (q3.out _ (hO'.out _)).mono ?_
        rintro e w' ⟨rfl, rfl⟩
        go_wp2
        go_ret
        exact retg_bool (by simp) (hO'.out _)
      · skip
        cases b4
        · skip
          go_enter Tryz.func73, Tryz.ntmps73
          go_wp2_with fail
          refine (q1.out _ (hO'.out _)).mono ?_
          rintro e w' ⟨rfl, rfl⟩
          go_wp2_with fail
          refine (q2.out _ (hO'.out _)).mono ?_
          rintro e w' ⟨rfl, rfl⟩
          go_wp2_with fail
          refine (q3.out _ (hO'.out _)).mono ?_
          rintro e w' ⟨rfl, rfl⟩
          go_wp2_with fail
          refine (q4.out _ (hO'.out _)).mono ?_
          rintro e w' ⟨rfl, rfl⟩
          go_wp2
          go_ret
          exact retg_bool (by simp) (hO'.out _)
        · skip
          go_enter Tryz.func73, Tryz.ntmps73
          go_wp2_with fail
          refine (q1.out _ (hO'.out _)).mono ?_
          rintro e w' ⟨rfl, rfl⟩
          go_wp2_with fail
          refine (q2.out _ (hO'.out _)).mono ?_
          rintro e w' ⟨rfl, rfl⟩
          go_wp2_with fail
          refine (q3.out _ (hO'.out _)).mono ?_
          rintro e w' ⟨rfl, rfl⟩
          go_wp2_with fail
          refine (q4.out _ (hO'.out _)).mono ?_
          rintro e w' ⟨rfl, rfl⟩
          go_wp2
          go_ret
          exact retg_bool (by simp) (hO'.out _)
end Go.Proofs.YtlbinlhaejhobaaGreatDoor
/- Rows of tasks; priorities held; locks below. -/
namespace Go.Proofs.YtlbinlhaejhobaaGreatDoor
open Go Go.RowKit

structure TaskCells (w : World) (b off : Nat) (t : TaskV) : Prop where
  c0 : w.cell? ⟨b, off, none⟩ = some (.int .i64 t.p)
  c1 : w.cell? ⟨b, off + 1, none⟩ = some (.int .i64 t.th)
  c2 : w.cell? ⟨b, off + 2, none⟩ = some (.int .i64 t.pe)
  c3 : w.cell? ⟨b, off + 3, none⟩ = some (.int .i64 t.de)
  c4 : w.cell? ⟨b, off + 4, none⟩ = some (.int .i64 t.fr)
  c5 : w.cell? ⟨b, off + 5, none⟩ = some (.int .i64 t.fl)
  c6 : w.cell? ⟨b, off + 6, none⟩ = some (.slice t.o.A t.o.n t.o.cap)
theorem TaskCells.new {w w' : World} {b off : Nat} {t : TaskV} (h : TaskCells w b off t) (ho : Only (fun _ => False) w w') : TaskCells w' b off t :=
  ⟨ho.cell h.c0 (fun h => h), ho.cell h.c1 (fun h => h), ho.cell h.c2 (fun h => h), ho.cell h.c3 (fun h => h), ho.cell h.c4 (fun h => h), ho.cell h.c5 (fun h => h), ho.cell h.c6 (fun h => h)⟩
/-- Tasks in memory. -/
structure TasksAt (w : World) (x : Sl) (l : List TaskV) : Prop where
  len : l.length = x.n
  cap : x.n ≤ x.cap
  at_ : ∀ (k : Nat) t, l[k]? = some t → ∃ b off, x.A = some ⟨b, off, none⟩ ∧ b < w.heap.size ∧ TaskCells w b (off + k * 7) t
theorem TasksAt.new {w w' : World} {x : Sl} {l : List TaskV} (h : TasksAt w x l) (ho : Only (fun _ => False) w w') : TasksAt w' x l :=
  ⟨h.len, h.cap, fun k t ht => by
    obtain ⟨b, off, hA, hb, hc⟩ := h.at_ k t ht
    exact ⟨b, off, hA, Nat.lt_of_lt_of_le hb ho.size, hc.new ho⟩⟩
theorem TasksAt.take {w : World} {x : Sl} {l : List TaskV} (h : TasksAt w x l) {i : Nat} (hi : i ≤ x.n) : TasksAt w ⟨x.A, i, x.cap⟩ (l.take i) :=
  ⟨by rw [List.length_take, h.len]; exact Nat.min_eq_left hi, Nat.le_trans hi h.cap, fun k t ht => by
    by_cases hk : k < i
    · rw [List.getElem?_take_of_lt hk] at ht
      exact h.at_ k t ht
    · rw [List.getElem?_take] at ht
      simp [hk] at ht⟩

/-- What a search answers. -/
def IdxEnd (v : Bool) (w : World) (e : Ending) (w' : World) : Prop :=
  ∃ z : Int, e = .returned (.int .i64 z) ∧ (0 ≤ z ↔ v = true) ∧ -1 ≤ z ∧ z ≤ 1000000 ∧ Only (fun _ => False) w w'

theorem priority_one {W : World} {p : Nat} {pr : Int} (t : TaskV) (hc : W.cell? ⟨p, 0, none⟩ = some (.int .i64 pr)) (hp : p < W.heap.size) : Calls Tryz.prog 140 #[t.val, .pointer (some ⟨p, 0, none⟩)] W (GrowB (decide (t.p = pr)) W) := by
  rw [show t.val = .agg #[.int .i64 t.p, .int .i64 t.th, .int .i64 t.pe, .int .i64 t.de, .int .i64 t.fr, .int .i64 t.fl, .slice t.o.A t.o.n t.o.cap] from rfl]
  obtain ⟨v, hv⟩ : ∃ v, v = decide (t.p = pr) := ⟨_, rfl⟩
  rw [← hv]
  have hv' := Lib.hid hv
  clear hv
  obtain ⟨p1, th, pe, de, fr, fl, ⟨oA, on, oc⟩⟩ := t
  simp only at *
  by_cases h : p1 = pr
  · have hz := Lib.hid (show true = v by rw [hv'.out]; simp [h])
    go_enter Tryz.func140, Tryz.ntmps140
    go_wp2
    go_ret
    exact retg_bool (by first | exact hz.out | (rw [← hz.out]; first | done | simp [h])) ((Only.refl _ W).alloc _)
  · have hz := Lib.hid (show false = v by rw [hv'.out]; simp [h])
    go_enter Tryz.func140, Tryz.ntmps140
    go_wp2
    go_ret
    exact retg_bool (by first | exact hz.out | (rw [← hz.out]; first | done | simp [h])) ((Only.refl _ W).alloc _)

theorem any_not {α : Type} {l : List α} {f : α → Bool} (h : ∀ (k : Nat) t, l[k]? = some t → f t = false) : l.any f = false := by
  rw [List.any_eq_false]
  intro t ht
  obtain ⟨k, hk⟩ := List.getElem?_of_mem ht
  simp [h k t hk]
theorem any_yes {α : Type} {l : List α} {f : α → Bool} {k : Nat} {t : α} (hk : l[k]? = some t) (h : f t = true) : l.any f = true :=
  List.any_eq_true.2 ⟨t, List.mem_of_getElem? hk, h⟩

set_option maxRecDepth 100000 in
theorem indexPr_any {w : World} {x : Sl} {l : List TaskV} (hT : TasksAt w x l) (h9 : x.n ≤ 1000000) {p : Nat} {pr : Int} (hc : w.cell? ⟨p, 0, none⟩ = some (.int .i64 pr)) (hp : p < w.heap.size) :
    Calls Tryz.prog 177 #[.slice x.A x.n x.cap, .func (.func 140) #[] #[.pointer (some ⟨p, 0, none⟩)]] w (IdxEnd (l.any fun t => decide (t.p = pr)) w) := by
  have q := Lib.hid (fun (W : World) (hW : Only (fun _ => False) w W) (t : TaskV) => priority_one (pr := pr) t (hW.cell hc (fun h => h)) (Nat.lt_of_lt_of_le hp hW.size))
  obtain ⟨A, n, cap⟩ := x
  have hl' := Lib.hid hT
  have hlen := hT.len
  simp only at *
  have hlen' := Lib.hid hlen
  clear hT hlen hc hp
  go_enter Tryz.func177, Tryz.ntmps177
  go_wp2
  go_loopw [8] (fun i wr => ∃ k : Nat, k ≤ n ∧ i = .int .i64 k ∧ (∀ (j : Nat) t, j < k → l[j]? = some t → decide (t.p = pr) = false) ∧ Only (fun _ => False) w wr) (fun i _ => n - (intOf i).toNat)
  case atStart => exact ⟨0, Nat.zero_le _, rfl, (fun j z hj => by omega), Only.refl _ w⟩
  case round =>
    obtain ⟨k, hk, rfl, hall, hO⟩ := hrel
    have hall' := Lib.hid hall
    have hO' := Lib.hid hO
    clear hall hO
    by_cases hkn : k < n
    · have hkn' : (k : Int) < (n : Int) := by omega
      obtain ⟨t, ht⟩ : ∃ t, l[k]? = some t := ⟨_, List.getElem?_eq_getElem (by have := hlen'.out; omega)⟩
      obtain ⟨b, off, hA, hb, hC⟩ := hl'.out.at_ k t ht
      simp only at hA
      subst hA
      obtain ⟨c0, c1, c2, c3, c4, c5, c6⟩ := hC.new hO'.out
      clear hC
      have ht' := Lib.hid ht
      clear ht
      have hq := q.out _ hO'.out t
      rw [show t.val = .agg #[.int .i64 t.p, .int .i64 t.th, .int .i64 t.pe, .int .i64 t.de, .int .i64 t.fr, .int .i64 t.fl, .slice t.o.A t.o.n t.o.cap] from rfl] at hq
      obtain ⟨v, hv⟩ : ∃ v, v = decide (t.p = pr) := ⟨_, rfl⟩
      rw [← hv] at hq
      have hv' := Lib.hid hv
      clear hv
      have hq' := Lib.hid hq
      clear hq
      obtain ⟨p1, th, pe, de, fr, fl, ⟨oA, on, oc⟩⟩ := t
      simp only at *
      go_wp2_with fail
      refine (hq'.out).mono ?_
      rintro e w1 ⟨rfl, hO1⟩
      have hO2 := Lib.hid (hO'.out.trans' hO1)
      clear hO1
      clear hq'
      cases hvc : v
      rotate_left
      · rw [hvc] at hv'
        subst hvc
        have hz := Lib.hid (any_yes (l := l) (f := fun t => decide (t.p = pr)) ht'.out (by simp only; exact hv'.out.symm))
        go_wp2
        go_ret
        exact ⟨_, rfl, by rw [hz.out]; simp, by omega, by omega, hO2.out⟩
      · rw [hvc] at hv'
        subst hvc
        have hnx := Lib.hid (show ∀ (j : Nat) y, j < k + 1 → l[j]? = some y → decide (y.p = pr) = false from fun j y hj hy => by
            by_cases hjk : j < k
            · exact hall'.out j y hjk hy
            · obtain rfl : j = k := by omega
              rw [ht'.out] at hy
              cases hy
              exact hv'.out.symm)
        go_wp2
        go_roundw
        case rel => exact ⟨k + 1, by omega, by go_num, hnx.out, hO2.out⟩
        case measure => simp [intOf]; omega
    · obtain rfl : k = n := by omega
      have hz := Lib.hid (any_not (l := l) (f := fun t => decide (t.p = pr)) (fun j z hz => hall'.out j z (by have := (List.getElem?_eq_some_iff.1 hz).1; have := hlen'.out; omega) hz))
      go_wp2
      go_ret
      exact ⟨_, rfl, by rw [hz.out]; simp, by omega, by omega, hO'.out⟩
theorem containsPr_any {w : World} {x : Sl} {l : List TaskV} (hT : TasksAt w x l) (h9 : x.n ≤ 1000000) {p : Nat} {pr : Int} (hc : w.cell? ⟨p, 0, none⟩ = some (.int .i64 pr)) (hp : p < w.heap.size) :
    Calls Tryz.prog 139 #[.slice x.A x.n x.cap, .func (.func 140) #[] #[.pointer (some ⟨p, 0, none⟩)]] w (GrowB (l.any fun t => decide (t.p = pr)) w) := by
  have q := Lib.hid (indexPr_any hT h9 hc hp)
  obtain ⟨v, hv⟩ : ∃ v, v = (l.any fun t => decide (t.p = pr)) := ⟨_, rfl⟩
  rw [← hv] at q ⊢
  obtain ⟨A, n, cap⟩ := x
  simp only at *
  clear hT hc hp hv
  go_enter Tryz.func139, Tryz.ntmps139
  go_wp2_with fail
  refine (q.out).mono ?_
  rintro e w1 ⟨z, rfl, hz, h1, h2, hO⟩
  have hz' := Lib.hid hz
  have hO' := Lib.hid hO
  clear hz hO q
  by_cases h0 : 0 ≤ z
  · have hv := Lib.hid (hz'.out.1 h0)
    go_wp2
    go_ret
    exact retg_bool (by first | exact hv.out.symm | (rw [hv.out]; simp [h0])) hO'.out
  · have hv := Lib.hid (show v = false by have := fun h => h0 (hz'.out.2 h); simpa using this)
    go_wp2
    go_ret
    exact retg_bool (by rw [hv.out]; first | rfl | simp [h0]) hO'.out
theorem hasPr_any {w : World} {x : Sl} {l : List TaskV} (hT : TasksAt w x l) (h9 : x.n ≤ 1000000) (pr : Int) :
    Calls Tryz.prog 103 #[.slice x.A x.n x.cap, .int .i64 pr] w (GrowB (l.any fun t => decide (t.p = pr)) w) := by
  have hmf : ∀ (fn : Fn) (first cap : Array Value) (w : World), (Instr.makeFunc fn first cap).run Tryz.prog w = .ok (.func fn first cap) w := fun _ _ _ _ => rfl
  have hO := (Only.refl (fun _ => False) w).alloc (.cells [.int .i64 pr].toArray 3)
  have hB := heap_new_at w (.cells [.int .i64 pr].toArray 3) rfl
  have q := Lib.hid (containsPr_any (hT.new hO) h9 (row_cell hB (i := 0) rfl) (row_lt hB))
  obtain ⟨v, hv⟩ : ∃ v, v = (l.any fun t => decide (t.p = pr)) := ⟨_, rfl⟩
  rw [← hv] at q ⊢
  obtain ⟨A, n, cap⟩ := x
  simp only at *
  have hO' := Lib.hid hO
  clear hT hv hB hO
  go_enter Tryz.func103, Tryz.ntmps103
  go_wp2_with fail
  refine (q.out).mono ?_
  rintro e w1 ⟨rfl, hO1⟩
  have hO2 := Lib.hid (hO'.out.trans' hO1)
  clear hO1 q hO'
  go_wp2
  go_ret
  exact retg_bool rfl hO2.out
end Go.Proofs.YtlbinlhaejhobaaGreatDoor
