/- slices.Sort and slices.Compact over numbers. -/
import Derived.Test.YteeleelkepjoaaaOrd
import Derived.Test.YteeleelkepjoaaaShelf
import Derived.Shelf.Slices.In.SortNone
import Derived.Shelf.Sort.Plain
import Derived.Shelf.Slices.CompactI
import Derived.Lib.SortBridge
namespace Go.Proofs.Yteeleelkepjoaaa
namespace Srt
open Go Go.RowKit Go.Sort

def ints (l : List Int) : List Value := l.map (Value.int .i64)
theorem ints_dat (l : List Nat) : ints (l.map (fun (k : Nat) => (k : Int))) = dat l := by simp [ints, dat]
def up (l : List Int) : List Int := l.mergeSort fun x y => decide (x ≤ y)

theorem Win.set {w : World} {e : TypeId} {p : Option Addr} {n cap g off : Nat} {xs ys : List Value} (hW : Win w e 1 (.slice (some ⟨g, off, none⟩) n cap) (some g) n xs) (hy : ys.length = n) (hp : p = some ⟨g, off, none⟩) :
    Win (w.setCells g off ys) e 1 (.slice p n cap) (some g) n ys ∧ Only (fun k => some k = some g) w (w.setCells g off ys) := by
  subst hp
  obtain ⟨hl, p', cap', hv, h1, h2, h3⟩ := hW
  simp only [Value.slice.injEq, true_and] at hv
  obtain ⟨rfl, rfl⟩ := hv
  rcases h3 with ⟨h3, _⟩ | ⟨g', off', L, hg, hp, hh, h4, h5⟩
  · cases h3
  · cases hg
    cases hp
    refine ⟨⟨by omega, _, cap, rfl, h1, h2, .inr ⟨g, off, _, rfl, rfl, heap_setCells ys off w L hh, by rw [setList_length]; exact h4, ?_⟩⟩, (only_setCells ys off w).mono (fun x _ e => by rw [e])⟩
    have := setList_take (L := L) (xs := []) (news := ys) (off := off) (a := 0) (by simp) rfl (by omega)
    rw [Nat.add_zero, Nat.zero_add, List.nil_append, hy] at this
    rwa [Nat.mul_one]
theorem only_grow (w : World) (os : Array Obj) : Only (fun _ => False) w (grow w os) :=
  ⟨rfl, rfl, rfl, by simp, fun k hk _ => heap_grow_old w os hk⟩
theorem holds_win {w : World} {g off n cap : Nat} {zs : List Int} (hW : Win w 3 1 (.slice (some ⟨g, off, none⟩) n cap) (some g) n (ints zs)) : Holds (Value.int .i64) w g off zs.toArray := by
  intro j hj
  have hz : zs.length = n := by have := hW.1; simpa [ints] using this
  have hj' : j < zs.length := by simpa using hj
  obtain ⟨g', off', cap', e1, e2, _, _, _, hc, hf⟩ := hW.at_ (by omega)
  cases e1
  cases e2
  refine ⟨?_, hf _⟩
  rw [hc j (.int .i64 (zs[j])) (by simp [ints, hj'])]
  simp [hj']

/-- Behind a sort: the same slice, its numbers in order. -/
theorem sort_any {w : World} {p : Option Addr} {n cap : Nat} {h : Option Nat} {zs : List Int} (hW : Win w 3 1 (.slice p n cap) h n (ints zs)) (hn : n ≤ 1000000) :
    Calls Try.prog 38 #[.slice p n cap] w fun e w' => e = .returned (.tuple #[]) ∧ Win w' 3 1 (.slice p n cap) h n (ints (up zs)) ∧ Only (fun k => some k = h) w w' := by
  have hz : zs.length = n := by have := hW.1; simpa [ints] using this
  by_cases h0 : n = 0
  · subst h0
    obtain rfl : zs = [] := List.eq_nil_of_length_eq_zero hz
    exact (Any.slices_Sort_int_none Try.laysSort p cap w).mono fun e w' ⟨h1, h2⟩ => by
      subst h2
      exact ⟨h1, by simpa [up, ints] using hW, Only.refl _ _⟩
  · obtain ⟨g, off, cap', rfl, hv, _, _, hlt, _, _⟩ := hW.at_ (by omega)
    cases hv
    have hH := holds_win hW
    have hs := Any.slices_Sort_int Try.laysSort g off cap zs w hH hlt (by omega)
    rw [hz] at hs
    refine hs.mono fun e w' ⟨h1, q, os, h2⟩ => ⟨h1, ?_⟩
    rw [show (zs.mergeSort fun x y => decide (x ≤ y)) = up zs from rfl, Lib.sorted_world (Value.int .i64) w g off q zs.toArray (up zs) os hH (by simp [up])] at h2
    have hW2 : Win (w.drewN q) 3 1 (.slice (some ⟨g, off, none⟩) n cap) (some g) n (ints zs) := hW.same rfl
    obtain ⟨a1, a2⟩ := Win.set hW2 (ys := (up zs).map (Value.int .i64)) (by simp [up, hz]) rfl
    have a3 := only_grow ((w.drewN q).setCells g off ((up zs).map (Value.int .i64))) os
    rw [h2]
    exact ⟨a1.kept a3 (fun _ _ h => h), (((Only.refl (fun k => some k = some g) w).drewN q).trans' a2).trans a3 (fun _ _ h => h.elim)⟩

/-- Behind a compacting: the slice's head. -/
theorem compact_any {w : World} {p : Option Addr} {n cap : Nat} {h : Option Nat} {zs : List Int} (hW : Win w 3 1 (.slice p n cap) h n (ints zs)) (hn : n ≤ 1000000) :
    Calls Try.prog 39 #[.slice p n cap] w fun e w' => e = .returned (.slice p (Lib.compact zs).length cap) ∧ Win w' 3 1 (.slice p (Lib.compact zs).length cap) h (Lib.compact zs).length (ints (Lib.compact zs)) ∧ Only (fun k => some k = h) w w' := by
  have hz : zs.length = n := by have := hW.1; simpa [ints] using this
  by_cases h0 : n = 0
  · subst h0
    obtain rfl : zs = [] := List.eq_nil_of_length_eq_zero hz
    exact (Any.slices_Compact_int_empty Try.laysCompact p cap w).mono fun e w' ⟨h1, h2⟩ => by
      subst h2
      exact ⟨h1, hW, Only.refl _ _⟩
  · obtain ⟨g, off, cap', rfl, hv, hcap, _, hlt, _, _⟩ := hW.at_ (by omega)
    cases hv
    have hH := holds_win hW
    have hs := Any.slices_Compact_int Try.laysCompact g off cap zs w hH (by omega) (by omega)
    rw [hz] at hs
    refine hs.mono fun e w' ⟨h1, q, h2⟩ => ⟨h1, ?_⟩
    have hle : (Lib.compact zs).length ≤ n := by
      unfold Lib.compact Lib.compactUpTo
      rw [List.length_map]
      refine Nat.le_trans (List.length_filter_le _ _) ?_
      simp [hz]
    rw [Lib.putRow_eq_setCells (Value.int .i64) w g off zs.toArray _ q hH (by simp; omega)] at h2
    have hW2 : Win (w.drewN q) 3 1 (.slice (some ⟨g, off, none⟩) n cap) (some g) n (ints zs) := hW.same rfl
    obtain ⟨a1, a2⟩ := Win.set hW2 (ys := (Lib.compact zs ++ List.replicate (n - (Lib.compact zs).length) 0).map (Value.int .i64)) (by simp; omega) rfl
    rw [h2]
    have a4 := a1.take hle
    have e1 : ((Lib.compact zs ++ List.replicate (n - (Lib.compact zs).length) 0).map (Value.int .i64)).take ((Lib.compact zs).length * 1) = ints (Lib.compact zs) := by
      rw [List.map_append, Nat.mul_one]
      exact List.take_left' (by simp)
    rw [e1] at a4
    exact ⟨a4, ((Only.refl (fun k => some k = some g) w).drewN q).trans' a2⟩

theorem up_sorted (l : List Int) : (up l).Pairwise (· ≤ ·) := by
  have := List.pairwise_mergeSort (le := fun x y : Int => decide (x ≤ y)) (fun a b c h1 h2 => by simp at *; omega) (fun a b => by simp; omega) l
  exact this.imp (fun h => by simpa using h)
theorem up_mem {l : List Int} {x : Int} : x ∈ up l ↔ x ∈ l := by unfold up; exact List.mem_mergeSort
theorem get_bang {l : List Int} {j : Nat} (h : j < l.length) : l.toArray[j]! = l[j] := by simp [h]
theorem compact_mem {l : List Int} {x : Int} : x ∈ Lib.compact l ↔ x ∈ l := by
  unfold Lib.compact Lib.compactUpTo
  simp only [List.mem_map, List.mem_filter, List.mem_range]
  constructor
  · rintro ⟨j, ⟨hj, _⟩, rfl⟩
    rw [get_bang hj]
    exact List.getElem_mem hj
  · intro hx
    have hex : ∃ j, ∃ h : j < l.length, l[j] = x := List.getElem_of_mem hx
    have : ∃ j, (∃ h : j < l.length, l[j] = x) ∧ ∀ i, i < j → ¬ ∃ h : i < l.length, l[i] = x := by
      obtain ⟨j, hj⟩ := hex
      induction j using Nat.strongRecOn with
      | ind j ih =>
        by_cases hm : ∃ i, i < j ∧ ∃ h : i < l.length, l[i] = x
        · obtain ⟨i, hi, h⟩ := hm
          exact ih i hi h
        · exact ⟨j, hj, fun i hi h => hm ⟨i, hi, h⟩⟩
    obtain ⟨j, ⟨hj, e⟩, hmin⟩ := this
    refine ⟨j, ⟨hj, ?_⟩, by rw [get_bang hj]; exact e⟩
    unfold Lib.keeps
    rw [decide_eq_true_eq]
    by_cases h0 : j = 0
    · exact .inl h0
    · refine .inr fun h => hmin (j - 1) (by omega) ⟨by omega, ?_⟩
      rw [get_bang hj, get_bang (by omega)] at h
      rw [← h, e]
theorem compact_lt {l : List Int} (hs : l.Pairwise (· ≤ ·)) : (Lib.compact l).Pairwise (· < ·) := by
  unfold Lib.compact Lib.compactUpTo
  rw [List.pairwise_map]
  refine ((List.pairwise_lt_range (n := l.length)).filter _).imp_of_mem (fun {a b} ha hb hab => ?_)
  rw [List.mem_filter, List.mem_range] at ha hb
  obtain ⟨hb1, hb2⟩ := hb
  unfold Lib.keeps at hb2
  rw [decide_eq_true_eq] at hb2
  rw [get_bang ha.1, get_bang hb1]
  rcases hb2 with hb2 | hb2
  · omega
  · rw [get_bang hb1, get_bang (by omega)] at hb2
    have hp := List.pairwise_iff_getElem.1 hs
    have h1 := hp (b - 1) b (by omega) hb1 (by omega)
    have h2 : l[a] ≤ l[b - 1] := by
      by_cases h : a = b - 1
      · subst h; exact Int.le_refl _
      · exact hp a (b - 1) ha.1 (by omega) (by omega)
    omega
end Srt
end Go.Proofs.Yteeleelkepjoaaa
