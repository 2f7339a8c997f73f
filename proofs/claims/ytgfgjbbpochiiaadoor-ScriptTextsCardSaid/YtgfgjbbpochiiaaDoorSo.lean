/- A line's words: cut, and without the second one. -/
import Derived.Test.YtgfgjbbpochiiaaDoorSn
namespace Go.Proofs.YtgfgjbbpochiiaaDoor
open Go Go.RowKit

theorem indexB_is (s : List UInt8) (c : UInt8) : Lib.indexB (toBA s) ⟨#[c]⟩ = Lib.index s [c] := by
  rw [show s = (toBA s).data.toList from (toBA_list s).symm]
  rfl
theorem splitB_is (c : UInt8) : ∀ (k : Nat) (s : List UInt8), Lib.splitB ⟨#[c]⟩ 0 k (toBA s) = (cutN c k s).map toBA
  | 0, s => rfl
  | k + 1, s => by
    rcases cut_cases c s with h | ⟨a, r, ha, rfl⟩
    · rw [cutN_not c _ s h, Lib.splitB_miss _ _ _ _ (by rw [indexB_is, index_not c s h])]
      rfl
    · rw [cutN_at c k a r ha, Lib.splitB_hit _ _ _ _ a.length (by rw [indexB_is, index_at c r a ha])]
      have h1 : (toBA (a ++ c :: r)).extract 0 (a.length + 0) = toBA a := by
        apply ByteArray.ext
        rw [ByteArray.data_extract]
        show ((a ++ c :: r).toArray).extract 0 (a.length + 0) = a.toArray
        simp
      have h2 : (toBA (a ++ c :: r)).extract (a.length + (⟨#[c]⟩ : ByteArray).size) (toBA (a ++ c :: r)).size = toBA r := by
        have := extract_app (a ++ [c]) r
        rw [show (a ++ [c]) ++ r = a ++ c :: r by simp, toBA_size (a ++ [c])] at this
        rw [show a.length + (⟨#[c]⟩ : ByteArray).size = (a ++ [c]).length by rw [List.length_append]; rfl]
        exact this
      rw [h1, h2, splitB_is c k r]
      rfl
theorem cutN_enough (c : UInt8) : ∀ (k n : Nat) (s : List UInt8), s.length ≤ k → k ≤ n → cutN c k s = cutN c n s
  | 0, n, s, h, _ => by
    obtain rfl : s = [] := List.eq_nil_of_length_eq_zero (by omega)
    rw [cutN_not c n [] (by simp)]
    rfl
  | k + 1, 0, s, _, h => by omega
  | k + 1, n + 1, s, h, hn => by
    rcases cut_cases c s with h1 | ⟨a, r, ha, rfl⟩
    · rw [cutN_not c _ s h1, cutN_not c _ s h1]
    · rw [cutN_at c k a r ha, cutN_at c n a r ha, cutN_enough c k n r (by rw [List.length_append, List.length_cons] at h; omega) (by omega)]
/-- Words lie there. -/
def WordRow (w : World) (X : Nat) (l : List (List UInt8)) : Prop := ∀ (j : Nat) (x : List UInt8), l[j]? = some x → w.cell? ⟨X, j, none⟩ = some (sv x) ∧ w.frozen? ⟨X, j, none⟩ = false
theorem WordRow.new {w w' : World} {X : Nat} {l : List (List UInt8)} (h : WordRow w X l) {S : Nat → Prop} (ho : Only S w w') (hX : X < w.heap.size) (hS : ¬ S X) : WordRow w' X l := fun j x hj => by
  obtain ⟨h1, h2⟩ := h j x hj
  refine ⟨ho.cell h1 hS, ?_⟩
  have hb := ho.block X hX hS
  unfold World.frozen? at h2 ⊢
  rw [hb]
  exact h2
def CutEnd5 (s : List UInt8) (w : World) (e : Ending) (w' : World) : Prop := ∃ cap, (cutN 32 4 s).length ≤ cap ∧ cap ≤ 5 ∧ e = .returned (.slice (some ⟨w.heap.size, 0, none⟩) (cutN 32 4 s).length cap) ∧ WordRow w' w.heap.size (cutN 32 4 s) ∧ w.heap.size < w'.heap.size ∧ Only (fun _ => False) w w'
theorem split5_any {w : World} (hb : Bas w) (s : List UInt8) (hl : s.length ≤ 1000000) : Calls Tryd.prog 26 #[.string (toBA s), .string ⟨#[32]⟩, .int .i64 5] w (CutEnd5 s w) := by
  obtain ⟨m, hm⟩ := hb.maxl
  have h := Tryd.strings_SplitN (toBA s) ⟨#[32]⟩ 5 m w (by rw [toBA_size]; omega) hm (Nat.le_refl 1) (by omega) (by omega)
  have hk : Lib.splitB ⟨#[32]⟩ 0 (min 5 ((toBA s).size + 1) - 1) (toBA s) = (cutN 32 4 s).map toBA := by
    rw [splitB_is, toBA_size]
    congr 1
    by_cases h4 : 4 ≤ s.length
    · rw [show min 5 (s.length + 1) - 1 = 4 by omega]
    · rw [show min 5 (s.length + 1) - 1 = s.length by omega]
      exact cutN_enough 32 s.length 4 s (Nat.le_refl _) (by omega)
  rw [hk] at h
  have hlen := cutN_len 32 4 s
  have hcount : (cutN 32 4 s).length ≤ s.length + 1 := by
    by_cases h4 : 4 ≤ s.length
    · omega
    · rw [← cutN_enough 32 s.length 4 s (Nat.le_refl _) (by omega)]
      exact (cutN_len 32 s.length s).2
  refine h.mono ?_
  rintro e w' ⟨rfl, rfl⟩
  refine ⟨min 5 ((toBA s).size + 1), by rw [toBA_size]; omega, by omega, by rw [List.length_map], ?_, by simp, (Only.refl _ w).alloc _⟩
  intro j x hj
  have hjl : j < (cutN 32 4 s).length := (List.getElem?_eq_some_iff.1 hj).1
  have hrow := heap_new_at w (.cells (Lib.cellsOf ((cutN 32 4 s).map toBA) (min 5 ((toBA s).size + 1))) 9) rfl
  unfold Lib.cellsOf at hrow ⊢
  refine ⟨row_cell hrow ?_, row_free hrow j⟩
  rw [List.getElem?_append_left (by rw [List.length_map, List.length_map]; exact hjl), List.getElem?_map, List.getElem?_map, hj]
  rfl
theorem only_putRow {α : Type} [Inhabited α] (enc : α → Value) (w : World) (q blk off : Nat) (d : Array α) : Only (fun k => k = blk) w (Sort.putRow enc (Sort.ahead w q) blk off d) :=
  ⟨rfl, rfl, rfl, by rw [Sort.size_putRow]; exact Nat.le_refl _, fun k _ hk => by
    simp only [Sort.putRow, Sort.mapBlock, Array.getElem?_modify]
    rw [if_neg (fun e => hk e.symm)]
    rfl⟩
/-- Without the second one. -/
def DelEnd (X cap : Nat) (l : List (List UInt8)) (w : World) (e : Ending) (w' : World) : Prop := e = .returned (.slice (some ⟨X, 0, none⟩) l.length cap) ∧ (∀ (j : Nat) (x : List UInt8), l[j]? = some x → w'.cell? ⟨X, j, none⟩ = some (sv x)) ∧ Only (fun k => k = X) w w'
theorem del_any {w : World} {X cap n : Nat} {a b : List UInt8} {r : List (List UInt8)} (h : WordRow w X (a :: b :: r)) (hn : n = (a :: b :: r).length) (hc : n ≤ cap) (hc5 : cap ≤ 5) : Calls Tryd.prog 28 #[.slice (some ⟨X, 0, none⟩) n cap, .int .i64 1, .int .i64 2] w (DelEnd X cap (a :: r) w) := by
  subst hn
  have hH : Sort.Holds Go.Proofs.encStr w X 0 (a :: b :: r).toArray := fun j hj => by
    have hj' : j < (a :: b :: r).length := by simpa using hj
    have := h j _ (List.getElem?_eq_getElem hj')
    rw [Nat.zero_add]
    refine ⟨?_, this.2⟩
    rw [this.1]
    have e : (a :: b :: r).toArray[j]! = (a :: b :: r)[j] := by
      simp [List.getElem?_eq_getElem hj']
    rw [e]
    rfl
  have h2 := Tryd.slices_Delete_string X 0 cap 1 2 (a :: b :: r) w hH hc (by omega) (by omega) (by simp)
  refine h2.mono ?_
  rintro e w' ⟨rfl, q, rfl⟩
  refine ⟨by simp, ?_, only_putRow _ _ _ _ _ _⟩
  intro j x hj
  have hjl : j < (a :: r).length := (List.getElem?_eq_some_iff.1 hj).1
  have hd : ((a :: b :: r).take 1 ++ (a :: b :: r).drop 2 ++ List.replicate (2 - 1) []).toArray = (a :: r ++ [[]]).toArray := rfl
  rw [hd]
  have := Sort.cell?_putRow Go.Proofs.encStr (Sort.ahead w q) X 0 (a :: b :: r).toArray (a :: r ++ [[]]).toArray hH (by simp) j (by simp at hjl ⊢; omega)
  rw [Nat.zero_add] at this
  rw [this]
  have e : (a :: r ++ [[]]).toArray[j]! = x := by
    have : (a :: r ++ [[]])[j]? = some x := by rw [List.getElem?_append_left hjl]; exact hj
    obtain ⟨hlt, he⟩ := List.getElem?_eq_some_iff.1 this
    simp only [List.getElem!_toArray]
    rw [getElem!_pos _ j hlt, he]
  rw [e]
  rfl
end Go.Proofs.YtgfgjbbpochiiaaDoor
