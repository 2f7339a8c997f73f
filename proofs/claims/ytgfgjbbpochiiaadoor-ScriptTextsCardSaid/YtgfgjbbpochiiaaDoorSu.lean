/- A script of its text: the document's Read. -/
import Derived.Test.YtgfgjbbpochiiaaDoorSt
namespace Go.Proofs.YtgfgjbbpochiiaaDoor
open Go Go.RowKit

theorem split_text {v : Int} : ∀ {l : List EvV}, (∀ e ∈ l, okE e) → splitL 10 (textE l v) = l.map lineE ++ [lastL v, []]
  | [], _ => by
    rw [textE_nil, splitL_at 10 [] _ (lastL_no v)]
    rfl
  | e :: l, h => by
    rw [textE_cons, splitL_at 10 _ _ (lineE_no (h e (by simp))), split_text (fun x hx => h x (List.mem_cons_of_mem _ hx))]
    rfl
theorem join_text (v : Int) : ∀ l : List EvV, joinL 10 (l.map lineE ++ [lastL v, []]) = textE l v
  | [] => rfl
  | [e] => by
    have := join_text v []
    rw [textE_cons, ← this]
    rfl
  | e :: f :: l => by
    have := join_text v (f :: l)
    rw [textE_cons, ← this]
    rfl
theorem split_last (v : Int) : splitL 32 (lastL v) = [untilW, Lib.itoa v] := by
  unfold lastL
  rw [List.append_assoc]
  show splitL 32 (untilW ++ 32 :: Lib.itoa v) = _
  rw [splitL_at 32 _ _ (by decide), splitL_not 32 _ (itoa_no 32 (by decide))]
theorem ref_short {s : List UInt8} (h : (splitL 10 s).length < 2) : textO s = none := textO_no fun l v ht => by
  rw [← ht.2.2, split_text ht.1] at h
  simp at h
  omega
theorem ref_last {s t : List UInt8} {m : Nat} (hm : (splitL 10 s).length = m + 2) (h : (splitL 10 s)[m + 1]? = some t) (hne : t ≠ []) : textO s = none := textO_no fun l v ht => by
  rw [← ht.2.2, split_text ht.1] at h hm
  have hl : l.length = m := by simpa using hm
  rw [List.getElem?_append_right (by rw [List.length_map]; omega), List.length_map, hl, show m + 1 - m = 1 by omega] at h
  cases h
  exact hne rfl
theorem ref_until {s t : List UInt8} {m : Nat} (hm : (splitL 10 s).length = m + 2) (h : (splitL 10 s)[m]? = some t) (hne : ∀ v, ¬ isLast t v) : textO s = none := textO_no fun l v ht => by
  rw [← ht.2.2, split_text ht.1] at h hm
  have hl : l.length = m := by simpa using hm
  rw [List.getElem?_append_right (by rw [List.length_map]; omega), List.length_map, hl, show m - m = 0 by omega] at h
  cases h
  exact hne v ⟨ht.2.1, rfl⟩
theorem ref_line {s t : List UInt8} {m k : Nat} (hm : (splitL 10 s).length = m + 2) (hk : k < m) (h : (splitL 10 s)[k]? = some t) (hne : evO t = none) : textO s = none := textO_no fun l v ht => by
  rw [← ht.2.2, split_text ht.1] at h hm
  have hl : l.length = m := by simpa using hm
  rw [List.getElem?_append_left (by rw [List.length_map]; omega), List.getElem?_map] at h
  obtain ⟨e, he, rfl⟩ := Option.map_eq_some_iff.1 h
  rw [evO_is ⟨ht.1 e (List.mem_of_getElem? he), rfl⟩] at hne
  cases hne
theorem ref_yes {s x : List UInt8} {m : Nat} {v : Int} {d : List EvV} (hm : (splitL 10 s).length = m + 2) (h0 : (splitL 10 s)[m + 1]? = some []) (h1 : (splitL 10 s)[m]? = some x) (hv : isLast x v) (hd : ((splitL 10 s).take m).map evO = d.map some) : textO s = some (d, v) := by
  have hall : (splitL 10 s).take m = d.map lineE ∧ ∀ e ∈ d, okE e := by
    generalize (splitL 10 s).take m = G at hd
    induction G generalizing d with
    | nil =>
      cases d with
      | nil => exact ⟨rfl, by simp⟩
      | cons _ _ => simp at hd
    | cons a G ih =>
      cases d with
      | nil => simp at hd
      | cons e d =>
        rw [List.map_cons, List.map_cons, List.cons.injEq] at hd
        obtain ⟨i1, i2⟩ := ih hd.2
        have he := evO_some hd.1
        refine ⟨by rw [i1, List.map_cons, he.2], fun y hy => ?_⟩
        rcases List.mem_cons.1 hy with rfl | hy
        · exact he.1
        · exact i2 y hy
  have hG : splitL 10 s = d.map lineE ++ [lastL v, []] := by
    have e1 : splitL 10 s = (splitL 10 s).take m ++ [x, []] := by
      have a1 : (splitL 10 s).take (m + 2) = (splitL 10 s).take m ++ [x] ++ [[]] := by
        rw [List.take_add_one, List.take_add_one, h0, h1]
        rfl
      rw [List.take_of_length_le (by omega)] at a1
      refine a1.trans ?_
      rw [List.append_assoc]
      rfl
    rw [e1, hall.1, hv.2]
  refine textO_is ⟨hall.2, hv.1, ?_⟩
  rw [← join_text, ← hG, join_split]
theorem mapE_snoc {G : List (List UInt8)} {d : List EvV} {k : Nat} {t : List UInt8} {x : EvV} (hd : (G.take k).map evO = d.map some) (ht : G[k]? = some t) (hx : evO t = some x) : (G.take (k + 1)).map evO = (d ++ [x]).map some := by
  rw [List.take_add_one, ht, List.map_append, hd, List.map_append]
  simp [hx]
theorem last_of {x y : List UInt8} {v : Int} (h : splitL 32 x = [untilW, y]) (hv : numS y = some v) : isLast x v := by
  obtain ⟨h1, h2⟩ := numS_some hv
  refine ⟨h1, ?_⟩
  have := join_split 32 x
  rw [h] at this
  rw [← this, lastL, h2]
  rfl
end Go.Proofs.YtgfgjbbpochiiaaDoor
