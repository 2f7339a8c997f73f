/- chain: what holds of the groups. -/
import Derived.Test.YtcgnboplpibcgaaFx26
namespace Go.Proofs.Ytcgnboplpibcgaa
open Go Go.RowKit Go.Maps Go.Shelf
/-- A task of a higher priority that does not go together with another one. -/
def goodB (ts : List TaskV) (k i : Nat) : Bool := decide (prio ts i < prio ts k) && clash ts k i
structure GInv (ts : List TaskV) (gs : List (List Nat)) (pre : List Nat) : Prop where
  perm : gs.flatten.Perm pre
  dec : ∀ L ∈ gs, L.Pairwise (fun a b => prio ts b < prio ts a)
  free : ∀ L ∈ gs, ∀ a ∈ L, ∀ b ∈ L, canB ts a b = false
  ear : ∀ (j j' : Nat) L M, j < j' → gs[j]? = some L → gs[j']? = some M → ∀ x ∈ M, ∃ k ∈ L, goodB ts k x = true
theorem putG_cases (ts : List TaskV) (x : Nat) : ∀ gs : List (List Nat), (∀ (j : Nat) L, gs[j]? = some L → meetsB ts x L = true) ∨ ∃ (j : Nat) (L : List Nat), gs[j]? = some L ∧ meetsB ts x L = false ∧ ∀ (k : Nat) M, k < j → gs[k]? = some M → meetsB ts x M = true
  | [] => .inl (fun j L h => by simp at h)
  | L :: gs => by
    cases hL : meetsB ts x L with
    | false => exact .inr ⟨0, L, rfl, hL, fun k M hk => by omega⟩
    | true =>
      rcases putG_cases ts x gs with h | ⟨j, M, h1, h2, h3⟩
      · refine .inl (fun j M hM => ?_)
        cases j with
        | zero => obtain rfl : L = M := by simpa using hM
                  exact hL
        | succ j => exact h j M (by simpa using hM)
      · refine .inr ⟨j + 1, M, by simpa using h1, h2, fun k N hk hN => ?_⟩
        cases k with
        | zero => obtain rfl : L = N := by simpa using hN
                  exact hL
        | succ k => exact h3 k N (by omega) (by simpa using hN)
theorem flat_setp {x : Nat} : ∀ {gs : List (List Nat)} {j : Nat} {L : List Nat}, gs[j]? = some L → ((gs.set j (L ++ [x])).flatten).Perm (gs.flatten ++ [x])
  | [], j, L, h => by simp at h
  | M :: gs, 0, L, h => by
    obtain rfl : M = L := by simpa using h
    rw [List.set_cons_zero, List.flatten_cons, List.flatten_cons, List.append_assoc, List.append_assoc]
    exact List.Perm.append_left _ List.perm_append_comm
  | M :: gs, j + 1, L, h => by
    rw [List.set_cons_succ, List.flatten_cons, List.flatten_cons, List.append_assoc]
    exact List.Perm.append_left _ (flat_setp (by simpa using h))
theorem meets_ex {ts : List TaskV} {x : Nat} {L : List Nat} (h : meetsB ts x L = true) : ∃ k ∈ L, clash ts k x = true := by
  unfold meetsB at h
  rw [List.any_eq_true] at h
  exact h
theorem meets_no {ts : List TaskV} {x : Nat} {L : List Nat} (h : meetsB ts x L = false) : ∀ k ∈ L, canB ts k x = false ∧ canB ts x k = false := by
  unfold meetsB at h
  rw [List.any_eq_false] at h
  intro k hk
  have := h k hk
  unfold clash at this
  cases h1 : canB ts k x <;> cases h2 : canB ts x k <;> simp [h1, h2] at this ⊢
theorem can_self {ts : List TaskV} {x : Nat} (h : prio ts x ≤ thr ts x) : canB ts x x = false := decide_eq_false (by omega)
theorem ginv_step {ts : List TaskV} {gs : List (List Nat)} {pre : List Nat} {x : Nat} (h : GInv ts gs pre) (hx : ∀ k ∈ pre, prio ts x < prio ts k) (ht : prio ts x ≤ thr ts x) : GInv ts (putG ts x gs) (pre ++ [x]) := by
  have hmem : ∀ (j : Nat) L, gs[j]? = some L → ∀ k ∈ L, prio ts x < prio ts k := fun j L hj k hk => hx k (h.perm.mem_iff.1 (List.mem_flatten.2 ⟨L, List.mem_of_getElem? hj, hk⟩))
  have hgood : ∀ (j : Nat) L, gs[j]? = some L → meetsB ts x L = true → ∃ k ∈ L, goodB ts k x = true := fun j L hj hm => by
    obtain ⟨k, hk, hc⟩ := meets_ex hm
    exact ⟨k, hk, by rw [goodB, hc, decide_eq_true (hmem j L hj k hk)]; rfl⟩
  rcases putG_cases ts x gs with hall | ⟨j, L, hj, hno, hbef⟩
  · rw [putG_all hall]
    refine ⟨?_, fun L hL => ?_, fun L hL a ha b hb => ?_, fun i i' L M hi hL hM y hy => ?_⟩
    · rw [List.flatten_append]
      exact List.Perm.append h.perm (by simp)
    · rcases List.mem_append.1 hL with hL | hL
      · exact h.dec L hL
      · obtain rfl : L = [x] := by simpa using hL
        simp
    · rcases List.mem_append.1 hL with hL | hL
      · exact h.free L hL a ha b hb
      · obtain rfl : L = [x] := by simpa using hL
        obtain rfl : a = x := by simpa using ha
        obtain rfl : b = a := by simpa using hb
        exact can_self ht
    · by_cases hi' : i' < gs.length
      · rw [List.getElem?_append_left hi'] at hM
        rw [List.getElem?_append_left (by omega)] at hL
        exact h.ear i i' L M hi hL hM y hy
      · have hl : i' = gs.length := by have := (List.getElem?_eq_some_iff.1 hM).1; simp at this; omega
        subst hl
        obtain rfl : M = [x] := by simpa using hM.symm
        obtain rfl : y = x := by simpa using hy
        rw [List.getElem?_append_left hi] at hL
        exact hgood i L hL (hall i L hL)
  · rw [putG_at hj hno hbef]
    have hjl := (List.getElem?_eq_some_iff.1 hj).1
    have hLm := List.mem_of_getElem? hj
    refine ⟨(flat_setp hj).trans (List.Perm.append_right _ h.perm), fun M hM => ?_, fun M hM a ha b hb => ?_, fun i i' N M hi hN hM y hy => ?_⟩
    · rcases List.mem_or_eq_of_mem_set hM with hM | rfl
      · exact h.dec M hM
      · rw [List.pairwise_append]
        refine ⟨h.dec L hLm, by simp, fun a ha b hb => ?_⟩
        obtain rfl : b = x := by simpa using hb
        exact hmem j L hj a ha
    · rcases List.mem_or_eq_of_mem_set hM with hM | rfl
      · exact h.free M hM a ha b hb
      · rcases List.mem_append.1 ha with ha1 | ha1 <;> rcases List.mem_append.1 hb with hb1 | hb1
        · exact h.free L hLm a ha1 b hb1
        · obtain rfl : b = x := by simpa using hb1
          exact (meets_no hno a ha1).1
        · obtain rfl : a = x := by simpa using ha1
          exact (meets_no hno b hb1).2
        · obtain rfl : a = x := by simpa using ha1
          obtain rfl : b = a := by simpa using hb1
          exact can_self ht
    · have hN' : ∃ N', gs[i]? = some N' ∧ ∀ k ∈ N', k ∈ N := by
        by_cases hij : i = j
        · subst hij
          rw [List.getElem?_set_self hjl] at hN
          cases hN
          exact ⟨L, hj, fun k hk => by simp [hk]⟩
        · rw [List.getElem?_set_ne (Ne.symm hij)] at hN
          exact ⟨N, hN, fun k hk => hk⟩
      obtain ⟨N', hN1, hN2⟩ := hN'
      by_cases hij : i' = j
      · subst hij
        rw [List.getElem?_set_self hjl] at hM
        cases hM
        rcases List.mem_append.1 hy with hy | hy
        · obtain ⟨k, hk, hg⟩ := h.ear i i' N' L hi hN1 hj y hy
          exact ⟨k, hN2 k hk, hg⟩
        · obtain rfl : y = x := by simpa using hy
          obtain ⟨k, hk, hg⟩ := hgood i N' hN1 (hbef i N' hi hN1)
          exact ⟨k, hN2 k hk, hg⟩
      · rw [List.getElem?_set_ne (Ne.symm hij)] at hM
        obtain ⟨k, hk, hg⟩ := h.ear i i' N' M hi hN1 hM y hy
        exact ⟨k, hN2 k hk, hg⟩
theorem ginv_all {ts : List TaskV} (hr : rightB ts = true) : GInv ts (grpL ts) (ordL ts) := by
  obtain ⟨h12, hTH, hP, hF⟩ := right_facts hr
  have ho : ordL ts = orderUp (prio ts) ts.length := by rw [ordL, if_pos hr]
  have hs : (ordL ts).Pairwise (fun a b => prio ts b ≤ prio ts a) := by rw [ho]; exact order_sorted _ _
  have hnd : (ordL ts).Nodup := by rw [ho]; exact order_nodup _ _
  have hlt : ∀ x ∈ ordL ts, x < ts.length := fun x hx => (ordL_lt hx).1
  have key : ∀ (r done : List Nat) (gs : List (List Nat)), done ++ r = ordL ts → GInv ts gs done → GInv ts (r.foldl (fun gs x => putG ts x gs) gs) (ordL ts) := by
    intro r
    induction r with
    | nil => intro done gs he h; rw [List.append_nil] at he; rw [← he]; exact h
    | cons x r ih =>
      intro done gs he h
      refine ih (done ++ [x]) (putG ts x gs) (by simpa using he) (ginv_step h (fun k hk => ?_) (hTH x (hlt x (by rw [← he]; simp))))
      rw [← he] at hs hnd hlt
      have h1 := (List.pairwise_append.1 hs).2.2 k hk x (by simp)
      have h2 : k ≠ x := (List.pairwise_append.1 (List.nodup_iff_pairwise_ne.1 hnd)).2.2 k hk x (by simp)
      have h3 : prio ts k ≠ prio ts x := fun e => h2 (hP k x (hlt k (by simp [hk])) (hlt x (by simp)) e)
      omega
  exact key (ordL ts) [] [] rfl ⟨List.Perm.refl _, fun L h => by simp at h, fun L h => by simp at h, fun j j' L M _ h => by simp at h⟩
/-- Who has been met. -/
def vis (gs : List (List Nat)) (g : Nat) (T : List Nat) : List Nat := (gs.take g).flatten ++ T
theorem vis_new {gs : List (List Nat)} {g n i : Nat} {L : List Nat} (hnd : gs.flatten.Nodup) (hg : gs[g]? = some L) (hi : L[n]? = some i) : i ∉ vis gs g (L.take n) := by
  have hgl := (List.getElem?_eq_some_iff.1 hg).1
  have hnl := (List.getElem?_eq_some_iff.1 hi).1
  have e1 : gs = gs.take g ++ L :: gs.drop (g + 1) := by
    have := (List.getElem?_eq_some_iff.1 hg).2
    rw [← this, List.getElem_cons_drop, List.take_append_drop]
  have e2 : L = L.take n ++ i :: L.drop (n + 1) := by
    have := (List.getElem?_eq_some_iff.1 hi).2
    rw [← this, List.getElem_cons_drop, List.take_append_drop]
  rw [e1, List.flatten_append, List.flatten_cons] at hnd
  intro hv
  unfold vis at hv
  rw [List.nodup_append] at hnd
  obtain ⟨_, hnd2, hdis⟩ := hnd
  rcases List.mem_append.1 hv with hv | hv
  · exact hdis i hv i (List.mem_append_left _ (by rw [e2]; simp)) rfl
  · rw [List.nodup_append] at hnd2
    have hL := hnd2.1
    rw [e2, List.nodup_append] at hL
    exact hL.2.2 i hv i (by simp) rfl
theorem vis_step {gs : List (List Nat)} {g n i : Nat} {L : List Nat} (hi : L[n]? = some i) : vis gs g (L.take (n + 1)) = vis gs g (L.take n) ++ [i] := by
  unfold vis
  rw [List.take_add_one, hi, List.append_assoc]
  rfl
theorem vis_next {gs : List (List Nat)} {g : Nat} {L : List Nat} (hg : gs[g]? = some L) : vis gs (g + 1) [] = vis gs g (L.take L.length) := by
  unfold vis
  rw [List.take_add_one, hg, List.take_length, List.append_nil, List.flatten_append]
  simp
def seenL (n : Nat) (v : List Nat) : List Value := (List.range n).map fun i => Value.bool (decide (i ∈ v))
theorem seenL_len (n : Nat) (v : List Nat) : (seenL n v).length = n := by simp [seenL]
theorem seenL_at {n i : Nat} {v : List Nat} (h : i < n) : (seenL n v)[i]? = some (.bool (decide (i ∈ v))) := by
  unfold seenL
  rw [List.getElem?_map, List.getElem?_range h]
  rfl
theorem seenL_nil (n : Nat) : List.replicate n (Value.bool false) = seenL n [] := by
  refine List.ext_getElem? (fun k => ?_)
  by_cases hk : k < n
  · rw [seenL_at hk, List.getElem?_replicate, if_pos hk]
    simp
  · rw [List.getElem?_eq_none (by simp; omega), List.getElem?_eq_none (by rw [seenL_len]; omega)]
theorem seenL_set {n i : Nat} {v : List Nat} (h : i < n) : (seenL n v).set i (.bool true) = seenL n (v ++ [i]) := by
  refine List.ext_getElem? (fun k => ?_)
  by_cases hk : k < n
  · rw [seenL_at hk]
    by_cases hki : k = i
    · subst hki
      rw [List.getElem?_set_self (by rw [seenL_len]; exact h)]
      simp
    · rw [List.getElem?_set_ne (Ne.symm hki), seenL_at hk]
      simp [hki]
  · rw [List.getElem?_eq_none (by rw [List.length_set, seenL_len]; omega), List.getElem?_eq_none (by rw [seenL_len]; omega)]
end Go.Proofs.Ytcgnboplpibcgaa
