/- edf: some order is in time, in numbers. -/
import Derived.Test.YtkolbaadakhciaaELate
namespace Go.Proofs.Ytkolbaadakhciaa
namespace Edf
open Go Go.RowKit

/-- The tick j is the work's of the number q. -/
def hitQ (O : List Nat) (j q : Nat) : Bool := match O[j]? with | some n => decide (n % 8 = q) | none => false
theorem hitQ_one {O : List Nat} {j p q : Nat} (h : hitQ O j p = true) (k : hitQ O j q = true) : p = q := by
  unfold hitQ at h k
  split at h
  · rename_i n e
    rw [e] at k
    have h := of_decide_eq_true h
    have k := of_decide_eq_true k
    omega
  · cases h
theorem hitQ_lt {O : List Nat} {j q : Nat} (h : hitQ O j q = true) : j < O.length := by
  rcases Nat.lt_or_ge j O.length with hlt | hge
  · exact hlt
  · unfold hitQ at h
    rw [List.getElem?_eq_none hge] at h
    cases h
def cnt (O : List Nat) (q a : Nat) : Nat → Nat
  | 0 => 0
  | m + 1 => cnt O q a m + if hitQ O (a + m) q then 1 else 0
theorem cnt_zero {O : List Nat} {q a : Nat} : ∀ {m : Nat}, (∀ j, a ≤ j → j < a + m → hitQ O j q = false) → cnt O q a m = 0 := by
  intro m
  induction m with
  | zero => intro _; rfl
  | succ m ih =>
    intro h
    rw [cnt, ih fun j h1 h2 => h j h1 (by omega), h (a + m) (by omega) (by omega)]
    rfl
theorem cnt_split (O : List Nat) (q a m : Nat) : ∀ k, cnt O q a (m + k) = cnt O q a m + cnt O q (a + m) k := by
  intro k
  induction k with
  | zero => rfl
  | succ k ih => rw [← Nat.add_assoc, cnt, ih, cnt, Nat.add_assoc a m k, Nat.add_assoc]
theorem cnt_in {O : List Nat} {q a m : Nat} (h : ∀ j, hitQ O j q = true → a ≤ j ∧ j < a + m) : cnt O q 0 O.length ≤ cnt O q a m := by
  have h1 : cnt O q 0 (a + m) = cnt O q a m := by
    rw [cnt_split, Nat.zero_add, cnt_zero, Nat.zero_add]
    intro j _ h2
    cases hh : hitQ O j q
    · rfl
    · have := h j hh; omega
  rcases Nat.le_total O.length (a + m) with h2 | h2
  · obtain ⟨k, hk⟩ := Nat.exists_eq_add_of_le h2
    rw [← h1, hk, cnt_split]
    omega
  · obtain ⟨k, hk⟩ := Nat.exists_eq_add_of_le h2
    rw [hk, cnt_split, h1, cnt_zero (m := k)]
    · omega
    · intro j h3 _
      cases hh : hitQ O j q
      · rfl
      · have := h j hh; omega
theorem sm_leK {K : Nat → Bool} {f g : Nat → Nat} : ∀ {n : Nat}, (∀ q, q < n → K q = true → f q ≤ g q) → sm K f n ≤ sm K g n := by
  intro n
  induction n with
  | zero => intro _; exact Nat.le_refl _
  | succ n ih =>
    intro h
    have h1 := ih fun q hq => h q (by omega)
    unfold sm
    cases hK : K n
    · simpa using h1
    · have := h n (by omega) hK
      simp only [if_true]
      omega
theorem sm_one {K hh : Nat → Bool} {f : Nat → Nat} (h1 : ∀ p q, hh p = true → hh q = true → p = q) : ∀ {n : Nat}, sm K (fun q => f q + if hh q then 1 else 0) n ≤ sm K f n + 1 := by
  intro n
  induction n with
  | zero => exact Nat.le_succ _
  | succ n ih =>
    unfold sm
    cases hn : hh n
    · cases hK : K n
      · simpa using ih
      · simp only [if_true]
        simp only [Bool.false_eq_true, if_false, Nat.add_zero]
        omega
    · have h2 : sm K (fun q => f q + if hh q then 1 else 0) n = sm K f n := sm_same fun q hq => by
        cases hq' : hh q
        · rfl
        · have := h1 _ _ hn hq'; omega
      rw [h2]
      cases hK : K n
      · simp
      · simp only [if_true]
        omega
theorem sm_cnt {K : Nat → Bool} (O : List Nat) (a n : Nat) : ∀ m, sm K (fun q => cnt O q a m) n ≤ m := by
  intro m
  induction m with
  | zero =>
    have h0 : sm K (fun q => cnt O q a 0) n ≤ sm K (fun _ => 0) n := sm_leK fun q _ _ => Nat.le_refl _
    have h1 : ∀ n, sm K (fun _ => 0) n = 0 := fun n => by
      induction n with
      | zero => rfl
      | succ n ih => unfold sm; rw [ih]; split <;> rfl
    rw [h1] at h0
    exact h0
  | succ m ih =>
    have h1 := sm_one (K := K) (hh := fun q => hitQ O (a + m) q) (f := fun q => cnt O q a m) (fun p q => hitQ_one) (n := n)
    have h2 : sm K (fun q => cnt O q a (m + 1)) n = sm K (fun q => cnt O q a m + if hitQ O (a + m) q then 1 else 0) n := rfl
    rw [h2]
    omega

/-- Works that are given ticks of their own. -/
def Given (O : List Nat) (M : List Wk) : Prop := M.length = 8 ∧ ∀ q y, M[q]? = some y → y.c = cnt O q 0 O.length ∧ (y.c = 0 → y.r = 0) ∧ ∀ j, hitQ O j q = true → y.r ≤ j ∧ j + 1 ≤ y.d
theorem given_ok {O : List Nat} {M : List Wk} (h : Given O M) {i : Nat} (hi : i < M.length) : lef M (du M i) i = 0 := by
  refine edf_ok (fun a b hab => ?_) hi
  refine Nat.le_trans (sm_leK (g := fun q => cnt O q a (b - a)) fun q hq hK => ?_) (sm_cnt O a M.length (b - a))
  obtain ⟨h1, h2⟩ := of_decide_eq_true hK
  obtain ⟨k1, -, k3⟩ := h.2 q M[q] (List.getElem?_eq_getElem hq)
  have e1 : rl M q = M[q].r := by unfold rl; rw [List.getElem?_eq_getElem hq]
  have e2 : cs M q = M[q].c := by unfold cs; rw [List.getElem?_eq_getElem hq]
  have e3 : du M q = M[q].d := by unfold du; rw [List.getElem?_eq_getElem hq]
  rw [e2, k1]
  refine cnt_in fun j hj => ?_
  have := k3 j hj
  omega
theorem given_late {O : List Nat} {M : List Wk} {E : List Nat} (h : Given O M) (hF : ∀ i, i < M.length → ∃ e, E[i]? = some e ∧ FinAt M i e) : lateTo M E M.length = [] := by
  refine lateTo_none fun i hi => ?_
  obtain ⟨e, h1, h2⟩ := hF i hi
  have h3 : E.getD i 0 = e := by rw [List.getD_eq_getElem?_getD, h1]; rfl
  rw [h3]
  have h4 := given_ok h hi
  rcases h2 with ⟨k1, k2⟩ | ⟨k1, k2, k3, k4⟩
  · obtain ⟨-, g2, -⟩ := h.2 i M[i] (List.getElem?_eq_getElem hi)
    have e1 : rl M i = M[i].r := by unfold rl; rw [List.getElem?_eq_getElem hi]
    have e2 : cs M i = M[i].c := by unfold cs; rw [List.getElem?_eq_getElem hi]
    rw [k2, e1, g2 (by omega)]
    exact Nat.zero_le _
  · rcases Nat.lt_or_ge (du M i) e with hlt | hge
    · exfalso
      have h5 := lef_mono M (show du M i ≤ e - 1 by omega) i
      have h6 := (goes_some k3).2.2.1
      omega
    · exact hge

def bstep (l : List Wk) (t n : Nat) : List Wk := match l[n % 8]? with | some x => l.set (n % 8) ⟨if x.c = 0 then t else x.r, x.c + 1, t + 1⟩ | none => l
/-- The law's works after t ticks. -/
def bld (O : List Nat) : Nat → List Wk
  | 0 => List.replicate 8 ⟨0, 0, 0⟩
  | t + 1 => bstep (bld O t) t (O.getD t 0)
theorem bld_len (O : List Nat) (t : Nat) : (bld O t).length = 8 := by
  induction t with
  | zero => rfl
  | succ t ih => rw [bld, bstep]; split <;> simp [ih]
theorem bld_inv {O : List Nat} : ∀ {t : Nat}, t ≤ O.length → ∀ q x, (bld O t)[q]? = some x → x.c = cnt O q 0 t ∧ (x.c = 0 → x.r = 0) ∧ x.r ≤ t ∧ x.d ≤ t ∧ x.c ≤ t ∧ ∀ j, j < t → hitQ O j q = true → x.r ≤ j ∧ j + 1 ≤ x.d ∧ 0 < x.c := by
  intro t
  induction t with
  | zero =>
    intro _ q x hx
    rw [bld, List.getElem?_replicate] at hx
    split at hx
    · cases hx
      exact ⟨rfl, fun _ => rfl, Nat.le_refl _, Nat.le_refl _, Nat.le_refl _, fun j hj => by omega⟩
    · cases hx
  | succ t ih =>
    intro ht q x hx
    obtain ⟨n, hn⟩ : ∃ n, O[t]? = some n := ⟨O[t], List.getElem?_eq_getElem (by omega)⟩
    have hg : O.getD t 0 = n := by rw [List.getD_eq_getElem?_getD, hn]; rfl
    have hq8 : n % 8 < 8 := Nat.mod_lt _ (by omega)
    obtain ⟨y, hy⟩ : ∃ y, (bld O t)[n % 8]? = some y := ⟨_, List.getElem?_eq_getElem (by rw [bld_len]; omega)⟩
    have hst : bld O (t + 1) = (bld O t).set (n % 8) ⟨if y.c = 0 then t else y.r, y.c + 1, t + 1⟩ := by rw [bld, hg, bstep, hy]
    rw [hst, List.getElem?_set] at hx
    have hh : ∀ p, hitQ O t p = decide (n % 8 = p) := fun p => by unfold hitQ; rw [hn]
    by_cases hqn : n % 8 = q
    · rw [if_pos hqn, if_pos (by rw [bld_len]; omega)] at hx
      cases hx
      rw [hqn] at hy
      obtain ⟨i1, i2, i3, i4, i5, i6⟩ := ih (by omega) q y hy
      have hcn : cnt O q 0 (t + 1) = cnt O q 0 t + 1 := by
        rw [cnt, Nat.zero_add, hh q, if_pos (decide_eq_true hqn)]
      dsimp only
      refine ⟨by rw [hcn, i1], fun h => by omega, by split <;> omega, by omega, by omega, fun j hj hjq => ?_⟩
      by_cases hjt : j = t
      · subst hjt
        exact ⟨by split <;> omega, by omega, by omega⟩
      · have := i6 j (by omega) hjq
        refine ⟨by rw [if_neg (by omega)]; omega, by omega, by omega⟩
    · rw [if_neg hqn] at hx
      obtain ⟨i1, i2, i3, i4, i5, i6⟩ := ih (by omega) q x hx
      have hcn : cnt O q 0 (t + 1) = cnt O q 0 t := by
        rw [cnt, Nat.zero_add, hh q, if_neg (by rw [decide_eq_false hqn]; simp), Nat.add_zero]
      refine ⟨by rw [hcn, i1], i2, by omega, by omega, by omega, fun j hj hjq => ?_⟩
      by_cases hjt : j = t
      · subst hjt
        rw [hh q, decide_eq_false hqn] at hjq
        cases hjq
      · exact i6 j (by omega) hjq
/-- Their releases may come earlier and their dues later. -/
def Looser (l M : List Wk) : Prop := M.length = 8 ∧ ∀ (q : Nat) (x y : Wk), l[q]? = some x → M[q]? = some y → y.c = x.c ∧ y.r ≤ x.r ∧ x.d ≤ y.d ∧ y.d ≤ x.d + 255
theorem given_of {O : List Nat} {M : List Wk} (h : Looser (bld O O.length) M) : Given O M := by
  refine ⟨h.1, fun q y hy => ?_⟩
  have hq := (List.getElem?_eq_some_iff.1 hy).1
  obtain ⟨x, hx⟩ : ∃ x, (bld O O.length)[q]? = some x := ⟨_, List.getElem?_eq_getElem (by rw [bld_len]; have := h.1; omega)⟩
  obtain ⟨h1, h2, h3, -⟩ := h.2 q x y hx hy
  obtain ⟨i1, i2, i3, i4, i5, i6⟩ := bld_inv (Nat.le_refl _) q x hx
  exact ⟨by rw [h1, i1], fun h0 => by have := i2 (by omega); omega, fun j hj => by have := i6 j (hitQ_lt hj) hj; omega⟩
end Edf
end Go.Proofs.Ytkolbaadakhciaa
