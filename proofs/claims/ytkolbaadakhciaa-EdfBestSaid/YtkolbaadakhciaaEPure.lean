/- Works that are run tick by tick, the earliest due first: plain mathematics. Speaks of no program. -/
namespace Go.Proofs.Ytkolbaadakhciaa
namespace Edf

/-- A work: when it is released, what it takes, when it is due. -/
structure Wk where
  r : Nat
  c : Nat
  d : Nat
def rl (l : List Wk) (q : Nat) : Nat := match l[q]? with | some x => x.r | none => 0
def cs (l : List Wk) (q : Nat) : Nat := match l[q]? with | some x => x.c | none => 0
def du (l : List Wk) (q : Nat) : Nat := match l[q]? with | some x => x.d | none => 0
theorem cs_out {l : List Wk} {q : Nat} (h : l.length ≤ q) : cs l q = 0 := by unfold cs; rw [List.getElem?_eq_none h]

/-- Whether the work at a place may go on. -/
def may (l : List Wk) (f : Nat → Nat) (t q : Nat) : Bool := decide (rl l q ≤ t ∧ 0 < f q)
/-- The one of the first k that goes on. -/
def best (l : List Wk) (f : Nat → Nat) (t : Nat) : Nat → Option Nat
  | 0 => none
  | k + 1 => match best l f t k with
    | none => if may l f t k then some k else none
    | some b => if may l f t k ∧ du l k < du l b then some k else some b
theorem best_some {l : List Wk} {f : Nat → Nat} {t : Nat} : ∀ {k b : Nat}, best l f t k = some b → b < k ∧ may l f t b = true ∧ ∀ q, q < k → may l f t q = true → du l b < du l q ∨ (du l b = du l q ∧ b ≤ q) := by
  intro k
  induction k with
  | zero => intro b h; cases h
  | succ k ih =>
    intro b h
    rw [best] at h
    cases hb : best l f t k with
    | none =>
      rw [hb] at h
      dsimp only at h
      split at h
      · next hm =>
        cases h
        refine ⟨by omega, hm, fun q hq hmq => ?_⟩
        by_cases hqk : q = k
        · subst hqk; right; exact ⟨rfl, Nat.le_refl _⟩
        · exfalso
          have : ∀ k, best l f t k = none → ∀ q, q < k → may l f t q = true → False := by
            intro k
            induction k with
            | zero => intro _ q hq; omega
            | succ k ih2 =>
              intro hn q hq hm
              rw [best] at hn
              cases hb2 : best l f t k with
              | none =>
                rw [hb2] at hn
                dsimp only at hn
                split at hn
                · cases hn
                · next hk =>
                  by_cases e : q = k
                  · subst e; exact hk hm
                  · exact ih2 hb2 q (by omega) hm
              | some b2 =>
                rw [hb2] at hn
                dsimp only at hn
                split at hn <;> cases hn
          exact this k hb q (by omega) hmq
      · cases h
    | some b' =>
      rw [hb] at h
      dsimp only at h
      obtain ⟨h1, h2, h3⟩ := ih hb
      split at h
      · next hm =>
        cases h
        refine ⟨by omega, hm.1, fun q hq hmq => ?_⟩
        by_cases hqk : q = k
        · subst hqk; right; exact ⟨rfl, Nat.le_refl _⟩
        · rcases h3 q (by omega) hmq with h4 | h4 <;> (left; omega)
      · next hm =>
        cases h
        refine ⟨by omega, h2, fun q hq hmq => ?_⟩
        by_cases hqk : q = k
        · subst hqk
          have : ¬ du l q < du l b := fun x => hm ⟨hmq, x⟩
          omega
        · exact h3 q (by omega) hmq
theorem best_none {l : List Wk} {f : Nat → Nat} {t : Nat} : ∀ {k : Nat}, best l f t k = none → ∀ q, q < k → may l f t q = false := by
  intro k
  induction k with
  | zero => intro _ q hq; omega
  | succ k ih =>
    intro h q hq
    rw [best] at h
    cases hb : best l f t k with
    | none =>
      rw [hb] at h
      dsimp only at h
      split at h
      · cases h
      · next hk =>
        by_cases e : q = k
        · subst e; simpa using hk
        · exact ih hb q (by omega)
    | some b2 =>
      rw [hb] at h
      dsimp only at h
      split at h <;> cases h
def who (l : List Wk) (f : Nat → Nat) (t : Nat) : Option Nat := best l f t l.length
/-- What makes a place the one that goes on. -/
theorem who_of {l : List Wk} {f : Nat → Nat} {t b : Nat} (hb : b < l.length) (hm : may l f t b = true) (h : ∀ q, q < l.length → may l f t q = true → du l b < du l q ∨ (du l b = du l q ∧ b ≤ q)) : who l f t = some b := by
  unfold who
  cases hw : best l f t l.length with
  | none => rw [best_none hw b hb] at hm; cases hm
  | some b' =>
    obtain ⟨h1, h2, h3⟩ := best_some hw
    have e1 := h b' h1 h2
    have e2 := h3 b hb hm
    exact congrArg some (by omega)
theorem who_none {l : List Wk} {f : Nat → Nat} {t : Nat} (h : ∀ q, q < l.length → may l f t q = false) : who l f t = none := by
  unfold who
  cases hw : best l f t l.length with
  | none => rfl
  | some b' =>
    obtain ⟨h1, h2, h3⟩ := best_some hw
    rw [h b' h1] at h2
    cases h2

/-- What is left of each. -/
def lef (l : List Wk) : Nat → Nat → Nat
  | 0 => cs l
  | t + 1 => fun q => if who l (lef l t) t = some q then lef l t q - 1 else lef l t q
def goes (l : List Wk) (t : Nat) : Option Nat := who l (lef l t) t
theorem lef_succ (l : List Wk) (t q : Nat) : lef l (t + 1) q = if goes l t = some q then lef l t q - 1 else lef l t q := rfl
theorem lef_step (l : List Wk) (t q : Nat) : lef l (t + 1) q ≤ lef l t q := by rw [lef_succ]; split <;> omega
theorem lef_mono (l : List Wk) {t u : Nat} (h : t ≤ u) (q : Nat) : lef l u q ≤ lef l t q := by
  induction u with
  | zero => obtain rfl : t = 0 := by omega
            exact Nat.le_refl _
  | succ u ih =>
    by_cases e : t = u + 1
    · subst e; exact Nat.le_refl _
    · exact Nat.le_trans (lef_step l u q) (ih (by omega))
theorem lef_le (l : List Wk) (t q : Nat) : lef l t q ≤ cs l q := lef_mono l (Nat.zero_le t) q
theorem goes_some {l : List Wk} {t b : Nat} (h : goes l t = some b) : b < l.length ∧ rl l b ≤ t ∧ 0 < lef l t b ∧ ∀ q, q < l.length → rl l q ≤ t → 0 < lef l t q → du l b < du l q ∨ (du l b = du l q ∧ b ≤ q) := by
  obtain ⟨h1, h2, h3⟩ := best_some h
  have h2' := of_decide_eq_true h2
  exact ⟨h1, h2'.1, h2'.2, fun q a b c => h3 q a (decide_eq_true ⟨b, c⟩)⟩
theorem goes_none {l : List Wk} {t : Nat} (h : goes l t = none) : ∀ q, q < l.length → rl l q ≤ t → lef l t q = 0 := fun q hq hr => by
  have := of_decide_eq_false (best_none h q hq)
  omega
theorem goes_of {l : List Wk} {t b : Nat} (hb : b < l.length) (hr : rl l b ≤ t) (hf : 0 < lef l t b) (h : ∀ q, q < l.length → rl l q ≤ t → 0 < lef l t q → du l b < du l q ∨ (du l b = du l q ∧ b ≤ q)) : goes l t = some b :=
  who_of hb (decide_eq_true ⟨hr, hf⟩) fun q a b => h q a (of_decide_eq_true b).1 (of_decide_eq_true b).2
theorem goes_none_of {l : List Wk} {t : Nat} (h : ∀ q, q < l.length → rl l q ≤ t → lef l t q = 0) : goes l t = none :=
  who_none fun q hq => decide_eq_false fun hx => by have := h q hq hx.1; omega
/-- Ahead of its release nothing is done. -/
theorem lef_ahead {l : List Wk} {q : Nat} : ∀ {t : Nat}, t ≤ rl l q → lef l t q = cs l q := by
  intro t
  induction t with
  | zero => intro _; rfl
  | succ t ih =>
    intro h
    rw [lef_succ, if_neg, ih (by omega)]
    intro hg
    have := (goes_some hg).2.1
    omega

/-- One goes on for a stretch. -/
theorem stretch {l : List Wk} {t p m : Nat} (hp : p < l.length) (hr : rl l p ≤ t) (hm : m ≤ lef l t p) (hfar : ∀ q, q < l.length → 0 < lef l t q → rl l q ≤ t ∨ t + m ≤ rl l q) (hmin : ∀ q, q < l.length → rl l q ≤ t → 0 < lef l t q → du l p < du l q ∨ (du l p = du l q ∧ p ≤ q)) :
    ∀ k, k ≤ m → (∀ q, lef l (t + k) q = if q = p then lef l t q - k else lef l t q) ∧ (∀ j, j < k → goes l (t + j) = some p) := by
  intro k
  induction k with
  | zero => intro _; exact ⟨fun q => by split <;> rfl, fun j hj => by omega⟩
  | succ k ih =>
    intro hk
    obtain ⟨h1, h2⟩ := ih (by omega)
    have hg : goes l (t + k) = some p := by
      refine goes_of hp (by omega) (by rw [h1, if_pos rfl]; omega) fun q hq hrq hfq => ?_
      rw [h1] at hfq
      by_cases e : q = p
      · subst e; right; exact ⟨rfl, Nat.le_refl _⟩
      · rw [if_neg e] at hfq
        rcases hfar q hq hfq with h3 | h3
        · exact hmin q hq h3 hfq
        · omega
    refine ⟨fun q => ?_, fun j hj => ?_⟩
    · rw [← Nat.add_assoc, lef_succ, hg]
      by_cases e : q = p
      · rw [if_pos (by rw [e]), h1, if_pos e, if_pos e]; omega
      · rw [if_neg (fun x => e (Option.some.inj x).symm), h1, if_neg e, if_neg e]
    · by_cases e : j = k
      · rw [e]; exact hg
      · exact h2 j (by omega)
/-- Nobody goes on till the next release. -/
theorem idle {l : List Wk} {t u : Nat} (h : ∀ q, q < l.length → 0 < lef l t q → u ≤ rl l q) : ∀ k, t + k ≤ u → (∀ q, lef l (t + k) q = lef l t q) ∧ (∀ j, j < k → goes l (t + j) = none) := by
  intro k
  induction k with
  | zero => intro _; exact ⟨fun q => rfl, fun j hj => by omega⟩
  | succ k ih =>
    intro hk
    obtain ⟨h1, h2⟩ := ih (by omega)
    have hg : goes l (t + k) = none := goes_none_of fun q hq hr => by
      rw [h1]
      rcases Nat.eq_zero_or_pos (lef l t q) with h3 | h3
      · exact h3
      · have := h q hq h3; omega
    refine ⟨fun q => ?_, fun j hj => ?_⟩
    · rw [← Nat.add_assoc, lef_succ, hg, h1]
      simp
    · by_cases e : j = k
      · rw [e]; exact hg
      · exact h2 j (by omega)

/-! What the works of some places want. -/
def sm (K : Nat → Bool) (f : Nat → Nat) : Nat → Nat
  | 0 => 0
  | n + 1 => sm K f n + if K n then f n else 0
theorem sm_le {K : Nat → Bool} {f g : Nat → Nat} (h : ∀ q, f q ≤ g q) : ∀ n, sm K f n ≤ sm K g n := by
  intro n
  induction n with
  | zero => exact Nat.le_refl _
  | succ n ih =>
    have := h n
    rw [sm, sm]
    split <;> omega
theorem sm_at {K : Nat → Bool} {f : Nat → Nat} {q : Nat} (hK : K q = true) : ∀ {n : Nat}, q < n → f q ≤ sm K f n := by
  intro n
  induction n with
  | zero => intro h; omega
  | succ n ih =>
    intro h
    rw [sm]
    by_cases e : q = n
    · subst e; rw [if_pos hK]; omega
    · have := ih (by omega); omega
theorem sm_same {K : Nat → Bool} {f g : Nat → Nat} : ∀ {n : Nat}, (∀ q, q < n → f q = g q) → sm K f n = sm K g n := by
  intro n
  induction n with
  | zero => intro _; rfl
  | succ n ih => intro h; rw [sm, sm, ih (fun q hq => h q (by omega)), h n (by omega)]
theorem sm_less {K : Nat → Bool} {f : Nat → Nat} {p : Nat} (hK : K p = true) (hf : 0 < f p) : ∀ {n : Nat}, p < n → sm K (fun q => if q = p then f q - 1 else f q) n + 1 = sm K f n := by
  intro n
  induction n with
  | zero => intro h; omega
  | succ n ih =>
    intro h
    rw [sm, sm]
    by_cases e : p = n
    · subst e
      rw [if_pos hK, if_pos hK, sm_same (g := f) (fun q hq => if_neg (by omega)), if_pos rfl]
      omega
    · have h1 := ih (by omega)
      have e2 : (if n = p then f n - 1 else f n) = f n := if_neg (fun x => e x.symm)
      show sm K (fun q => if q = p then f q - 1 else f q) n + (if K n then (if n = p then f n - 1 else f n) else 0) + 1 = _
      rw [e2]
      omega

/-- IF NO TICKS ARE WANTED TOO OFTEN, all are done in time. -/
theorem edf_ok {l : List Wk} (h : ∀ a b, a ≤ b → sm (fun q => decide (a ≤ rl l q ∧ du l q ≤ b)) (cs l) l.length ≤ b - a) {i : Nat} (hi : i < l.length) : lef l (du l i) i = 0 := by
  obtain ⟨b, hb⟩ : ∃ b, b = du l i := ⟨_, rfl⟩
  rw [← hb]
  rcases Nat.eq_zero_or_pos (lef l b i) with h0 | h0
  · exact h0
  exfalso
  -- the stretch that ends at b in which only those that are due by b go on
  have hex : ∀ k, k ≤ b → ∃ a, a ≤ b ∧ b - k ≤ a ∧ (∀ t, a ≤ t → t < b → ∃ q, goes l t = some q ∧ du l q ≤ b) ∧ (a = b - k ∨ ∀ q, goes l (a - 1) = some q → b < du l q) := by
    intro k
    induction k with
    | zero => intro _; exact ⟨b, Nat.le_refl _, by omega, fun t h1 h2 => by omega, .inl rfl⟩
    | succ k ih =>
      intro hk
      obtain ⟨a, h1, h2, h3, h4⟩ := ih (by omega)
      by_cases hc : (∀ q, goes l (a - 1) = some q → b < du l q)
      · exact ⟨a, h1, by omega, h3, .inr hc⟩
      · rcases h4 with h4 | h4
        · have hc' : ∃ q, goes l (a - 1) = some q ∧ du l q ≤ b := by
            cases hg : goes l (a - 1) with
            | none => exact absurd (fun q hq => by rw [hg] at hq; cases hq) hc
            | some q =>
              refine ⟨q, rfl, ?_⟩
              rcases Nat.lt_or_ge b (du l q) with h5 | h5
              · exact absurd (fun q' hq' => by rw [hg] at hq'; cases hq'; exact h5) hc
              · exact h5
          refine ⟨a - 1, by omega, by omega, fun t ht1 ht2 => ?_, .inl (by omega)⟩
          by_cases e : t = a - 1
          · rw [e]; exact hc'
          · exact h3 t (by omega) ht2
        · exact absurd h4 hc
  obtain ⟨a, ha, -, hrun, hbeg⟩ := hex b (Nat.le_refl _)
  -- who is due by b and was released ahead is done at a
  have hold : ∀ q, q < l.length → rl l q < a → du l q ≤ b → lef l a q = 0 := by
    intro q hq hr hd
    have h1 : lef l (a - 1) q = 0 := by
      rcases Nat.eq_zero_or_pos (lef l (a - 1) q) with h2 | h2
      · exact h2
      exfalso
      rcases hbeg with h3 | h3
      · omega
      · cases hg : goes l (a - 1) with
        | none => have := goes_none hg q hq (by omega); omega
        | some p =>
          have h4 := h3 p hg
          have h5 := (goes_some hg).2.2.2 q hq (by omega) h2
          omega
    have := lef_mono l (show a - 1 ≤ a by omega) q
    omega
  have hdem := h a b ha
  obtain ⟨K, hK⟩ : ∃ K : Nat → Bool, K = fun q => decide (a ≤ rl l q ∧ du l q ≤ b) := ⟨_, rfl⟩
  rw [← hK] at hdem
  have hsum : ∀ k, a + k ≤ b → sm K (lef l (a + k)) l.length + k = sm K (lef l a) l.length := by
    intro k
    induction k with
    | zero => intro _; rfl
    | succ k ih =>
      intro hk
      have h1 := ih (by omega)
      obtain ⟨p, hp, hpd⟩ := hrun (a + k) (by omega) (by omega)
      obtain ⟨g1, g2, g3, -⟩ := goes_some hp
      have hKp : K p = true := by
        rw [hK]
        refine decide_eq_true ⟨?_, hpd⟩
        rcases Nat.lt_or_ge (rl l p) a with h5 | h5
        · have h6 := hold p g1 h5 hpd
          have h7 := lef_mono l (show a ≤ a + k by omega) p
          omega
        · exact h5
      have h2 : sm K (lef l (a + (k + 1))) l.length + 1 = sm K (lef l (a + k)) l.length := by
        rw [← sm_less hKp g3 g1]
        congr 1
        refine sm_same fun q _ => ?_
        rw [← Nat.add_assoc, lef_succ, hp]
        by_cases e : q = p
        · rw [if_pos (by rw [e]), if_pos e]
        · rw [if_neg (fun x => e (Option.some.inj x).symm), if_neg e]
      omega
  have h2 := hsum (b - a) (by omega)
  have h3 : sm K (lef l a) l.length ≤ sm K (cs l) l.length := sm_le (lef_le l a) _
  rw [show a + (b - a) = b by omega] at h2
  have hKi : K i = true := by
    rw [hK]
    refine decide_eq_true ⟨?_, by omega⟩
    rcases Nat.lt_or_ge (rl l i) a with h5 | h5
    · have h6 := hold i hi h5 (by omega)
      have h7 := lef_mono l ha i
      omega
    · exact h5
  have := sm_at (f := lef l b) hKi hi
  omega
end Edf
end Go.Proofs.Ytkolbaadakhciaa
