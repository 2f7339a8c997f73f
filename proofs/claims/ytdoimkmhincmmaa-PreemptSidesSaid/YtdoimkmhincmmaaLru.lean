/- Blocks used lately: rows of a set, misses, and what others' accesses cost. Speaks of no program. -/
namespace Go.Proofs.Ytdoimkmhincmmaa
namespace Lru

/-- Each once, where it stands first. -/
def dd : List Nat → List Nat
  | [] => []
  | x :: t => x :: (dd t).filter (fun y => decide (y ≠ x))
/-- The blocks of a set, the one used last first; h: the one used last first. -/
def D (S s : Nat) (h : List Nat) : List Nat := dd (h.filter (fun b => decide (b % S = s)))
/-- The row of a set, as it is gone through. -/
def go (S W s : Nat) : List Nat → List Nat → List Nat
  | [], out => out
  | b :: t, out => if out.length < W then go S W s t (if b % S = s ∧ b ∉ out then out ++ [b] else out) else out
def hitB (S W : Nat) (h : List Nat) (b : Nat) : Bool := decide (b ∈ (D S (b % S) h).take W)
def missN (S W : Nat) : List Nat → List Nat → Nat
  | _, [] => 0
  | h, b :: l => (if hitB S W h b then 0 else 1) + missN S W (b :: h) l

theorem missN_append (S W : Nat) : ∀ (l m h : List Nat), missN S W h (l ++ m) = missN S W h l + missN S W (l.reverse ++ h) m
  | [], m, h => by simp [missN]
  | b :: l, m, h => by
    simp only [List.cons_append, missN, missN_append S W l m, List.reverse_cons, List.append_assoc, List.nil_append]
    omega

theorem dd_mem {x : Nat} : ∀ {l : List Nat}, x ∈ dd l ↔ x ∈ l
  | [] => by simp [dd]
  | y :: t => by
    simp only [dd, List.mem_cons, List.mem_filter, dd_mem (l := t), decide_eq_true_eq]
    by_cases h : x = y <;> simp [h]
theorem dd_nodup : ∀ (l : List Nat), (dd l).Nodup
  | [] => by simp [dd]
  | y :: t => by
    simp only [dd, List.nodup_cons, List.mem_filter, decide_eq_true_eq]
    exact ⟨fun h => h.2 rfl, (dd_nodup t).filter _⟩
theorem D_mem {S s x : Nat} {h : List Nat} : x ∈ D S s h ↔ x ∈ h ∧ x % S = s := by
  unfold D
  simp [dd_mem]
theorem D_nodup (S s : Nat) (h : List Nat) : (D S s h).Nodup := dd_nodup _
theorem D_cons_same {S s b : Nat} {h : List Nat} (e : b % S = s) : D S s (b :: h) = b :: (D S s h).filter (fun y => decide (y ≠ b)) := by
  unfold D
  rw [List.filter_cons_of_pos (by simpa using e)]
  rfl
theorem D_cons_other {S s b : Nat} {h : List Nat} (e : ¬ b % S = s) : D S s (b :: h) = D S s h := by
  unfold D
  rw [List.filter_cons_of_neg (by simpa using e)]
theorem D_append_other {S s : Nat} {h : List Nat} : ∀ {o : List Nat}, (∀ x ∈ o, ¬ x % S = s) → D S s (o ++ h) = D S s h
  | [], _ => rfl
  | b :: o, ho => by
    rw [List.cons_append, D_cons_other (ho b (by simp)), D_append_other (fun x hx => ho x (by simp [hx]))]

/-- The row as it is gone through: the first of those used last. -/
theorem go_eq (S W s : Nat) : ∀ (h out : List Nat), out.length ≤ W → go S W s h out = (out ++ (D S s h).filter (fun y => decide (y ∉ out))).take W
  | [], out, ho => by
    simp [go, D, dd, List.take_of_length_le ho]
  | b :: t, out, ho => by
    rw [go]
    by_cases hl : out.length < W
    · rw [if_pos hl]
      by_cases hb : b % S = s
      · rw [D_cons_same hb]
        by_cases hm : b ∈ out
        · rw [if_neg (fun h => h.2 hm), go_eq S W s t out ho, List.filter_cons_of_neg (by simpa using hm), List.filter_filter]
          congr 2
          apply List.filter_congr
          intro x _
          by_cases hx : x = b
          · subst hx; simp [hm]
          · simp [hx]
        · rw [if_pos ⟨hb, hm⟩, go_eq S W s t (out ++ [b]) (by simp; omega), List.filter_cons_of_pos (by simpa using hm), List.filter_filter, List.append_assoc, List.singleton_append]
          congr 3
          apply List.filter_congr
          intro x _
          simp [not_or, Bool.and_comm]
      · rw [if_neg (fun h => hb h.1), go_eq S W s t out ho, D_cons_other hb]
    · rw [if_neg hl, List.take_append_of_le_length (by omega), List.take_of_length_le (by omega)]
theorem go_nil (S W s : Nat) (h : List Nat) : go S W s h [] = (D S s h).take W := by
  rw [go_eq S W s h [] (Nat.zero_le _), List.nil_append, List.filter_eq_self.2 (fun x _ => by simp)]

theorem take_filter_ne {b x : Nat} : ∀ {r : List Nat} {m : Nat}, r.Nodup → x ∈ (r.filter (fun y => decide (y ≠ b))).take m → x ∈ r.take (m + 1)
  | [], m, _, h => by simp at h
  | y :: r, m, hn, h => by
    rw [List.nodup_cons] at hn
    by_cases e : y = b
    · subst e
      have : r.filter (fun z => decide (z ≠ y)) = r := List.filter_eq_self.2 (fun z hz => by
        have : z ≠ y := fun e => hn.1 (e ▸ hz)
        simpa using this)
      rw [List.filter_cons_of_neg (by simp), this] at h
      simp [List.take_succ_cons, h]
    · rw [List.filter_cons_of_pos (by simpa using e)] at h
      cases m with
      | zero => simp at h
      | succ m =>
        rw [List.take_succ_cons, List.mem_cons] at h
        rw [List.take_succ_cons, List.mem_cons]
        rcases h with h | h
        · exact .inl h
        · exact .inr (take_filter_ne hn.2 h)

theorem filter_len {b : Nat} : ∀ {p : List Nat}, p.Nodup → p.length ≤ (p.filter (fun y => decide (y ≠ b))).length + 1
  | [], _ => by simp
  | y :: p, hn => by
    rw [List.nodup_cons] at hn
    by_cases e : y = b
    · subst e
      have : p.filter (fun z => decide (z ≠ y)) = p := List.filter_eq_self.2 (fun z hz => by
        have : z ≠ y := fun e => hn.1 (e ▸ hz)
        simpa using this)
      rw [List.filter_cons_of_neg (by simp), this]
      simp
    · rw [List.filter_cons_of_pos (by simpa using e)]
      have := filter_len (b := b) hn.2
      simp only [List.length_cons]
      omega

theorem nodup_le : ∀ {a b : List Nat}, a.Nodup → (∀ x ∈ a, x ∈ b) → a.length ≤ b.length
  | [], _, _, _ => by simp
  | x :: a, b, hn, h => by
    rw [List.nodup_cons] at hn
    have hx := h x (by simp)
    have := nodup_le (b := b.erase x) hn.2 (fun y hy => (List.mem_erase_of_ne (fun (e : y = x) => hn.1 (e ▸ hy))).2 (h y (by simp [hy])))
    rw [List.length_erase_of_mem hx] at this
    have : 0 < b.length := List.length_pos_of_mem hx
    simp only [List.length_cons]
    omega

/-- What may still be found alone, and not behind the others: F. -/
structure Inv (S W : Nat) (T : Nat → Bool) (F h1 h2 : List Nat) : Prop where
  no : ∀ s, T s = false → D S s h1 = D S s h2
  yes : ∀ s, T s = true → ∃ p r1 r2, D S s h1 = p ++ r1 ∧ D S s h2 = p ++ r2 ∧ ∀ x ∈ r1.take (W - p.length), x ∈ F

theorem Inv.step {S W : Nat} {T : Nat → Bool} {F h1 h2 : List Nat} (I : Inv S W T F h1 h2) (b : Nat) :
    Inv S W T (F.filter (fun y => decide (y ≠ b))) (b :: h1) (b :: h2) ∧ (hitB S W h1 b = true → hitB S W h2 b = false → b ∈ F) := by
  refine ⟨⟨fun s hs => ?_, fun s hs => ?_⟩, fun e1 e2 => ?_⟩
  · by_cases hb : b % S = s
    · rw [D_cons_same hb, D_cons_same hb, I.no s hs]
    · rw [D_cons_other hb, D_cons_other hb, I.no s hs]
  · obtain ⟨p, r1, r2, q1, q2, hF⟩ := I.yes s hs
    have n1 := D_nodup S s h1
    have n2 := D_nodup S s h2
    rw [q1, List.nodup_append] at n1
    rw [q2, List.nodup_append] at n2
    by_cases hb : b % S = s
    · rw [D_cons_same hb, D_cons_same hb, q1, q2, List.filter_append, List.filter_append]
      refine ⟨b :: p.filter (fun y => decide (y ≠ b)), r1.filter (fun y => decide (y ≠ b)), r2.filter (fun y => decide (y ≠ b)), rfl, rfl, fun x hx => ?_⟩
      have hxr := (List.mem_filter.1 (List.mem_of_mem_take hx)).2
      rw [List.mem_filter]
      refine ⟨hF x ?_, hxr⟩
      have hlen := filter_len (b := b) n1.1
      simp only [List.length_cons] at hx
      by_cases hp : b ∈ p
      · have : r1.filter (fun z => decide (z ≠ b)) = r1 := List.filter_eq_self.2 (fun z hz => by
          have : z ≠ b := fun e => (n1.2.2 b hp z hz) e.symm
          simpa using this)
        rw [this] at hx
        have hle : W - ((p.filter (fun y => decide (y ≠ b))).length + 1) ≤ W - p.length := by omega
        exact (List.take_subset_take_left _ hle) hx
      · have : p.filter (fun z => decide (z ≠ b)) = p := List.filter_eq_self.2 (fun z hz => by
          have : z ≠ b := fun e => hp (e ▸ hz)
          simpa using this)
        rw [this] at hx
        have h3 := take_filter_ne n1.2.1 hx
        by_cases hW : W ≤ p.length
        · have : W - (p.length + 1) = 0 := by omega
          rw [this] at hx
          simp at hx
        · have : W - (p.length + 1) + 1 = W - p.length := by omega
          rwa [this] at h3
    · rw [D_cons_other hb, D_cons_other hb]
      refine ⟨p, r1, r2, q1, q2, fun x hx => ?_⟩
      rw [List.mem_filter]
      refine ⟨hF x hx, ?_⟩
      have : x ∈ D S s h1 := by rw [q1]; exact List.mem_append_right _ (List.mem_of_mem_take hx)
      have hc := (D_mem.1 this).2
      have : x ≠ b := fun e => hb (e ▸ hc)
      simpa using this
  · unfold hitB at e1 e2
    simp only [decide_eq_true_eq, decide_eq_false_iff_not] at e1 e2
    cases hT : T (b % S) with
    | false => rw [I.no _ hT] at e1; exact absurd e1 e2
    | true =>
      obtain ⟨p, r1, r2, q1, q2, hF⟩ := I.yes _ hT
      rw [q1, List.take_append, List.mem_append] at e1
      rw [q2, List.take_append, List.mem_append] at e2
      rcases e1 with e1 | e1
      · exact absurd (.inl e1) e2
      · exact hF b e1

theorem count_step {b : Nat} {l : List Nat} : ∀ (F : List Nat), ((F.filter (fun y => decide (y ≠ b))).filter (fun y => decide (y ∈ l))).length + (if b ∈ F then 1 else 0) ≤ (F.filter (fun y => decide (y ∈ b :: l))).length
  | [] => by simp
  | x :: F => by
    have ih := count_step (b := b) (l := l) F
    by_cases e : x = b
    · subst e
      rw [List.filter_cons_of_neg (by simp), List.filter_cons_of_pos (by simp), if_pos (by simp), List.length_cons]
      have : (if x ∈ F then 1 else 0) ≥ 0 := Nat.zero_le _
      omega
    · rw [List.filter_cons_of_pos (by simpa using e)]
      have hm : (if b ∈ x :: F then 1 else 0) = (if b ∈ F then 1 else 0) := by
        simp [show b ≠ x from fun h => e h.symm]
      rw [hm]
      by_cases hl : x ∈ l
      · rw [List.filter_cons_of_pos (by simpa using hl), List.filter_cons_of_pos (by simp [hl]), List.length_cons, List.length_cons]
        omega
      · rw [List.filter_cons_of_neg (by simpa using hl), List.filter_cons_of_neg (by simp [hl, e])]
        exact ih

theorem Inv.bound {S W : Nat} {T : Nat → Bool} : ∀ (l F h1 h2 : List Nat), Inv S W T F h1 h2 → missN S W h2 l ≤ missN S W h1 l + (F.filter (fun y => decide (y ∈ l))).length
  | [], F, h1, h2, _ => by simp [missN]
  | b :: l, F, h1, h2, I => by
    obtain ⟨I', hb⟩ := I.step b
    have ih := Inv.bound l _ _ _ I'
    have hc := count_step (b := b) (l := l) F
    simp only [missN]
    generalize (F.filter (fun y => decide (y ∈ b :: l))).length = C at hc ⊢
    cases e1 : hitB S W h1 b <;> cases e2 : hitB S W h2 b
    · simp; omega
    · simp; omega
    · rw [if_pos (hb e1 e2)] at hc
      simp; omega
    · simp; omega

def loadN (S : Nat) (bl : List Nat) (s : Nat) : Nat := (bl.filter (fun b => decide (b % S = s))).length
def boundN (S W : Nat) (T : Nat → Bool) (bl : List Nat) : Nat → Nat
  | 0 => 0
  | n + 1 => boundN S W T bl n + (if T n then min W (loadN S bl n) else 0)

/-- ONE DISPLACEMENT: what others access, of touched sets alone, costs no more than the bound. -/
theorem crpd {S W : Nat} {T : Nat → Bool} {l h o bl : List Nat} (hS : 0 < S) (ho : ∀ x ∈ o, T (x % S) = true) (hl : ∀ x ∈ l, x ∈ bl) :
    missN S W (o ++ h) l ≤ missN S W h l + boundN S W T bl S := by
  let F : Nat → List Nat := fun n => (List.range n).flatMap (fun s => if T s then (D S s h).take W else [])
  have I : Inv S W T (F S) h (o ++ h) := by
    refine ⟨fun s hs => (D_append_other (fun x hx e => ?_)).symm, fun s hs => ⟨[], D S s h, D S s (o ++ h), rfl, rfl, fun x hx => ?_⟩⟩
    · have := ho x hx
      rw [e, hs] at this
      cases this
    · simp only [List.length_nil, Nat.sub_zero] at hx
      have hc := (D_mem.1 (List.mem_of_mem_take hx)).2
      have : s < S := hc ▸ Nat.mod_lt _ hS
      simp only [F, List.mem_flatMap, List.mem_range]
      exact ⟨s, this, by rw [if_pos hs]; exact hx⟩
  refine Nat.le_trans (I.bound l _ _ _) (Nat.add_le_add_left ?_ _)
  have key : ∀ n, ((F n).filter (fun y => decide (y ∈ l))).length ≤ boundN S W T bl n := by
    intro n
    induction n with
    | zero => simp [F, boundN]
    | succ n ih =>
      have : F (n + 1) = F n ++ (if T n then (D S n h).take W else []) := by
        simp only [F, List.range_succ, List.flatMap_append, List.flatMap_cons, List.flatMap_nil, List.append_nil]
      rw [this, List.filter_append, List.length_append, boundN]
      refine Nat.add_le_add ih ?_
      cases hT : T n with
      | false => simp
      | true =>
        simp only [if_true]
        refine Nat.le_min.2 ⟨Nat.le_trans (List.length_filter_le _ _) (List.length_take_le _ _), ?_⟩
        refine nodup_le (((D_nodup S n h).sublist (List.take_sublist _ _)).filter _) (fun x hx => ?_)
        rw [List.mem_filter, decide_eq_true_eq] at hx
        rw [List.mem_filter, decide_eq_true_eq]
        exact ⟨hl x hx.2, (D_mem.1 (List.mem_of_mem_take hx.1)).2⟩
  exact key S
end Lru
end Go.Proofs.Ytdoimkmhincmmaa
