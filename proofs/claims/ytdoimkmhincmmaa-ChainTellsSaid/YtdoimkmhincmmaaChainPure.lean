/- Chains of tasks, in numbers: the deepest one, found from the highest priority down, is what going through all chains tells; groups. Speaks of no program. -/
namespace Go.Proofs.Ytdoimkmhincmmaa
namespace Chn
variable (n : Nat) (P TH F : Nat → Int)
def can (a b : Nat) : Bool := decide (TH b < P a)
def depth : List Nat → Int
  | [] => 0
  | x :: l => F x + depth l
/-- All chains that begin with a task (as deep as the fuel reaches). -/
def chains : Nat → Nat → List (List Nat)
  | 0, a => [[a]]
  | f + 1, a => [a] :: ((List.range n).filter fun i => can P TH i a).flatMap fun i => (chains f i).map (a :: ·)
def ahead : List Nat → List Nat → Bool
  | [], _ => false
  | _ :: _, [] => true
  | x :: a, y :: b => if x = y then ahead a b else decide (P x < P y)
def better (a b : List Nat) : Bool := decide (depth F b < depth F a) || (decide (depth F a = depth F b) && ahead P a b)
variable {n P TH F}
theorem ahead_irrefl : ∀ a : List Nat, ahead P a a = false
  | [] => rfl
  | x :: a => by unfold ahead; rw [if_pos rfl]; exact ahead_irrefl a
theorem ahead_trans : ∀ {a b c : List Nat}, ahead P a b = true → ahead P b c = true → ahead P a c = true
  | [], _, _, h, _ => by simp [ahead] at h
  | x :: a, [], c, _, h => by simp [ahead] at h
  | x :: a, y :: b, [], _, _ => rfl
  | x :: a, y :: b, z :: c, h, k => by
    unfold ahead at h k ⊢
    by_cases hxy : x = y
    · subst hxy
      rw [if_pos rfl] at h
      by_cases hxz : x = z
      · subst hxz
        rw [if_pos rfl] at k ⊢
        exact ahead_trans h k
      · rw [if_neg hxz] at k ⊢
        exact k
    · rw [if_neg hxy] at h
      have h1 := of_decide_eq_true h
      by_cases hyz : y = z
      · subst hyz
        rw [if_neg hxy]
        exact h
      · rw [if_neg hyz] at k
        have h2 := of_decide_eq_true k
        rw [if_neg (by rintro rfl; omega)]
        exact decide_eq_true (by omega)
theorem ahead_total (hP : ∀ i k, i < n → k < n → P i = P k → i = k) : ∀ {a b : List Nat}, (∀ x ∈ a, x < n) → (∀ x ∈ b, x < n) → ahead P a b = false → ahead P b a = false → a = b
  | [], [], _, _, _, _ => rfl
  | [], y :: b, _, _, _, k => by simp [ahead] at k
  | x :: a, [], _, _, h, _ => by simp [ahead] at h
  | x :: a, y :: b, ha, hb, h, k => by
    unfold ahead at h k
    by_cases hxy : x = y
    · subst hxy
      rw [if_pos rfl] at h k
      rw [ahead_total hP (fun z hz => ha z (List.mem_cons_of_mem _ hz)) (fun z hz => hb z (List.mem_cons_of_mem _ hz)) h k]
    · rw [if_neg hxy] at h
      rw [if_neg (Ne.symm hxy)] at k
      have h1 := of_decide_eq_false h
      have h2 := of_decide_eq_false k
      exact absurd (hP x y (ha x (List.mem_cons_self ..)) (hb y (List.mem_cons_self ..)) (by omega)) hxy
theorem better_irrefl (a : List Nat) : better P F a a = false := by
  unfold better
  rw [ahead_irrefl]
  simp
theorem better_iff {a b : List Nat} : better P F a b = true ↔ depth F b < depth F a ∨ (depth F a = depth F b ∧ ahead P a b = true) := by
  unfold better
  simp
theorem better_trans {a b c : List Nat} (h : better P F a b = true) (k : better P F b c = true) : better P F a c = true := by
  rw [better_iff] at *
  rcases h with h | ⟨h, h'⟩ <;> rcases k with k | ⟨k, k'⟩
  · left; omega
  · left; omega
  · left; omega
  · exact .inr ⟨by omega, ahead_trans h' k'⟩
theorem better_uniq (hP : ∀ i k, i < n → k < n → P i = P k → i = k) {a b : List Nat} (ha : ∀ x ∈ a, x < n) (hb : ∀ x ∈ b, x < n) (h : better P F a b = false) (k : better P F b a = false) : a = b := by
  have h1 : ¬ (depth F b < depth F a ∨ (depth F a = depth F b ∧ ahead P a b = true)) := by rw [← better_iff, h]; simp
  have k1 : ¬ (depth F a < depth F b ∨ (depth F b = depth F a ∧ ahead P b a = true)) := by rw [← better_iff, k]; simp
  have hd : depth F a = depth F b := by omega
  refine ahead_total hP ha hb ?_ ?_
  · cases hh : ahead P a b
    · rfl
    · exact absurd (.inr ⟨hd, hh⟩) h1
  · cases hh : ahead P b a
    · rfl
    · exact absurd (.inr ⟨hd.symm, hh⟩) k1
/-- The best of a row, as going through it finds it. -/
def bestF (P F : Nat → Int) : List (List Nat) → Option (List Nat) → Option (List Nat)
  | [], b => b
  | l :: r, none => bestF P F r (some l)
  | l :: r, some b => bestF P F r (some (if better P F l b then l else b))
theorem bestF_spec : ∀ (r : List (List Nat)) (done : List (List Nat)) (b : List Nat), (∀ l ∈ done, better P F l b = false) → b ∈ done → ∃ m, bestF P F r (some b) = some m ∧ m ∈ done ++ r ∧ ∀ l ∈ done ++ r, better P F l m = false
  | [], done, b, h, hb => ⟨b, rfl, by simpa using hb, by simpa using h⟩
  | l :: r, done, b, h, hb => by
    have key : ∀ c, c ∈ done ++ [l] → (∀ x ∈ done ++ [l], better P F x c = false) → ∃ m, bestF P F r (some c) = some m ∧ m ∈ done ++ l :: r ∧ ∀ x ∈ done ++ l :: r, better P F x m = false := fun c hc hx => by
      obtain ⟨m, h1, h2, h3⟩ := bestF_spec r (done ++ [l]) c hx hc
      refine ⟨m, h1, ?_, ?_⟩
      · simpa using h2
      · simpa using h3
    show ∃ m, bestF P F r (some (if better P F l b = true then l else b)) = some m ∧ _
    by_cases hl : better P F l b = true
    · rw [if_pos hl]
      refine key l (by simp) (fun x hx => ?_)
      rcases List.mem_append.1 hx with hx | hx
      · cases hh : better P F x l
        · rfl
        · have := better_trans hh hl
          rw [h x hx] at this
          cases this
      · obtain rfl : x = l := by simpa using hx
        exact better_irrefl _
    · rw [if_neg hl]
      refine key b (by simp [hb]) (fun x hx => ?_)
      rcases List.mem_append.1 hx with hx | hx
      · exact h x hx
      · obtain rfl : x = l := by simpa using hx
        simpa using hl
theorem bestF_none {r : List (List Nat)} (h : r ≠ []) : ∃ m, bestF P F r none = some m ∧ m ∈ r ∧ ∀ l ∈ r, better P F l m = false := by
  cases r with
  | nil => exact absurd rfl h
  | cons l r =>
    obtain ⟨m, h1, h2, h3⟩ := bestF_spec (P := P) (F := F) r [l] l (by simp [better_irrefl]) (by simp)
    exact ⟨m, h1, by simpa using h2, by simpa using h3⟩

def dO (D : Nat → Int) : Option Nat → Int
  | none => 0
  | some k => D k
/-- Whom a walk from the highest priority down picks: the deepest, of several the last one. -/
def pick (H : Nat → Bool) (D : Nat → Int) : List Nat → Option Nat → Option Nat
  | [], f => f
  | t :: r, f => pick H D r (if H t = true ∧ dO D f ≤ D t then some t else f)
def PickOk (P : Nat → Int) (H : Nat → Bool) (D : Nat → Int) (done : List Nat) : Option Nat → Prop
  | none => ∀ j ∈ done, H j = false
  | some k => k ∈ done ∧ H k = true ∧ ∀ j ∈ done, H j = true → D j ≤ D k ∧ (D j = D k → P k ≤ P j)
theorem pick_spec {H : Nat → Bool} {D : Nat → Int} (hD : ∀ j, H j = true → 0 ≤ D j) : ∀ (r done : List Nat) (f : Option Nat), (done ++ r).Pairwise (fun a b => P b ≤ P a) → PickOk P H D done f → PickOk P H D (done ++ r) (pick H D r f)
  | [], done, f, _, h => by rw [List.append_nil]; exact h
  | t :: r, done, f, hs, h => by
    have hs' : ((done ++ [t]) ++ r).Pairwise (fun a b => P b ≤ P a) := by simpa using hs
    have hd : ∀ j ∈ done, P t ≤ P j := fun j hj => (List.pairwise_append.1 hs).2.2 j hj t (by simp)
    have := pick_spec hD r (done ++ [t]) (if H t = true ∧ dO D f ≤ D t then some t else f) hs' (by
      by_cases hc : H t = true ∧ dO D f ≤ D t
      · rw [if_pos hc]
        refine ⟨by simp, hc.1, fun j hj hH => ?_⟩
        rcases List.mem_append.1 hj with hj | hj
        · cases f with
          | none => rw [h j hj] at hH; cases hH
          | some k =>
            have := h.2.2 j hj hH
            have h2 := hc.2
            simp only [dO] at h2
            exact ⟨by omega, fun _ => hd j hj⟩
        · obtain rfl : j = t := by simpa using hj
          exact ⟨Int.le_refl _, fun _ => Int.le_refl _⟩
      · rw [if_neg hc]
        cases f with
        | none =>
          intro j hj
          rcases List.mem_append.1 hj with hj | hj
          · exact h j hj
          · obtain rfl : j = t := by simpa using hj
            cases hh : H j
            · rfl
            · exact absurd ⟨hh, hD j hh⟩ hc
        | some k =>
          refine ⟨by simp [h.1], h.2.1, fun j hj hH => ?_⟩
          rcases List.mem_append.1 hj with hj | hj
          · exact h.2.2 j hj hH
          · obtain rfl : j = t := by simpa using hj
            simp only [dO] at hc
            have hlt : D j < D k := by
              rcases Int.lt_or_le (D j) (D k) with hh | hh
              · exact hh
              · exact absurd ⟨hH, hh⟩ hc
            exact ⟨by omega, fun e => by omega⟩)
    have e : done ++ [t] ++ r = done ++ t :: r := by simp
    rw [e] at this
    exact this

/-- What is told of tasks so far: how deep their best chain is, and who comes next. -/
abbrev Lks := Nat → Option (Int × Option Nat)
def dOf (L : Lks) (k : Nat) : Int := ((L k).map (·.1)).getD 0
def stepL (P TH F : Nat → Int) (ord : List Nat) (L : Lks) (t : Nat) : Lks :=
  let nx := pick (fun k => can P TH k t) (dOf L) ord none
  fun k => if k = t then some (F t + dO (dOf L) nx, nx) else L k
theorem stepL_same {P TH F : Nat → Int} {ord : List Nat} {L : Lks} {t : Nat} : stepL P TH F ord L t t = some (F t + dO (dOf L) (pick (fun k => can P TH k t) (dOf L) ord none), pick (fun k => can P TH k t) (dOf L) ord none) := by
  unfold stepL
  exact if_pos rfl
theorem stepL_other {P TH F : Nat → Int} {ord : List Nat} {L : Lks} {t k : Nat} (h : k ≠ t) : stepL P TH F ord L t k = L k := by
  unfold stepL
  exact if_neg h
def linksOf (P TH F : Nat → Int) (ord : List Nat) : List Nat → Lks → Lks
  | [], L => L
  | t :: r, L => linksOf P TH F ord r (stepL P TH F ord L t)
/-- The chain that begins with a task, link by link. -/
inductive Good (F : Nat → Int) (L : Lks) : Nat → List Nat → Prop where
  | last {t : Nat} {d : Int} (h : L t = some (d, none)) (hd : d = F t) : Good F L t [t]
  | link {t k : Nat} {d : Int} {c : List Nat} (h : L t = some (d, some k)) (hc : Good F L k c) (hd : d = F t + depth F c) : Good F L t (t :: c)
theorem Good.depth {L : Lks} {t : Nat} {c : List Nat} (h : Good F L t c) : dOf L t = depth F c := by
  cases h with
  | last h hd => unfold dOf; rw [h, hd]; simp [Chn.depth]
  | link h hc hd => unfold dOf; rw [h, hd]; simp [Chn.depth]
theorem Good.mono {L L' : Lks} {t : Nat} {c : List Nat} (h : Good F L t c) (hL : ∀ k, (L k).isSome = true → L' k = L k) : Good F L' t c := by
  induction h with
  | last h hd => exact .last (by rw [hL _ (by rw [h]; rfl), h]) hd
  | link h hc hd ih => exact .link (by rw [hL _ (by rw [h]; rfl), h]) ih hd
theorem Good.head {L : Lks} {t : Nat} {c : List Nat} (h : Good F L t c) : ∃ r, c = t :: r := by
  cases h with
  | last => exact ⟨[], rfl⟩
  | link => exact ⟨_, rfl⟩
/-- A chain: those of it, and how they follow. -/
def Chain (n : Nat) (P TH : Nat → Int) : List Nat → Prop
  | [] => True
  | [a] => a < n
  | a :: b :: l => a < n ∧ can P TH b a = true ∧ Chain n P TH (b :: l)
theorem Chain.lt : ∀ {l : List Nat}, Chain n P TH l → ∀ x ∈ l, x < n
  | [], _, x, hx => by simp at hx
  | [a], h, x, hx => by obtain rfl : x = a := by simpa using hx
                        exact h
  | a :: b :: l, h, x, hx => by
    rcases List.mem_cons.1 hx with rfl | hx
    · exact h.1
    · exact Chain.lt h.2.2 x hx
/-- No chain that begins with t is better. -/
def Best (n : Nat) (P TH F : Nat → Int) (t : Nat) (c : List Nat) : Prop := Chain n P TH c ∧ (∃ r, c = t :: r) ∧ ∀ r, Chain n P TH (t :: r) → better P F (t :: r) c = false
section main
variable {ord : List Nat} (hTH : ∀ i, i < n → P i ≤ TH i) (hP : ∀ i k, i < n → k < n → P i = P k → i = k) (hF : ∀ i, i < n → 0 ≤ F i)
  (hs : ord.Pairwise (fun a b => P b ≤ P a)) (hm : ∀ i, i ∈ ord ↔ i < n) (hnd : ord.Nodup)
include hF in
theorem depth_nonneg : ∀ {l : List Nat}, (∀ x ∈ l, x < n) → 0 ≤ depth F l
  | [], _ => Int.le_refl _
  | x :: l, h => by
    have h1 := hF x (h x (List.mem_cons_self ..))
    have h2 := depth_nonneg (l := l) (fun y hy => h y (List.mem_cons_of_mem _ hy))
    show 0 ≤ F x + depth F l
    omega
theorem better_cons {t : Nat} {a b : List Nat} : better P F (t :: a) (t :: b) = better P F a b := by
  rw [Bool.eq_iff_iff, better_iff, better_iff]
  show F t + depth F b < F t + depth F a ∨ (F t + depth F a = F t + depth F b ∧ (if t = t then ahead P a b else _) = true) ↔ _
  rw [if_pos rfl]
  constructor <;> rintro (h | ⟨h, k⟩)
  · left; omega
  · exact .inr ⟨by omega, k⟩
  · left; omega
  · exact .inr ⟨by omega, k⟩
theorem chain_cons {t k : Nat} {c r : List Nat} (ht : t < n) (hc : Chain n P TH c) (hk : c = k :: r) (hcan : can P TH k t = true) : Chain n P TH (t :: c) := by
  subst hk
  exact ⟨ht, hcan, hc⟩
/-- Of those that may come, the picked one's best chain is the best. -/
theorem pick_best {L : Lks} {H : Nat → Bool} {C : Nat → List Nat} (hC : ∀ k, k < n → H k = true → Good F L k (C k) ∧ Best n P TH F k (C k)) {k : Nat} (hk : PickOk P H (dOf L) ord (some k)) (hmm : ∀ i, i ∈ ord ↔ i < n) :
    ∀ j r, H j = true → Chain n P TH (j :: r) → better P F (j :: r) (C k) = false := by
  intro j r hj hch
  obtain ⟨h1, h2, h3⟩ := hk
  have hkn := (hmm k).1 h1
  have hjn := hch.lt j (List.mem_cons_self ..)
  obtain ⟨g1, b1⟩ := hC k hkn h2
  obtain ⟨g2, b2⟩ := hC j hjn hj
  obtain ⟨h4, h5⟩ := h3 j ((hmm j).2 hjn) hj
  rw [g1.depth, g2.depth] at h4 h5
  by_cases hjk : j = k
  · subst hjk
    exact b1.2.2 r hch
  cases hh : better P F (j :: r) (C k)
  · rfl
  · exfalso
    have hb := b2.2.2 r hch
    have hb' : ¬ (depth F (C j) < depth F (j :: r) ∨ (depth F (j :: r) = depth F (C j) ∧ ahead P (j :: r) (C j) = true)) := by rw [← better_iff, hb]; simp
    rcases better_iff.1 hh with h6 | ⟨h6, h7⟩
    · omega
    · have h8 : P k ≤ P j := h5 (by omega)
      obtain ⟨q, hq⟩ := b1.2.1
      rw [hq] at h7
      unfold ahead at h7
      rw [if_neg hjk] at h7
      have := of_decide_eq_true h7
      omega
include hF in
theorem best_empty {c : List Nat} (hc : Chain n P TH c) : better P F [] c = false := by
  have h := depth_nonneg hF hc.lt
  cases hh : better P F [] c
  · rfl
  · rcases better_iff.1 hh with h1 | ⟨_, h1⟩
    · have : depth F [] = 0 := rfl
      omega
    · simp [ahead] at h1
/-- What holds of what is told so far. -/
def LOk (n : Nat) (P TH F : Nat → Int) (L : Lks) (done : List Nat) : Prop := ∀ t, (t ∈ done → ∃ c, Good F L t c ∧ Best n P TH F t c) ∧ (t ∉ done → L t = none)
include hTH hF hs hm hnd in
theorem linksOf_ok : ∀ (r done : List Nat) (L : Lks), done ++ r = ord → LOk n P TH F L done → LOk n P TH F (linksOf P TH F ord r L) ord
  | [], done, L, he, h => by rw [List.append_nil] at he; subst he; exact h
  | t :: r, done, L, he, h => by
    have htn : t < n := (hm t).1 (by rw [← he]; simp)
    refine linksOf_ok r (done ++ [t]) (stepL P TH F ord L t) (by simpa using he) ?_
    -- those that can displace t come ahead
    have hbef : ∀ k, k < n → can P TH k t = true → k ∈ done := fun k hk hc => by
      have h1 := of_decide_eq_true hc
      have h2 := hTH t htn
      have hko := (hm k).2 hk
      rw [← he] at hko hs
      rcases List.mem_append.1 hko with h3 | h3
      · exact h3
      · exfalso
        rcases List.mem_cons.1 h3 with rfl | h3
        · omega
        · have := (List.pairwise_cons.1 (List.pairwise_append.1 hs).2.1).1 k h3
          omega
    have hCC : ∀ k, ∃ c, k ∈ done → Good F L k c ∧ Best n P TH F k c := fun k => by
      by_cases hk : k ∈ done
      · obtain ⟨c, hc⟩ := (h k).1 hk
        exact ⟨c, fun _ => hc⟩
      · exact ⟨[], fun hh => absurd hh hk⟩
    obtain ⟨C, hC⟩ : ∃ C : Nat → List Nat, ∀ k, k ∈ done → Good F L k (C k) ∧ Best n P TH F k (C k) := ⟨fun k => Classical.choose (hCC k), fun k => Classical.choose_spec (hCC k)⟩
    have hCk : ∀ k, k < n → can P TH k t = true → Good F L k (C k) ∧ Best n P TH F k (C k) := fun k hk hc => hC k (hbef k hk hc)
    have hD : ∀ j, can P TH j t = true → 0 ≤ dOf L j := fun j hj => by
      by_cases hjn : j < n
      · obtain ⟨g, b⟩ := hCk j hjn hj
        rw [g.depth]
        exact depth_nonneg hF b.1.lt
      · unfold dOf
        rw [(h j).2 (fun hh => hjn ((hm j).1 (by rw [← he]; simp [hh])))]
        exact Int.le_refl _
    have hpk := pick_spec (P := P) (H := fun k => can P TH k t) (D := dOf L) hD ord [] none (by simpa using hs) (fun j hj => by simp at hj)
    rw [List.nil_append] at hpk
    have htd : t ∉ done := fun hh => by
      rw [← he] at hnd
      exact (List.nodup_append.1 hnd).2.2 t hh t (by simp) rfl
    have hmono : ∀ k, (L k).isSome = true → stepL P TH F ord L t k = L k := fun k hk => by
      refine stepL_other ?_
      rintro rfl
      rw [(h k).2 htd] at hk
      cases hk
    have hnew : ∃ c, Good F (stepL P TH F ord L t) t c ∧ Best n P TH F t c := by
      cases hq : pick (fun k => can P TH k t) (dOf L) ord none with
      | none =>
        rw [hq] at hpk
        refine ⟨[t], .last (d := F t) (by rw [stepL_same, hq]; simp [dO]) rfl, htn, ⟨[], rfl⟩, fun q hch => ?_⟩
        cases q with
        | nil => exact better_irrefl _
        | cons k q =>
          have hk := hch.2.2.lt k (List.mem_cons_self ..)
          have hkf : can P TH k t = false := hpk k ((hm k).2 hk)
          rw [hch.2.1] at hkf
          cases hkf
      | some k =>
        rw [hq] at hpk
        have hkn := (hm k).1 hpk.1
        obtain ⟨g, b⟩ := hCk k hkn hpk.2.1
        have hb := pick_best (C := C) hCk hpk hm
        obtain ⟨q0, hq0⟩ := b.2.1
        refine ⟨t :: C k, .link (d := F t + depth F (C k)) ?_ (g.mono hmono) rfl, chain_cons htn b.1 hq0 hpk.2.1, ⟨_, rfl⟩, fun q hch => ?_⟩
        · rw [stepL_same, hq]
          simp only [dO]
          rw [g.depth]
        · rw [better_cons]
          cases q with
          | nil => exact best_empty hF b.1
          | cons j q => exact hb j q hch.2.1 hch.2.2
    intro k
    constructor
    · intro hk
      rcases List.mem_append.1 hk with hk | hk
      · obtain ⟨c, g, b⟩ := (h k).1 hk
        exact ⟨c, g.mono hmono, b⟩
      · obtain rfl : k = t := by simpa using hk
        exact hnew
    · intro hk
      rw [stepL_other (by rintro rfl; exact hk (by simp))]
      exact (h k).2 (fun hh => hk (by simp [hh]))
def noLks : Lks := fun _ => none
include hTH hF hs hm hnd in
/-- THE DEEPEST CHAIN: what the links tell. -/
theorem deepest : (n = 0 → pick (fun _ => true) (dOf (linksOf P TH F ord ord noLks)) ord none = none) ∧
    (0 < n → ∃ k c, pick (fun _ => true) (dOf (linksOf P TH F ord ord noLks)) ord none = some k ∧ Good F (linksOf P TH F ord ord noLks) k c ∧ Chain n P TH c ∧ c ≠ [] ∧ ∀ r, r ≠ [] → Chain n P TH r → better P F r c = false) := by
  have hok := linksOf_ok hTH hF hs hm hnd ord [] noLks rfl (fun t => ⟨fun h => by simp at h, fun _ => rfl⟩)
  generalize linksOf P TH F ord ord noLks = L at hok
  have hCC : ∀ k, ∃ c, k < n → Good F L k c ∧ Best n P TH F k c := fun k => by
    by_cases hk : k < n
    · obtain ⟨c, hc⟩ := (hok k).1 ((hm k).2 hk)
      exact ⟨c, fun _ => hc⟩
    · exact ⟨[], fun hh => absurd hh hk⟩
  obtain ⟨C, hC⟩ : ∃ C : Nat → List Nat, ∀ k, k < n → Good F L k (C k) ∧ Best n P TH F k (C k) := ⟨fun k => Classical.choose (hCC k), fun k => Classical.choose_spec (hCC k)⟩
  have hD : ∀ j, true = true → 0 ≤ dOf L j := fun j _ => by
    by_cases hjn : j < n
    · obtain ⟨g, b⟩ := hC j hjn
      rw [g.depth]
      exact depth_nonneg hF b.1.lt
    · unfold dOf
      rw [(hok j).2 (fun hh => hjn ((hm j).1 hh))]
      exact Int.le_refl _
  have hpk := pick_spec (P := P) (H := fun _ => true) (D := dOf L) hD ord [] none (by simpa using hs) (fun j hj => by simp at hj)
  rw [List.nil_append] at hpk
  constructor
  · intro h0
    cases hq : pick (fun _ => true) (dOf L) ord none with
    | none => rfl
    | some k =>
      rw [hq] at hpk
      have := (hm k).1 hpk.1
      omega
  · intro h0
    cases hq : pick (fun _ => true) (dOf L) ord none with
    | none =>
      rw [hq] at hpk
      have := hpk 0 ((hm 0).2 h0)
      cases this
    | some k =>
      rw [hq] at hpk
      have hkn := (hm k).1 hpk.1
      obtain ⟨g, b⟩ := hC k hkn
      have hb := pick_best (C := C) (fun k hk _ => hC k hk) hpk hm
      obtain ⟨q0, hq0⟩ := b.2.1
      refine ⟨k, C k, rfl, g, b.1, by rw [hq0]; simp, fun r hr hch => ?_⟩
      cases r with
      | nil => exact absurd rfl hr
      | cons j r => exact hb j r rfl hch
end main
/-! ### All chains -/
theorem chains_chain : ∀ (f a : Nat), a < n → ∀ l ∈ chains n P TH f a, Chain n P TH l ∧ ∃ r, l = a :: r
  | 0, a, ha, l, hl => by
    obtain rfl : l = [a] := by simpa [chains] using hl
    exact ⟨ha, [], rfl⟩
  | f + 1, a, ha, l, hl => by
    rcases List.mem_cons.1 hl with rfl | hl
    · exact ⟨ha, [], rfl⟩
    · obtain ⟨i, hi, hl⟩ := List.mem_flatMap.1 hl
      obtain ⟨l', hl', rfl⟩ := List.mem_map.1 hl
      rw [List.mem_filter, List.mem_range] at hi
      obtain ⟨h1, r, rfl⟩ := chains_chain f i hi.1 l' hl'
      exact ⟨⟨ha, hi.2, h1⟩, _, rfl⟩
theorem chain_chains : ∀ (f a : Nat) (r : List Nat), r.length ≤ f → Chain n P TH (a :: r) → (a :: r) ∈ chains n P TH f a
  | 0, a, r, hf, _ => by
    obtain rfl : r = [] := List.eq_nil_of_length_eq_zero (by omega)
    simp [chains]
  | f + 1, a, [], _, _ => by simp [chains]
  | f + 1, a, b :: r, hf, h => by
    refine List.mem_cons_of_mem _ (List.mem_flatMap.2 ⟨b, ?_, List.mem_map.2 ⟨b :: r, chain_chains f b r (by simpa using hf) h.2.2, rfl⟩⟩)
    rw [List.mem_filter, List.mem_range]
    exact ⟨h.2.2.lt b (List.mem_cons_self ..), h.2.1⟩
/-- How many tasks have a higher priority. -/
def rank (n : Nat) (P : Nat → Int) (a : Nat) : Nat := ((List.range n).filter fun k => decide (P a < P k)).length
theorem rank_lt {a b : Nat} (ha : b < n) (h : P a < P b) : rank n P b < rank n P a := by
  unfold rank
  have h1 : ((List.range n).filter fun k => decide (P b < P k)) = (((List.range n).filter fun k => decide (P a < P k)).filter fun k => decide (P b < P k)) := by
    rw [List.filter_filter]
    refine List.filter_congr (fun x _ => ?_)
    by_cases hx : P b < P x
    · simp [hx]; omega
    · simp [hx]
  rw [h1]
  refine List.length_filter_lt_length_iff_exists.2 ⟨b, ?_, by simp⟩
  rw [List.mem_filter, List.mem_range]
  exact ⟨ha, by simpa using h⟩
theorem rank_le {a : Nat} (ha : a < n) : rank n P a < n := by
  unfold rank
  have := List.length_filter_lt_length_iff_exists (l := List.range n) (p := fun k => decide (P a < P k)) |>.2 ⟨a, List.mem_range.2 ha, by simp⟩
  simpa using this
theorem chain_len (hTH : ∀ i, i < n → P i ≤ TH i) : ∀ {r : List Nat} {a : Nat}, Chain n P TH (a :: r) → r.length ≤ rank n P a
  | [], _, _ => Nat.zero_le _
  | b :: r, a, h => by
    have h1 := chain_len hTH h.2.2
    have h2 := of_decide_eq_true h.2.1
    have h3 := hTH a h.1
    have := rank_lt (h.2.2.lt b (List.mem_cons_self ..)) (show P a < P b by omega)
    simp
    omega
/-- All chains there are, as going through all tasks makes them. -/
def allC (n : Nat) (P TH : Nat → Int) : List (List Nat) := (List.range n).flatMap fun i => chains n P TH n i
theorem all_iff (hTH : ∀ i, i < n → P i ≤ TH i) {l : List Nat} : l ∈ allC n P TH ↔ l ≠ [] ∧ Chain n P TH l := by
  unfold allC
  rw [List.mem_flatMap]
  constructor
  · rintro ⟨i, hi, hl⟩
    obtain ⟨h1, r, rfl⟩ := chains_chain n i (List.mem_range.1 hi) l hl
    exact ⟨by simp, h1⟩
  · rintro ⟨h0, h⟩
    cases l with
    | nil => exact absurd rfl h0
    | cons a r =>
      have ha := h.lt a (List.mem_cons_self ..)
      have h1 := chain_len hTH h
      have h2 := rank_le (P := P) ha
      exact ⟨a, List.mem_range.2 ha, chain_chains n a r (by omega) h⟩
/-- The fuel that is enough: more changes nothing. -/
theorem chains_fuel (hTH : ∀ i, i < n → P i ≤ TH i) : ∀ (f g a : Nat), a < n → rank n P a < f + 1 → rank n P a < g + 1 → chains n P TH f a = chains n P TH g a := by
  have base : ∀ a f, a < n → rank n P a = 0 → chains n P TH f a = [[a]] := fun a f ha h0 => by
    cases f with
    | zero => rfl
    | succ f =>
      unfold chains
      have : (List.range n).filter (fun i => can P TH i a) = [] := by
        rw [List.filter_eq_nil_iff]
        intro i hi hc
        have h1 := of_decide_eq_true hc
        have h2 := hTH a ha
        have := rank_lt (P := P) (a := a) (List.mem_range.1 hi) (by omega)
        omega
      rw [this]
      rfl
  intro f
  induction f with
  | zero =>
    intro g a ha h1 h2
    rw [base a 0 ha (by omega), base a g ha (by omega)]
  | succ f ih =>
    intro g a ha h1 h2
    cases g with
    | zero => rw [base a 0 ha (by omega), base a (f + 1) ha (by omega)]
    | succ g =>
      unfold chains
      congr 1
      have key : ∀ (m : List Nat), (∀ i ∈ m, i < n ∧ can P TH i a = true) → m.flatMap (fun i => (chains n P TH f i).map (a :: ·)) = m.flatMap (fun i => (chains n P TH g i).map (a :: ·)) := by
        intro m
        induction m with
        | nil => intro _; rfl
        | cons i m ihm =>
          intro hm
          obtain ⟨hi, hc⟩ := hm i (List.mem_cons_self ..)
          have h3 := of_decide_eq_true hc
          have h4 := hTH a ha
          have h5 := rank_lt (P := P) (a := a) hi (by omega)
          rw [List.flatMap_cons, List.flatMap_cons, ih g i hi (by omega) (by omega), ihm (fun j hj => hm j (List.mem_cons_of_mem _ hj))]
      refine key _ (fun i hi => ?_)
      rw [List.mem_filter, List.mem_range] at hi
      exact hi
end Chn
end Go.Proofs.Ytdoimkmhincmmaa
