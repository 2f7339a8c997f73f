/- Events and scripts as texts: what holds of them, of no program. -/
import Derived.Test.YtgfgjbbpochiiaaDoorTxt
namespace Go.Proofs.YtgfgjbbpochiiaaDoor
open Go Go.RowKit

/-! ### Numbers that are told -/
def inN (n : Int) : Prop := 0 ≤ n ∧ n ≤ 999999999
instance (n : Int) : Decidable (inN n) := inferInstanceAs (Decidable (_ ∧ _))
theorem inN.fit {n : Int} (h : inN n) : fitI n := by unfold inN fitI at *; omega
theorem inN.len {n : Int} (h : inN n) : (Lib.itoa n).length ≤ 9 := by
  unfold inN at h
  unfold Lib.itoa
  rw [if_neg (by omega)]
  exact dec_small 8 n.toNat (by rw [show 10 ^ (8 + 1) = 1000000000 from rfl]; omega)
open Classical in
noncomputable def numS (s : List UInt8) : Option Int := if h : ∃ v, inN v ∧ Lib.itoa v = s then some (Classical.choose h) else none
theorem numS_some {s : List UInt8} {v : Int} (h : numS s = some v) : inN v ∧ Lib.itoa v = s := by
  unfold numS at h
  split at h
  · rename_i hx
    cases h
    exact Classical.choose_spec hx
  · cases h
theorem numS_itoa {v : Int} (h : inN v) : numS (Lib.itoa v) = some v := by
  have hx : ∃ u, inN u ∧ Lib.itoa u = Lib.itoa v := ⟨v, h, rfl⟩
  unfold numS
  rw [dif_pos hx]
  obtain ⟨h1, h2⟩ := Classical.choose_spec hx
  rw [itoa_inj h1.fit h.fit h2]
theorem numS_none {s : List UInt8} (h : numS s = none) {v : Int} (hv : inN v) : Lib.itoa v ≠ s := fun e => by
  rw [← e, numS_itoa hv] at h
  cases h
theorem numS_no (c : UInt8) (hc : c.toNat < 45 ∨ 57 < c.toNat) {s : List UInt8} {v : Int} (h : numS s = some v) : c ∉ s := by
  rw [← (numS_some h).2]
  exact itoa_no c hc

/-! ### Kinds -/
def knames : List (List UInt8) := [[], [114, 101, 108, 101, 97, 115, 101], [114, 97, 105, 115, 101], [109, 97, 115, 107], [117, 110, 109, 97, 115, 107], [116, 105, 109, 101, 114]]
def kname (k : Nat) : List UInt8 := knames.getD k []
theorem kname_fit {k : Nat} (hk : k < 6) : 32 ∉ kname k ∧ 10 ∉ kname k ∧ (kname k).length ≤ 7 := by
  have key : ∀ i : Fin 6, 32 ∉ kname i.1 ∧ 10 ∉ kname i.1 ∧ (kname i.1).length ≤ 7 := by decide
  exact key ⟨k, hk⟩
theorem kname_inj {i j : Nat} (hi : i < 6) (hj : j < 6) (h : kname i = kname j) : i = j := by
  have key : ∀ i j : Fin 6, kname i.1 = kname j.1 → i = j := by decide
  exact Fin.mk.inj_iff.1 (key ⟨i, hi⟩ ⟨j, hj⟩ h)
/-- How many numbers a kind's line has. -/
def knums (k : Nat) : Nat := if k = 5 then 4 else if k = 0 then 0 else 2
/-- The kind of a name. -/
def kindO (s : List UInt8) : Nat → Option Nat
  | 0 => none
  | k + 1 => match kindO s k with
    | some j => some j
    | none => if 1 ≤ k ∧ kname k = s then some k else none
theorem kindO_some {s : List UInt8} : ∀ {n k : Nat}, kindO s n = some k → 1 ≤ k ∧ k < n ∧ kname k = s
  | 0, k, h => by cases h
  | n + 1, k, h => by
    unfold kindO at h
    split at h
    · rename_i j hj
      cases h
      obtain ⟨a, b, c⟩ := kindO_some hj
      exact ⟨a, by omega, c⟩
    · split at h
      · rename_i h2
        cases h
        exact ⟨h2.1, by omega, h2.2⟩
      · cases h
theorem kindO_none {s : List UInt8} : ∀ {n k : Nat}, kindO s n = none → 1 ≤ k → k < n → kname k ≠ s
  | 0, k, _, _, hk => by omega
  | n + 1, k, h, h1, hk => by
    unfold kindO at h
    split at h
    · cases h
    · rename_i hN
      split at h
      · cases h
      · rename_i h2
        by_cases hkn : k = n
        · subst hkn
          exact fun e => h2 ⟨h1, e⟩
        · exact kindO_none hN h1 (by omega)
theorem kindO_is {s : List UInt8} {k : Nat} (h1 : 1 ≤ k) (h2 : k < 6) (h : kname k = s) : kindO s 6 = some k := by
  cases hk : kindO s 6 with
  | none => exact absurd h (kindO_none hk h1 h2)
  | some j =>
    obtain ⟨a, b, c⟩ := kindO_some hk
    rw [kname_inj b h2 (c.trans h.symm)]

/-! ### Events -/
structure EvV where
  at_ : Int
  k : Int
  a : Int
  b : Int
  c : Int
def EvV.cells (e : EvV) : List Value := [.int .i64 e.at_, .int .i64 e.k, .int .i64 e.a, .int .i64 e.b, .int .i64 e.c]
def EvV.val (e : EvV) : Value := .agg #[.int .i64 e.at_, .int .i64 e.k, .int .i64 e.a, .int .i64 e.b, .int .i64 e.c]
structure EvV.fit (e : EvV) : Prop where
  at_ : fitI e.at_
  k : fitI e.k
  a : fitI e.a
  b : fitI e.b
  c : fitI e.c
theorem EvV.ext' {x y : EvV} (h : x.at_ = y.at_ ∧ x.k = y.k ∧ x.a = y.a ∧ x.b = y.b ∧ x.c = y.c) : x = y := by
  obtain ⟨x1, x2, x3, x4, x5⟩ := x
  obtain ⟨y1, y2, y3, y4, y5⟩ := y
  simp at h
  simp [h]
def zev : EvV := ⟨0, 0, 0, 0, 0⟩
/-- It has a line. -/
def okE (e : EvV) : Prop := (1 ≤ e.k ∧ e.k ≤ 5) ∧ inN e.at_ ∧ inN e.a ∧ (if e.k = 5 then inN e.b ∧ inN e.c else e.b = 0 ∧ e.c = 0)
instance (e : EvV) : Decidable (okE e) := by unfold okE; infer_instance
def wordsE (e : EvV) : List (List UInt8) := Lib.itoa e.at_ :: kname e.k.toNat :: Lib.itoa e.a :: (if e.k = 5 then [Lib.itoa e.b, Lib.itoa e.c] else [])
def lineE (e : EvV) : List UInt8 := joinL 32 (wordsE e)
theorem wordsE_five {e : EvV} (h : e.k = 5) : wordsE e = [Lib.itoa e.at_, kname 5, Lib.itoa e.a, Lib.itoa e.b, Lib.itoa e.c] := by
  unfold wordsE
  rw [if_pos h, h]
  rfl
theorem wordsE_three {e : EvV} (h : ¬ e.k = 5) : wordsE e = [Lib.itoa e.at_, kname e.k.toNat, Lib.itoa e.a] := by
  unfold wordsE
  rw [if_neg h]
theorem wordsE_len (e : EvV) : 3 ≤ (wordsE e).length ∧ (wordsE e).length ≤ 5 := by
  by_cases h : e.k = 5
  · rw [wordsE_five h]; simp
  · rw [wordsE_three h]; simp
theorem wordsE_no {e : EvV} (h : okE e) : ∀ p ∈ wordsE e, 32 ∉ p := by
  intro p hp
  have hk := (kname_fit (k := e.k.toNat) (by have := h.1; omega)).1
  have hi : ∀ n : Int, 32 ∉ Lib.itoa n := fun n => itoa_no 32 (by decide)
  unfold wordsE at hp
  rcases List.mem_cons.1 hp with rfl | hp
  · exact hi _
  rcases List.mem_cons.1 hp with rfl | hp
  · exact hk
  rcases List.mem_cons.1 hp with rfl | hp
  · exact hi _
  split at hp
  · rcases List.mem_cons.1 hp with rfl | hp
    · exact hi _
    · rw [List.mem_singleton] at hp
      subst hp
      exact hi _
  · simp at hp
theorem split_lineE {e : EvV} (h : okE e) : splitL 32 (lineE e) = wordsE e := split_join 32 _ (by unfold wordsE; simp) (wordsE_no h)
theorem lineE_inj {x y : EvV} (hx : okE x) (hy : okE y) (h : lineE x = lineE y) : x = y := by
  have hw : wordsE x = wordsE y := by rw [← split_lineE hx, ← split_lineE hy, h]
  have hk : x.k = y.k := by
    have : kname x.k.toNat = kname y.k.toNat := by
      have := congrArg (·[1]?) hw
      simpa [wordsE] using this
    have := kname_inj (i := x.k.toNat) (j := y.k.toNat) (by have := hx.1; omega) (by have := hy.1; omega) this
    have h1 := hx.1
    have h2 := hy.1
    omega
  obtain ⟨hx1, hx2, hx3, hx4⟩ := hx
  obtain ⟨hy1, hy2, hy3, hy4⟩ := hy
  by_cases h5 : x.k = 5
  · have h5' : y.k = 5 := by omega
    rw [wordsE_five h5, wordsE_five h5'] at hw
    rw [if_pos h5] at hx4
    rw [if_pos h5'] at hy4
    simp only [List.cons.injEq, and_true] at hw
    exact EvV.ext' ⟨itoa_inj hx2.fit hy2.fit hw.1, hk, itoa_inj hx3.fit hy3.fit hw.2.2.1, itoa_inj hx4.1.fit hy4.1.fit hw.2.2.2.1, itoa_inj hx4.2.fit hy4.2.fit hw.2.2.2.2⟩
  · have h5' : ¬ y.k = 5 := by omega
    rw [wordsE_three h5, wordsE_three h5'] at hw
    rw [if_neg h5] at hx4
    rw [if_neg h5'] at hy4
    simp only [List.cons.injEq, and_true] at hw
    exact EvV.ext' ⟨itoa_inj hx2.fit hy2.fit hw.1, hk, itoa_inj hx3.fit hy3.fit hw.2.2, by rw [hx4.1, hy4.1], by rw [hx4.2, hy4.2]⟩
theorem lineE_len {e : EvV} (h : okE e) : (lineE e).length ≤ 60 := by
  have hk := (kname_fit (k := e.k.toNat) (by have := h.1; omega)).2.2
  obtain ⟨h1, h2, h3, h4⟩ := h
  have l1 := h2.len
  have l2 := h3.len
  unfold lineE
  by_cases h5 : e.k = 5
  · rw [if_pos h5] at h4
    have l3 := h4.1.len
    have l4 := h4.2.len
    rw [h5] at hk
    rw [wordsE_five h5]
    simp only [joinL, List.length_append, List.length_cons]
    have : (kname 5).length = 5 := rfl
    omega
  · rw [wordsE_three h5]
    simp only [joinL, List.length_append, List.length_cons]
    omega
theorem join_no (c d : UInt8) (hcd : d ≠ c) : ∀ l : List (List UInt8), (∀ p ∈ l, d ∉ p) → d ∉ joinL c l
  | [], _ => by simp [joinL]
  | [p], h => h p (by simp)
  | p :: q :: ps, h => by
    show d ∉ p ++ c :: joinL c (q :: ps)
    rw [List.mem_append, List.mem_cons, not_or, not_or]
    exact ⟨h p (by simp), hcd, join_no c d hcd (q :: ps) (fun x hx => h x (List.mem_cons_of_mem _ hx))⟩
theorem lineE_no {e : EvV} (h : okE e) : 10 ∉ lineE e := by
  refine join_no 32 10 (by decide) _ fun p hp => ?_
  have hk := (kname_fit (k := e.k.toNat) (by have := h.1; omega)).2.1
  have hi : ∀ n : Int, 10 ∉ Lib.itoa n := fun n => itoa_no 10 (by decide)
  unfold wordsE at hp
  rcases List.mem_cons.1 hp with rfl | hp
  · exact hi _
  rcases List.mem_cons.1 hp with rfl | hp
  · exact hk
  rcases List.mem_cons.1 hp with rfl | hp
  · exact hi _
  split at hp
  · rcases List.mem_cons.1 hp with rfl | hp
    · exact hi _
    · rw [List.mem_singleton] at hp
      subst hp
      exact hi _
  · simp at hp

/-- The event whose line it is. -/
def isE (s : List UInt8) (e : EvV) : Prop := okE e ∧ lineE e = s
open Classical in
noncomputable def evO (s : List UInt8) : Option EvV := if h : ∃ e, isE s e then some (Classical.choose h) else none
theorem evO_is {s : List UInt8} {e : EvV} (h : isE s e) : evO s = some e := by
  have hx : ∃ e, isE s e := ⟨e, h⟩
  unfold evO
  rw [dif_pos hx]
  have h2 := Classical.choose_spec hx
  exact congrArg some (lineE_inj h2.1 h.1 (h2.2.trans h.2.symm))
theorem evO_no {s : List UInt8} (h : ∀ e, ¬ isE s e) : evO s = none := by
  unfold evO
  rw [dif_neg (fun ⟨e, he⟩ => h e he)]
theorem evO_some {s : List UInt8} {e : EvV} (h : evO s = some e) : isE s e := by
  unfold evO at h
  split at h
  · rename_i hx
    cases h
    exact Classical.choose_spec hx
  · cases h

/-! ### The first parts -/
/-- Cut at the first k of the bytes c. -/
def cutN (c : UInt8) : Nat → List UInt8 → List (List UInt8)
  | 0, s => [s]
  | k + 1, s => if c ∈ s then s.takeWhile (· != c) :: cutN c k (s.drop ((s.takeWhile (· != c)).length + 1)) else [s]
theorem take_at (c : UInt8) (a r : List UInt8) (h : c ∉ a) : (a ++ c :: r).takeWhile (· != c) = a := by
  rw [List.takeWhile_append_of_pos (fun x hx => by simp; rintro rfl; exact h hx)]
  simp
theorem cutN_at (c : UInt8) (k : Nat) (a r : List UInt8) (h : c ∉ a) : cutN c (k + 1) (a ++ c :: r) = a :: cutN c k r := by
  have hd : (a ++ c :: r).drop (a.length + 1) = r := by
    rw [← List.drop_drop, List.drop_left]
    rfl
  show (if c ∈ a ++ c :: r then (a ++ c :: r).takeWhile (· != c) :: cutN c k ((a ++ c :: r).drop (((a ++ c :: r).takeWhile (· != c)).length + 1)) else [a ++ c :: r]) = _
  rw [if_pos (by simp), take_at c a r h, hd]
theorem cutN_not (c : UInt8) (k : Nat) (a : List UInt8) (h : c ∉ a) : cutN c k a = [a] := by
  cases k with
  | zero => rfl
  | succ k => unfold cutN; rw [if_neg h]
theorem cutN_len (c : UInt8) : ∀ (k : Nat) (s : List UInt8), 1 ≤ (cutN c k s).length ∧ (cutN c k s).length ≤ k + 1
  | 0, s => by simp [cutN]
  | k + 1, s => by
    unfold cutN
    split
    · have := cutN_len c k (s.drop ((s.takeWhile (· != c)).length + 1))
      rw [List.length_cons]
      omega
    · simp
theorem join_cutN (c : UInt8) : ∀ (k : Nat) (s : List UInt8), joinL c (cutN c k s) = s
  | 0, s => rfl
  | k + 1, s => by
    rcases cut_cases c s with h | ⟨a, r, ha, rfl⟩
    · rw [cutN_not c _ s h]
      rfl
    · rw [cutN_at c k a r ha]
      have h1 := join_cutN c k r
      have h2 := (cutN_len c k r).1
      cases hq : cutN c k r with
      | nil => rw [hq] at h2; simp at h2
      | cons q qs =>
        rw [hq] at h1
        show a ++ c :: joinL c (q :: qs) = _
        rw [h1]
theorem cutN_join (c : UInt8) : ∀ (k : Nat) (l : List (List UInt8)), l ≠ [] → l.length ≤ k + 1 → (∀ p ∈ l, c ∉ p) → cutN c k (joinL c l) = l
  | _, [], h, _, _ => absurd rfl h
  | k, [p], _, _, h => cutN_not c k p (h p (by simp))
  | 0, p :: q :: ps, _, h, _ => by simp at h
  | k + 1, p :: q :: ps, _, hl, h => by
    show cutN c (k + 1) (p ++ c :: joinL c (q :: ps)) = _
    rw [cutN_at c k p _ (h p (by simp)), cutN_join c k (q :: ps) (by simp) (by simp at hl ⊢; omega) (fun x hx => h x (List.mem_cons_of_mem _ hx))]
theorem cutN_plen (c : UInt8) : ∀ (k : Nat) (s : List UInt8), ∀ p ∈ cutN c k s, p.length ≤ s.length
  | 0, s => by intro p hp; rw [cutN, List.mem_singleton] at hp; rw [hp]; exact Nat.le_refl _
  | k + 1, s => by
    rcases cut_cases c s with h | ⟨a, r, ha, rfl⟩
    · rw [cutN_not c _ s h]
      intro p hp
      rw [List.mem_singleton] at hp
      rw [hp]
      exact Nat.le_refl _
    · rw [cutN_at c k a r ha]
      intro p hp
      rw [List.length_append, List.length_cons]
      rcases List.mem_cons.1 hp with rfl | hp
      · omega
      · have := cutN_plen c k r p hp
        omega
theorem cutN_lineE {s : List UInt8} {e : EvV} (h : isE s e) : cutN 32 4 s = wordsE e := by
  rw [← h.2]
  exact cutN_join 32 4 _ (by unfold wordsE; simp) (wordsE_len e).2 (wordsE_no h.1)

/-! ### Scripts -/
def untilW : List UInt8 := [117, 110, 116, 105, 108]
def lastL (v : Int) : List UInt8 := (untilW ++ [32]) ++ Lib.itoa v
def isLast (s : List UInt8) (v : Int) : Prop := inN v ∧ lastL v = s
theorem isLast_inj {s : List UInt8} {u v : Int} (hu : isLast s u) (hv : isLast s v) : u = v :=
  itoa_inj hu.1.fit hv.1.fit (List.append_cancel_left (hu.2.trans hv.2.symm))
open Classical in
noncomputable def lastO (s : List UInt8) : Option Int := if h : ∃ v, isLast s v then some (Classical.choose h) else none
theorem lastO_is {s : List UInt8} {v : Int} (h : isLast s v) : lastO s = some v := by
  have hx : ∃ v, isLast s v := ⟨v, h⟩
  unfold lastO
  rw [dif_pos hx]
  exact congrArg some (isLast_inj (Classical.choose_spec hx) h)
theorem lastO_no {s : List UInt8} (h : ∀ v, ¬ isLast s v) : lastO s = none := by
  unfold lastO
  rw [dif_neg (fun ⟨e, he⟩ => h e he)]
theorem lastO_some {s : List UInt8} {v : Int} (h : lastO s = some v) : isLast s v := by
  unfold lastO at h
  split at h
  · rename_i hx
    cases h
    exact Classical.choose_spec hx
  · cases h
theorem lastL_no (v : Int) : 10 ∉ lastL v := by
  unfold lastL
  rw [List.mem_append, not_or]
  exact ⟨by decide, itoa_no 10 (by decide)⟩
theorem lastL_len {v : Int} (h : inN v) : (lastL v).length ≤ 15 := by
  have := h.len
  unfold lastL
  rw [List.length_append]
  have : (untilW ++ [32]).length = 6 := rfl
  omega
theorem lastL_line {v : Int} {e : EvV} (h : lineE e = lastL v) : False := by
  have h0 := congrArg List.head? h
  have hp := itoa_pos e.at_
  have hn : (117 : UInt8) ∉ Lib.itoa e.at_ := itoa_no 117 (by decide)
  have h1 : (lineE e).head? = (Lib.itoa e.at_).head? := by
    unfold lineE wordsE
    show (Lib.itoa e.at_ ++ 32 :: _).head? = _
    cases hq : Lib.itoa e.at_ with
    | nil => rw [hq] at hp; simp at hp
    | cons x xs => rfl
  rw [h1] at h0
  have h2 : (Lib.itoa e.at_).head? = some 117 := h0
  exact hn (List.mem_of_mem_head? (by rw [h2]; rfl))
/-- Lines, one behind the other. -/
def flatE (l : List EvV) : List UInt8 := l.flatMap fun e => lineE e ++ [10]
theorem flatE_cons (e : EvV) (l : List EvV) : flatE (e :: l) = lineE e ++ 10 :: flatE l := by simp [flatE]
theorem flatE_snoc (e : EvV) (l : List EvV) : flatE (l ++ [e]) = flatE l ++ (lineE e ++ [10]) := by simp [flatE]
def textE (l : List EvV) (v : Int) : List UInt8 := flatE l ++ (lastL v ++ [10])
def isText (s : List UInt8) (l : List EvV) (v : Int) : Prop := (∀ e ∈ l, okE e) ∧ inN v ∧ textE l v = s
theorem textE_nil (v : Int) : textE [] v = lastL v ++ 10 :: [] := rfl
theorem textE_cons (e : EvV) (l : List EvV) (v : Int) : textE (e :: l) v = lineE e ++ 10 :: textE l v := by
  unfold textE
  rw [flatE_cons]
  simp
theorem at_inj {c : UInt8} {a b r t : List UInt8} (ha : c ∉ a) (hb : c ∉ b) (h : a ++ c :: r = b ++ c :: t) : a = b ∧ r = t := by
  have h1 := take_at c a r ha
  have h2 := take_at c b t hb
  rw [h, h2] at h1
  subst h1
  exact ⟨rfl, by simpa using h⟩
/-- What a text begins with that some lines are. -/
theorem text_pre {v : Int} : ∀ (d l : List EvV) (rest : List UInt8), (∀ e ∈ d, okE e) → (∀ e ∈ l, okE e) → flatE d ++ rest = textE l v → ∃ l', l = d ++ l' ∧ rest = textE l' v
  | [], l, rest, _, _, h => ⟨l, rfl, h⟩
  | e :: d, [], rest, hd, _, h => by
    rw [flatE_cons, textE_nil, List.append_assoc, List.cons_append] at h
    exact (lastL_line (at_inj (lineE_no (hd e (by simp))) (lastL_no v) h).1).elim
  | e :: d, f :: l, rest, hd, hl, h => by
    rw [flatE_cons, textE_cons, List.append_assoc, List.cons_append] at h
    obtain ⟨h1, h2⟩ := at_inj (lineE_no (hd e (by simp))) (lineE_no (hl f (by simp))) h
    have := lineE_inj (hd e (by simp)) (hl f (by simp)) h1
    subst this
    obtain ⟨l', h3, h4⟩ := text_pre d l rest (fun x hx => hd x (List.mem_cons_of_mem _ hx)) (fun x hx => hl x (List.mem_cons_of_mem _ hx)) h2
    exact ⟨l', by rw [h3]; rfl, h4⟩
theorem isText_inj {s : List UInt8} {l m : List EvV} {u v : Int} (h1 : isText s l u) (h2 : isText s m v) : l = m ∧ u = v := by
  have h3 : flatE l ++ (lastL u ++ [10]) = textE m v := h1.2.2.trans h2.2.2.symm
  obtain ⟨l', e1, e2⟩ := text_pre l m _ h1.1 h2.1 h3
  cases l' with
  | nil =>
    rw [textE_nil] at e2
    have := (at_inj (lastL_no u) (lastL_no v) e2).1
    exact ⟨by rw [e1, List.append_nil], isLast_inj ⟨h1.2.1, this⟩ ⟨h2.2.1, rfl⟩⟩
  | cons e r =>
    rw [textE_cons] at e2
    have := (at_inj (lastL_no u) (lineE_no (h2.1 e (by rw [e1]; simp))) e2).1
    exact (lastL_line this.symm).elim
open Classical in
noncomputable def textO (s : List UInt8) : Option (List EvV × Int) := if h : ∃ x : List EvV × Int, isText s x.1 x.2 then some (Classical.choose h) else none
theorem textO_is {s : List UInt8} {l : List EvV} {v : Int} (h : isText s l v) : textO s = some (l, v) := by
  have hx : ∃ x : List EvV × Int, isText s x.1 x.2 := ⟨(l, v), h⟩
  unfold textO
  rw [dif_pos hx]
  have := isText_inj (Classical.choose_spec hx) h
  exact congrArg some (Prod.ext this.1 this.2)
theorem textO_no {s : List UInt8} (h : ∀ l v, ¬ isText s l v) : textO s = none := by
  unfold textO
  rw [dif_neg (fun ⟨x, he⟩ => h x.1 x.2 he)]
/-- Behind some lines that were read. -/
structure Upto (s : List UInt8) (d : List EvV) (rest : List UInt8) : Prop where
  ok : ∀ e ∈ d, okE e
  eq : flatE d ++ rest = s
theorem Upto.first (s : List UInt8) : Upto s [] s := ⟨by simp, rfl⟩
theorem Upto.next {s a r : List UInt8} {d : List EvV} {e : EvV} (h : Upto s d (a ++ 10 :: r)) (he : evO a = some e) : Upto s (d ++ [e]) r := by
  have h1 := evO_some he
  refine ⟨fun x hx => ?_, ?_⟩
  · rcases List.mem_append.1 hx with hx | hx
    · exact h.ok x hx
    · rw [List.mem_singleton] at hx
      rw [hx]
      exact h1.1
  · rw [← h.eq, flatE_snoc, h1.2]
    simp
theorem Upto.done {s a : List UInt8} {d : List EvV} {v : Int} (h : Upto s d (a ++ 10 :: [])) (hv : lastO a = some v) : textO s = some (d, v) := by
  have h1 := lastO_some hv
  refine textO_is ⟨h.ok, h1.1, ?_⟩
  rw [← h.eq, ← h1.2]
  rfl
theorem Upto.cut {s rest : List UInt8} {d : List EvV} (h : Upto s d rest) (hr : 10 ∉ rest) : textO s = none := by
  refine textO_no fun l v ht => ?_
  obtain ⟨l', -, h2⟩ := text_pre d l rest h.ok ht.1 (h.eq.trans ht.2.2.symm)
  rw [h2] at hr
  exact hr (by unfold textE; simp)
theorem Upto.bad {s a r : List UInt8} {d : List EvV} (h : Upto s d (a ++ 10 :: r)) (ha : 10 ∉ a) (h1 : lastO a = none ∨ r ≠ []) (h2 : evO a = none) : textO s = none := by
  refine textO_no fun l v ht => ?_
  obtain ⟨l', e1, e2⟩ := text_pre d l _ h.ok ht.1 (h.eq.trans ht.2.2.symm)
  cases l' with
  | nil =>
    rw [textE_nil] at e2
    obtain ⟨e3, e4⟩ := at_inj ha (lastL_no v) e2
    rcases h1 with h1 | h1
    · rw [lastO_is ⟨ht.2.1, e3.symm⟩] at h1
      cases h1
    · exact h1 e4
  | cons e q =>
    have hok := ht.1 e (by rw [e1]; simp)
    rw [textE_cons] at e2
    obtain ⟨e3, e4⟩ := at_inj ha (lineE_no hok) e2
    rw [evO_is ⟨hok, e3.symm⟩] at h2
    cases h2
end Go.Proofs.YtgfgjbbpochiiaaDoor
