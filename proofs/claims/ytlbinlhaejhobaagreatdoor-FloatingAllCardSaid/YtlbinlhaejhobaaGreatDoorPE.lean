/- Merged: Ord Lru Rca Rca2 Rca3 Rl Abh Abo BcSat. -/
import Derived.Test.YtlbinlhaejhobaaGreatDoorPD
import Derived.Test.YtlbinlhaejhobaaGreatDoorPA
import Derived.BigRegion
import Derived.Deep.DrawnRows
import Derived.RegionCalls
import Derived.Deep.RegionLaw
import Derived.Deep.CutRange
import Derived.Deep.LoopGhost
import Derived.Deep.QuietTactic
import Derived.Deep.RegionHeld3
import Derived.Test.YtlbinlhaejhobaaGreatDoorRows
import Derived.BigQuiet
import Derived.Outline
import Derived.IntWalk
import Derived.WalkLawsBesides
import Derived.WalkSmall
import Derived.Lib.Mul64
import Derived.Laws.Bits64b
/- The reference's Order: tasks by their priorities, the highest first. -/
namespace Go.Proofs.YtlbinlhaejhobaaGreatDoor
open Go Go.RowKit

/-- The priority of a task. -/
def prio (ts : List TaskV) (k : Nat) : Int := (ts.map (·.p)).getD k 0
theorem prio_at {ts : List TaskV} {k : Nat} {t : TaskV} (h : ts[k]? = some t) : prio ts k = t.p := by
  unfold prio
  rw [List.getD_eq_getElem?_getD, List.getElem?_map, h]
  rfl
def ins (p : Nat → Int) (x : Nat) : List Nat → List Nat
  | [] => [x]
  | y :: l => if p x ≤ p y then y :: ins p x l else x :: y :: l
def orderUp (p : Nat → Int) : Nat → List Nat
  | 0 => []
  | n + 1 => ins p n (orderUp p n)
theorem ins_split {p : Nat → Int} {x : Nat} {B : List Nat} (hB : ∀ y ∈ B, p y < p x) : ∀ {A : List Nat}, (∀ y ∈ A, p x ≤ p y) → ins p x (A ++ B) = A ++ x :: B
  | [], _ => by
    cases B with
    | nil => rfl
    | cons y B =>
      have := hB y (by simp)
      show ins p x (y :: B) = x :: y :: B
      unfold ins
      rw [if_neg (by omega)]
  | a :: A, h => by
    show ins p x (a :: (A ++ B)) = a :: (A ++ x :: B)
    unfold ins
    rw [if_pos (h a (by simp)), ins_split hB (fun y hy => h y (by simp [hy]))]
theorem ins_mem {p : Nat → Int} {x y : Nat} : ∀ {l : List Nat}, y ∈ ins p x l ↔ y = x ∨ y ∈ l
  | [] => by simp [ins]
  | a :: l => by
    unfold ins
    by_cases h : p x ≤ p a
    · rw [if_pos h, List.mem_cons, ins_mem, List.mem_cons]
      constructor <;> (intro h; rcases h with h | h | h <;> simp [h])
    · rw [if_neg h, List.mem_cons]
theorem ins_length {p : Nat → Int} {x : Nat} : ∀ (l : List Nat), (ins p x l).length = l.length + 1
  | [] => rfl
  | a :: l => by
    unfold ins
    by_cases h : p x ≤ p a
    · rw [if_pos h]; simp [ins_length l]
    · rw [if_neg h]; rfl
theorem ins_sorted {p : Nat → Int} {x : Nat} : ∀ {l : List Nat}, l.Pairwise (fun a b => p b ≤ p a) → (ins p x l).Pairwise (fun a b => p b ≤ p a)
  | [], _ => by simp [ins]
  | a :: l, h => by
    rw [List.pairwise_cons] at h
    unfold ins
    by_cases hx : p x ≤ p a
    · rw [if_pos hx, List.pairwise_cons]
      refine ⟨fun y hy => ?_, ins_sorted h.2⟩
      rcases ins_mem.1 hy with rfl | hy
      · exact hx
      · exact h.1 y hy
    · rw [if_neg hx, List.pairwise_cons, List.pairwise_cons]
      refine ⟨fun y hy => ?_, h.1, h.2⟩
      rcases List.mem_cons.1 hy with rfl | hy
      · omega
      · have := h.1 y hy; omega
theorem order_length (p : Nat → Int) : ∀ n, (orderUp p n).length = n
  | 0 => rfl
  | n + 1 => by unfold orderUp; rw [ins_length, order_length p n]
theorem order_lt {p : Nat → Int} : ∀ {n y : Nat}, y ∈ orderUp p n → y < n
  | 0, y, h => by simp [orderUp] at h
  | n + 1, y, h => by
    unfold orderUp at h
    rcases ins_mem.1 h with rfl | h
    · omega
    · have := order_lt h; omega
theorem order_sorted (p : Nat → Int) : ∀ n, (orderUp p n).Pairwise (fun a b => p b ≤ p a)
  | 0 => List.Pairwise.nil
  | n + 1 => ins_sorted (order_sorted p n)

def dat (L : List Nat) : List Value := L.map (fun (k : Nat) => Value.int .i64 (k : Int))
theorem dat_set (L : List Nat) (i k : Nat) : (dat L).set i (.int .i64 (k : Int)) = dat (L.set i k) := by unfold dat; rw [List.map_set]
theorem dat_at {L : List Nat} {i k : Nat} (h : L[i]? = some k) : (dat L)[i]? = some (.int .i64 (k : Int)) := by unfold dat; rw [List.getElem?_map, h]; rfl
def RowAt (w : World) (g : Nat) (L : List Nat) : Prop := w.heap[g]? = some (.cells (dat L).toArray 3 (0, 0))
theorem RowAt.cell {w : World} {g : Nat} {L : List Nat} (h : RowAt w g L) {i k : Nat} (hk : L[i]? = some k) : w.cell? ⟨g, i, none⟩ = some (.int .i64 (k : Int)) := row_cell h (dat_at hk)
theorem RowAt.set {w : World} {g : Nat} {L : List Nat} (h : RowAt w g L) (i k : Nat) : RowAt (w.setCell ⟨g, i, none⟩ (.int .i64 (k : Int))) g (L.set i k) := by
  unfold RowAt
  rw [← dat_set]
  exact row_set h i _

def upto (p : Nat → Int) (x : Nat) : List Nat → Nat
  | [] => 0
  | y :: l => if p x ≤ p y then upto p x l + 1 else 0
theorem upto_le (p : Nat → Int) (x : Nat) : ∀ l, upto p x l ≤ l.length
  | [] => Nat.le_refl _
  | y :: l => by
    unfold upto
    have := upto_le p x l
    split <;> simp <;> omega
theorem ins_upto (p : Nat → Int) (x : Nat) : ∀ l, ins p x l = l.take (upto p x l) ++ x :: l.drop (upto p x l)
  | [] => rfl
  | y :: l => by
    unfold ins upto
    by_cases h : p x ≤ p y
    · rw [if_pos h, if_pos h, ins_upto p x l]; rfl
    · rw [if_neg h, if_neg h]; rfl
theorem upto_spec (p : Nat → Int) (x : Nat) : ∀ l, (∀ j, j < upto p x l → ∃ y, l[j]? = some y ∧ p x ≤ p y) ∧ (upto p x l < l.length → ∃ y, l[upto p x l]? = some y ∧ p y < p x)
  | [] => ⟨fun j hj => absurd hj (by simp [upto]), fun h => by simp at h⟩
  | y :: l => by
    obtain ⟨i1, i2⟩ := upto_spec p x l
    unfold upto
    by_cases h : p x ≤ p y
    · rw [if_pos h]
      refine ⟨fun j hj => ?_, fun hl => i2 (by simp at hl; omega)⟩
      cases j with
      | zero => exact ⟨y, rfl, h⟩
      | succ j => exact i1 j (by omega)
    · rw [if_neg h]
      exact ⟨fun j hj => absurd hj (by omega), fun _ => ⟨y, rfl, by omega⟩⟩
theorem ord_only {w w' : World} (h : Only (fun k => some k = none) w w') : Only (fun _ => False) w w' := h.mono (fun _ _ e => by cases e)
theorem dat_one (L : List Nat) : ∀ u ∈ dat L, u.oneCell' = true := by
  intro u hu
  unfold dat at hu
  obtain ⟨k, _, rfl⟩ := List.mem_map.1 hu
  rfl
theorem row_one {w : World} {X : Nat} {a : Value} {e : TypeId} (h : w.heap[X]? = some (.cells #[a] e (0, 0))) : ∀ j u, [a][j]? = some u → w.cell? ((⟨X, 0, none⟩ : Addr).add j) = some u := fun j u hu => by
  rw [Addr.add_lit, Nat.zero_add]
  exact row_cell (L := [a]) h hu
theorem info3 : (Tryz.prog.info? 3).map (fun i => (i.zero, i.size, i.bytes)) = some (some (Value.int .i64 0), 1, 8) := by kernel_rfl
theorem dat_length (L : List Nat) : (dat L).length = L.length := by simp [dat]

/-- What the reference's Order answers. -/
def ROrdEnd (w : World) (p : Nat → Int) (n : Nat) (e : Ending) (w' : World) : Prop :=
  ∃ A cap h, e = .returned (.slice A n cap) ∧ Win w' 3 1 (.slice A n cap) h n (dat (orderUp p n)) ∧ (∀ b, h = some b → w.heap.size ≤ b) ∧ Only (fun _ => False) w w'
end Go.Proofs.YtlbinlhaejhobaaGreatDoor
/- Blocks used lately: rows of a set, misses, and what others' accesses cost. Speaks of no program. -/
namespace Go.Proofs.YtlbinlhaejhobaaGreatDoor
namespace Lru

/-- Each once, where it stands first. -/
def dd : List Nat → List Nat
  | [] => []
  | x :: t => x :: (dd t).filter (fun y => decide (y ≠ x))
/-- The blocks of a set, the one used last first; h: the one used last first. -/
def D (S s : Nat) (h : List Nat) : List Nat := dd (h.filter (fun b => decide (b % S = s)))
/-- The row of a set, as it is gone through. -/
def go (S W s : Nat) : List Nat → List Nat → List Nat
  | [], out => out
  | b :: t, out => if out.length < W then go S W s t (if b % S = s ∧ b ∉ out then out ++ [b] else out) else out
def hitB (S W : Nat) (h : List Nat) (b : Nat) : Bool := decide (b ∈ (D S (b % S) h).take W)
def missN (S W : Nat) : List Nat → List Nat → Nat
  | _, [] => 0
  | h, b :: l => (if hitB S W h b then 0 else 1) + missN S W (b :: h) l

theorem missN_append (S W : Nat) : ∀ (l m h : List Nat), missN S W h (l ++ m) = missN S W h l + missN S W (l.reverse ++ h) m
  | [], m, h => by simp [missN]
  | b :: l, m, h => by
    simp only [List.cons_append, missN, missN_append S W l m, List.reverse_cons, List.append_assoc, List.nil_append]
    omega

theorem dd_mem {x : Nat} : ∀ {l : List Nat}, x ∈ dd l ↔ x ∈ l
  | [] => by simp [dd]
  | y :: t => by
    simp only [dd, List.mem_cons, List.mem_filter, dd_mem (l := t), decide_eq_true_eq]
    by_cases h : x = y <;> simp [h]
theorem dd_nodup : ∀ (l : List Nat), (dd l).Nodup
  | [] => by simp [dd]
  | y :: t => by
    simp only [dd, List.nodup_cons, List.mem_filter, decide_eq_true_eq]
    exact ⟨fun h => h.2 rfl, (dd_nodup t).filter _⟩
theorem D_mem {S s x : Nat} {h : List Nat} : x ∈ D S s h ↔ x ∈ h ∧ x % S = s := by
  unfold D
  simp [dd_mem]
theorem D_nodup (S s : Nat) (h : List Nat) : (D S s h).Nodup := dd_nodup _
theorem D_cons_same {S s b : Nat} {h : List Nat} (e : b % S = s) : D S s (b :: h) = b :: (D S s h).filter (fun y => decide (y ≠ b)) := by
  unfold D
  rw [List.filter_cons_of_pos (by simpa using e)]
  rfl
theorem D_cons_other {S s b : Nat} {h : List Nat} (e : ¬ b % S = s) : D S s (b :: h) = D S s h := by
  unfold D
  rw [List.filter_cons_of_neg (by simpa using e)]
theorem D_append_other {S s : Nat} {h : List Nat} : ∀ {o : List Nat}, (∀ x ∈ o, ¬ x % S = s) → D S s (o ++ h) = D S s h
  | [], _ => rfl
  | b :: o, ho => by
    rw [List.cons_append, D_cons_other (ho b (by simp)), D_append_other (fun x hx => ho x (by simp [hx]))]

/-- The row as it is gone through: the first of those used last. -/
theorem go_eq (S W s : Nat) : ∀ (h out : List Nat), out.length ≤ W → go S W s h out = (out ++ (D S s h).filter (fun y => decide (y ∉ out))).take W
  | [], out, ho => by
    simp [go, D, dd, List.take_of_length_le ho]
  | b :: t, out, ho => by
    rw [go]
    by_cases hl : out.length < W
    · rw [if_pos hl]
      by_cases hb : b % S = s
      · rw [D_cons_same hb]
        by_cases hm : b ∈ out
        · rw [if_neg (fun h => h.2 hm), go_eq S W s t out ho, List.filter_cons_of_neg (by simpa using hm), List.filter_filter]
          congr 2
          apply List.filter_congr
          intro x _
          by_cases hx : x = b
          · subst hx; simp [hm]
          · simp [hx]
        · rw [if_pos ⟨hb, hm⟩, go_eq S W s t (out ++ [b]) (by simp; omega), List.filter_cons_of_pos (by simpa using hm), List.filter_filter, List.append_assoc, List.singleton_append]
          congr 3
          apply List.filter_congr
          intro x _
          simp [not_or, Bool.and_comm]
      · rw [if_neg (fun h => hb h.1), go_eq S W s t out ho, D_cons_other hb]
    · rw [if_neg hl, List.take_append_of_le_length (by omega), List.take_of_length_le (by omega)]
theorem go_nil (S W s : Nat) (h : List Nat) : go S W s h [] = (D S s h).take W := by
  rw [go_eq S W s h [] (Nat.zero_le _), List.nil_append, List.filter_eq_self.2 (fun x _ => by simp)]

theorem take_filter_ne {b x : Nat} : ∀ {r : List Nat} {m : Nat}, r.Nodup → x ∈ (r.filter (fun y => decide (y ≠ b))).take m → x ∈ r.take (m + 1)
  | [], m, _, h => by simp at h
  | y :: r, m, hn, h => by
    rw [List.nodup_cons] at hn
    by_cases e : y = b
    · subst e
      have : r.filter (fun z => decide (z ≠ y)) = r := List.filter_eq_self.2 (fun z hz => by
        have : z ≠ y := fun e => hn.1 (e ▸ hz)
        simpa using this)
      rw [List.filter_cons_of_neg (by simp), this] at h
      simp [List.take_succ_cons, h]
    · rw [List.filter_cons_of_pos (by simpa using e)] at h
      cases m with
      | zero => simp at h
      | succ m =>
        rw [List.take_succ_cons, List.mem_cons] at h
        rw [List.take_succ_cons, List.mem_cons]
        rcases h with h | h
        · exact .inl h
        · exact .inr (take_filter_ne hn.2 h)

theorem filter_len {b : Nat} : ∀ {p : List Nat}, p.Nodup → p.length ≤ (p.filter (fun y => decide (y ≠ b))).length + 1
  | [], _ => by simp
  | y :: p, hn => by
    rw [List.nodup_cons] at hn
    by_cases e : y = b
    · subst e
      have : p.filter (fun z => decide (z ≠ y)) = p := List.filter_eq_self.2 (fun z hz => by
        have : z ≠ y := fun e => hn.1 (e ▸ hz)
        simpa using this)
      rw [List.filter_cons_of_neg (by simp), this]
      simp
    · rw [List.filter_cons_of_pos (by simpa using e)]
      have := filter_len (b := b) hn.2
      simp only [List.length_cons]
      omega

theorem nodup_le : ∀ {a b : List Nat}, a.Nodup → (∀ x ∈ a, x ∈ b) → a.length ≤ b.length
  | [], _, _, _ => by simp
  | x :: a, b, hn, h => by
    rw [List.nodup_cons] at hn
    have hx := h x (by simp)
    have := nodup_le (b := b.erase x) hn.2 (fun y hy => (List.mem_erase_of_ne (fun (e : y = x) => hn.1 (e ▸ hy))).2 (h y (by simp [hy])))
    rw [List.length_erase_of_mem hx] at this
    have : 0 < b.length := List.length_pos_of_mem hx
    simp only [List.length_cons]
    omega

/-- What may still be found alone, and not behind the others: F. -/
structure Inv (S W : Nat) (T : Nat → Bool) (F h1 h2 : List Nat) : Prop where
  no : ∀ s, T s = false → D S s h1 = D S s h2
  yes : ∀ s, T s = true → ∃ p r1 r2, D S s h1 = p ++ r1 ∧ D S s h2 = p ++ r2 ∧ ∀ x ∈ r1.take (W - p.length), x ∈ F

theorem Inv.step {S W : Nat} {T : Nat → Bool} {F h1 h2 : List Nat} (I : Inv S W T F h1 h2) (b : Nat) :
    Inv S W T (F.filter (fun y => decide (y ≠ b))) (b :: h1) (b :: h2) ∧ (hitB S W h1 b = true → hitB S W h2 b = false → b ∈ F) := by
  refine ⟨⟨fun s hs => ?_, fun s hs => ?_⟩, fun e1 e2 => ?_⟩
  · by_cases hb : b % S = s
    · rw [D_cons_same hb, D_cons_same hb, I.no s hs]
    · rw [D_cons_other hb, D_cons_other hb, I.no s hs]
  · obtain ⟨p, r1, r2, q1, q2, hF⟩ := I.yes s hs
    have n1 := D_nodup S s h1
    have n2 := D_nodup S s h2
    rw [q1, List.nodup_append] at n1
    rw [q2, List.nodup_append] at n2
    by_cases hb : b % S = s
    · rw [D_cons_same hb, D_cons_same hb, q1, q2, List.filter_append, List.filter_append]
      refine ⟨b :: p.filter (fun y => decide (y ≠ b)), r1.filter (fun y => decide (y ≠ b)), r2.filter (fun y => decide (y ≠ b)), rfl, rfl, fun x hx => ?_⟩
      have hxr := (List.mem_filter.1 (List.mem_of_mem_take hx)).2
      rw [List.mem_filter]
      refine ⟨hF x ?_, hxr⟩
      have hlen := filter_len (b := b) n1.1
      simp only [List.length_cons] at hx
      by_cases hp : b ∈ p
      · have : r1.filter (fun z => decide (z ≠ b)) = r1 := List.filter_eq_self.2 (fun z hz => by
          have : z ≠ b := fun e => (n1.2.2 b hp z hz) e.symm
          simpa using this)
        rw [this] at hx
        have hle : W - ((p.filter (fun y => decide (y ≠ b))).length + 1) ≤ W - p.length := by omega
        exact (List.take_subset_take_left _ hle) hx
      · have : p.filter (fun z => decide (z ≠ b)) = p := List.filter_eq_self.2 (fun z hz => by
          have : z ≠ b := fun e => hp (e ▸ hz)
          simpa using this)
        rw [this] at hx
        have h3 := take_filter_ne n1.2.1 hx
        by_cases hW : W ≤ p.length
        · have : W - (p.length + 1) = 0 := by omega
          rw [this] at hx
          simp at hx
        · have : W - (p.length + 1) + 1 = W - p.length := by omega
          rwa [this] at h3
    · rw [D_cons_other hb, D_cons_other hb]
      refine ⟨p, r1, r2, q1, q2, fun x hx => ?_⟩
      rw [List.mem_filter]
      refine ⟨hF x hx, ?_⟩
      have : x ∈ D S s h1 := by rw [q1]; exact List.mem_append_right _ (List.mem_of_mem_take hx)
      have hc := (D_mem.1 this).2
      have : x ≠ b := fun e => hb (e ▸ hc)
      simpa using this
  · unfold hitB at e1 e2
    simp only [decide_eq_true_eq, decide_eq_false_iff_not] at e1 e2
    cases hT : T (b % S) with
    | false => rw [I.no _ hT] at e1; exact absurd e1 e2
    | true =>
      obtain ⟨p, r1, r2, q1, q2, hF⟩ := I.yes _ hT
      rw [q1, List.take_append, List.mem_append] at e1
      rw [q2, List.take_append, List.mem_append] at e2
      rcases e1 with e1 | e1
      · exact absurd (.inl e1) e2
      · exact hF b e1

theorem count_step {b : Nat} {l : List Nat} : ∀ (F : List Nat), ((F.filter (fun y => decide (y ≠ b))).filter (fun y => decide (y ∈ l))).length + (if b ∈ F then 1 else 0) ≤ (F.filter (fun y => decide (y ∈ b :: l))).length
  | [] => by simp
  | x :: F => by
    have ih := count_step (b := b) (l := l) F
    by_cases e : x = b
    · subst e
      rw [List.filter_cons_of_neg (by simp), List.filter_cons_of_pos (by simp), if_pos (by simp), List.length_cons]
      have : (if x ∈ F then 1 else 0) ≥ 0 := Nat.zero_le _
      omega
    · rw [List.filter_cons_of_pos (by simpa using e)]
      have hm : (if b ∈ x :: F then 1 else 0) = (if b ∈ F then 1 else 0) := by
        simp [show b ≠ x from fun h => e h.symm]
      rw [hm]
      by_cases hl : x ∈ l
      · rw [List.filter_cons_of_pos (by simpa using hl), List.filter_cons_of_pos (by simp [hl]), List.length_cons, List.length_cons]
        omega
      · rw [List.filter_cons_of_neg (by simpa using hl), List.filter_cons_of_neg (by simp [hl, e])]
        exact ih

theorem Inv.bound {S W : Nat} {T : Nat → Bool} : ∀ (l F h1 h2 : List Nat), Inv S W T F h1 h2 → missN S W h2 l ≤ missN S W h1 l + (F.filter (fun y => decide (y ∈ l))).length
  | [], F, h1, h2, _ => by simp [missN]
  | b :: l, F, h1, h2, I => by
    obtain ⟨I', hb⟩ := I.step b
    have ih := Inv.bound l _ _ _ I'
    have hc := count_step (b := b) (l := l) F
    simp only [missN]
    generalize (F.filter (fun y => decide (y ∈ b :: l))).length = C at hc ⊢
    cases e1 : hitB S W h1 b <;> cases e2 : hitB S W h2 b
    · simp; omega
    · simp; omega
    · rw [if_pos (hb e1 e2)] at hc
      simp; omega
    · simp; omega

def loadN (S : Nat) (bl : List Nat) (s : Nat) : Nat := (bl.filter (fun b => decide (b % S = s))).length
def boundN (S W : Nat) (T : Nat → Bool) (bl : List Nat) : Nat → Nat
  | 0 => 0
  | n + 1 => boundN S W T bl n + (if T n then min W (loadN S bl n) else 0)

/-- ONE DISPLACEMENT: what others access, of touched sets alone, costs no more than the bound. -/
theorem crpd {S W : Nat} {T : Nat → Bool} {l h o bl : List Nat} (hS : 0 < S) (ho : ∀ x ∈ o, T (x % S) = true) (hl : ∀ x ∈ l, x ∈ bl) :
    missN S W (o ++ h) l ≤ missN S W h l + boundN S W T bl S := by
  let F : Nat → List Nat := fun n => (List.range n).flatMap (fun s => if T s then (D S s h).take W else [])
  have I : Inv S W T (F S) h (o ++ h) := by
    refine ⟨fun s hs => (D_append_other (fun x hx e => ?_)).symm, fun s hs => ⟨[], D S s h, D S s (o ++ h), rfl, rfl, fun x hx => ?_⟩⟩
    · have := ho x hx
      rw [e, hs] at this
      cases this
    · simp only [List.length_nil, Nat.sub_zero] at hx
      have hc := (D_mem.1 (List.mem_of_mem_take hx)).2
      have : s < S := hc ▸ Nat.mod_lt _ hS
      simp only [F, List.mem_flatMap, List.mem_range]
      exact ⟨s, this, by rw [if_pos hs]; exact hx⟩
  refine Nat.le_trans (I.bound l _ _ _) (Nat.add_le_add_left ?_ _)
  have key : ∀ n, ((F n).filter (fun y => decide (y ∈ l))).length ≤ boundN S W T bl n := by
    intro n
    induction n with
    | zero => simp [F, boundN]
    | succ n ih =>
      have : F (n + 1) = F n ++ (if T n then (D S n h).take W else []) := by
        simp only [F, List.range_succ, List.flatMap_append, List.flatMap_cons, List.flatMap_nil, List.append_nil]
      rw [this, List.filter_append, List.length_append, boundN]
      refine Nat.add_le_add ih ?_
      cases hT : T n with
      | false => simp
      | true =>
        simp only [if_true]
        refine Nat.le_min.2 ⟨Nat.le_trans (List.length_filter_le _ _) (List.length_take_le _ _), ?_⟩
        refine nodup_le (((D_nodup S n h).sublist (List.take_sublist _ _)).filter _) (fun x hx => ?_)
        rw [List.mem_filter, decide_eq_true_eq] at hx
        rw [List.mem_filter, decide_eq_true_eq]
        exact ⟨hl x hx.2, (D_mem.1 (List.mem_of_mem_take hx.1)).2⟩
  exact key S
end Lru
end Go.Proofs.YtlbinlhaejhobaaGreatDoor
/- The reference's cache: a set's row, ages. -/
namespace Go.Proofs.YtlbinlhaejhobaaGreatDoor
namespace Rca
open Go Go.RowKit

/-- A cache of the document: all that was used, in order. -/
structure RC (w : World) (a S W : Nat) (h : Option Nat) (U : List Nat) : Prop where
  box : ∃ p c, w.heap[a]? = some (.cells #[.int .i64 (S : Int), .int .i64 (W : Int), .slice p U.length c] 999 (0, 0)) ∧ Win w 3 1 (.slice p U.length c) h U.length (dat U)
theorem RC.kept {A : Nat → Prop} {w w' : World} {a S W : Nat} {h : Option Nat} {U : List Nat} (H : RC w a S W h U) (ho : Only A w w') (ha : ¬ A a) (hh : ∀ g, h = some g → ¬ A g) : RC w' a S W h U := by
  obtain ⟨p, c, h1, h2⟩ := H.box
  exact ⟨p, c, ho.heap h1 ha, h2.kept ho hh⟩
theorem RC.new {w w' : World} {a S W : Nat} {h : Option Nat} {U : List Nat} (H : RC w a S W h U) (ho : Only (fun _ => False) w w') : RC w' a S W h U := H.kept ho (fun h => h) (fun _ _ h => h)
theorem RC.ne {w : World} {a S W : Nat} {h : Option Nat} {U : List Nat} (H : RC w a S W h U) : ∀ g, h = some g → g ≠ a := by
  obtain ⟨p, c, h1, _, _, _, _, _, _, h3⟩ := H.box
  rintro g hg rfl
  rcases h3 with h3 | ⟨g', _, _, q1, _, q2, _⟩
  · rw [h3.1] at hg; cases hg
  · rw [hg] at q1
    cases q1
    rw [h1] at q2
    simp at q2
theorem RC.lt {w : World} {a S W : Nat} {h : Option Nat} {U : List Nat} (H : RC w a S W h U) : a < w.heap.size ∧ ∀ g, h = some g → g < w.heap.size := by
  obtain ⟨p, c, h1, h2⟩ := H.box
  exact ⟨row_lt h1, h2.lt⟩

/-- What a call answers that makes a row of numbers. -/
def RowEnd (w : World) (R : List Nat) (e : Ending) (w' : World) : Prop :=
  ∃ p c h, e = .returned (.slice p R.length c) ∧ Win w' 3 1 (.slice p R.length c) h R.length (dat R) ∧ (∀ b, h = some b → w.heap.size ≤ b) ∧ Only (fun _ => False) w w'
def rowL (S W s : Nat) (U : List Nat) : List Nat := Lru.go S W s U.reverse []
theorem rowL_eq (S W s : Nat) (U : List Nat) : rowL S W s U = (Lru.D S s U.reverse).take W := Lru.go_nil S W s _

theorem take_rev {U : List Nat} {k b : Nat} (h : U[k]? = some b) : (U.take (k + 1)).reverse = b :: (U.take k).reverse := by
  obtain ⟨hk, hb⟩ := List.getElem?_eq_some_iff.1 h
  rw [List.take_add_one, h]
  simp
theorem mem_take_one {out : List Nat} {j x b : Nat} (h : out[j]? = some x) : (b ∈ out.take (j + 1)) ↔ (b ∈ out.take j ∨ x = b) := by
  rw [List.take_add_one, h, List.mem_append]
  simp [eq_comm]

end Rca
end Go.Proofs.YtlbinlhaejhobaaGreatDoor
/- The reference's cache: ages, accesses, twins. -/
namespace Go.Proofs.YtlbinlhaejhobaaGreatDoor
namespace Rca
open Go Go.RowKit

/-- Where a number stands first in a row; -1: nowhere. -/
def ageZ (R : List Nat) (b : Nat) : Int := if b ∈ R then (R.idxOf b : Int) else -1
/-- An answer, new blocks at most. -/
def AnsI (z : Int) (w : World) (e : Ending) (w' : World) : Prop := e = .returned (.int .i64 z) ∧ Only (fun _ => False) w w'

theorem age_hit {S W b : Nat} {U : List Nat} : (decide (ageZ (rowL S W (b % S) U) b ≥ 0)) = Lru.hitB S W U.reverse b := by
  unfold ageZ Lru.hitB
  rw [rowL_eq]
  by_cases h : b ∈ (Lru.D S (b % S) U.reverse).take W
  · rw [if_pos h]; simp [h]
  · rw [if_neg h]; simp [h]
end Rca
end Go.Proofs.YtlbinlhaejhobaaGreatDoor
/- The reference's cache: accesses, twins. -/
namespace Go.Proofs.YtlbinlhaejhobaaGreatDoor
namespace Rca
open Go Go.RowKit

def AccEnd (a S W : Nat) (U : List Nat) (b : Nat) (w : World) (e : Ending) (w' : World) : Prop :=
  e = .returned (.bool (Lru.hitB S W U.reverse b)) ∧ ∃ h', RC w' a S W h' (U ++ [b]) ∧ Only (fun k => k = a) w w' ∧ (∀ g, h' = some g → w.heap.size ≤ g)
theorem dat_append (A B : List Nat) : dat A ++ dat B = dat (A ++ B) := by simp [dat]

def TwinEnd (S W : Nat) (U : List Nat) (w : World) (e : Ending) (w' : World) : Prop :=
  ∃ x h', e = .returned (.pointer (some ⟨x, 0, none⟩)) ∧ RC w' x S W h' U ∧ Only (fun _ => False) w w' ∧ w.heap.size ≤ x ∧ (∀ g, h' = some g → w.heap.size ≤ g)
end Rca
end Go.Proofs.YtlbinlhaejhobaaGreatDoor
/- reload: which sets, which blocks; the models. -/
namespace Go.Proofs.YtlbinlhaejhobaaGreatDoor
namespace Rld
open Go Go.RowKit Rca

/-- The blocks that a program accesses, in order. -/
def accN (l : List Opn) : List Nat := (l.filter (fun o => decide (o.k = 2))).map (fun o => o.a.toNat)
/-- Each access is to a block from 0 on. -/
def accOk (l : List Opn) : Prop := ∀ o ∈ l, o.k = 2 → 0 ≤ o.a ∧ o.a ≤ 255
def loadS (S : Nat) (l : List Opn) (s : Nat) : Nat := Lru.loadN S (Lru.dd (accN l)) s
theorem accN_mem {l : List Opn} {x : Nat} : x ∈ accN l ↔ ∃ o ∈ l, o.k = 2 ∧ o.a.toNat = x := by
  unfold accN
  simp [List.mem_map, List.mem_filter, and_assoc]
theorem loadN_same {S s : Nat} {A B : List Nat} (ha : A.Nodup) (hb : B.Nodup) (h : ∀ x, x ∈ A ↔ x ∈ B) : Lru.loadN S A s = Lru.loadN S B s := by
  unfold Lru.loadN
  refine Nat.le_antisymm (Lru.nodup_le (ha.filter _) (fun x hx => ?_)) (Lru.nodup_le (hb.filter _) (fun x hx => ?_))
  · rw [List.mem_filter] at hx ⊢
    exact ⟨(h x).1 hx.1, hx.2⟩
  · rw [List.mem_filter] at hx ⊢
    exact ⟨(h x).2 hx.1, hx.2⟩
theorem loadS_of {S s : Nat} {l : List Opn} {B : List Nat} (hb : B.Nodup) (h : ∀ x, x ∈ B ↔ x ∈ accN l) : Lru.loadN S B s = loadS S l s :=
  loadN_same hb (Lru.dd_nodup _) (fun x => (h x).trans Lru.dd_mem.symm)
/-- has: is there such a task? -/
def hasT (n : Nat) (z : Int) : Bool := decide (0 ≤ z ∧ z < (n : Int))
/-- Those above a task's threshold, of the first k. -/
def aboU (ts : List TaskV) (th : Int) (k : Nat) : List Nat := (List.range k).filter (fun i => decide (th < prio ts i))
theorem aboU_succ (ts : List TaskV) (th : Int) (k : Nat) : aboU ts th (k + 1) = aboU ts th k ++ (if th < prio ts k then [k] else []) := by
  unfold aboU
  rw [List.range_succ, List.filter_append]
  congr 1
  by_cases h : th < prio ts k <;> simp [h]
theorem aboU_len (ts : List TaskV) (th : Int) (k : Nat) : (aboU ts th k).length ≤ k := by
  unfold aboU
  refine Nat.le_trans (List.length_filter_le _ _) ?_
  simp
theorem aboU_mem {ts : List TaskV} {th : Int} {k i : Nat} : i ∈ aboU ts th k ↔ i < k ∧ th < prio ts i := by
  unfold aboU
  simp
/-- Is a set touched by the first k of these tasks? -/
def touB (S : Nat) (pl : Tks) (T : List Nat) (s : Nat) : Bool := T.any (fun i => match pl[i]? with | some (_, l) => decide (0 < loadS S l s) | none => false)
end Rld
end Go.Proofs.YtlbinlhaejhobaaGreatDoor
/- reload: is there such a task? -/
namespace Go.Proofs.YtlbinlhaejhobaaGreatDoor
namespace Rld
open Go Go.RowKit Rca

theorem has_any (w : World) (c : ConfV) (z : Int) : Calls Tryz.prog 111 #[c.val, .int .i64 z] w (GrowB (hasT c.ta.n z) w) := by
  have hO := (Only.refl (fun _ => False) w).alloc (.cells c.cells.toArray 27)
  have hB := heap_new_at w (.cells c.cells.toArray 27) rfl
  obtain ⟨W1, hW1⟩ : ∃ W1, W1 = w.alloc (.cells c.cells.toArray 27) := ⟨_, rfl⟩
  have e8 := row_cell hB (i := 8) rfl
  have hlt1 := row_lt hB
  rw [← hW1] at e8 hO hlt1
  obtain ⟨V, hV⟩ : ∃ V, V = hasT c.ta.n z := ⟨_, rfl⟩
  rw [← hV]
  unfold hasT at hV
  rw [show c.val = .agg #[.int .i64 c.s, .int .i64 c.wy, .int .i64 c.h, .int .i64 c.mi, .slice c.mb.A c.mb.n c.mb.cap, .int .i64 c.g, .slice c.cn.A c.cn.n c.cn.cap, .slice c.ce.A c.ce.n c.ce.cap, .slice c.ta.A c.ta.n c.ta.cap, .slice c.li.A c.li.n c.li.cap] from rfl]
  unfold ConfV.cells at hW1
  obtain ⟨s, wy, h, mi, ⟨mA, mn, mc⟩, g, ⟨cA, cn, cc⟩, ⟨eA, en, ec⟩, ⟨tA, tn, tc⟩, ⟨lA, ln, lc⟩⟩ := c
  simp only at *
  have hW1' := Lib.hid hW1
  have hO' := Lib.hid hO
  have hV' := Lib.hid hV
  clear hB hW1 hO hV
  go_enter Tryz.func111, Tryz.ntmps111
  by_cases h0 : 0 ≤ z
  · by_cases h1 : z < (tn : Int)
    · have : V = true := by rw [hV'.out]; simp [h0, h1]
      subst this
      go_wp2
      rw [← hW1'.out]
      go_wp2
      go_ret
      exact ⟨rfl, hO'.out⟩
    · have : V = false := by rw [hV'.out]; simp [h1]
      subst this
      go_wp2
      rw [← hW1'.out]
      go_wp2
      go_ret
      exact ⟨rfl, hO'.out⟩
  · have : V = false := by rw [hV'.out]; simp [h0]
    subst this
    go_wp2
    rw [← hW1'.out]
    go_ret
    exact ⟨rfl, hO'.out⟩

end Rld
end Go.Proofs.YtlbinlhaejhobaaGreatDoor
/- reload.Above, and the reference's: who is above a task. -/
namespace Go.Proofs.YtlbinlhaejhobaaGreatDoor
namespace Rld
open Go Go.RowKit Rca

set_option maxRecDepth 100000 in
set_option maxHeartbeats 2000000 in
theorem above_any {w : World} {c : ConfV} {ts : List TaskV} (hT : TasksAt w c.ta ts) (hs9 : c.ta.n ≤ 1000000) {i : Nat} {ti : TaskV} (hi : ts[i]? = some ti) :
    Calls Tryz.prog 113 #[c.val, .int .i64 (i : Int)] w (RowEnd w (aboU ts ti.th c.ta.n)) := by
  obtain ⟨Z, hZ⟩ : ∃ Z, Z = RowEnd w (aboU ts ti.th c.ta.n) := ⟨_, rfl⟩
  rw [← hZ]
  have hZ' := Lib.hid hZ
  clear hZ
  have hO := (Only.refl (fun _ => False) w).alloc (.cells c.cells.toArray 27)
  have hB := heap_new_at w (.cells c.cells.toArray 27) rfl
  obtain ⟨W1, hW1⟩ : ∃ W1, W1 = w.alloc (.cells c.cells.toArray 27) := ⟨_, rfl⟩
  rw [← hW1] at hB hO
  have hB' := Lib.hid hB
  have hO' := Lib.hid hO
  have hT' := Lib.hid (hT.new hO)
  have hlen' := Lib.hid hT.len
  have hilt : i < c.ta.n := by rw [← hT.len]; exact (List.getElem?_eq_some_iff.1 hi).1
  have hbt : (hasT c.ta.n (i : Int)) = true := by unfold hasT; simp; omega
  have hq := Lib.hid (fun W => has_any W c (i : Int))
  rw [hbt] at hq
  obtain ⟨q, hqq⟩ : ∃ q, q = w.heap.size := ⟨_, rfl⟩
  have hqq' := Lib.hid hqq
  rw [← hqq] at hB'
  have hi' := Lib.hid hi
  clear hT hB hO hi hbt hqq
  rw [show c.val = .agg #[.int .i64 c.s, .int .i64 c.wy, .int .i64 c.h, .int .i64 c.mi, .slice c.mb.A c.mb.n c.mb.cap, .int .i64 c.g, .slice c.cn.A c.cn.n c.cn.cap, .slice c.ce.A c.ce.n c.ce.cap, .slice c.ta.A c.ta.n c.ta.cap, .slice c.li.A c.li.n c.li.cap] from rfl] at hq ⊢
  unfold ConfV.cells at hW1 hB'
  obtain ⟨s, wy, h, mi, ⟨mA, mn, mc⟩, g, ⟨cA, cn, cc⟩, ⟨eA, en, ec⟩, ⟨tA, n, tc⟩, ⟨lA, ln, lc⟩⟩ := c
  dsimp only at *
  have hW1' := Lib.hid hW1
  clear hW1
  have hilt' : (i : Int) < (n : Int) := by omega
  go_enter Tryz.func113, Tryz.ntmps113
  have e0 := row_cell hB'.out (i := 0) rfl
  have e1 := row_cell hB'.out (i := 1) rfl
  have e2 := row_cell hB'.out (i := 2) rfl
  have e3 := row_cell hB'.out (i := 3) rfl
  have e4 := row_cell hB'.out (i := 4) rfl
  have e5 := row_cell hB'.out (i := 5) rfl
  have e6 := row_cell hB'.out (i := 6) rfl
  have e7 := row_cell hB'.out (i := 7) rfl
  have e8 := row_cell hB'.out (i := 8) rfl
  have e9 := row_cell hB'.out (i := 9) rfl
  have hqlt := row_lt hB'.out
  go_wp2_with fail
  rw [← hqq'.out, ← hW1'.out]
  go_wp2_with fail
  refine (hq.out _).mono ?_
  rintro e W2 ⟨rfl, hOx⟩
  have hO2' := Lib.hid (hO'.out.trans' hOx)
  have hB2 := Lib.hid (hOx.heap hB'.out (fun h => h))
  have hT2 := Lib.hid (hT'.out.new hOx)
  clear e0 e1 e2 e3 e4 e5 e6 e7 e8 e9 hqlt hOx
  have e8 := row_cell hB2.out (i := 8) rfl
  have hqlt := row_lt hB2.out
  go_wp2
  clear e8 hqlt
  go_loopw [5, 15] (fun v i' wr => ∃ (k m : Nat) (p : Option Addr) (cp : Nat) (hh : Option Nat), k ≤ n ∧ m ≤ k ∧ i' = .int .i64 k ∧ v = .slice p m cp ∧ m = (aboU ts ti.th k).length ∧ Win wr 3 1 (.slice p m cp) hh m (dat (aboU ts ti.th k)) ∧ (∀ b, hh = some b → W2.heap.size ≤ b) ∧ Only (fun _ => False) W2 wr) (fun _ i' _ => n - (intOf i').toNat)
  case atStart => exact ⟨0, 0, none, 0, none, Nat.zero_le _, Nat.le_refl _, rfl, rfl, rfl, Win.nil _ _ _, (fun b hb => by cases hb), Only.refl _ _⟩
  case round =>
    obtain ⟨k, m, p, cp, hh, hk, hmk, rfl, rfl, hml, hW, hf, hO⟩ := hrel
    obtain ⟨ws, hws⟩ : ∃ ws : World, ws = wr := ⟨_, rfl⟩
    subst hws
    have hW' := Lib.hid hW
    have hf' := Lib.hid hf
    have hO' := Lib.hid hO
    have hml' := Lib.hid hml
    have hbs := Lib.hid (hO.heap hB2.out (fun h => h))
    have e8 := row_cell hbs.out (i := 8) rfl
    have hqlt := row_lt hbs.out
    clear hW hf hO hml
    by_cases hkn : k < n
    · have hkn' : (k : Int) < (n : Int) := by omega
      obtain ⟨t, ht⟩ : ∃ t, ts[k]? = some t := ⟨_, List.getElem?_eq_getElem (by have := hlen'.out; omega)⟩
      obtain ⟨b, off, hA, hb, hC⟩ := (hT2.out.new hO'.out).at_ k t ht
      obtain ⟨b2, off2, hA2, hb2, hC2⟩ := (hT2.out.new hO'.out).at_ i ti hi'.out
      rw [hA] at hA2
      cases hA2
      simp only at hA
      subst hA
      have htp := prio_at ht
      have hsu := Lib.hid (aboU_succ ts ti.th k)
      rw [htp] at hsu
      obtain ⟨c0, c1, c2, c3, c4, c5, c6⟩ := hC
      have d1 := hC2.c1
      obtain ⟨T, hT⟩ : ∃ T, T = ti.th := ⟨_, rfl⟩
      rw [← hT] at hsu d1 hW' hml'
      clear hC2 ht htp
      obtain ⟨tp, tth, tpe, tde, tfr, tfl, ⟨oA, on, oc⟩⟩ := t
      simp only at *
      have hOa := Lib.hid ((Only.refl (fun _ => False) ws).alloc (.cells #[.int .i64 tp, .int .i64 tth, .int .i64 tpe, .int .i64 tde, .int .i64 tfr, .int .i64 tfl, .slice oA on oc] 49))
      have hWa := Lib.hid (hW'.out.kept hOa.out (fun _ _ h => h))
      by_cases hlt : T < tp
      · rw [if_pos hlt] at hsu
        go_wp2
        go_quiet (fail)
        go_wp2_with (at_builtin; (refine wpList_append_win rfl _ _ 24 rfl 3 (Value.int .i64 0) 1 8 Tryz.underlying24 info3 rfl (by decide) rfl ((hWa.out.same (by first | rfl | exact drewN_heap _ _)).kept ((Only.refl (fun _ => False) _).alloc _) (fun _ _ h => h)) _ 1 1 rfl [.int .i64 (k : Int)] rfl (fun _ => ⟨_, rfl, row_one (heap_new_at _ _ (by simp [World.drewN]))⟩) (by simp [Value.oneCell']) (by unfold maxLen; omega) (by omega) ?_; intro v4 w6 h4 hW4 hO4' hh4; obtain ⟨p4, c4', rfl, _, _⟩ := hW4.out.form))
        go_roundw
        case rel =>
          refine ⟨k + 1, m + 1, p4, c4', h4, by omega, by omega, by go_num, rfl, ?_, ?_, fun x hx => ?_, ?_⟩
          · rw [← hT, hsu.out, List.length_append, ← hml'.out]; rfl
          · rw [← hT, hsu.out]
            have := hW4.out
            rw [show [Value.int .i64 (k : Int)] = dat [k] from rfl, dat_append] at this
            exact this
          · rcases hh4.out with rfl | ⟨g5, hg5, hge5⟩
            · exact hf'.out x hx
            · rw [hg5] at hx
              cases hx
              have h7 := hO'.out.size
              simp [World.drewN] at hge5
              omega
          · exact (((hO'.out.trans' hOa.out).drewN _).alloc _).trans hO4'.out (fun x hx e => by
              have h7 := hf'.out x e.symm
              omega)
        case measure => simp [intOf]; omega
      · rw [if_neg hlt, List.append_nil] at hsu
        go_wp2
        go_quiet (fail)
        go_wp2
        go_roundw
        case rel =>
          refine ⟨k + 1, m, p, cp, hh, by omega, by omega, by go_num, rfl, by rw [← hT, hsu.out]; exact hml'.out, ?_, hf'.out, (hO'.out.trans' hOa.out).drewN _⟩
          rw [← hT, hsu.out]
          exact hWa.out.same (by first | rfl | exact drewN_heap _ _)
        case measure => simp [intOf]; omega
    · obtain rfl : k = n := by omega
      have hkn' : ¬ (k : Int) < (k : Int) := by omega
      have hfin : Z (.returned (.slice p m cp)) ws := by
        rw [hZ'.out]
        have h7 := hW'.out
        have h8 := hml'.out
        subst h8
        exact ⟨p, cp, hh, rfl, h7, fun b hb => Nat.le_trans hO2'.out.size (hf'.out b hb), hO2'.out.trans' hO'.out⟩
      have hfin' := Lib.hid hfin
      clear hfin
      go_wp2
      exact hfin'.out

set_option maxRecDepth 100000 in
set_option maxHeartbeats 2000000 in
theorem rabove_any {w : World} {c : ConfV} {ts : List TaskV} (hT : TasksAt w c.ta ts) (hs9 : c.ta.n ≤ 1000000) {i : Nat} {ti : TaskV} (hi : ts[i]? = some ti) :
    Calls Tryz.prog 87 #[c.val, .int .i64 (i : Int)] w (RowEnd w (aboU ts ti.th c.ta.n)) := by
  obtain ⟨Z, hZ⟩ : ∃ Z, Z = RowEnd w (aboU ts ti.th c.ta.n) := ⟨_, rfl⟩
  rw [← hZ]
  have hZ' := Lib.hid hZ
  clear hZ
  have hO := (Only.refl (fun _ => False) w).alloc (.cells c.cells.toArray 27)
  have hB := heap_new_at w (.cells c.cells.toArray 27) rfl
  obtain ⟨W1, hW1⟩ : ∃ W1, W1 = w.alloc (.cells c.cells.toArray 27) := ⟨_, rfl⟩
  rw [← hW1] at hB hO
  have hB' := Lib.hid hB
  have hO' := Lib.hid hO
  have hT' := Lib.hid (hT.new hO)
  have hlen' := Lib.hid hT.len
  have hilt : i < c.ta.n := by rw [← hT.len]; exact (List.getElem?_eq_some_iff.1 hi).1
  have hbt : (hasT c.ta.n (i : Int)) = true := by unfold hasT; simp; omega
  have hq := Lib.hid (fun W => has_any W c (i : Int))
  rw [hbt] at hq
  obtain ⟨q, hqq⟩ : ∃ q, q = w.heap.size := ⟨_, rfl⟩
  have hqq' := Lib.hid hqq
  rw [← hqq] at hB'
  have hi' := Lib.hid hi
  clear hT hB hO hi hbt hqq
  rw [show c.val = .agg #[.int .i64 c.s, .int .i64 c.wy, .int .i64 c.h, .int .i64 c.mi, .slice c.mb.A c.mb.n c.mb.cap, .int .i64 c.g, .slice c.cn.A c.cn.n c.cn.cap, .slice c.ce.A c.ce.n c.ce.cap, .slice c.ta.A c.ta.n c.ta.cap, .slice c.li.A c.li.n c.li.cap] from rfl] at hq ⊢
  unfold ConfV.cells at hW1 hB'
  obtain ⟨s, wy, h, mi, ⟨mA, mn, mc⟩, g, ⟨cA, cn, cc⟩, ⟨eA, en, ec⟩, ⟨tA, n, tc⟩, ⟨lA, ln, lc⟩⟩ := c
  dsimp only at *
  have hW1' := Lib.hid hW1
  clear hW1
  have hilt' : (i : Int) < (n : Int) := by omega
  go_enter Tryz.func87, Tryz.ntmps87
  obtain ⟨W2, hW2⟩ : ∃ W2, W2 = W1 := ⟨_, rfl⟩
  have hO2' := Lib.hid hO'.out
  have hB2 := Lib.hid hB'.out
  have hT2 := Lib.hid hT'.out
  rw [← hW2] at hO2' hB2 hT2
  have hW2' := Lib.hid hW2
  clear hW2
  have e8 := row_cell hB2.out (i := 8) rfl
  have hqlt := row_lt hB2.out
  go_wp2
  rw [← hqq'.out, ← hW1'.out, ← hW2'.out]
  go_wp2
  clear e8 hqlt
  go_loopw [5, 11] (fun v i' wr => ∃ (k m : Nat) (p : Option Addr) (cp : Nat) (hh : Option Nat), k ≤ n ∧ m ≤ k ∧ i' = .int .i64 k ∧ v = .slice p m cp ∧ m = (aboU ts ti.th k).length ∧ Win wr 3 1 (.slice p m cp) hh m (dat (aboU ts ti.th k)) ∧ (∀ b, hh = some b → W2.heap.size ≤ b) ∧ Only (fun _ => False) W2 wr) (fun _ i' _ => n - (intOf i').toNat)
  case atStart => exact ⟨0, 0, none, 0, none, Nat.zero_le _, Nat.le_refl _, rfl, rfl, rfl, Win.nil _ _ _, (fun b hb => by cases hb), Only.refl _ _⟩
  case round =>
    obtain ⟨k, m, p, cp, hh, hk, hmk, rfl, rfl, hml, hW, hf, hO⟩ := hrel
    obtain ⟨ws, hws⟩ : ∃ ws : World, ws = wr := ⟨_, rfl⟩
    subst hws
    have hW' := Lib.hid hW
    have hf' := Lib.hid hf
    have hO' := Lib.hid hO
    have hml' := Lib.hid hml
    have hbs := Lib.hid (hO.heap hB2.out (fun h => h))
    have e8 := row_cell hbs.out (i := 8) rfl
    have hqlt := row_lt hbs.out
    clear hW hf hO hml
    by_cases hkn : k < n
    · have hkn' : (k : Int) < (n : Int) := by omega
      obtain ⟨t, ht⟩ : ∃ t, ts[k]? = some t := ⟨_, List.getElem?_eq_getElem (by have := hlen'.out; omega)⟩
      obtain ⟨b, off, hA, hb, hC⟩ := (hT2.out.new hO'.out).at_ k t ht
      obtain ⟨b2, off2, hA2, hb2, hC2⟩ := (hT2.out.new hO'.out).at_ i ti hi'.out
      rw [hA] at hA2
      cases hA2
      simp only at hA
      subst hA
      have htp := prio_at ht
      have hsu := Lib.hid (aboU_succ ts ti.th k)
      rw [htp] at hsu
      obtain ⟨c0, c1, c2, c3, c4, c5, c6⟩ := hC
      have d1 := hC2.c1
      obtain ⟨T, hT⟩ : ∃ T, T = ti.th := ⟨_, rfl⟩
      rw [← hT] at hsu d1 hW' hml'
      clear hC2 ht htp
      obtain ⟨tp, tth, tpe, tde, tfr, tfl, ⟨oA, on, oc⟩⟩ := t
      simp only at *
      have hOa := Lib.hid ((Only.refl (fun _ => False) ws).alloc (.cells #[.int .i64 tp, .int .i64 tth, .int .i64 tpe, .int .i64 tde, .int .i64 tfr, .int .i64 tfl, .slice oA on oc] 49))
      have hWa := Lib.hid (hW'.out.kept hOa.out (fun _ _ h => h))
      by_cases hlt : T < tp
      · rw [if_pos hlt] at hsu
        go_wp2
        go_quiet (fail)
        go_wp2_with (at_builtin; (refine wpList_append_win rfl _ _ 24 rfl 3 (Value.int .i64 0) 1 8 Tryz.underlying24 info3 rfl (by decide) rfl ((hWa.out.same (by first | rfl | exact drewN_heap _ _)).kept ((Only.refl (fun _ => False) _).alloc _) (fun _ _ h => h)) _ 1 1 rfl [.int .i64 (k : Int)] rfl (fun _ => ⟨_, rfl, row_one (heap_new_at _ _ (by simp [World.drewN]))⟩) (by simp [Value.oneCell']) (by unfold maxLen; omega) (by omega) ?_; intro v4 w6 h4 hW4 hO4' hh4; obtain ⟨p4, c4', rfl, _, _⟩ := hW4.out.form))
        go_roundw
        case rel =>
          refine ⟨k + 1, m + 1, p4, c4', h4, by omega, by omega, by go_num, rfl, ?_, ?_, fun x hx => ?_, ?_⟩
          · rw [← hT, hsu.out, List.length_append, ← hml'.out]; rfl
          · rw [← hT, hsu.out]
            have := hW4.out
            rw [show [Value.int .i64 (k : Int)] = dat [k] from rfl, dat_append] at this
            exact this
          · rcases hh4.out with rfl | ⟨g5, hg5, hge5⟩
            · exact hf'.out x hx
            · rw [hg5] at hx
              cases hx
              have h7 := hO'.out.size
              simp [World.drewN] at hge5
              omega
          · exact (((hO'.out.trans' hOa.out).drewN _).alloc _).trans hO4'.out (fun x hx e => by
              have h7 := hf'.out x e.symm
              omega)
        case measure => simp [intOf]; omega
      · rw [if_neg hlt, List.append_nil] at hsu
        go_wp2
        go_quiet (fail)
        go_wp2
        go_roundw
        case rel =>
          refine ⟨k + 1, m, p, cp, hh, by omega, by omega, by go_num, rfl, by rw [← hT, hsu.out]; exact hml'.out, ?_, hf'.out, (hO'.out.trans' hOa.out).drewN _⟩
          rw [← hT, hsu.out]
          exact hWa.out.same (by first | rfl | exact drewN_heap _ _)
        case measure => simp [intOf]; omega
    · obtain rfl : k = n := by omega
      have hkn' : ¬ (k : Int) < (k : Int) := by omega
      have hfin : Z (.returned (.slice p m cp)) ws := by
        rw [hZ'.out]
        have h7 := hW'.out
        have h8 := hml'.out
        subst h8
        exact ⟨p, cp, hh, rfl, h7, fun b hb => Nat.le_trans hO2'.out.size (hf'.out b hb), hO2'.out.trans' hO'.out⟩
      have hfin' := Lib.hid hfin
      clear hfin
      go_wp2
      exact hfin'.out

/-- Of no task: nothing. -/
theorem above_none {w : World} {c : ConfV} {z : Int} (hz : hasT c.ta.n z = false) : Calls Tryz.prog 113 #[c.val, .int .i64 z] w (fun e w' => e = .returned (.slice none 0 0) ∧ Only (fun _ => False) w w') := by
  have hO := (Only.refl (fun _ => False) w).alloc (.cells c.cells.toArray 27)
  have hB := heap_new_at w (.cells c.cells.toArray 27) rfl
  obtain ⟨W1, hW1⟩ : ∃ W1, W1 = w.alloc (.cells c.cells.toArray 27) := ⟨_, rfl⟩
  rw [← hW1] at hB hO
  have hO' := Lib.hid hO
  have hq := Lib.hid (fun W => has_any W c z)
  rw [hz] at hq
  have e0 := row_cell hB (i := 0) rfl
  have e1 := row_cell hB (i := 1) rfl
  have e2 := row_cell hB (i := 2) rfl
  have e3 := row_cell hB (i := 3) rfl
  have e4 := row_cell hB (i := 4) rfl
  have e5 := row_cell hB (i := 5) rfl
  have e6 := row_cell hB (i := 6) rfl
  have e7 := row_cell hB (i := 7) rfl
  have e8 := row_cell hB (i := 8) rfl
  have e9 := row_cell hB (i := 9) rfl
  have hqlt := row_lt hB
  clear hB hO hz
  rw [show c.val = .agg #[.int .i64 c.s, .int .i64 c.wy, .int .i64 c.h, .int .i64 c.mi, .slice c.mb.A c.mb.n c.mb.cap, .int .i64 c.g, .slice c.cn.A c.cn.n c.cn.cap, .slice c.ce.A c.ce.n c.ce.cap, .slice c.ta.A c.ta.n c.ta.cap, .slice c.li.A c.li.n c.li.cap] from rfl] at hq ⊢
  unfold ConfV.cells at hW1
  obtain ⟨s, wy, h, mi, ⟨mA, mn, mc⟩, g, ⟨cA, cn, cc⟩, ⟨eA, en, ec⟩, ⟨tA, n, tc⟩, ⟨lA, ln, lc⟩⟩ := c
  dsimp only at *
  have hW1' := Lib.hid hW1
  clear hW1
  go_enter Tryz.func113, Tryz.ntmps113
  go_wp2_with fail
  rw [← hW1'.out]
  go_wp2_with fail
  refine (hq.out _).mono ?_
  rintro e W2 ⟨rfl, hOx⟩
  have hO2' := Lib.hid (hO'.out.trans' hOx)
  clear hOx
  go_wp2
  go_ret
  exact ⟨rfl, hO2'.out⟩
end Rld
end Go.Proofs.YtlbinlhaejhobaaGreatDoor
/- Layer 1's numbers, the program's and the document's: contracts. -/
namespace Go.Proofs.YtlbinlhaejhobaaGreatDoor
namespace Bch
open Go Go.RowKit
theorem ret_u {k : IntKind} {a b : Int} (h : a = b) : Ending.returned (.int k a) = .returned (.int k b) := by rw [h]

def sA (a b : Nat) : Nat := if 18446744073709551615 < a + b then 18446744073709551615 else a + b
def sM (a b : Nat) : Nat := if 18446744073709551615 < a * b then 18446744073709551615 else a * b
def sC (a b : Nat) : Nat := if a = 0 then 0 else if b = 0 ∨ a = 18446744073709551615 then 18446744073709551615 else (a - 1) / b + 1
theorem sA_le (a b : Nat) : sA a b ≤ 18446744073709551615 := by unfold sA; split <;> omega
theorem sM_le (a b : Nat) : sM a b ≤ 18446744073709551615 := by unfold sM; split <;> omega
theorem sC_le {a b : Nat} (ha : a ≤ 18446744073709551615) : sC a b ≤ 18446744073709551615 := by
  unfold sC
  split
  · omega
  · split
    · omega
    · have := Nat.div_le_self (a - 1) b
      omega

abbrev U (n : Nat) : Value := .int .u64 (n : Int)

theorem add_any (a b : Nat) (w : World) (ha : a ≤ 18446744073709551615) (hb : b ≤ 18446744073709551615) :
    Calls Tryz.prog 46 #[U a, U b] w fun e w' => e = .returned (U (sA a b)) ∧ w' = w := by
  by_cases h : 18446744073709551615 < a + b
  · have hw : IntKind.u64.wrap ((a : Int) + b) = (a : Int) + b - 18446744073709551616 := by rw [IntKind.wrap_u64]; omega
    have h' : (a : Int) + b - 18446744073709551616 < a := by omega
    go_enter Tryz.func46, Tryz.ntmps46
    go_wp2
    go_ret
    exact ⟨ret_u (by rw [sA, if_pos h]; rfl), rfl⟩
  · have h' : ¬ (a : Int) + b < a := by omega
    go_enter Tryz.func46, Tryz.ntmps46
    go_wp2
    go_ret
    exact ⟨ret_u (by rw [sA, if_neg (by omega)]; omega), rfl⟩
theorem radd_any (a b : Nat) (w : World) (ha : a ≤ 18446744073709551615) (hb : b ≤ 18446744073709551615) :
    Calls Tryz.prog 21 #[U a, U b] w fun e w' => e = .returned (U (sA a b)) ∧ w' = w := by
  by_cases h : 18446744073709551615 < a + b
  · have h' : 18446744073709551615 - (b : Int) < a := by omega
    go_enter Tryz.func21, Tryz.ntmps21
    go_wp2
    go_ret
    exact ⟨ret_u (by rw [sA, if_pos h]; rfl), rfl⟩
  · have h' : ¬ 18446744073709551615 - (b : Int) < a := by omega
    go_enter Tryz.func21, Tryz.ntmps21
    go_wp2
    go_ret
    exact ⟨ret_u (by rw [sA, if_neg (by omega)]; omega), rfl⟩

namespace Mul64
theorem maskN (a : Nat) (ha : a < 18446744073709551616) : bits .and .u64 (a : Int) 4294967295 = ((a % 4294967296 : Nat) : Int) := by
  have h := bits_and_u64_nat a 4294967295 ha (by omega)
  have e : a &&& 4294967295 = a % 4294967296 := Nat.and_two_pow_sub_one_eq_mod a 32
  rw [e] at h
  exact h
theorem divN (a : Nat) : (a : Int) / 4294967296 = ((a / 4294967296 : Nat) : Int) := by omega
theorem mulN (a b : Nat) : (a : Int) * (b : Int) = ((a * b : Nat) : Int) := (Int.natCast_mul a b).symm
theorem addN (a b : Nat) : (a : Int) + (b : Int) = ((a + b : Nat) : Int) := (Int.natCast_add a b).symm
theorem wrapN (a : Nat) (ha : a < 18446744073709551616) : IntKind.u64.wrap (a : Int) = (a : Int) := by rw [IntKind.wrap_u64]; omega
theorem wrapM (a : Nat) : IntKind.u64.wrap (a : Int) = ((a % 18446744073709551616 : Nat) : Int) := by rw [IntKind.wrap_u64]; omega
end Mul64
set_option maxHeartbeats 1000000 in
theorem mul64_any (x y : Nat) (hx : x < 18446744073709551616) (hy : y < 18446744073709551616) (w : World) :
    Calls Tryz.prog 80 #[U x, U y] w fun e w' => e = .returned (.tuple #[U (x * y / 18446744073709551616), U (x * y % 18446744073709551616)]) ∧ w' = w := by
  obtain ⟨bd, bt, bw, hhi⟩ := Lib.mul64_hi x y hx hy
  have ba := Lib.half_mul_le (a := x / 4294967296) (b := y / 4294967296) (by omega) (by omega)
  have bb := Lib.half_mul_le (a := x / 4294967296) (b := y % 4294967296) (by omega) (by omega)
  have bc := Lib.half_mul_le (a := x % 4294967296) (b := y / 4294967296) (by omega) (by omega)
  have ba' : x / 4294967296 * (y / 4294967296) < 18446744073709551616 := by omega
  have bb' : x / 4294967296 * (y % 4294967296) < 18446744073709551616 := by omega
  have bc' : x % 4294967296 * (y / 4294967296) < 18446744073709551616 := by omega
  have bh1 : x / 4294967296 * (y / 4294967296) + (x / 4294967296 * (y % 4294967296) + x % 4294967296 * (y % 4294967296) / 4294967296) / 4294967296 < 18446744073709551616 := by omega
  have bh : x / 4294967296 * (y / 4294967296) + (x / 4294967296 * (y % 4294967296) + x % 4294967296 * (y % 4294967296) / 4294967296) / 4294967296 + ((x / 4294967296 * (y % 4294967296) + x % 4294967296 * (y % 4294967296) / 4294967296) % 4294967296 + x % 4294967296 * (y / 4294967296)) / 4294967296 < 18446744073709551616 := by omega
  unfold U
  go_enter Tryz.func80, Tryz.ntmps80
  go_wp2
  simp only [Mul64.maskN x hx, Mul64.maskN y hy, Mul64.divN, Mul64.mulN, Mul64.addN, Mul64.wrapN _ bd, Mul64.wrapN _ bb', Mul64.wrapN _ bt, Mul64.maskN _ bt, Mul64.wrapN _ bc', Mul64.wrapN _ bw, Mul64.wrapN _ ba', Mul64.wrapN _ bh1, Mul64.wrapN _ bh, Mul64.wrapM (x * y)]
  rw [hhi]
  go_ret2
  exact ⟨rfl, rfl⟩
theorem mul_any (a b : Nat) (w : World) (ha : a ≤ 18446744073709551615) (hb : b ≤ 18446744073709551615) :
    Calls Tryz.prog 47 #[U a, U b] w fun e w' => e = .returned (U (sM a b)) ∧ w' = w := by
  have hc := fun W => mul64_any a b (by omega) (by omega) W
  obtain ⟨h, hh⟩ : ∃ h, h = a * b / 18446744073709551616 := ⟨_, rfl⟩
  obtain ⟨l, hl⟩ : ∃ l, l = a * b % 18446744073709551616 := ⟨_, rfl⟩
  rw [← hh, ← hl] at hc
  have hc' := Lib.hid hc
  by_cases h0 : h = 0
  · have e0 : l = sM a b := by unfold sM; rw [if_neg (by omega)]; omega
    clear hc hh hl
    subst h0
    go_enter Tryz.func47, Tryz.ntmps47
    go_wp2_with (go_at_call 80; refine (hc'.out _).mono ?_; rintro e w' ⟨rfl, hw⟩; rw [hw])
    go_ret
    exact ⟨rfl, rfl⟩
  · have e0 : sM a b = 18446744073709551615 := by unfold sM; rw [if_pos (by omega)]
    have h1 : ((h : Int) == 0) = false := by simpa using h0
    clear hc hh hl
    go_enter Tryz.func47, Tryz.ntmps47
    go_wp2_with (go_at_call 80; refine (hc'.out _).mono ?_; rintro e w' ⟨rfl, hw⟩; rw [hw])
    go_ret
    exact ⟨ret_u (by rw [e0]; rfl), rfl⟩
theorem ceil_any (a b : Nat) (w : World) (ha : a ≤ 18446744073709551615) (hb : b ≤ 18446744073709551615) :
    Calls Tryz.prog 120 #[U a, U b] w fun e w' => e = .returned (U (sC a b)) ∧ w' = w := by
  by_cases h0 : a = 0
  · subst h0
    go_enter Tryz.func120, Tryz.ntmps120
    go_wp2
    go_ret
    exact ⟨ret_u (by rw [sC, if_pos rfl]; rfl), rfl⟩
  have h0' : ((a : Int) == 0) = false := by simpa using h0
  by_cases h1 : b = 0
  · subst h1
    go_enter Tryz.func120, Tryz.ntmps120
    go_wp2
    go_ret
    exact ⟨ret_u (by rw [sC, if_neg h0, if_pos (.inl rfl)]; rfl), rfl⟩
  have h1' : ((b : Int) == 0) = false := by simpa using h1
  by_cases h2 : a = 18446744073709551615
  · subst h2
    go_enter Tryz.func120, Tryz.ntmps120
    go_wp2
    go_ret
    exact ⟨ret_u (by rw [sC, if_neg h0, if_pos (.inr rfl)]; rfl), rfl⟩
  have h2' : ((a : Int) == 18446744073709551615) = false := by simp; omega
  obtain ⟨q, hq⟩ : ∃ q, q = (a - 1) / b := ⟨_, rfl⟩
  have hqa : q ≤ a - 1 := by rw [hq]; exact Nat.div_le_self _ _
  have hq' : ((a : Int) - 1) / (b : Int) = (q : Int) := by
    rw [hq, show (a : Int) - 1 = ((a - 1 : Nat) : Int) by omega]; rfl
  have hs : sC a b = q + 1 := by rw [sC, if_neg h0, if_neg (by omega), hq]
  have hb0 : (b : Int) ≠ 0 := by omega
  clear hq
  go_enter Tryz.func120, Tryz.ntmps120
  go_wp2
  go_ret
  exact ⟨ret_u (by rw [hs]; rfl), rfl⟩
theorem rceil_any (a b : Nat) (w : World) (ha : a ≤ 18446744073709551615) (hb : b ≤ 18446744073709551615) :
    Calls Tryz.prog 88 #[U a, U b] w fun e w' => e = .returned (U (sC a b)) ∧ w' = w := by
  by_cases h0 : a = 0
  · subst h0
    go_enter Tryz.func88, Tryz.ntmps88
    go_wp2
    go_ret
    exact ⟨ret_u (by rw [sC, if_pos rfl]; rfl), rfl⟩
  have h0' : ((a : Int) == 0) = false := by simpa using h0
  by_cases h1 : b = 0
  · subst h1
    go_enter Tryz.func88, Tryz.ntmps88
    go_wp2
    go_ret
    exact ⟨ret_u (by rw [sC, if_neg h0, if_pos (.inl rfl)]; rfl), rfl⟩
  have h1' : ((b : Int) == 0) = false := by simpa using h1
  by_cases h2 : a = 18446744073709551615
  · subst h2
    go_enter Tryz.func88, Tryz.ntmps88
    go_wp2
    go_ret
    exact ⟨ret_u (by rw [sC, if_neg h0, if_pos (.inr rfl)]; rfl), rfl⟩
  have h2' : ((a : Int) == 18446744073709551615) = false := by simp; omega
  obtain ⟨q, hq⟩ : ∃ q, q = a / b := ⟨_, rfl⟩
  have hqa : q ≤ a := by rw [hq]; exact Nat.div_le_self _ _
  have hq' : (a : Int) / (b : Int) = (q : Int) := by rw [hq]; rfl
  obtain ⟨m, hm⟩ : ∃ m, m = q * b := ⟨_, rfl⟩
  have hm' : (q : Int) * (b : Int) = (m : Int) := by rw [hm]; simp
  have hml : m ≤ a := by rw [hm, hq]; exact Nat.div_mul_le_self _ _
  have hb0 : (b : Int) ≠ 0 := by omega
  have hdm := Nat.div_add_mod a b
  rw [← hq, Nat.mul_comm, ← hm] at hdm
  have hmod := Nat.mod_lt a (Nat.pos_of_ne_zero h1)
  by_cases h3 : m = a
  · have hs : sC a b = q := by
      rw [sC, if_neg h0, if_neg (by omega)]
      have h4 : (a - 1) / b = q - 1 := by
        rw [Nat.div_eq_iff (by omega)]
        have : 0 < q := by
          rcases Nat.eq_zero_or_pos q with rfl | h; · simp at hm; omega
          · exact h
        obtain ⟨q', rfl⟩ : ∃ q', q = q' + 1 := ⟨q - 1, by omega⟩
        rw [Nat.add_mul] at hm
        simp
        omega
      have : 0 < q := by
        rcases Nat.eq_zero_or_pos q with rfl | h; · simp at hm; omega
        · exact h
      omega
    have h3' : ((m : Int) != a) = false := by simp [h3]
    clear hq hm hdm hmod h3
    go_enter Tryz.func88, Tryz.ntmps88
    go_wp2
    go_ret
    exact ⟨ret_u (by rw [hs]), rfl⟩
  · have hs : sC a b = q + 1 := by
      rw [sC, if_neg h0, if_neg (by omega)]
      have h4 : (a - 1) / b = q := by
        rw [Nat.div_eq_iff (by omega)]
        omega
      omega
    have h3' : ((m : Int) != a) = true := by simp; omega
    have hqa' : q < 18446744073709551615 := by omega
    clear hq hm hdm hmod
    go_enter Tryz.func88, Tryz.ntmps88
    go_wp2
    go_ret
    exact ⟨ret_u (by rw [hs]; rfl), rfl⟩
theorem sM_half (a b : Nat) : sA (sM a b) (sM a b) = sM a (2 * b) := by
  have e : a * (2 * b) = a * b + a * b := by rw [Nat.mul_left_comm]; omega
  unfold sA sM
  rw [e]
  repeat' split
  all_goals omega
theorem sM_one (a b : Nat) : sA a (sM a b) = sM a (b + 1) := by
  have e : a * (b + 1) = a * b + a := by rw [Nat.mul_add]; omega
  unfold sA sM
  rw [e]
  repeat' split
  all_goals omega
set_option maxHeartbeats 400000 in
theorem rmul_any (a : Nat) (ha : a ≤ 18446744073709551615) : ∀ (n b : Nat) (w : World), b ≤ n → b ≤ 18446744073709551615 →
    Calls Tryz.prog 22 #[U a, U b] w fun e w' => e = .returned (U (sM a b)) ∧ w' = w := by
  intro n
  induction n with
  | zero =>
    intro b w hn hb
    obtain rfl : b = 0 := by omega
    by_cases h0 : a = 0
    · subst h0
      go_enter Tryz.func22, Tryz.ntmps22
      go_wp2
      go_ret
      exact ⟨rfl, rfl⟩
    have h0' : ((a : Int) == 0) = false := by simpa using h0
    go_enter Tryz.func22, Tryz.ntmps22
    go_wp2
    go_ret
    exact ⟨rfl, rfl⟩
  | succ n ih =>
    intro b w hn hb
    by_cases h0 : a = 0
    · subst h0
      go_enter Tryz.func22, Tryz.ntmps22
      go_wp2
      go_ret
      exact ⟨ret_u (by simp [sM]), rfl⟩
    have h0' : ((a : Int) == 0) = false := by simpa using h0
    by_cases h1 : b = 0
    · subst h1
      go_enter Tryz.func22, Tryz.ntmps22
      go_wp2
      go_ret
      exact ⟨rfl, rfl⟩
    have h1' : ((b : Int) == 0) = false := by simpa using h1
    by_cases h2 : b % 2 = 0
    · obtain ⟨k, rfl⟩ : ∃ k, b = 2 * k := ⟨b / 2, by omega⟩
      have hi := Lib.hid (ih k w (by omega) (by omega))
      have h2' : ((2 * k : Nat) : Int) % 2 = 0 := by simp
      have h3' : (((2 * k : Nat) : Int) / 2) = (k : Int) := by omega
      have hle := sM_le a k
      have hr := radd_any (sM a k) (sM a k) w hle hle
      rw [sM_half] at hr
      obtain ⟨s, hs⟩ : ∃ s, s = sM a k := ⟨_, rfl⟩
      rw [← hs] at hi hr hle
      have hr' := Lib.hid hr
      clear hr h2 hs
      obtain ⟨B, hB⟩ : ∃ B, B = 2 * k := ⟨_, rfl⟩
      rw [← hB] at h1 h1' h2' h3' ⊢ hr'
      clear hB ih hn
      go_enter Tryz.func22, Tryz.ntmps22
      go_wp2_with (first | (go_at_call 22; refine hi.out.mono ?_; rintro e w' ⟨rfl, hw⟩; rw [hw]) | (go_at_call 21; refine hr'.out.mono ?_; rintro e w' ⟨rfl, hw⟩; rw [hw]))
      go_ret
      exact ⟨rfl, rfl⟩
    · obtain ⟨k, rfl⟩ : ∃ k, b = k + 1 := ⟨b - 1, by omega⟩
      have hi := Lib.hid (ih k w (by omega) (by omega))
      have h2' : ((k + 1 : Nat) : Int) % 2 = 1 := by omega
      have h3' : (((k + 1 : Nat) : Int) - 1) = (k : Int) := by omega
      have hle := sM_le a k
      have hr := radd_any a (sM a k) w ha hle
      rw [sM_one] at hr
      obtain ⟨s, hs⟩ : ∃ s, s = sM a k := ⟨_, rfl⟩
      rw [← hs] at hi hr hle
      have hr' := Lib.hid hr
      clear hr h2 hs
      obtain ⟨B, hB⟩ : ∃ B, B = k + 1 := ⟨_, rfl⟩
      rw [← hB] at h1 h1' h2' h3' ⊢ hr'
      clear hB ih hn
      go_enter Tryz.func22, Tryz.ntmps22
      go_wp2_with (first | (go_at_call 22; refine hi.out.mono ?_; rintro e w' ⟨rfl, hw⟩; rw [hw]) | (go_at_call 21; refine hr'.out.mono ?_; rintro e w' ⟨rfl, hw⟩; rw [hw]))
      go_ret
      exact ⟨rfl, rfl⟩
end Bch
end Go.Proofs.YtlbinlhaejhobaaGreatDoor
