/- Texts: rows of bytes, decimal digits, what Cut makes of texts, splitting at a byte. Speaks of no program. -/
import Derived.Test.YtgfgjbbpochiiaaDoorMem
import Derived.Lib.ItoaNum
import Derived.Lib.IndexMore
import Derived.Lib.AtoiAllCases
import Derived.Lib.AtoiAll
import Derived.ProofKit
namespace Go.Proofs.YtgfgjbbpochiiaaDoor
open Go Go.RowKit

def toBA (l : List UInt8) : ByteArray := ⟨l.toArray⟩
theorem toBA_size (l : List UInt8) : (toBA l).size = l.length := by simp [toBA, ByteArray.size]
theorem toBA_app (a b : List UInt8) : toBA a ++ toBA b = toBA (a ++ b) := by
  apply ByteArray.ext
  simp [toBA]
theorem toBA_of (s : ByteArray) : toBA s.data.toList = s := by
  cases s
  simp [toBA]
theorem toBA_list (l : List UInt8) : (toBA l).data.toList = l := by simp [toBA]
theorem toBA_inj {a b : List UInt8} (h : toBA a = toBA b) : a = b := by
  have := congrArg (fun s : ByteArray => s.data.toList) h
  simpa [toBA] using this
theorem toBA_nil : toBA [] = ⟨#[]⟩ := rfl
theorem extract_app (a b : List UInt8) : (toBA (a ++ b)).extract (toBA a).size (toBA (a ++ b)).size = toBA b := by
  have h : ((toBA (a ++ b)).extract (toBA a).size (toBA (a ++ b)).size).data = (toBA b).data := by
    rw [ByteArray.data_extract]
    show ((a ++ b).toArray).extract (toBA a).size (toBA (a ++ b)).size = b.toArray
    rw [toBA_size, toBA_size]
    simp
  cases hx : (toBA (a ++ b)).extract (toBA a).size (toBA (a ++ b)).size
  rw [hx] at h
  simp only at h
  subst h
  rfl
theorem beq_toBA (a b : List UInt8) : ((toBA a).toList == (toBA b).toList) = decide (a = b) := by
  rw [ByteArray.toList_eq, ByteArray.toList_eq, toBA_list, toBA_list]
  by_cases h : a = b
  · simp [h]
  · simp [h]

/-! ### Digits -/
/-- The number that digits tell, and what digits are. -/
def valD (l : List UInt8) : Int := l.foldl (fun n b => 10 * n + ((b.toNat : Int) - 48)) 0
def isDig (b : UInt8) : Prop := 48 ≤ b.toNat ∧ b.toNat ≤ 57
theorem valD_snoc (l : List UInt8) (b : UInt8) : valD (l ++ [b]) = 10 * valD l + ((b.toNat : Int) - 48) := by simp [valD, List.foldl_append]
theorem dig_byte {d : Nat} (h : d < 10) : (UInt8.ofNat (48 + d)).toNat = 48 + d := by
  rw [UInt8.toNat_ofNat']
  omega
theorem dec_dig (u : Nat) : ∀ b ∈ Lib.decDigits u, isDig b := by
  induction u using Nat.strongRecOn with
  | _ u ih =>
    intro b hb
    rw [Lib.decDigits] at hb
    split at hb
    · rename_i h
      rw [List.mem_singleton] at hb
      subst hb
      unfold isDig
      rw [dig_byte h]
      omega
    · rename_i h
      rcases List.mem_append.1 hb with hb | hb
      · exact ih (u / 10) (by omega) b hb
      · rw [List.mem_singleton] at hb
        subst hb
        unfold isDig
        rw [dig_byte (by omega)]
        omega
theorem dec_val (u : Nat) : valD (Lib.decDigits u) = (u : Int) := by
  induction u using Nat.strongRecOn with
  | _ u ih =>
    rw [Lib.decDigits]
    split
    · rename_i h
      show 10 * (0 : Int) + (((UInt8.ofNat (48 + u)).toNat : Int) - 48) = u
      rw [dig_byte h]
      omega
    · rename_i h
      rw [valD_snoc, ih (u / 10) (by omega), dig_byte (by omega)]
      omega
theorem dec_pos (u : Nat) : 1 ≤ (Lib.decDigits u).length := by
  rw [Lib.decDigits_length]
  exact Lib.nDigits_pos u
theorem dec_small : ∀ (k u : Nat), u < 10 ^ (k + 1) → (Lib.decDigits u).length ≤ k + 1
  | 0, u, h => by rw [Lib.decDigits_length, Lib.nDigits_small (by simpa using h)]; exact Nat.le_refl _
  | k + 1, u, h => by
    by_cases hu : u < 10
    · rw [Lib.decDigits_length, Lib.nDigits_small hu]
      omega
    · have := dec_small k (u / 10) (by rw [Nat.pow_succ] at h; omega)
      rw [Lib.decDigits_length] at this ⊢
      rw [Lib.nDigits_big hu]
      omega
theorem dec_nineteen {u : Nat} (h : u < 10 ^ 19) : (Lib.decDigits u).length ≤ 19 := dec_small 18 u (by simpa using h)
theorem dec_no (c : UInt8) (hc : c.toNat < 48 ∨ 57 < c.toNat) (u : Nat) : c ∉ Lib.decDigits u := fun h => by
  have := dec_dig u c h
  unfold isDig at this
  omega

/-! ### Numbers -/
def fitI (n : Int) : Prop := -9223372036854775808 ≤ n ∧ n ≤ 9223372036854775807
theorem itoa_len {n : Int} (h : fitI n) : (Lib.itoa n).length ≤ 20 := by
  unfold Lib.itoa fitI at *
  split
  · have := dec_nineteen (u := n.natAbs) (by omega)
    simp only [List.length_cons]
    omega
  · have := dec_nineteen (u := n.toNat) (by omega)
    omega
theorem itoa_pos (n : Int) : 1 ≤ (Lib.itoa n).length := by
  unfold Lib.itoa
  split
  · simp
  · exact dec_pos _
theorem itoa_no {n : Int} (c : UInt8) (hc : c.toNat < 45 ∨ 57 < c.toNat) : c ∉ Lib.itoa n := by
  unfold Lib.itoa
  split
  · rw [List.mem_cons, not_or]
    refine ⟨fun e => by subst e; revert hc; decide, dec_no c (by omega) _⟩
  · exact dec_no c (by omega) _
theorem parse_dec : ∀ (l : List UInt8) (acc : Nat), (∀ b ∈ l, isDig b) → ∀ m : Nat, (m : Int) = l.foldl (fun n b => 10 * n + ((b.toNat : Int) - 48)) (acc : Int) → m < 18446744073709551616 → Lib.parseUint10 acc l = .ok m
  | [], acc, _, m, hm, _ => by
    have : m = acc := by simp at hm; omega
    subst this
    rfl
  | b :: r, acc, h, m, hm, hlt => by
    have hb := h b (List.mem_cons_self ..)
    unfold isDig at hb
    rw [List.foldl_cons] at hm
    have hstep : 10 * (acc : Int) + ((b.toNat : Int) - 48) = ((acc * 10 + (b.toNat - 48) : Nat) : Int) := by omega
    rw [hstep] at hm
    have hge : acc * 10 + (b.toNat - 48) ≤ m := by
      have key : ∀ (r : List UInt8) (a : Nat), (∀ b ∈ r, isDig b) → (a : Int) ≤ r.foldl (fun n b => 10 * n + ((b.toNat : Int) - 48)) (a : Int) := by
        intro r
        induction r with
        | nil => intro a _; simp
        | cons x r ih =>
          intro a hr
          have hx := hr x (List.mem_cons_self ..)
          unfold isDig at hx
          rw [List.foldl_cons, show 10 * (a : Int) + ((x.toNat : Int) - 48) = ((a * 10 + (x.toNat - 48) : Nat) : Int) by omega]
          have := ih (a * 10 + (x.toNat - 48)) (fun y hy => hr y (List.mem_cons_of_mem _ hy))
          omega
      have := key r (acc * 10 + (b.toNat - 48)) (fun y hy => h y (List.mem_cons_of_mem _ hy))
      omega
    rw [Lib.parseUint10, if_pos hb, if_neg (by omega), if_neg (by omega)]
    exact parse_dec r _ (fun y hy => h y (List.mem_cons_of_mem _ hy)) m hm hlt
theorem mag_dec (u : Nat) (h : u < 18446744073709551616) : Lib.parseMag (Lib.decDigits u) = .ok u := by
  have hp := dec_pos u
  unfold Lib.parseMag
  rw [if_neg (fun e => by rw [e] at hp; simp at hp)]
  exact parse_dec _ 0 (dec_dig u) u (by have := dec_val u; unfold valD at this; exact this.symm) h
theorem atoi_itoa {n : Int} (h : fitI n) : Lib.atoiAll (Lib.itoa n) = .ok n := by
  unfold fitI at h
  unfold Lib.itoa
  by_cases h0 : n < 0
  · rw [if_pos h0, Lib.atoiAll_minus, mag_dec _ (by omega)]
    show (if 9223372036854775808 < n.natAbs then Lib.NumEnd.range else Lib.NumEnd.ok (-(n.natAbs : Int))) = .ok n
    rw [if_neg (by omega)]
    congr 1
    omega
  · rw [if_neg h0]
    have hm := mag_dec n.toNat (by omega)
    have hp := dec_pos n.toNat
    have hd := dec_dig n.toNat
    generalize hL : Lib.decDigits n.toNat = L at hm hp hd
    cases L with
    | nil => simp at hp
    | cons c r =>
      have hc := hd c (List.mem_cons_self ..)
      unfold isDig at hc
      rw [Lib.atoiAll_plain c r (by omega) (by omega), hm]
      show (if 9223372036854775808 ≤ n.toNat then Lib.NumEnd.range else Lib.NumEnd.ok (n.toNat : Int)) = .ok n
      rw [if_neg (by omega)]
      congr 1
      omega
theorem itoa_inj {n m : Int} (hn : fitI n) (hm : fitI m) (h : Lib.itoa n = Lib.itoa m) : n = m := by
  have h1 := atoi_itoa hn
  rw [h, atoi_itoa hm] at h1
  cases h1
  rfl

open Classical in
/-- The number that is written so. -/
noncomputable def numO (s : List UInt8) : Option Int := if h : ∃ v, fitI v ∧ Lib.itoa v = s then some (Classical.choose h) else none
theorem numO_some {s : List UInt8} {v : Int} (h : numO s = some v) : fitI v ∧ Lib.itoa v = s := by
  unfold numO at h
  split at h
  · rename_i hx
    cases h
    exact Classical.choose_spec hx
  · cases h
theorem numO_itoa {v : Int} (h : fitI v) : numO (Lib.itoa v) = some v := by
  have hx : ∃ u, fitI u ∧ Lib.itoa u = Lib.itoa v := ⟨v, h, rfl⟩
  unfold numO
  rw [dif_pos hx]
  obtain ⟨h1, h2⟩ := Classical.choose_spec hx
  rw [itoa_inj h1 h h2]
theorem numO_none {s : List UInt8} (h : numO s = none) {v : Int} (hv : fitI v) : Lib.itoa v ≠ s := fun e => by
  rw [← e, numO_itoa hv] at h
  cases h

/-! ### Cut -/
theorem index_not (c : UInt8) : ∀ a : List UInt8, c ∉ a → Lib.index a [c] = -1
  | [], _ => rfl
  | x :: a, h => by
    rw [List.mem_cons, not_or] at h
    unfold Lib.index
    rw [index_not c a h.2]
    have : ([c].isPrefixOf (x :: a)) = false := by
      simp [List.isPrefixOf, h.1]
    rw [this]
    rfl
theorem index_at (c : UInt8) (r : List UInt8) : ∀ a : List UInt8, c ∉ a → Lib.index (a ++ c :: r) [c] = (a.length : Int)
  | [], _ => by
    unfold Lib.index
    simp [List.isPrefixOf]
  | x :: a, h => by
    rw [List.mem_cons, not_or] at h
    rw [List.cons_append]
    unfold Lib.index
    rw [index_at c r a h.2]
    have : ([c].isPrefixOf (x :: (a ++ c :: r))) = false := by
      simp [List.isPrefixOf, h.1]
    rw [this]
    have h2 : ((a.length : Int) == -1) = false := by rw [beq_eq_false_iff_ne]; omega
    simp [h2]
theorem cut_not (c : UInt8) (a : List UInt8) (h : c ∉ a) : Lib.cut a [c] = (a, [], false) := by
  unfold Lib.cut
  rw [index_not c a h]
  rfl
theorem cut_at (c : UInt8) (a r : List UInt8) (h : c ∉ a) : Lib.cut (a ++ c :: r) [c] = (a, r, true) := by
  unfold Lib.cut
  rw [index_at c r a h, if_pos (by omega)]
  simp

/-! ### Splitting -/
/-- The parts between the bytes c: one at least. -/
def splitL (c : UInt8) : List UInt8 → List (List UInt8)
  | [] => [[]]
  | b :: r => if b = c then [] :: splitL c r else match splitL c r with
    | [] => [[b]]
    | p :: ps => (b :: p) :: ps
theorem splitL_ne (c : UInt8) (s : List UInt8) : splitL c s ≠ [] := by
  cases s with
  | nil => simp [splitL]
  | cons b r =>
    unfold splitL
    split
    · simp
    · split <;> simp
theorem splitL_not (c : UInt8) : ∀ a : List UInt8, c ∉ a → splitL c a = [a]
  | [], _ => rfl
  | x :: a, h => by
    rw [List.mem_cons, not_or] at h
    rw [splitL, if_neg (fun e => h.1 e.symm), splitL_not c a h.2]
theorem splitL_at (c : UInt8) (r : List UInt8) : ∀ a : List UInt8, c ∉ a → splitL c (a ++ c :: r) = a :: splitL c r
  | [], _ => by
    rw [List.nil_append, splitL, if_pos rfl]
  | x :: a, h => by
    rw [List.mem_cons, not_or] at h
    rw [List.cons_append, splitL, if_neg (fun e => h.1 e.symm), splitL_at c r a h.2]
/-- A text is its first part, and what stands behind it, if anything does. -/
theorem cut_cases (c : UInt8) : ∀ s : List UInt8, c ∉ s ∨ ∃ a r, c ∉ a ∧ s = a ++ c :: r
  | [] => .inl (by simp)
  | x :: s => by
    by_cases h : x = c
    · exact .inr ⟨[], s, by simp, by rw [h]; rfl⟩
    · rcases cut_cases c s with h1 | ⟨a, r, h1, h2⟩
      · exact .inl (by rw [List.mem_cons, not_or]; exact ⟨fun e => h e.symm, h1⟩)
      · exact .inr ⟨x :: a, r, by rw [List.mem_cons, not_or]; exact ⟨fun e => h e.symm, h1⟩, by rw [h2]; rfl⟩
/-- The parts, put together. -/
def joinL (c : UInt8) : List (List UInt8) → List UInt8
  | [] => []
  | [p] => p
  | p :: q :: ps => p ++ c :: joinL c (q :: ps)
theorem join_split (c : UInt8) (s : List UInt8) : joinL c (splitL c s) = s := by
  induction hn : s.length using Nat.strongRecOn generalizing s with
  | _ n ih =>
    rcases cut_cases c s with h | ⟨a, r, h1, h2⟩
    · rw [splitL_not c s h]
      rfl
    · subst h2
      rw [splitL_at c r a h1]
      have hr := ih r.length (by rw [← hn]; simp; omega) r rfl
      cases hq : splitL c r with
      | nil => exact absurd hq (splitL_ne c r)
      | cons q qs =>
        rw [hq] at hr
        show a ++ c :: joinL c (q :: qs) = _
        rw [hr]
theorem split_join (c : UInt8) : ∀ l : List (List UInt8), l ≠ [] → (∀ p ∈ l, c ∉ p) → splitL c (joinL c l) = l
  | [], h, _ => absurd rfl h
  | [p], _, h => splitL_not c p (h p (List.mem_cons_self ..))
  | p :: q :: ps, _, h => by
    show splitL c (p ++ c :: joinL c (q :: ps)) = _
    rw [splitL_at c _ p (h p (List.mem_cons_self ..)), split_join c (q :: ps) (by simp) (fun x hx => h x (List.mem_cons_of_mem _ hx))]
theorem split_no (c : UInt8) (s : List UInt8) : ∀ p ∈ splitL c s, c ∉ p := by
  induction hn : s.length using Nat.strongRecOn generalizing s with
  | _ n ih =>
    rcases cut_cases c s with h | ⟨a, r, h1, h2⟩
    · rw [splitL_not c s h]
      intro p hp
      rw [List.mem_singleton] at hp
      rw [hp]
      exact h
    · subst h2
      rw [splitL_at c r a h1]
      intro p hp
      rcases List.mem_cons.1 hp with rfl | hp
      · exact h1
      · exact ih r.length (by rw [← hn]; simp; omega) r rfl p hp
theorem split_len (c : UInt8) (s : List UInt8) : ∀ p ∈ splitL c s, p.length ≤ s.length := by
  induction hn : s.length using Nat.strongRecOn generalizing s with
  | _ n ih =>
    rcases cut_cases c s with h | ⟨a, r, h1, h2⟩
    · rw [splitL_not c s h]
      intro p hp
      rw [List.mem_singleton] at hp
      rw [hp]
      omega
    · subst h2
      rw [splitL_at c r a h1]
      intro p hp
      rw [List.length_append, List.length_cons] at hn
      rcases List.mem_cons.1 hp with rfl | hp
      · omega
      · have := ih r.length (by omega) r rfl p hp
        omega
theorem split_count (c : UInt8) (s : List UInt8) : (splitL c s).length ≤ s.length + 1 := by
  induction s with
  | nil => simp [splitL]
  | cons b r ih =>
    unfold splitL
    split
    · simp; omega
    · split
      · simp
      · rename_i h
        rw [h] at ih
        simp at ih ⊢
        omega
end Go.Proofs.YtgfgjbbpochiiaaDoor
