/- Shares in their lowest terms; which is less; the program's and the document's. -/
import Derived.Test.YtkolbaadakhciaaHy1
namespace Go.Proofs.Ytkolbaadakhciaa
namespace Hyp
open Go Go.RowKit
open Bch (U sA sM sA_le sM_le ret_u mul_any add_any mul64_any)

abbrev Sh (a b : Nat) : Value := .agg #[U a, U b]
def smA (a b : Nat) : Nat := if b = 0 then 18446744073709551615 else a / Nat.gcd a b
def smB (a b : Nat) : Nat := if b = 0 then 0 else b / Nat.gcd a b
theorem smA_le {a b : Nat} (ha : a ≤ 18446744073709551615) : smA a b ≤ 18446744073709551615 := by
  unfold smA; split
  · omega
  · exact Nat.le_trans (Nat.div_le_self _ _) ha
theorem smB_le {a b : Nat} (hb : b ≤ 18446744073709551615) : smB a b ≤ 18446744073709551615 := by
  unfold smB; split
  · omega
  · exact Nat.le_trans (Nat.div_le_self _ _) hb
def GrowV (v : Value) (w : World) (e : Ending) (w' : World) : Prop := e = .returned v ∧ Only (fun _ => False) w w'

theorem two_new {w w1 : World} {L1 L2 : List Value} (h : Only (fun _ => False) ((w.alloc (.cells L1.toArray 29)).alloc (.cells L2.toArray 29)) w1) :
    w1.heap[w.heap.size]? = some (.cells L1.toArray 29 (0, 0)) ∧ w1.heap[w.heap.size + 1]? = some (.cells L2.toArray 29 (0, 0)) := by
  refine ⟨h.heap (heap_kept_alloc (heap_new_at _ _ rfl) _) (fun h => h), h.heap (heap_new_at _ _ (by simp)) (fun h => h)⟩
theorem only_two {w w1 : World} {o1 o2 : Obj} (h : Only (fun _ => False) ((w.alloc o1).alloc o2) w1) : Only (fun _ => False) w w1 :=
  (((Only.refl _ w).alloc _).alloc _).trans' h
theorem set_two {w w1 : World} {X : Nat} {x y u v : Value} (hX : w.heap.size ≤ X) (h : Only (fun _ => False) w w1) (r : w1.heap[X]? = some (.cells [x, y].toArray 29 (0, 0))) :
    ((w1.setCell ⟨X, 0, none⟩ u).setCell ⟨X, 1, none⟩ v).cell? ⟨X, 0, none⟩ = some u ∧ ((w1.setCell ⟨X, 0, none⟩ u).setCell ⟨X, 1, none⟩ v).cell? ⟨X, 1, none⟩ = some v ∧ Only (fun _ => False) w ((w1.setCell ⟨X, 0, none⟩ u).setCell ⟨X, 1, none⟩ v) := by
  have r2 := row_set (row_set r 0 u) 1 v
  exact ⟨row_cell r2 rfl, row_cell r2 rfl, (h.setCell (p := ⟨X, 0, none⟩) (fun h => by simp at h; omega) u).setCell (p := ⟨X, 1, none⟩) (fun h => by simp at h; omega) v⟩
theorem endless_any (w : World) : Calls Try.prog 33 #[] w (GrowV (.agg #[.int .u64 18446744073709551615, .int .u64 0]) w) := by
  obtain ⟨Z, hZ⟩ : ∃ Z, Z = GrowV (.agg #[.int .u64 18446744073709551615, .int .u64 0]) w := ⟨_, rfl⟩
  rw [← hZ]
  have hZ' := Lib.hid hZ
  clear hZ
  have hfin := Lib.hid (fun W (ho : Only (fun _ => False) w W) => show Z (.returned (.agg #[.int .u64 18446744073709551615, .int .u64 0])) W from by rw [hZ'.out]; exact ⟨rfl, ho⟩)
  go_enter Try.func33, Try.ntmps33
  go_wp2
  exact bodyPost_ret (v := .agg #[.int .u64 18446744073709551615, .int .u64 0]) (by simp [results, Try.results33, go_sem]) rfl (hfin.out _ ((Only.refl _ _).alloc _))

theorem rsimple_any (a b : Nat) (w : World) (ha : a ≤ 18446744073709551615) (hb : b ≤ 18446744073709551615) :
    Calls Try.prog 17 #[U a, U b] w (GrowV (.tuple #[U (smA a b), U (smB a b)]) w) := by
  obtain ⟨Z, hZ⟩ : ∃ Z, Z = GrowV (.tuple #[U (smA a b), U (smB a b)]) w := ⟨_, rfl⟩
  rw [← hZ]
  have hZ' := Lib.hid hZ
  clear hZ
  by_cases hb0 : b = 0
  · subst hb0
    have hf := Lib.hid (show Z (.returned (.tuple #[.int .u64 18446744073709551615, .int .u64 0])) w from by rw [hZ'.out]; exact ⟨rfl, Only.refl _ _⟩)
    go_enter Try.func17, Try.ntmps17
    go_wp2
    exact hf.out
  · have hb1 : ((b : Int) == 0) = false := by simpa using hb0
    obtain ⟨g, hg⟩ : ∃ g, g = Nat.gcd a b := ⟨_, rfl⟩
    have hgp : 0 < g := by rw [hg]; exact Nat.gcd_pos_of_pos_right _ (by omega)
    obtain ⟨q, hq⟩ : ∃ q, q = a / g := ⟨_, rfl⟩
    obtain ⟨p, hp⟩ : ∃ p, p = b / g := ⟨_, rfl⟩
    have hq9 : q ≤ a := by rw [hq]; exact Nat.div_le_self _ _
    have hp9 : p ≤ b := by rw [hp]; exact Nat.div_le_self _ _
    have hdiv : (a : Int) / (g : Int) = (q : Int) := by rw [hq]; rfl
    have hdiv2 : (b : Int) / (g : Int) = (p : Int) := by rw [hp]; rfl
    have hgn : (g : Int) ≠ 0 := by omega
    have hfin := Lib.hid (fun W (ho : Only (fun _ => False) w W) => show Z (.returned (.tuple #[U q, U p])) W from by rw [hZ'.out]; exact ⟨by rw [smA, smB, if_neg hb0, if_neg hb0, hq, hp, hg], ho⟩)
    have c1 := Lib.hid (fun W => rgcd_any a b W ha hb)
    rw [← hg] at c1
    clear hg hq hp hb0
    go_enter Try.func17, Try.ntmps17
    go_wp2_with (first | (go_at_call 13; refine (c1.out _).mono ?_; rintro e w1 ⟨rfl, h1⟩; have h1' := Lib.hid h1; clear h1))
    go_region
    go_wp2_with fail
    exact hfin.out _ h1'.out.drew
theorem simple_any (a b : Nat) (w : World) (ha : a ≤ 18446744073709551615) (hb : b ≤ 18446744073709551615) :
    Calls Try.prog 21 #[Sh a b] w (GrowV (Sh (smA a b) (smB a b)) w) := by
  obtain ⟨Z, hZ⟩ : ∃ Z, Z = GrowV (Sh (smA a b) (smB a b)) w := ⟨_, rfl⟩
  rw [← hZ]
  have hZ' := Lib.hid hZ
  clear hZ
  by_cases hb0 : b = 0
  · subst hb0
    have hfin := Lib.hid (fun W (ho : Only (fun _ => False) w W) => show Z (.returned (.agg #[.int .u64 18446744073709551615, .int .u64 0])) W from by rw [hZ'.out]; exact ⟨rfl, ho⟩)
    have c1 := Lib.hid endless_any
    go_enter Try.func21, Try.ntmps21
    go_wp2_with (first | (go_at_call 33; refine (c1.out _).mono ?_; rintro e w1 ⟨rfl, h1⟩; obtain ⟨r0, r1⟩ := two_new h1; have s0 := row_cell r0 (i := 0) rfl; have s1 := row_cell r0 (i := 1) rfl; have t0 := row_cell r1 (i := 0) rfl; have t1 := row_cell r1 (i := 1) rfl; have f0 := row_free r1 0; have f1 := row_free r1 1; have r1' := Lib.hid r1; have h1' := Lib.hid h1; clear h1 r0 r1))
    obtain ⟨e0, e1, eO⟩ := set_two (u := .int .u64 18446744073709551615) (v := .int .u64 0) (Nat.le_succ w.heap.size) (only_two h1'.out) r1'.out
    exact bodyPost_ret (v := .agg #[.int .u64 18446744073709551615, .int .u64 0]) (by simp [results, Try.results21, go_sem, e0, e1]) rfl (hfin.out _ eO)
  · have hb1 : ((b : Int) == 0) = false := by simpa using hb0
    obtain ⟨g, hg⟩ : ∃ g, g = Nat.gcd a b := ⟨_, rfl⟩
    have hgp : 0 < g := by rw [hg]; exact Nat.gcd_pos_of_pos_right _ (by omega)
    obtain ⟨q, hq⟩ : ∃ q, q = a / g := ⟨_, rfl⟩
    obtain ⟨p, hp⟩ : ∃ p, p = b / g := ⟨_, rfl⟩
    have hq9 : q ≤ a := by rw [hq]; exact Nat.div_le_self _ _
    have hp9 : p ≤ b := by rw [hp]; exact Nat.div_le_self _ _
    have hdiv : (a : Int) / (g : Int) = (q : Int) := by rw [hq]; rfl
    have hdiv2 : (b : Int) / (g : Int) = (p : Int) := by rw [hp]; rfl
    have hgn : (g : Int) ≠ 0 := by omega
    have hfin := Lib.hid (fun W (ho : Only (fun _ => False) w W) => show Z (.returned (Sh q p)) W from by rw [hZ'.out]; exact ⟨by rw [smA, smB, if_neg hb0, if_neg hb0, hq, hp, hg], ho⟩)
    have c1 := Lib.hid (fun W => gcd_any a b W ha hb)
    rw [← hg] at c1
    clear hg hq hp hb0
    go_enter Try.func21, Try.ntmps21
    go_wp2_with (first | (go_at_call 12; refine (c1.out _).mono ?_; rintro e w1 ⟨rfl, h1⟩; obtain ⟨r0, r1⟩ := two_new h1; have s0 := row_cell r0 (i := 0) rfl; have s1 := row_cell r0 (i := 1) rfl; have t0 := row_cell r1 (i := 0) rfl; have t1 := row_cell r1 (i := 1) rfl; have f0 := row_free r1 0; have f1 := row_free r1 1; have r1' := Lib.hid r1; have h1' := Lib.hid h1; clear h1 r0 r1))
    go_region
    go_wp2_with fail
    obtain ⟨e0, e1, eO⟩ := set_two (u := .int .u64 (q : Int)) (v := .int .u64 (p : Int)) (Nat.le_succ w.heap.size) (only_two h1'.out) r1'.out
    have d0 := (cell_of_heap (w' := World.drew ((w1.setCell ⟨w.heap.size + 1, 0, none⟩ (.int .u64 (q : Int))).setCell ⟨w.heap.size + 1, 1, none⟩ (.int .u64 (p : Int)))) rfl ⟨w.heap.size + 1, 0, none⟩).trans e0
    have d1 := (cell_of_heap (w' := World.drew ((w1.setCell ⟨w.heap.size + 1, 0, none⟩ (.int .u64 (q : Int))).setCell ⟨w.heap.size + 1, 1, none⟩ (.int .u64 (p : Int)))) rfl ⟨w.heap.size + 1, 1, none⟩).trans e1
    exact bodyPost_ret (v := .agg #[.int .u64 (q : Int), .int .u64 (p : Int)]) (by simp [results, Try.results21, go_sem, d0, d1]) rfl (hfin.out _ eO.drew)

def lessB (a b c d : Nat) : Bool := decide (b ≠ 0 ∧ (d = 0 ∨ a * d < c * b))

theorem less_any (a b c d : Nat) (w : World) (ha : a ≤ 18446744073709551615) (hb : b ≤ 18446744073709551615) (hc : c ≤ 18446744073709551615) (hd : d ≤ 18446744073709551615) :
    Calls Try.prog 18 #[Sh a b, Sh c d] w (GrowV (.bool (lessB a b c d)) w) := by
  obtain ⟨Z, hZ⟩ : ∃ Z, Z = GrowV (.bool (lessB a b c d)) w := ⟨_, rfl⟩
  rw [← hZ]
  have hZ' := Lib.hid hZ
  clear hZ
  by_cases hb0 : b = 0
  · subst hb0
    have hfin := Lib.hid (fun W (ho : Only (fun _ => False) w W) => show Z (.returned (.bool false)) W from by rw [hZ'.out]; exact ⟨by simp [lessB], ho⟩)
    go_enter Try.func18, Try.ntmps18
    go_wp2
    exact hfin.out _ (((Only.refl _ _).alloc _).alloc _)
  have hb1 : ((b : Int) == 0) = false := by simpa using hb0
  by_cases hd0 : d = 0
  · subst hd0
    have hfin := Lib.hid (fun W (ho : Only (fun _ => False) w W) => show Z (.returned (.bool true)) W from by rw [hZ'.out]; exact ⟨by simp [lessB, hb0], ho⟩)
    go_enter Try.func18, Try.ntmps18
    go_wp2
    exact hfin.out _ (((Only.refl _ _).alloc _).alloc _)
  have hd1 : ((d : Int) == 0) = false := by simpa using hd0
  have c1 := Lib.hid (fun W => mul64_any a d (by omega) (by omega) W)
  have c2 := Lib.hid (fun W => mul64_any c b (by omega) (by omega) W)
  obtain ⟨h1, hh1⟩ : ∃ h, h = a * d / 18446744073709551616 := ⟨_, rfl⟩
  obtain ⟨l1, hl1⟩ : ∃ l, l = a * d % 18446744073709551616 := ⟨_, rfl⟩
  obtain ⟨h2, hh2⟩ : ∃ h, h = c * b / 18446744073709551616 := ⟨_, rfl⟩
  obtain ⟨l2, hl2⟩ : ∃ l, l = c * b % 18446744073709551616 := ⟨_, rfl⟩
  rw [← hh1, ← hl1] at c1
  rw [← hh2, ← hl2] at c2
  have hL : lessB a b c d = decide (h1 < h2 ∨ h1 = h2 ∧ l1 < l2) := by
    unfold lessB
    refine decide_eq_decide.2 ?_
    generalize a * d = x at *
    generalize c * b = y at *
    omega
  have hfin := Lib.hid (fun W (ho : Only (fun _ => False) w W) => show Z (.returned (.bool (decide (h1 < h2 ∨ h1 = h2 ∧ l1 < l2)))) W from by rw [hZ'.out, hL]; exact ⟨rfl, ho⟩)
  clear hh1 hl1 hh2 hl2 hL
  by_cases k1 : h1 < h2
  · rw [decide_eq_true (.inl k1)] at hfin
    have k1' : (h1 : Int) < h2 := by omega
    go_enter Try.func18, Try.ntmps18
    go_wp2_with (first | (go_at_call 31; with_reducible refine (c1.out _).mono ?_; rintro e w' ⟨rfl, hw⟩; rw [hw]; clear hw) | (go_at_call 31; with_reducible refine (c2.out _).mono ?_; rintro e w' ⟨rfl, hw⟩; rw [hw]; clear hw))
    exact hfin.out _ (((Only.refl _ _).alloc _).alloc _)
  have k1' : ¬ (h1 : Int) < h2 := by omega
  by_cases k2 : h1 = h2
  · obtain rfl := k2
    by_cases k3 : l1 < l2
    · rw [decide_eq_true (.inr ⟨rfl, k3⟩)] at hfin
      have k3' : (l1 : Int) < l2 := by omega
      go_enter Try.func18, Try.ntmps18
      go_wp2_with (first | (go_at_call 31; with_reducible refine (c1.out _).mono ?_; rintro e w' ⟨rfl, hw⟩; rw [hw]; clear hw) | (go_at_call 31; with_reducible refine (c2.out _).mono ?_; rintro e w' ⟨rfl, hw⟩; rw [hw]; clear hw))
      exact hfin.out _ (((Only.refl _ _).alloc _).alloc _)
    · rw [decide_eq_false (by omega)] at hfin
      have k3' : ¬ (l1 : Int) < l2 := by omega
      go_enter Try.func18, Try.ntmps18
      go_wp2_with (first | (go_at_call 31; with_reducible refine (c1.out _).mono ?_; rintro e w' ⟨rfl, hw⟩; rw [hw]; clear hw) | (go_at_call 31; with_reducible refine (c2.out _).mono ?_; rintro e w' ⟨rfl, hw⟩; rw [hw]; clear hw))
      exact hfin.out _ (((Only.refl _ _).alloc _).alloc _)
  · rw [decide_eq_false (by omega)] at hfin
    have k2' : ((h1 : Int) == h2) = false := by simp; omega
    go_enter Try.func18, Try.ntmps18
    go_wp2_with (first | (go_at_call 31; with_reducible refine (c1.out _).mono ?_; rintro e w' ⟨rfl, hw⟩; rw [hw]; clear hw) | (go_at_call 31; with_reducible refine (c2.out _).mono ?_; rintro e w' ⟨rfl, hw⟩; rw [hw]; clear hw))
    exact hfin.out _ (((Only.refl _ _).alloc _).alloc _)

/-! The document's way: whole parts, then what is left, turned round. -/
theorem less_whole {a b c d : Nat} (hb : 0 < b) (hd : 0 < d) (h : a / b ≠ c / d) : lessB a b c d = decide (a / b < c / d) := by
  unfold lessB
  refine decide_eq_decide.2 ?_
  have e1 := Nat.div_add_mod a b
  have e2 := Nat.div_add_mod c d
  have m1 := Nat.mod_lt a hb
  have m2 := Nat.mod_lt c hd
  have key : a * d < c * b ↔ a / b < c / d := by
    constructor
    · intro hlt
      refine Nat.lt_of_le_of_ne (Nat.not_lt.1 fun hg => ?_) h
      have h1 : c < d * (c / d + 1) := by rw [Nat.mul_add]; omega
      have h2 : d * (c / d + 1) ≤ d * (a / b) := Nat.mul_le_mul_left _ hg
      have h3 : c * b ≤ (d * (a / b)) * b := Nat.mul_le_mul_right _ (by omega)
      have h4 : (d * (a / b)) * b ≤ d * a := by rw [Nat.mul_assoc]; exact Nat.mul_le_mul_left _ (by rw [Nat.mul_comm]; omega)
      rw [Nat.mul_comm d a] at h4
      omega
    · intro hlt
      have h1 : a < b * (a / b + 1) := by rw [Nat.mul_add]; omega
      have h2 : b * (a / b + 1) ≤ b * (c / d) := Nat.mul_le_mul_left _ hlt
      have h3 : a * d < (b * (c / d)) * d := Nat.mul_lt_mul_of_lt_of_le (by omega) (Nat.le_refl _) hd
      have h4 : (b * (c / d)) * d ≤ b * c := by rw [Nat.mul_assoc]; exact Nat.mul_le_mul_left _ (by rw [Nat.mul_comm]; omega)
      rw [Nat.mul_comm b c] at h4
      omega
  constructor
  · rintro ⟨-, h0 | h0⟩
    · omega
    · exact key.1 h0
  · exact fun h0 => ⟨by omega, .inr (key.2 h0)⟩
theorem less_left {a b c d : Nat} (hb : 0 < b) (hd : 0 < d) (h : a / b = c / d) : lessB a b c d = decide ((a % b) * d < (c % d) * b) := by
  unfold lessB
  refine decide_eq_decide.2 ?_
  have e1 := Nat.div_add_mod a b
  have e2 := Nat.div_add_mod c d
  have h1 : a * d = d * b * (a / b) + (a % b) * d := by
    have : a * d = (b * (a / b) + a % b) * d := by rw [e1]
    rw [this, Nat.add_mul, Nat.mul_comm (b * (a / b)) d, Nat.mul_assoc]
  have h2 : c * b = d * b * (a / b) + (c % d) * b := by
    have : c * b = (d * (c / d) + c % d) * b := by rw [e2]
    rw [this, Nat.add_mul, h, Nat.mul_assoc d (c / d) b, Nat.mul_comm (c / d) b, Nat.mul_assoc]
  constructor
  · rintro ⟨-, h0 | h0⟩
    · omega
    · omega
  · exact fun h0 => ⟨by omega, .inr (by omega)⟩
theorem less_turn {a b c d : Nat} (hb : 0 < b) (hd : 0 < d) (h : a / b = c / d) (hc : c % d ≠ 0) (ha : a % b ≠ 0) : lessB a b c d = lessB d (c % d) b (a % b) := by
  rw [less_left hb hd h]
  unfold lessB
  refine decide_eq_decide.2 ?_
  rw [Nat.mul_comm d (a % b), Nat.mul_comm b (c % d)]
  exact ⟨fun h0 => ⟨hc, .inr h0⟩, fun ⟨_, h0⟩ => h0.resolve_left ha⟩
end Hyp
end Go.Proofs.Ytkolbaadakhciaa
