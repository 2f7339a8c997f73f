/- Levels; freeing all. -/
import Derived.Test.YtcbdmjkceinanaaLockRows
namespace Go.Proofs.Ytcbdmjkceinanaa
open Go Go.RowKit

/-! ### Level -/
/-- The greatest of base and the ceilings of those of the first k that p holds of. -/
def lev (base : Int) (z : Nat → Int) (p : Nat → Bool) : Nat → Int
  | 0 => base
  | k + 1 => if p k = true then max (lev base z p k) (z k) else lev base z p k
theorem lev_zero (base : Int) (z : Nat → Int) (p : Nat → Bool) : lev base z p 0 = base := rfl
theorem lev_yes {base : Int} {z : Nat → Int} {p : Nat → Bool} {k : Nat} (h : p k = true) : lev base z p (k + 1) = max (lev base z p k) (z k) := if_pos h
theorem lev_no {base : Int} {z : Nat → Int} {p : Nat → Bool} {k : Nat} (h : p k = false) : lev base z p (k + 1) = lev base z p k := if_neg (by rw [h]; decide)
theorem lev_congr {base : Int} {z z' : Nat → Int} {p q : Nat → Bool} {n : Nat} (hz : ∀ i, i < n → z i = z' i) (h : ∀ i, i < n → p i = q i) : lev base z p n = lev base z' q n := by
  induction n with
  | zero => rfl
  | succ n ih =>
    have e := ih (fun i hi => hz i (by omega)) (fun i hi => h i (by omega))
    cases hp : q n with
    | true => rw [lev_yes hp, lev_yes ((h n (by omega)).trans hp), e, hz n (by omega)]
    | false => rw [lev_no hp, lev_no ((h n (by omega)).trans hp), e]
theorem lev_none {base : Int} {z : Nat → Int} {p : Nat → Bool} {n : Nat} (h : ∀ i, i < n → p i = false) : lev base z p n = base := by
  induction n with
  | zero => rfl
  | succ n ih => rw [lev_no (h n (by omega)), ih (fun i hi => h i (by omega))]
/-- Those behind k don't count, where p holds of none of them. -/
theorem lev_cut {base : Int} {z : Nat → Int} {p : Nat → Bool} {k n : Nat} (hk : k ≤ n) (h : ∀ i, k ≤ i → i < n → p i = false) : lev base z p n = lev base z p k := by
  induction n with
  | zero =>
    obtain rfl : k = 0 := by omega
    rfl
  | succ n ih =>
    by_cases hkn : k = n + 1
    · rw [hkn]
    · rw [lev_no (h n (by omega) (by omega)), ih (by omega) (fun i h1 h2 => h i h1 (by omega))]

theorem level_nil (who base : Int) (w : World) : Calls Try.prog 14 #[.pointer none, .int .i64 who, .int .i64 base] w fun e w' => e = .returned (.int .i64 base) ∧ w = w' := by
  go_enter Try.func14, Try.ntmps14
  go_wp2_with (go_at_call 15; refine (len_nil _).mono ?_; rintro e w' ⟨rfl, rfl⟩)
  go_loopw [12, 7] (fun i v wr => i = .int .i64 0 ∧ v = .int .i64 base ∧ w = wr) (fun _ _ _ => 0)
  case atStart => exact ⟨rfl, rfl, rfl⟩
  case round =>
    obtain ⟨rfl, rfl, rfl⟩ := hrel
    go_wp2
    go_ret
    exact ⟨rfl, rfl⟩
theorem level_any {w : World} {b g n : Nat} {z h : Nat → Int} {d : Nat → Bool} (H : LkAt w b g n z h d) (hn : n ≤ 4096) (who base : Int) : Calls Try.prog 14 #[.pointer (some ⟨b, 0, none⟩), .int .i64 who, .int .i64 base] w fun e w' => e = .returned (.int .i64 (lev base z (mine h d who) n)) ∧ w = w' := by
  have hl := Lib.hid (len_any H.cell)
  have H' := Lib.hid H
  have c0 := H.cell
  obtain ⟨p, hp⟩ : ∃ p, p = mine h d who := ⟨_, rfl⟩
  rw [← hp]
  have hp' := Lib.hid hp
  clear H hp
  obtain ⟨R, hR⟩ : ∃ R, R = lev base z p n := ⟨_, rfl⟩
  rw [← hR]
  have hR' := Lib.hid hR
  clear hR
  go_enter Try.func14, Try.ntmps14
  go_wp2_with (go_at_call 15; refine hl.out.mono ?_; rintro e w' ⟨rfl, rfl⟩)
  go_loopw [12, 7] (fun i v wr => ∃ k : Nat, k ≤ n ∧ i = .int .i64 k ∧ v = .int .i64 (lev base z p k) ∧ w = wr) (fun i _ _ => n - (intOf i).toNat)
  case atStart => exact ⟨0, Nat.zero_le _, rfl, rfl, rfl⟩
  case round =>
    obtain ⟨k, hk, rfl, rfl, rfl⟩ := hrel
    by_cases hkn : k < n
    · have hkn' : (k : Int) < (n : Int) := by omega
      have hb := Lib.hid (heldby_any H'.out hkn who)
      rw [← hp'.out] at hb
      obtain ⟨c1, _, _, _, _⟩ := H'.out.cells hkn
      obtain ⟨t, ht⟩ : ∃ t, t = p k := ⟨_, rfl⟩
      rw [← ht] at hb
      obtain ⟨v, hv⟩ : ∃ v, v = lev base z p k := ⟨_, rfl⟩
      rw [← hv]
      have ht' := Lib.hid ht
      have hv' := Lib.hid hv
      obtain ⟨x, hx⟩ : ∃ x, x = z k := ⟨_, rfl⟩
      rw [← hx] at c1
      have hx' := Lib.hid hx
      clear ht hv hx
      cases t with
      | true =>
        have hs := lev_yes (base := base) (z := z) ht'.out.symm
        rw [← hv'.out, ← hx'.out] at hs
        by_cases hvx : x ≤ v
        · have hs' := Lib.hid (show lev base z p (k + 1) = v by omega)
          clear hs
          go_wp2_with (go_at_call 25; refine hb.out.mono ?_; rintro e w' ⟨rfl, hw⟩; subst hw)
          all_goals
            go_roundw
            case rel => exact ⟨k + 1, by omega, by go_num, by rw [hs'.out], trivial⟩
            case measure => simp [intOf]; omega
        · have hs' := Lib.hid (show lev base z p (k + 1) = x by omega)
          clear hs
          go_wp2_with (go_at_call 25; refine hb.out.mono ?_; rintro e w' ⟨rfl, hw⟩; subst hw)
          all_goals
            go_roundw
            case rel => exact ⟨k + 1, by omega, by go_num, by rw [hs'.out], trivial⟩
            case measure => simp [intOf]; omega
      | false =>
        have hs' := Lib.hid (show lev base z p (k + 1) = v by rw [hv'.out]; exact lev_no ht'.out.symm)
        go_wp2_with (go_at_call 25; refine hb.out.mono ?_; rintro e w' ⟨rfl, hw⟩; subst hw)
        go_roundw
        case rel => exact ⟨k + 1, by omega, by go_num, by rw [hs'.out], trivial⟩
        case measure => simp [intOf]; omega
    · obtain rfl : k = n := by omega
      go_wp2
      go_ret
      exact ⟨by rw [hR'.out]; rfl, rfl⟩

/-! ### Free -/
def frH (h : Nat → Int) (l : List Nat) : Nat → Int := fun j => if j ∈ l then 0 else h j
def frD (d : Nat → Bool) (l : List Nat) : Nat → Bool := fun j => if j ∈ l then false else d j
theorem frH_step (h : Nat → Int) (l : List Nat) (i : Nat) : upd (frH h l) i 0 = frH h (l ++ [i]) := by
  funext j
  unfold frH
  by_cases hj : j = i
  · subst hj
    rw [upd_self, if_pos (by simp)]
  · rw [upd_ne _ _ hj]
    by_cases hl : j ∈ l
    · rw [if_pos hl, if_pos (by simp [hl])]
    · rw [if_neg hl, if_neg (by simp [hl, hj])]
theorem frD_step (d : Nat → Bool) (l : List Nat) (i : Nat) : upd (frD d l) i false = frD d (l ++ [i]) := by
  funext j
  unfold frD
  by_cases hj : j = i
  · subst hj
    rw [upd_self, if_pos (by simp)]
  · rw [upd_ne _ _ hj]
    by_cases hl : j ∈ l
    · rw [if_pos hl, if_pos (by simp [hl])]
    · rw [if_neg hl, if_neg (by simp [hl, hj])]
/-- What is left when those that p holds of are free. -/
def offH (h : Nat → Int) (p : Nat → Bool) : Nat → Int := fun j => if p j = true then 0 else h j
def offD (d : Nat → Bool) (p : Nat → Bool) : Nat → Bool := fun j => if p j = true then false else d j
def FreeEnd (w : World) (b g n : Nat) (z h : Nat → Int) (d : Nat → Bool) (p : Nat → Bool) (e : Ending) (w' : World) : Prop :=
  e = .returned (.int .i64 ((pick p n).length : Int)) ∧ LkAt w' b g n z (offH h p) (offD d p) ∧ Only (fun k => k = g) w w'
theorem free_nil (who : Int) (w : World) : Calls Try.prog 11 #[.pointer none, .int .i64 who] w fun e w' => e = .returned (.int .i64 0) ∧ w = w' := by
  go_enter Try.func11, Try.ntmps11
  go_wp2_with (go_at_call 12; refine (held_nil _ _).mono ?_; rintro e w' ⟨rfl, hw⟩; subst hw)
  go_loopw [13] (fun i wr => i = .int .i64 0 ∧ w = wr) (fun _ _ => 0)
  case atStart => exact ⟨rfl, rfl⟩
  case round =>
    obtain ⟨rfl, rfl⟩ := hrel
    go_wp2
    go_ret
    exact ⟨rfl, rfl⟩
/-- On the way: the first k of the list are free. -/
def Fre (w : World) (b g n : Nat) (z h : Nat → Int) (d : Nat → Bool) (l : List Nat) (m : Nat) (v : Value) (h' : Option Nat) (k : Nat) (wr : World) : Prop :=
  LkAt wr b g n z (frH h (l.take k)) (frD d (l.take k)) ∧ Win wr 3 1 v h' m (intV l) ∧ (∀ q, h' = some q → q ≠ g) ∧ Only (fun k => k = g) w wr
theorem free_any {w : World} {b g n : Nat} {z h : Nat → Int} {d : Nat → Bool} (H : LkAt w b g n z h d) (hn : n ≤ 4096) (who : Int) : Calls Try.prog 11 #[.pointer (some ⟨b, 0, none⟩), .int .i64 who] w (FreeEnd w b g n z h d (mine h d who)) := by
  have hh := Lib.hid (held_any H hn who)
  have H' := Lib.hid H
  obtain ⟨p, hp⟩ : ∃ p, p = mine h d who := ⟨_, rfl⟩
  rw [← hp] at hh ⊢
  clear H hp
  go_enter Try.func11, Try.ntmps11
  go_wp2_with fail
  refine hh.out.mono ?_
  rintro e w1 ⟨v, h', rfl, hW, hf, hO⟩
  obtain ⟨l, hl⟩ : ∃ l, l = pick p n := ⟨_, rfl⟩
  rw [← hl] at hW
  have hmem : ∀ i, i ∈ l → i < n := fun i hi => by
    rw [hl] at hi
    exact (pick_mem.1 hi).1
  have hlen : l.length ≤ n := by rw [hl]; exact pick_len p n
  obtain ⟨m, hm⟩ : ∃ m, m = l.length := ⟨_, rfl⟩
  rw [← hm] at hW
  obtain ⟨A, cap, rfl, hq1, hq2⟩ := hW.form
  have hP : Fre w b g n z h d l m (.slice A m cap) h' 0 w1 := by
    have e1 : LkAt w1 b g n z (frH h (l.take 0)) (frD d (l.take 0)) := (H'.out.new hO).congr fun i _ => ⟨rfl, by simp [frH], by simp [frD]⟩
    refine ⟨e1, hW, fun q hq => ?_, hO.mono (fun _ _ h => h.elim)⟩
    have := hf q hq
    have := H'.out.lt.2
    omega
  have hP' := Lib.hid hP
  have hl' := Lib.hid hl
  have hm' := Lib.hid hm
  have hmem' := Lib.hid hmem
  have hlen' : m ≤ 4096 := by omega
  clear hP hW hf hO hh hl hm hmem hlen
  go_wp2
  go_loopw [13] (fun i wr => ∃ k : Nat, k ≤ m ∧ i = .int .i64 k ∧ Fre w b g n z h d l m (.slice A m cap) h' k wr) (fun i _ => m - (intOf i).toNat)
  case atStart => exact ⟨0, Nat.zero_le _, rfl, hP'.out⟩
  case round =>
    clear hP'
    obtain ⟨k, hk, rfl, hF⟩ := hrel
    obtain ⟨ws, hws⟩ : ∃ ws : World, ws = wr := ⟨_, rfl⟩
    subst hws
    have hF' := Lib.hid hF
    by_cases hkm : k < m
    · have hkm' : (k : Int) < (m : Int) := by omega
      obtain ⟨f1, f2, f3, f4⟩ := hF
      have hkl : k < l.length := by rw [← hm'.out]; exact hkm
      obtain ⟨i, hi⟩ : ∃ i, i = l[k] := ⟨_, rfl⟩
      have hin : i < n := hmem'.out i (by rw [hi]; exact List.getElem_mem _)
      have hin' : (i : Int) < n := by omega
      have hlk : l[k]? = some i := by rw [hi]; exact List.getElem?_eq_getElem hkl
      obtain ⟨q, off, cap', _, e, _, _, hql, hcell, _⟩ := f2.at_ (by omega)
      simp only [Value.slice.injEq, true_and] at e
      obtain ⟨rfl, rfl⟩ := e
      have cq : ws.cell? ⟨q, off + k, none⟩ = some (.int .i64 (i : Int)) := hcell k _ (by unfold intV; rw [List.getElem?_map, hlk]; rfl)
      have c0 := f1.cell
      have hfr := Lib.hid (free_one f1 hin)
      rw [frH_step, frD_step, show l.take k ++ [i] = l.take (k + 1) from by rw [List.take_add_one, hlk]; rfl] at hfr
      have hnx := Lib.hid (show ∀ w2, LkAt w2 b g n z (frH h (l.take (k + 1))) (frD d (l.take (k + 1))) → Only (fun k => k = g) ws w2 → Fre w b g n z h d l m (.slice (some ⟨q, off, none⟩) m cap) h' (k + 1) w2 from
        fun w2 a o => ⟨a, f2.kept o f3, f3, f4.trans' o⟩)
      clear f1 f2 f3 f4 hcell hlk hi hkl hF'
      go_wp2_with (go_at_call 26; refine hfr.out.mono ?_; rintro e w2 ⟨rfl, a2, o2⟩; have hn2 := Lib.hid (hnx.out _ a2 o2); clear a2 o2)
      go_roundw
      case rel => exact ⟨k + 1, by omega, by go_num, hn2.out⟩
      case measure => simp [intOf]; omega
    · obtain rfl : k = m := by omega
      have hE : FreeEnd w b g n z h d p (.returned (.int .i64 (k : Int))) ws := by
        obtain ⟨f1, f2, f3, f4⟩ := hF
        have hk2 : l.take k = l := List.take_of_length_le (by rw [hm'.out]; exact Nat.le_refl _)
        rw [hk2] at f1
        refine ⟨by rw [hm'.out, hl'.out], f1.congr fun i hi => ⟨rfl, ?_, ?_⟩, f4⟩
        · unfold frH offH
          by_cases hp : p i = true
          · rw [if_pos hp, if_pos (by rw [hl'.out]; exact pick_mem.2 ⟨hi, hp⟩)]
          · rw [if_neg hp, if_neg (by rw [hl'.out]; exact fun hm => hp (pick_mem.1 hm).2)]
        · unfold frD offD
          by_cases hp : p i = true
          · rw [if_pos hp, if_pos (by rw [hl'.out]; exact pick_mem.2 ⟨hi, hp⟩)]
          · rw [if_neg hp, if_neg (by rw [hl'.out]; exact fun hm => hp (pick_mem.1 hm).2)]
      have hE' := Lib.hid hE
      clear hF hF' hE
      go_wp2
      go_ret
      exact hE'.out
end Go.Proofs.Ytcbdmjkceinanaa
