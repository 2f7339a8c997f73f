/- The law's own first: where the first of some events stands. -/
import Derived.Test.YtmkdboiajjkghaaTake
namespace Go.Proofs.Ytmkdboiajjkghaa
open Go Go.RowKit

def FirstEv (l : List Ev) (k : Nat) (x : Ev) : Prop := l[k]? = some x ∧ ∀ j y, l[j]? = some y → x.t ≤ y.t ∧ (j < k → x.t < y.t)
def FirstV (l : List Ev) (v : Int) : Prop := (l = [] ∧ v = -1) ∨ ∃ (k : Nat) (x : Ev), v = (k : Int) ∧ FirstEv l k x
def FirstEnd (w : World) (l : List Ev) (e : Ending) (w' : World) : Prop := ∃ v, e = .returned (.int .i64 v) ∧ FirstV l v ∧ Only (fun _ => False) w w'

theorem win_ev {w : World} {p : Option Addr} {n cap : Nat} {h : Option Nat} {l : List Ev} (hW : Win w 29 5 (.slice p n cap) h n (evCells l)) : EvRow w p l := by
  intro k x hx
  have hk := (List.getElem?_eq_some_iff.1 hx).1
  have hl := hW.1
  rw [evCells_length] at hl
  obtain ⟨g, off, cap', h1, hv, h3, h4, h5, h6, h7⟩ := hW.at_ (by omega)
  cases hv
  have q : ∀ j u, j < 5 → x.cells[j]? = some u → w.cell? ⟨g, off + k * 5 + j, none⟩ = some u := fun j u hj hu => by
    have := h6 (k * 5 + j) u ((evCells_at l k x hx j hj).trans hu)
    rwa [← Nat.add_assoc] at this
  exact ⟨g, off, rfl, h5, q 0 _ (by omega) rfl, q 1 _ (by omega) rfl, q 2 _ (by omega) rfl, q 3 _ (by omega) rfl, q 4 _ (by omega) rfl⟩

theorem first_snoc_new {l : List Ev} {j : Nat} {x z : Ev} (h : FirstEv l j z) (hlt : x.t < z.t) : FirstEv (l ++ [x]) l.length x := by
  refine ⟨by simp, fun i y hy => ?_⟩
  by_cases hi : i < l.length
  · rw [List.getElem?_append_left hi] at hy
    have := h.2 i y hy
    omega
  · rw [List.getElem?_append_right (by omega)] at hy
    have : i - l.length = 0 := by
      have := (List.getElem?_eq_some_iff.1 hy).1
      simp at this
      omega
    rw [this] at hy
    cases hy
    omega
theorem first_snoc_old {l : List Ev} {j : Nat} {x z : Ev} (h : FirstEv l j z) (hlt : ¬ x.t < z.t) : FirstEv (l ++ [x]) j z := by
  have hj := (List.getElem?_eq_some_iff.1 h.1).1
  refine ⟨by rw [List.getElem?_append_left hj]; exact h.1, fun i y hy => ?_⟩
  by_cases hi : i < l.length
  · rw [List.getElem?_append_left hi] at hy
    exact h.2 i y hy
  · rw [List.getElem?_append_right (by omega)] at hy
    have : i - l.length = 0 := by
      have := (List.getElem?_eq_some_iff.1 hy).1
      simp at this
      omega
    rw [this] at hy
    cases hy
    omega
theorem first_one (x : Ev) : FirstEv [x] 0 x := ⟨rfl, fun j y hy => by
  have := (List.getElem?_eq_some_iff.1 hy).1
  obtain rfl : j = 0 := by simp at this; omega
  cases hy
  omega⟩

set_option maxHeartbeats 800000 in
theorem first_any {w : World} {A : Option Addr} {cap : Nat} {l : List Ev} (hl : EvRow w A l) (hn : l.length ≤ 1000) : Calls Try.prog 8 #[.slice A l.length cap] w (FirstEnd w l) := by
  have hrow := Lib.hid hl
  obtain ⟨n, hn'⟩ : ∃ n, n = l.length := ⟨_, rfl⟩
  have hE := Lib.hid hn'
  rw [← hn'] at hn ⊢
  clear hl hn'
  go_enter Try.func8, Try.ntmps8
  go_wp2
  go_loopw [3, 8] (fun b v wr => ∃ k : Nat, v = .int .i64 k ∧ k ≤ n ∧ Only (fun _ => False) w wr ∧ ((k = 0 ∧ b = .int .i64 (-1)) ∨ ∃ (j : Nat) (z : Ev), j < k ∧ b = .int .i64 j ∧ FirstEv (l.take k) j z)) (fun _ v _ => n - (intOf v).toNat)
  case atStart => exact ⟨0, rfl, Nat.zero_le _, Only.refl _ _, .inl ⟨rfl, rfl⟩⟩
  case round =>
    obtain ⟨k, rfl, hk, hO, hb⟩ := hrel
    obtain ⟨ws, hws⟩ : ∃ ws : World, ws = wr := ⟨_, rfl⟩
    subst hws
    by_cases hkn : k < n
    · have hkn' : (k : Int) < (n : Int) := by omega
      obtain ⟨x, hx⟩ : ∃ x, l[k]? = some x := ⟨l[k]'(by have := hE.out; omega), List.getElem?_eq_getElem _⟩
      obtain ⟨bb, off, hA, hbb, hc⟩ := (hrow.out.only hO (fun _ h => h.elim)).at_ (by have := hE.out; omega)
      subst hA
      obtain ⟨c0, c1, c2, c3, c4⟩ := hc k x hx
      have hO' := Lib.hid hO
      have htk := Lib.hid (take_snoc hx)
      have hlk : (l.take k).length = k := by have := hE.out; rw [List.length_take]; omega
      rcases hb with ⟨hk0, rfl⟩ | ⟨j, z, hjk, rfl, hz⟩
      · have hx' := Lib.hid hx
        have hk0' := Lib.hid hk0
        clear hx hc hO hlk hk0
        go_wp2
        go_quiet (fail)
        go_wp2
        go_roundw
        case rel => exact ⟨k + 1, by go_num, by omega, (hO'.out.alloc _).drewN _, .inr ⟨k, x, by omega, rfl, by have := htk.out; rw [this]; have := hk0'.out; subst this; exact first_one x⟩⟩
        case measure => simp [intOf]; omega
      · have hzl : l[j]? = some z := by
          have := hz.1
          rw [List.getElem?_take, if_pos hjk] at this
          exact this
        obtain ⟨z0, -⟩ := hc j z hzl
        have hjn : (j : Int) < (n : Int) := by omega
        have hj0 : ¬ (j : Int) < 0 := by omega
        have hj0' : decide ((j : Int) < 0) = false := by simp
        have hz' := Lib.hid hz
        by_cases hlt : x.t < z.t
        · have hd : decide (x.t < z.t) = true := by simp [hlt]
          have hstep := Lib.hid (first_snoc_new hz hlt)
          have hlk' := Lib.hid hlk
          clear hx hc hO hlk hz hzl
          go_wp2
          go_quiet (fail)
          go_wp2
          go_roundw
          case rel => exact ⟨k + 1, by go_num, by omega, (hO'.out.alloc _).drewN _, .inr ⟨k, x, by omega, rfl, by have e := hstep.out; rw [hlk'.out] at e; rw [htk.out]; exact e⟩⟩
          case measure => simp [intOf]; omega
        · have hd : decide (x.t < z.t) = false := by simp [hlt]
          have hstep := Lib.hid (first_snoc_old hz hlt)
          clear hx hc hO hlk hz hzl
          go_wp2
          go_quiet (fail)
          go_wp2
          go_roundw
          case rel => exact ⟨k + 1, by go_num, by omega, (hO'.out.alloc _).drewN _, .inr ⟨j, z, by omega, rfl, by rw [htk.out]; exact hstep.out⟩⟩
          case measure => simp [intOf]; omega
    · obtain rfl : k = n := by omega
      have hall : l.take k = l := List.take_of_length_le (by have := hE.out; omega)
      rw [hall] at hb
      have hO' := Lib.hid hO
      rcases hb with ⟨hk0, rfl⟩ | ⟨j, z, hjk, rfl, hz⟩
      · have hF := Lib.hid (show FirstV l (-1) from .inl ⟨List.eq_nil_of_length_eq_zero (by have := hE.out; omega), rfl⟩)
        clear hall hk0 hO
        go_wp2
        go_ret
        exact ⟨_, rfl, hF.out, hO'.out⟩
      · have hF := Lib.hid (show FirstV l (j : Int) from .inr ⟨j, z, rfl, hz⟩)
        clear hall hz hO
        go_wp2
        go_ret
        exact ⟨_, rfl, hF.out, hO'.out⟩
end Go.Proofs.Ytmkdboiajjkghaa
