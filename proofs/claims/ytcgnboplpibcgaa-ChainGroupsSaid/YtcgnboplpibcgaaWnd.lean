/- A window: Least and Window. -/
import Derived.Test.YtcgnboplpibcgaaClm
import Derived.Deep.LoopGhost
namespace Go.Proofs.Ytcgnboplpibcgaa
open Go Go.RowKit
theorem sA_mono {a a' b b' : Nat} (h : a ≤ a') (k : b ≤ b') : sA a b ≤ sA a' b' := by unfold sA; split <;> split <;> omega
theorem sM_mono {a b b' : Nat} (k : b ≤ b') : sM a b ≤ sM a b' := by
  have := Nat.mul_le_mul_left a k
  unfold sM
  split <;> split <;> omega
theorem sC_mono {a a' b : Nat} (h : a ≤ a') (ha : a' ≤ 18446744073709551615) : sC a b ≤ sC a' b := by
  unfold sC
  by_cases h0 : a = 0
  · rw [if_pos h0]; omega
  rw [if_neg h0, if_neg (show ¬ a' = 0 by omega)]
  by_cases h1 : b = 0 ∨ a = 18446744073709551615
  · rw [if_pos h1, if_pos (by omega)]; omega
  rw [if_neg h1]
  have := Nat.div_le_div_right (c := b) (show a - 1 ≤ a' - 1 by omega)
  have := Nat.div_le_self (a - 1) b
  split <;> omega
theorem dem_mono {d d' : Nat} (hd : d ≤ d') (l : List Ld) {x x' : Nat} (hx : x ≤ x') (h : x' ≤ 18446744073709551615) : dem d l x ≤ dem d' l x' := by
  induction l generalizing d d' with
  | nil => exact hd
  | cons y l ih => exact ih (sA_mono hd (sM_mono (sC_mono hx h)))
theorem sA_self {a b : Nat} (h : a ≤ 18446744073709551615) : a ≤ sA a b := by unfold sA; split <;> omega
theorem dem_snoc {d : Nat} {l : List Ld} {y : Ld} {x : Nat} (hd : d ≤ 18446744073709551615) : dem d l x ≤ dem d (l ++ [y]) x := by
  unfold dem
  rw [List.foldl_append]
  exact sA_self (dem_le hd l x)
/-- The demand, everywhere: beyond the numbers there are it stands still. -/
def demC (d : Nat) (l : List Ld) (x : Nat) : Nat := dem d l (min x 18446744073709551615)
theorem demC_mono (d : Nat) (l : List Ld) (a b : Nat) (h : a ≤ b) : demC d l a ≤ demC d l b := dem_mono (Nat.le_refl _) l (by omega) (by omega)
theorem demC_eq {d : Nat} {l : List Ld} {x : Nat} (h : x ≤ 18446744073709551615) : demC d l x = dem d l x := by rw [demC, Nat.min_eq_left h]
theorem isWin_congr {D E : Nat → Nat} {m r : Nat} (h : IsWin D m r) (he : ∀ x, x ≤ m → D x = E x) : IsWin E m r := by
  rcases h with ⟨rfl, h⟩ | ⟨h1, h2, h3, h4⟩
  · exact .inl ⟨rfl, fun x a b => by rw [← he x b]; exact h x a b⟩
  · exact .inr ⟨h1, h2, by rw [← he r h2]; exact h3, fun x a b => by rw [← he x (by omega)]; exact h4 x a b⟩
theorem win_demC {d : Nat} {l : List Ld} {m : Nat} (hm : m ≤ 18446744073709551615) : win (demC d l) m = win (dem d l) m :=
  (isWin_congr (win_is (demC d l) m) (fun x hx => demC_eq (by omega))).uniq (win_is _ _)

def LeastEnd (D : Nat → Nat) (m x0 p d : Nat) (A : Option Addr) (n cap : Nat) (l : List Ld) (w : World) (e : Ending) (w' : World) : Prop :=
  ∃ v b r', e = .returned (.tuple #[U v, .bool b]) ∧ WorkAt w' p d A n cap l r' ∧ Only (fun k => k = p) w w' ∧
    ((b = true ∧ 1 ≤ v ∧ IsWin D m v) ∨ (b = false ∧ ((m < r' ∧ IsWin D m 0) ∨ (r' ≤ m ∧ x0 < r' ∧ Below1 D r'))))
theorem least_any {w : World} {p d n cap x0 m : Nat} {A : Option Addr} {l : List Ld} {D : Nat → Nat}
    (hc : Calls Try.prog 48 #[wfun p, U x0, U m] w (ClimbEnd D m x0 p d A n cap l w)) : Calls Try.prog 33 #[wfun p, U x0, U m] w (LeastEnd D m x0 p d A n cap l w) := by
  obtain ⟨Z, hZ⟩ : ∃ Z, Z = LeastEnd D m x0 p d A n cap l w := ⟨_, rfl⟩
  rw [← hZ]
  have hZ' := Lib.hid hZ
  have hc' := Lib.hid hc
  clear hc hZ
  unfold wfun at *
  go_enter Try.func33, Try.ntmps33
  go_wp2_with fail
  refine hc'.out.mono ?_
  rintro e w' ⟨v, b, r', rfl, h1, h2, h3⟩
  have h1' := Lib.hid h1
  have h2' := Lib.hid h2
  have h3' := Lib.hid h3
  clear h1 h2 h3
  cases b
  · go_wp2
    rw [hZ'.out]
    exact ⟨18446744073709551615, false, r', rfl, h1'.out, h2'.out, .inr ⟨rfl, h3'.out.elim (fun h => by cases h.1) (fun h => h.2)⟩⟩
  · go_wp2
    rw [hZ'.out]
    exact ⟨v, true, r', rfl, h1'.out, h2'.out, h3'.out.elim (fun h => .inl ⟨rfl, h.2⟩) (fun h => by cases h.1)⟩
theorem bounded_any (m : Nat) (w : World) (_hm : m ≤ 18446744073709551615) : Calls Try.prog 32 #[U m] w fun e w' => e = .returned (U (min m 16777216)) ∧ w' = w := by
  by_cases h : m ≤ 16777216
  · have h' : (m : Int) ≤ 16777216 := by omega
    rw [Nat.min_eq_left h]
    go_enter Try.func32, Try.ntmps32
    go_wp2
    all_goals first
      | (go_ret; exact ⟨ret_u (by omega), rfl⟩)
      | (go_ret; exact ⟨rfl, rfl⟩)
  · have h' : ¬ (m : Int) ≤ 16777216 := by omega
    rw [Nat.min_eq_right (by omega)]
    go_enter Try.func32, Try.ntmps32
    go_wp2
    all_goals first
      | (go_ret; exact ⟨ret_u (by omega), rfl⟩)
      | (go_ret; exact ⟨rfl, rfl⟩)
theorem climb_any' {w : World} {p d n cap r x0 m : Nat} {A : Option Addr} {l : List Ld} {D : Nat → Nat} (hwk : WorkAt w p d A n cap l r) (hn : l.length = n) (hnn : n ≤ 1000) (hb : LB l) (hd : d ≤ 18446744073709551615)
    (hD : D = demC d l) (hm : m ≤ 16777216) (hx1 : 1 ≤ x0) (hxm : x0 ≤ m) (hI : Below1 D x0) :
    Calls Try.prog 48 #[wfun p, U x0, U m] w (ClimbEnd D m x0 p d A n cap l w) := by
  subst hD
  exact climb_any hwk hn hnn hb hd (fun x hx => demC_eq hx) hm hx1 hxm hI (demC_mono d l)
def orU (r : Nat) : Nat := if r = 0 then 18446744073709551615 else r
def WinEnd (r : Nat) (w : World) (e : Ending) (w' : World) : Prop := e = .returned (.tuple #[U (orU r), .bool (decide (0 < r))]) ∧ Only (fun _ => False) w w'
set_option maxHeartbeats 2000000 in
theorem window_any {A : Option Addr} {n cap d most : Nat} {l : List Ld} {w : World} (hr : LRow w A l) (hn : l.length = n) (hnn : n ≤ 1000) (hb : LB l) (hd : d ≤ 18446744073709551615) (hm : most ≤ 18446744073709551615) :
    Calls Try.prog 14 #[U d, .slice A n cap, U most] w (WinEnd (win (dem d l) (min most 16777216)) w) := by
  have hmf : ∀ (fn : Fn) (first cap : Array Value) (w : World), (Instr.makeFunc fn first cap).run Try.prog w = .ok (.func fn first cap) w := fun _ _ _ _ => rfl
  have hbd := Lib.hid (fun W => bounded_any most W hm)
  obtain ⟨m, hmm⟩ : ∃ m, m = min most 16777216 := ⟨_, rfl⟩
  have hm2 : m ≤ 16777216 := by omega
  rw [← hmm] at hbd ⊢
  rw [← win_demC (by omega)]
  have hlast := Lib.hid (fun r (h : IsWin (demC d l) m r) => (h.uniq (win_is _ _)))
  obtain ⟨D, hD⟩ : ∃ D, D = demC d l := ⟨_, rfl⟩
  have hcl := Lib.hid (fun W r x0 (h : WorkAt W w.heap.size d A n cap l r) (h1 : 1 ≤ x0) (h2 : x0 ≤ m) (h3 : Below1 D x0) => least_any (show Calls Try.prog 48 #[wfun w.heap.size, U x0, U m] W (ClimbEnd D m x0 w.heap.size d A n cap l W) from climb_any' h hn hnn hb hd hD hm2 h1 h2 h3))
  obtain ⟨r, hrr⟩ : ∃ r, r = win D m := ⟨_, rfl⟩
  rw [← hD] at hlast ⊢
  rw [← hrr] at hlast ⊢
  obtain ⟨Z, hZ⟩ : ∃ Z, Z = WinEnd r w := ⟨_, rfl⟩
  rw [← hZ]
  have hZ' := Lib.hid hZ
  have hw1 := Lib.hid (show WorkAt (w.alloc (.cells [U d, .slice A n cap, U 1].toArray 63 (0, 0))) w.heap.size d A n cap l 1 from
    ⟨heap_new_at _ _ rfl, hr.new ((Only.refl _ _).alloc _), fun b off hl e k => by
      subst e k
      obtain ⟨b', off', e, _, _, hlt⟩ := hr 0 (l[0]'hl).1 (l[0]'hl).2 (List.getElem?_eq_getElem hl)
      cases e
      omega⟩)
  obtain ⟨p, hp⟩ : ∃ p, p = w.heap.size := ⟨_, rfl⟩
  rw [← hp] at hcl hw1
  have hp' := Lib.hid hp
  clear hr hn hnn hb hd hm hmm hD hrr hZ hp
  go_enter Try.func14, Try.ntmps14
  go_wp2_with (go_at_call 32; refine (hbd.out _).mono ?_; rintro e w' ⟨rfl, hw⟩; rw [hw])
  rw [← hp'.out]
  have hO1 := Lib.hid ((Only.refl (fun _ => False) w).alloc (.cells #[U d, .slice A n cap, U 1] 63))
  have hw2 := Lib.hid hw1.out
  generalize (w.alloc (Obj.cells #[Value.int IntKind.u64 ↑d, Value.slice A n cap, Value.int IntKind.u64 1] 63)) = w1 at *
  clear hw1 hw
  go_wp2
  go_loopg [9, 10] (m + 1) (fun kx _ _ wr => ∃ r0, Hid (WorkAt wr p d A n cap l r0) ∧ Hid (Only (fun _ => False) w wr) ∧ 1 ≤ r0 ∧ m + 1 - r0 ≤ kx ∧ Hid ((r0 ≤ m ∧ Below1 D r0) ∨ (m < r0 ∧ IsWin D m 0)))
  case atStart => exact ⟨1, hw2, hO1, Nat.le_refl _, by omega, Lib.hid (by
      rcases Nat.lt_or_ge m 1 with h | h
      · exact .inr ⟨h, .inl ⟨rfl, fun x a b => by omega⟩⟩
      · exact .inl ⟨h, fun y a b => by omega⟩)⟩
  case round =>
    obtain ⟨r0, hW, hO, hr1, hg, hI⟩ := hrel
    have e2 := row_cell hW.out.at_ (i := 2) rfl
    have el := row_lt hW.out.at_
    by_cases hrm : r0 ≤ m
    · have hrm' : (r0 : Int) ≤ m := by omega
      have hI2 := Lib.hid (show Below1 D r0 from hI.out.elim (fun h => h.2) (fun h => by omega))
      have hcall := Lib.hid (hcl.out wr r0 r0 hW.out hr1 hrm hI2.out)
      unfold wfun at hcall
      go_wp2_with fail
      refine hcall.out.mono ?_
      rintro e w3 ⟨v, b, r', rfl, h1, h2, h3⟩
      have h1' := Lib.hid h1
      have h2' := Lib.hid (hO.out.trans h2 (fun x hx e => by have := hp'.out; omega))
      have h3' := Lib.hid h3
      clear h1 h2 h3 e2 el
      cases b
      · have h4 := h3'.out.elim (fun h => by cases h.1) (fun h => h.2)
        have h4' := Lib.hid h4
        clear h4
        go_wp2
        go_roundg (m + 1 - r')
        case measure => have := h4'.out; omega
        case rel => exact ⟨r', h1', h2', by have := h4'.out; omega, Nat.le_refl _, Lib.hid (h4'.out.elim (fun h => .inr h) (fun h => .inl ⟨h.1, h.2.2⟩))⟩
      · have h4 := Lib.hid (h3'.out.elim (fun h => h.2) (fun h => by cases h.1))
        go_wp2
        rw [hZ'.out]
        have h5 := hlast.out v h4.out.2
        have h6 := h4.out.1
        subst h5
        exact ⟨by unfold orU; rw [if_neg (by omega), decide_eq_true (by omega)]; rfl, h2'.out⟩
    · have hrm' : ¬ (r0 : Int) ≤ m := by omega
      have h4 := Lib.hid (hI.out.elim (fun h => absurd h.1 hrm) (fun h => h.2))
      go_wp2
      rw [hZ'.out]
      have h5 := hlast.out 0 h4.out
      subst h5
      exact ⟨rfl, hO.out⟩
end Go.Proofs.Ytcgnboplpibcgaa
