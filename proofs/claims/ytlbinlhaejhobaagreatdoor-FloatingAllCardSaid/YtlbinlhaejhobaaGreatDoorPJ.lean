/- Merged: BcStp BcClm BcWnd Step. -/
import Derived.Test.YtlbinlhaejhobaaGreatDoorPI
import Derived.Deep.RegionHeld3
import Derived.Defers
import Derived.Recover
import Derived.Deep.LoopGhost
import Derived.Test.YtlbinlhaejhobaaGreatDoorPA
import Derived.Deep.RegionLaw
import Derived.OwnWalk
/- One step of the way up to a window. -/
namespace Go.Proofs.YtlbinlhaejhobaaGreatDoor
namespace Bch
open Go Go.RowKit
/-- What work is: a block of a delay, the loads, and how far it has come. -/
structure WorkAt (w : World) (p : Nat) (d : Nat) (A : Option Addr) (n cap : Nat) (l : List Ld) (r : Nat) : Prop where
  at_ : w.heap[p]? = some (.cells [U d, .slice A n cap, U r].toArray 137 (0, 0))
  row : LRow w A l
  ap : ∀ b off, 0 < l.length → A = some ⟨b, off, none⟩ → b ≠ p
theorem WorkAt.new {w w' : World} {p d n cap r : Nat} {A : Option Addr} {l : List Ld} (h : WorkAt w p d A n cap l r) (ho : Only (fun _ => False) w w') : WorkAt w' p d A n cap l r := ⟨ho.heap h.at_ (fun h => h), h.row.new ho, h.ap⟩
def StepEnd (p d : Nat) (A : Option Addr) (n cap : Nat) (l : List Ld) (y : Nat) (w : World) (e : Ending) (w' : World) : Prop :=
  e = .returned (U y) ∧ WorkAt w' p d A n cap l y ∧ Only (fun k => k = p) w w'
set_option maxHeartbeats 2000000 in
theorem wstep_any {w : World} {p d n cap r x : Nat} {A : Option Addr} {l : List Ld} (h : WorkAt w p d A n cap l r) (hn : l.length = n) (hnn : n ≤ 1000) (hb : LB l) (hd : d ≤ 18446744073709551615) (hx : x ≤ 18446744073709551615) :
    Calls Tryz.prog 117 #[.pointer (some ⟨p, 0, none⟩), U x] w (StepEnd p d A n cap l (dem d l x) w) := by
  have hc := Lib.hid (fun W (ho : Only (fun _ => False) w W) => demand_any (cap := cap) (x := x) (h.row.new ho) hn hnn hb hd hx)
  obtain ⟨y, hy⟩ : ∃ y, y = dem d l x := ⟨_, rfl⟩
  rw [← hy] at hc ⊢
  obtain ⟨Z, hZ⟩ : ∃ Z, Z = StepEnd p d A n cap l y w := ⟨_, rfl⟩
  rw [← hZ]
  have hZ' := Lib.hid hZ
  have hfin := Lib.hid (fun W (ho : Only (fun _ => False) w W) => show StepEnd p d A n cap l y w (.returned (U y)) (W.setCell ⟨p, 2, none⟩ (U y)) from
    ⟨rfl, ⟨row_set (h.new ho).at_ 2 _, (h.new ho).row.kept ((Only.refl (fun k => k = p) W).setCell (p := ⟨p, 2, none⟩) (fun _ => rfl) _) (fun b off hl e k => h.ap b off hl e k), h.ap⟩, (ho.mono (fun _ _ h => h.elim)).trans' ((Only.refl (fun k => k = p) W).setCell (p := ⟨p, 2, none⟩) (fun _ => rfl) _)⟩)
  have hk := Lib.hid (fun W (ho : Only (fun _ => False) w W) => show W.cell? ⟨p, 0, none⟩ = some (U d) ∧ W.cell? ⟨p, 1, none⟩ = some (.slice A n cap) ∧ p < W.heap.size from
    ⟨row_cell (h.new ho).at_ (i := 0) rfl, row_cell (h.new ho).at_ (i := 1) rfl, row_lt (h.new ho).at_⟩)
  have hk2 := Lib.hid (fun W (ho : Only (fun _ => False) w W) => show W.cell? ⟨p, 2, none⟩ = some (U r) ∧ W.frozen? ⟨p, 2, none⟩ = false from
    ⟨row_cell (h.new ho).at_ (i := 2) rfl, row_free (h.new ho).at_ 2⟩)
  have hk3 := Lib.hid (fun W (ho : Only (fun _ => False) w W) (v : Value) => show (W.setCell ⟨p, 2, none⟩ v).cell? ⟨p, 0, none⟩ = some (U d) ∧ (W.setCell ⟨p, 2, none⟩ v).cell? ⟨p, 1, none⟩ = some (.slice A n cap) ∧ p < (W.setCell ⟨p, 2, none⟩ v).heap.size from
    ⟨row_cell (row_set (h.new ho).at_ 2 v) (i := 0) rfl, row_cell (row_set (h.new ho).at_ 2 v) (i := 1) rfl, row_lt (row_set (h.new ho).at_ 2 v)⟩)
  obtain ⟨e0, e1, el⟩ := hk.out _ (Only.refl _ _)
  clear h hn hb hd hx hy hZ
  go_enter Tryz.func117, Tryz.ntmps117
  go_wp2
  go_region_held3 (fun W0 => W0.cell? ⟨p, 0, none⟩ = some (U d) ∧ W0.cell? ⟨p, 1, none⟩ = some (.slice A n cap) ∧ p < W0.heap.size)
    (first | exact hk3.out _ hO6 _ | exact hk.out _ (by repeat (first | assumption | exact Only.refl _ _ | apply Only.drew)))
    (first
      | (go_at_call 152; (with_reducible refine (hc.out _ (by repeat (first | assumption | exact Only.refl _ _ | apply Only.drew))).mono ?_); rintro _ w6 ⟨rfl, ho6⟩; have hO6 : Only (fun _ => False) w w6 := Only.trans' (by repeat (first | assumption | exact Only.refl _ _ | apply Only.drew)) ho6; obtain ⟨e2, f2⟩ := hk2.out _ hO6; clear ho6))
  all_goals
    go_wp2
    rw [hZ'.out]
    exact hfin.out _ hO6
end Bch
end Go.Proofs.YtlbinlhaejhobaaGreatDoor
/- The way up: climb and Least of a window's step. -/
namespace Go.Proofs.YtlbinlhaejhobaaGreatDoor
namespace Bch
open Go Go.RowKit
def wfun (p : Nat) : Value := .func (.func 117) #[.pointer (some ⟨p, 0, none⟩)] #[]
theorem caught (p : Addr) (w : World) :
    CallsD Tryz.prog 184 #[.pointer (some p)] .returning w fun e u' w' => e = .returned (.tuple #[]) ∧ u' = .returning ∧ w' = w := by
  refine callsD_of_wpS Tryz.func184 rfl fun c₀ cs hu => ?_
  apply wpS_seq
  apply wpS_region
  simp [wpOpsS, go_sem, recoverD, hu, Tryz.ntmps184, Exit.thenS]
  refine wpS_cond (t := false) (by simp [Act.eval, Array.replicate]) ?_
  simp only [Bool.false_eq_true, if_false]
  refine wpS_of_wp (wp_skip ?_)
  cases c₀
  simp_all [bodyPostS, results, Tryz.results184]
theorem frozen_block {S : Nat → Prop} {a w : World} (h : Only S a w) {b o : Nat} (hb : b < a.heap.size) (hS : ¬ S b) : w.frozen? ⟨b, o, none⟩ = a.frozen? ⟨b, o, none⟩ := by
  unfold World.frozen?
  simp only [h.block b hb hS]
def Below1 (D : Nat → Nat) (x : Nat) : Prop := ∀ y, 1 ≤ y → y < x → y < D y
theorem Below1.up {D : Nat → Nat} (hD : ∀ a b, a ≤ b → D a ≤ D b) {x : Nat} (h : Below1 D x) (_hx : x < D x) : Below1 D (D x) := fun y h1 h2 => by
  rcases Nat.lt_or_ge y x with h3 | h3
  · exact h y h1 h3
  · have := hD x y h3
    omega
def ClimbEnd (D : Nat → Nat) (m x0 p d : Nat) (A : Option Addr) (n cap : Nat) (l : List Ld) (w : World) (e : Ending) (w' : World) : Prop :=
  ∃ v b r', e = .returned (.tuple #[U v, .bool b]) ∧ WorkAt w' p d A n cap l r' ∧ Only (fun k => k = p) w w' ∧
    ((b = true ∧ 1 ≤ v ∧ IsWin D m v) ∨ (b = false ∧ ((m < r' ∧ IsWin D m 0) ∨ (r' ≤ m ∧ x0 < r' ∧ Below1 D r'))))
theorem climb_hit {D : Nat → Nat} {m x0 p d n cap v : Nat} {A : Option Addr} {l : List Ld} {w w3 : World} (hv1 : 1 ≤ v) (hvm : v ≤ m) (hI : Below1 D v) (hDv : D v ≤ v) (r' : Nat) (hw : WorkAt w3 p d A n cap l r') (ho : Only (fun k => k = p) w w3) :
    ClimbEnd D m x0 p d A n cap l w (.returned (.tuple #[U v, .bool true])) w3 := ⟨v, true, r', rfl, hw, ho, .inl ⟨rfl, hv1, .inr ⟨hv1, hvm, hDv, hI⟩⟩⟩
theorem WorkAt.setq {w W : World} {p d n cap r : Nat} {A : Option Addr} {l : List Ld} (h0 : LRow w A l) (h : WorkAt W p d A n cap l r) (hp : p ≠ w.heap.size) (v : Value) : WorkAt (W.setCell ⟨w.heap.size, 0, none⟩ v) p d A n cap l r := by
  have hO : Only (fun k => k = w.heap.size) W (W.setCell ⟨w.heap.size, 0, none⟩ v) := (Only.refl (fun k => k = w.heap.size) W).setCell (p := ⟨w.heap.size, 0, none⟩) (fun _ => rfl) v
  refine ⟨heap_kept_set h.at_ hp v, fun k c p' hk => ?_, h.ap⟩
  obtain ⟨b, off, rfl, _, _, hlt⟩ := h0 k c p' hk
  obtain ⟨b', off', e, c1, c2, hlt'⟩ := h.row k c p' hk
  cases e
  exact ⟨b, off, rfl, hO.cell c1 (fun e => by simp at e; omega), hO.cell c2 (fun e => by simp at e; omega), Nat.lt_of_lt_of_le hlt' hO.size⟩
set_option maxRecDepth 100000 in
set_option maxHeartbeats 4000000 in
theorem climb_any {w : World} {p d n cap r x0 m : Nat} {A : Option Addr} {l : List Ld} {D : Nat → Nat} (hwk : WorkAt w p d A n cap l r) (hn : l.length = n) (hnn : n ≤ 1000) (hb : LB l) (hd : d ≤ 18446744073709551615)
    (hD : ∀ x, x ≤ 18446744073709551615 → D x = dem d l x) (hm : m ≤ 16777216) (hx1 : 1 ≤ x0) (hxm : x0 ≤ m) (hI : Below1 D x0) (hmono : ∀ a b, a ≤ b → D a ≤ D b) :
    Calls Tryz.prog 151 #[wfun p, U x0, U m] w (ClimbEnd D m x0 p d A n cap l w) := by
  have hmf : ∀ (fn : Fn) (first cap : Array Value) (w : World), (Instr.makeFunc fn first cap).run Tryz.prog w = .ok (.func fn first cap) w := fun _ _ _ _ => rfl
  have hst := Lib.hid (fun W r (h : WorkAt W p d A n cap l r) x (hx : x ≤ 18446744073709551615) => (wstep_any h hn hnn hb hd hx).mono (R' := StepEnd p d A n cap l (D x) W) (fun e w' h => by rw [hD x hx]; exact h))
  have hp := row_lt hwk.at_
  have hset := Lib.hid (fun W r (v : Value) (h : WorkAt W p d A n cap l r) => h.setq hwk.row (by omega) v)
  have hwk' := Lib.hid hwk
  have hI' := Lib.hid hI
  have hmono' := Lib.hid hmono
  obtain ⟨Z, hZ⟩ : ∃ Z, Z = ClimbEnd D m x0 p d A n cap l w := ⟨_, rfl⟩
  rw [← hZ]
  have hZ' := Lib.hid hZ
  obtain ⟨q, hq⟩ : ∃ q, q = w.heap.size := ⟨_, rfl⟩
  have hq' := Lib.hid hq
  have hx0 : ¬ (m : Int) < x0 := by omega
  have hxs := Lib.hid (And.intro hx1 (And.intro hxm hm))
  clear hwk hn hnn hb hd hD hI hmono hZ hx1 hxm hm
  unfold wfun
  go_enter_defers Tryz.func151, Tryz.ntmps151
  go_wp2
  rw [← hq] at hset ⊢
  have hpq : p ≠ q := by omega
  clear hq hp
  go_loopw [6, 8, 15] (fun u6 _ i wr => ∃ (k z r : Nat), i = .int .i64 k ∧ u6 = U z ∧ Hid (x0 ≤ z ∧ z ≤ m ∧ k ≤ 1048576 ∧ Below1 D z ∧ (k = 0 ∨ (r = z ∧ x0 < z))) ∧ Hid (WorkAt wr p d A n cap l r) ∧ Hid (Only (fun k => k = p) w wr) ∧ q < wr.heap.size ∧ wr.cell? ⟨q, 0, none⟩ = some (.bool false) ∧ wr.frozen? ⟨q, 0, none⟩ = false) (fun _ _ i _ => (1048576 - intOf i).toNat)
  case atStart => exact ⟨0, x0, r, rfl, rfl, Lib.hid ⟨Nat.le_refl _, hxs.out.2.1, by omega, hI'.out, .inl rfl⟩, Lib.hid (hwk'.out.new ((Only.refl _ _).alloc _)), Lib.hid ((Only.refl _ _).alloc _), by rw [hq'.out]; simp, by rw [hq'.out]; simp [go_sem], by rw [hq'.out]; simp [go_sem]⟩
  case round =>
    obtain ⟨k, z, r, rfl, rfl, hz, hW, hO, hsz, hc, hf⟩ := hrel
    by_cases hk : k < 1048576
    · have hlt : (k : Int) < 1048576 := by omega
      have hzs := Lib.hid (show z ≤ 18446744073709551615 by have := hz.out; have := hxs.out; omega)
      have hcall := Lib.hid (hst.out wr r hW.out z hzs.out)
      obtain ⟨s, hs⟩ : ∃ s, s = D z := ⟨_, rfl⟩
      rw [← hs] at hcall
      have hs' := Lib.hid hs
      have hk' := Lib.hid hk
      clear hs hk
      by_cases h1 : s ≤ z
      · have h1' : (s : Int) ≤ z := by omega
        go_wp2_with (go_at_call 117; refine hcall.out.mono ?_; rintro e w' ⟨rfl, hW2, hO2⟩; clear hlt; have hcy := hO2.cell hc (fun h => hpq h.symm); have hfy := (frozen_block hO2 hsz (fun h => hpq h.symm)).trans hf; have hsz2 := Nat.lt_of_lt_of_le hsz hO2.size; have hW2' := Lib.hid hW2; have hO2' := Lib.hid (hO.out.trans' hO2); clear hW2 hO2)
        refine leaves_cons (f := 184) (args := #[.pointer (some ⟨q, 0, none⟩)]) (by simp) (by simp [go_sem]) ?_
        refine (caught _ _).mono ?_
        rintro e u' w'' ⟨rfl, rfl, rfl⟩
        simp [Leaves, settle, results, Tryz.results151, go_sem, hcy]
        rw [hZ'.out]
        exact ⟨z, true, s, rfl, hset.out _ _ _ hW2'.out, hO2'.out.setCell (fun h => absurd h (by rw [hq'.out]; exact Nat.lt_irrefl _)) _, .inl ⟨rfl, by have := hz.out; have := hxs.out; omega, .inr ⟨by have := hz.out; have := hxs.out; omega, hz.out.2.1, by rw [← hs'.out]; exact h1, hz.out.2.2.2.1⟩⟩⟩
      · have h1' : ¬ (s : Int) ≤ z := by omega
        by_cases h2 : m < s
        · have h2' : (m : Int) < s := by omega
          go_wp2_with (go_at_call 117; refine hcall.out.mono ?_; rintro e w' ⟨rfl, hW2, hO2⟩; clear hlt; have hcy := hO2.cell hc (fun h => hpq h.symm); have hfy := (frozen_block hO2 hsz (fun h => hpq h.symm)).trans hf; have hsz2 := Nat.lt_of_lt_of_le hsz hO2.size; have hW2' := Lib.hid hW2; have hO2' := Lib.hid (hO.out.trans' hO2); clear hW2 hO2)
          refine leaves_cons (f := 184) (args := #[.pointer (some ⟨q, 0, none⟩)]) (by simp) (by simp [go_sem]) ?_
          refine (caught _ _).mono ?_
          rintro e u' w'' ⟨rfl, rfl, rfl⟩
          simp [Leaves, settle, results, Tryz.results151, go_sem, hcy]
          rw [hZ'.out]
          refine ⟨s, false, s, rfl, hset.out _ _ _ hW2'.out, hO2'.out.setCell (fun h => absurd h (by rw [hq'.out]; exact Nat.lt_irrefl _)) _, .inr ⟨rfl, .inl ⟨h2, .inl ⟨rfl, ?_⟩⟩⟩⟩
          have hB := hz.out.2.2.2.1.up hmono'.out (by rw [← hs'.out]; omega)
          rw [← hs'.out] at hB
          exact fun y h1 h2 => hB y h1 (by omega)
        · have h2' : ¬ (m : Int) < s := by omega
          go_wp2_with (go_at_call 117; refine hcall.out.mono ?_; rintro e w' ⟨rfl, hW2, hO2⟩; have hcy := hO2.cell hc (fun h => hpq h.symm); have hfy := (frozen_block hO2 hsz (fun h => hpq h.symm)).trans hf; have hsz2 := Nat.lt_of_lt_of_le hsz hO2.size; have hW2' := Lib.hid hW2; have hO2' := Lib.hid (hO.out.trans' hO2); clear hW2 hO2)
          go_roundw
          case rel =>
            refine ⟨k + 1, s, s, by go_num, rfl, Lib.hid ⟨by have := hz.out; omega, by omega, by have := hk'.out; omega, ?_, .inr ⟨rfl, by have := hz.out; omega⟩⟩, hW2', hO2', hsz2, hcy, hfy⟩
            have hB := hz.out.2.2.2.1.up hmono'.out (by rw [← hs'.out]; omega)
            rw [← hs'.out] at hB
            exact hB
          case measure => simp [intOf]; omega
    · have hk2 : k = 1048576 := by have := hz.out; omega
      subst hk2
      go_wp2
      refine leaves_cons (f := 184) (args := #[.pointer (some ⟨q, 0, none⟩)]) (by simp) (by simp [go_sem]) ?_
      refine (caught _ _).mono ?_
      rintro e u' w'' ⟨rfl, rfl, rfl⟩
      simp [Leaves, settle, results, Tryz.results151, go_sem, hc]
      rw [hZ'.out]
      have h5 := hz.out.2.2.2.2
      refine ⟨z, false, r, rfl, hset.out _ _ _ hW.out, hO.out.setCell (fun h => absurd h (by rw [hq'.out]; exact Nat.lt_irrefl _)) _, .inr ⟨rfl, .inr ?_⟩⟩
      obtain ⟨rfl, h6⟩ : r = z ∧ x0 < z := by omega
      exact ⟨hz.out.2.1, h6, hz.out.2.2.2.1⟩
end Bch
end Go.Proofs.YtlbinlhaejhobaaGreatDoor
/- A window: Least and Window. -/
namespace Go.Proofs.YtlbinlhaejhobaaGreatDoor
namespace Bch
open Go Go.RowKit
theorem sA_mono {a a' b b' : Nat} (h : a ≤ a') (k : b ≤ b') : sA a b ≤ sA a' b' := by unfold sA; split <;> split <;> omega
theorem sM_mono {a b b' : Nat} (k : b ≤ b') : sM a b ≤ sM a b' := by
  have := Nat.mul_le_mul_left a k
  unfold sM
  split <;> split <;> omega
theorem sC_mono {a a' b : Nat} (h : a ≤ a') (ha : a' ≤ 18446744073709551615) : sC a b ≤ sC a' b := by
  unfold sC
  by_cases h0 : a = 0
  · rw [if_pos h0]; omega
  rw [if_neg h0, if_neg (show ¬ a' = 0 by omega)]
  by_cases h1 : b = 0 ∨ a = 18446744073709551615
  · rw [if_pos h1, if_pos (by omega)]; omega
  rw [if_neg h1]
  have := Nat.div_le_div_right (c := b) (show a - 1 ≤ a' - 1 by omega)
  have := Nat.div_le_self (a - 1) b
  split <;> omega
theorem dem_mono {d d' : Nat} (hd : d ≤ d') (l : List Ld) {x x' : Nat} (hx : x ≤ x') (h : x' ≤ 18446744073709551615) : dem d l x ≤ dem d' l x' := by
  induction l generalizing d d' with
  | nil => exact hd
  | cons y l ih => exact ih (sA_mono hd (sM_mono (sC_mono hx h)))
theorem sA_self {a b : Nat} (h : a ≤ 18446744073709551615) : a ≤ sA a b := by unfold sA; split <;> omega
theorem dem_snoc {d : Nat} {l : List Ld} {y : Ld} {x : Nat} (hd : d ≤ 18446744073709551615) : dem d l x ≤ dem d (l ++ [y]) x := by
  unfold dem
  rw [List.foldl_append]
  exact sA_self (dem_le hd l x)
/-- The demand, everywhere: beyond the numbers there are it stands still. -/
def demC (d : Nat) (l : List Ld) (x : Nat) : Nat := dem d l (min x 18446744073709551615)
theorem demC_mono (d : Nat) (l : List Ld) (a b : Nat) (h : a ≤ b) : demC d l a ≤ demC d l b := dem_mono (Nat.le_refl _) l (by omega) (by omega)
theorem demC_eq {d : Nat} {l : List Ld} {x : Nat} (h : x ≤ 18446744073709551615) : demC d l x = dem d l x := by rw [demC, Nat.min_eq_left h]
theorem isWin_congr {D E : Nat → Nat} {m r : Nat} (h : IsWin D m r) (he : ∀ x, x ≤ m → D x = E x) : IsWin E m r := by
  rcases h with ⟨rfl, h⟩ | ⟨h1, h2, h3, h4⟩
  · exact .inl ⟨rfl, fun x a b => by rw [← he x b]; exact h x a b⟩
  · exact .inr ⟨h1, h2, by rw [← he r h2]; exact h3, fun x a b => by rw [← he x (by omega)]; exact h4 x a b⟩
theorem win_demC {d : Nat} {l : List Ld} {m : Nat} (hm : m ≤ 18446744073709551615) : win (demC d l) m = win (dem d l) m :=
  (isWin_congr (win_is (demC d l) m) (fun x hx => demC_eq (by omega))).uniq (win_is _ _)

def LeastEnd (D : Nat → Nat) (m x0 p d : Nat) (A : Option Addr) (n cap : Nat) (l : List Ld) (w : World) (e : Ending) (w' : World) : Prop :=
  ∃ v b r', e = .returned (.tuple #[U v, .bool b]) ∧ WorkAt w' p d A n cap l r' ∧ Only (fun k => k = p) w w' ∧
    ((b = true ∧ 1 ≤ v ∧ IsWin D m v) ∨ (b = false ∧ ((m < r' ∧ IsWin D m 0) ∨ (r' ≤ m ∧ x0 < r' ∧ Below1 D r'))))
theorem least_any {w : World} {p d n cap x0 m : Nat} {A : Option Addr} {l : List Ld} {D : Nat → Nat}
    (hc : Calls Tryz.prog 151 #[wfun p, U x0, U m] w (ClimbEnd D m x0 p d A n cap l w)) : Calls Tryz.prog 116 #[wfun p, U x0, U m] w (LeastEnd D m x0 p d A n cap l w) := by
  obtain ⟨Z, hZ⟩ : ∃ Z, Z = LeastEnd D m x0 p d A n cap l w := ⟨_, rfl⟩
  rw [← hZ]
  have hZ' := Lib.hid hZ
  have hc' := Lib.hid hc
  clear hc hZ
  unfold wfun at *
  go_enter Tryz.func116, Tryz.ntmps116
  go_wp2_with fail
  refine hc'.out.mono ?_
  rintro e w' ⟨v, b, r', rfl, h1, h2, h3⟩
  have h1' := Lib.hid h1
  have h2' := Lib.hid h2
  have h3' := Lib.hid h3
  clear h1 h2 h3
  cases b
  · go_wp2
    rw [hZ'.out]
    exact ⟨18446744073709551615, false, r', rfl, h1'.out, h2'.out, .inr ⟨rfl, h3'.out.elim (fun h => by cases h.1) (fun h => h.2)⟩⟩
  · go_wp2
    rw [hZ'.out]
    exact ⟨v, true, r', rfl, h1'.out, h2'.out, h3'.out.elim (fun h => .inl ⟨rfl, h.2⟩) (fun h => by cases h.1)⟩
theorem bounded_any (m : Nat) (w : World) (_hm : m ≤ 18446744073709551615) : Calls Tryz.prog 115 #[U m] w fun e w' => e = .returned (U (min m 16777216)) ∧ w' = w := by
  by_cases h : m ≤ 16777216
  · have h' : (m : Int) ≤ 16777216 := by omega
    rw [Nat.min_eq_left h]
    go_enter Tryz.func115, Tryz.ntmps115
    go_wp2
    all_goals first
      | (go_ret; exact ⟨ret_u (by omega), rfl⟩)
      | (go_ret; exact ⟨rfl, rfl⟩)
  · have h' : ¬ (m : Int) ≤ 16777216 := by omega
    rw [Nat.min_eq_right (by omega)]
    go_enter Tryz.func115, Tryz.ntmps115
    go_wp2
    all_goals first
      | (go_ret; exact ⟨ret_u (by omega), rfl⟩)
      | (go_ret; exact ⟨rfl, rfl⟩)
theorem climb_any' {w : World} {p d n cap r x0 m : Nat} {A : Option Addr} {l : List Ld} {D : Nat → Nat} (hwk : WorkAt w p d A n cap l r) (hn : l.length = n) (hnn : n ≤ 1000) (hb : LB l) (hd : d ≤ 18446744073709551615)
    (hD : D = demC d l) (hm : m ≤ 16777216) (hx1 : 1 ≤ x0) (hxm : x0 ≤ m) (hI : Below1 D x0) :
    Calls Tryz.prog 151 #[wfun p, U x0, U m] w (ClimbEnd D m x0 p d A n cap l w) := by
  subst hD
  exact climb_any hwk hn hnn hb hd (fun x hx => demC_eq hx) hm hx1 hxm hI (demC_mono d l)
def orU (r : Nat) : Nat := if r = 0 then 18446744073709551615 else r
def WinEnd (r : Nat) (w : World) (e : Ending) (w' : World) : Prop := e = .returned (.tuple #[U (orU r), .bool (decide (0 < r))]) ∧ Only (fun _ => False) w w'
set_option maxHeartbeats 2000000 in
theorem window_any {A : Option Addr} {n cap d most : Nat} {l : List Ld} {w : World} (hr : LRow w A l) (hn : l.length = n) (hnn : n ≤ 1000) (hb : LB l) (hd : d ≤ 18446744073709551615) (hm : most ≤ 18446744073709551615) :
    Calls Tryz.prog 78 #[U d, .slice A n cap, U most] w (WinEnd (win (dem d l) (min most 16777216)) w) := by
  have hmf : ∀ (fn : Fn) (first cap : Array Value) (w : World), (Instr.makeFunc fn first cap).run Tryz.prog w = .ok (.func fn first cap) w := fun _ _ _ _ => rfl
  have hbd := Lib.hid (fun W => bounded_any most W hm)
  obtain ⟨m, hmm⟩ : ∃ m, m = min most 16777216 := ⟨_, rfl⟩
  have hm2 : m ≤ 16777216 := by omega
  rw [← hmm] at hbd ⊢
  rw [← win_demC (by omega)]
  have hlast := Lib.hid (fun r (h : IsWin (demC d l) m r) => (h.uniq (win_is _ _)))
  obtain ⟨D, hD⟩ : ∃ D, D = demC d l := ⟨_, rfl⟩
  have hcl := Lib.hid (fun W r x0 (h : WorkAt W w.heap.size d A n cap l r) (h1 : 1 ≤ x0) (h2 : x0 ≤ m) (h3 : Below1 D x0) => least_any (show Calls Tryz.prog 151 #[wfun w.heap.size, U x0, U m] W (ClimbEnd D m x0 w.heap.size d A n cap l W) from climb_any' h hn hnn hb hd hD hm2 h1 h2 h3))
  obtain ⟨r, hrr⟩ : ∃ r, r = win D m := ⟨_, rfl⟩
  rw [← hD] at hlast ⊢
  rw [← hrr] at hlast ⊢
  obtain ⟨Z, hZ⟩ : ∃ Z, Z = WinEnd r w := ⟨_, rfl⟩
  rw [← hZ]
  have hZ' := Lib.hid hZ
  have hw1 := Lib.hid (show WorkAt (w.alloc (.cells [U d, .slice A n cap, U 1].toArray 137 (0, 0))) w.heap.size d A n cap l 1 from
    ⟨heap_new_at _ _ rfl, hr.new ((Only.refl _ _).alloc _), fun b off hl e k => by
      subst e k
      obtain ⟨b', off', e, _, _, hlt⟩ := hr 0 (l[0]'hl).1 (l[0]'hl).2 (List.getElem?_eq_getElem hl)
      cases e
      omega⟩)
  obtain ⟨p, hp⟩ : ∃ p, p = w.heap.size := ⟨_, rfl⟩
  rw [← hp] at hcl hw1
  have hp' := Lib.hid hp
  clear hr hn hnn hb hd hm hmm hD hrr hZ hp
  go_enter Tryz.func78, Tryz.ntmps78
  go_wp2_with (go_at_call 115; refine (hbd.out _).mono ?_; rintro e w' ⟨rfl, hw⟩; rw [hw])
  rw [← hp'.out]
  have hO1 := Lib.hid ((Only.refl (fun _ => False) w).alloc (.cells #[U d, .slice A n cap, U 1] 137))
  have hw2 := Lib.hid hw1.out
  generalize (w.alloc (Obj.cells #[Value.int IntKind.u64 ↑d, Value.slice A n cap, Value.int IntKind.u64 1] 137)) = w1 at *
  clear hw1 hw
  go_wp2
  go_loopg [9, 10] (m + 1) (fun kx _ _ wr => ∃ r0, Hid (WorkAt wr p d A n cap l r0) ∧ Hid (Only (fun _ => False) w wr) ∧ 1 ≤ r0 ∧ m + 1 - r0 ≤ kx ∧ Hid ((r0 ≤ m ∧ Below1 D r0) ∨ (m < r0 ∧ IsWin D m 0)))
  case atStart => exact ⟨1, hw2, hO1, Nat.le_refl _, by omega, Lib.hid (by
      rcases Nat.lt_or_ge m 1 with h | h
      · exact .inr ⟨h, .inl ⟨rfl, fun x a b => by omega⟩⟩
      · exact .inl ⟨h, fun y a b => by omega⟩)⟩
  case round =>
    obtain ⟨r0, hW, hO, hr1, hg, hI⟩ := hrel
    have e2 := row_cell hW.out.at_ (i := 2) rfl
    have el := row_lt hW.out.at_
    by_cases hrm : r0 ≤ m
    · have hrm' : (r0 : Int) ≤ m := by omega
      have hI2 := Lib.hid (show Below1 D r0 from hI.out.elim (fun h => h.2) (fun h => by omega))
      have hcall := Lib.hid (hcl.out wr r0 r0 hW.out hr1 hrm hI2.out)
      unfold wfun at hcall
      go_wp2_with fail
      refine hcall.out.mono ?_
      rintro e w3 ⟨v, b, r', rfl, h1, h2, h3⟩
      have h1' := Lib.hid h1
      have h2' := Lib.hid (hO.out.trans h2 (fun x hx e => by have := hp'.out; omega))
      have h3' := Lib.hid h3
      clear h1 h2 h3 e2 el
      cases b
      · have h4 := h3'.out.elim (fun h => by cases h.1) (fun h => h.2)
        have h4' := Lib.hid h4
        clear h4
        go_wp2
        go_roundg (m + 1 - r')
        case measure => have := h4'.out; omega
        case rel => exact ⟨r', h1', h2', by have := h4'.out; omega, Nat.le_refl _, Lib.hid (h4'.out.elim (fun h => .inr h) (fun h => .inl ⟨h.1, h.2.2⟩))⟩
      · have h4 := Lib.hid (h3'.out.elim (fun h => h.2) (fun h => by cases h.1))
        go_wp2
        rw [hZ'.out]
        have h5 := hlast.out v h4.out.2
        have h6 := h4.out.1
        subst h5
        exact ⟨by unfold orU; rw [if_neg (by omega), decide_eq_true (by omega)]; rfl, h2'.out⟩
    · have hrm' : ¬ (r0 : Int) ≤ m := by omega
      have h4 := Lib.hid (hI.out.elim (fun h => absurd h.1 hrm) (fun h => h.2))
      go_wp2
      rw [hZ'.out]
      have h5 := hlast.out 0 h4.out
      subst h5
      exact ⟨rfl, hO.out⟩
end Bch
end Go.Proofs.YtlbinlhaejhobaaGreatDoor
/- A call of a Go function as one step of a region that draws its order: its contract, whatever world the call is made in. Speaks of no program. -/
namespace Go.Proofs.YtlbinlhaejhobaaGreatDoor
open Go Go.RowKit

theorem step_call {P : Program} {w : World} {ops : Array Oper} {o : Oper} {a : Act} {K : Act → World → Prop} {Q : Exit → Act → World → Prop} {E : Prop} (hgd : o.guard = none) {f : FuncId} {fn : Func} {c : Code} (hf : P.funcs[f]? = some fn) (hname : (fn.name == "runtime.NumGoroutine") = false) (hb : fn.body = some c) (xs : List Operand) (ts : Array TypeId)
    (hop : o.op = Op.call { callee := Callee.value (.func f), args := xs.toArray, argTypes := ts }) (args : List Value) (hx : xs.map a.eval = args) {R : Ending → World → Prop} (h : Calls P f args.toArray w R)
    (hR : ∀ e w', R e w' → ∃ v, e = .returned v ∧ K (a.put o.dst v) w') : if Region.wanted o (yielded ops a.tmps) = true then Oper.wp P o a w K Q else E := by
  have hw : Region.wanted o (yielded ops a.tmps) = true := by simp [Region.wanted, hgd]
  rw [if_pos hw]
  have hrun : (execOp a.eval o).run P w = .ok (.enter f args.toArray) w := by
    subst hx
    have h1 : fn.name ≠ "runtime.NumGoroutine" := by simpa using hname
    simp [execOp, hop, resolve, invoke, Act.eval, Deferred.ofValue, callFunc, Result.andThen, hf, h1, hb]
  unfold Oper.wp
  rw [hrun]
  show Calls P f args.toArray w _
  refine h.mono fun e w' r => ?_
  obtain ⟨v, rfl, hk⟩ := hR e w' r
  exact hk
end Go.Proofs.YtlbinlhaejhobaaGreatDoor
