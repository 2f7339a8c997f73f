/- The way up: climb and Least of a window's step. -/
import Derived.Test.YtcgnboplpibcgaaStp
import Derived.Defers
import Derived.Recover
namespace Go.Proofs.Ytcgnboplpibcgaa
open Go Go.RowKit
def wfun (p : Nat) : Value := .func (.func 34) #[.pointer (some ⟨p, 0, none⟩)] #[]
theorem caught (p : Addr) (w : World) :
    CallsD Try.prog 58 #[.pointer (some p)] .returning w fun e u' w' => e = .returned (.tuple #[]) ∧ u' = .returning ∧ w' = w := by
  refine callsD_of_wpS Try.func58 rfl fun c₀ cs hu => ?_
  apply wpS_seq
  apply wpS_region
  simp [wpOpsS, go_sem, recoverD, hu, Try.ntmps58, Exit.thenS]
  refine wpS_cond (t := false) (by simp [Act.eval, Array.replicate]) ?_
  simp only [Bool.false_eq_true, if_false]
  refine wpS_of_wp (wp_skip ?_)
  cases c₀
  simp_all [bodyPostS, results, Try.results58]
theorem frozen_block {S : Nat → Prop} {a w : World} (h : Only S a w) {b o : Nat} (hb : b < a.heap.size) (hS : ¬ S b) : w.frozen? ⟨b, o, none⟩ = a.frozen? ⟨b, o, none⟩ := by
  unfold World.frozen?
  simp only [h.block b hb hS]
def Below1 (D : Nat → Nat) (x : Nat) : Prop := ∀ y, 1 ≤ y → y < x → y < D y
theorem Below1.up {D : Nat → Nat} (hD : ∀ a b, a ≤ b → D a ≤ D b) {x : Nat} (h : Below1 D x) (_hx : x < D x) : Below1 D (D x) := fun y h1 h2 => by
  rcases Nat.lt_or_ge y x with h3 | h3
  · exact h y h1 h3
  · have := hD x y h3
    omega
def ClimbEnd (D : Nat → Nat) (m x0 p d : Nat) (A : Option Addr) (n cap : Nat) (l : List Ld) (w : World) (e : Ending) (w' : World) : Prop :=
  ∃ v b r', e = .returned (.tuple #[U v, .bool b]) ∧ WorkAt w' p d A n cap l r' ∧ Only (fun k => k = p) w w' ∧
    ((b = true ∧ 1 ≤ v ∧ IsWin D m v) ∨ (b = false ∧ ((m < r' ∧ IsWin D m 0) ∨ (r' ≤ m ∧ x0 < r' ∧ Below1 D r'))))
theorem climb_hit {D : Nat → Nat} {m x0 p d n cap v : Nat} {A : Option Addr} {l : List Ld} {w w3 : World} (hv1 : 1 ≤ v) (hvm : v ≤ m) (hI : Below1 D v) (hDv : D v ≤ v) (r' : Nat) (hw : WorkAt w3 p d A n cap l r') (ho : Only (fun k => k = p) w w3) :
    ClimbEnd D m x0 p d A n cap l w (.returned (.tuple #[U v, .bool true])) w3 := ⟨v, true, r', rfl, hw, ho, .inl ⟨rfl, hv1, .inr ⟨hv1, hvm, hDv, hI⟩⟩⟩
theorem WorkAt.setq {w W : World} {p d n cap r : Nat} {A : Option Addr} {l : List Ld} (h0 : LRow w A l) (h : WorkAt W p d A n cap l r) (hp : p ≠ w.heap.size) (v : Value) : WorkAt (W.setCell ⟨w.heap.size, 0, none⟩ v) p d A n cap l r := by
  have hO : Only (fun k => k = w.heap.size) W (W.setCell ⟨w.heap.size, 0, none⟩ v) := (Only.refl (fun k => k = w.heap.size) W).setCell (p := ⟨w.heap.size, 0, none⟩) (fun _ => rfl) v
  refine ⟨heap_kept_set h.at_ hp v, fun k c p' hk => ?_, h.ap⟩
  obtain ⟨b, off, rfl, _, _, hlt⟩ := h0 k c p' hk
  obtain ⟨b', off', e, c1, c2, hlt'⟩ := h.row k c p' hk
  cases e
  exact ⟨b, off, rfl, hO.cell c1 (fun e => by simp at e; omega), hO.cell c2 (fun e => by simp at e; omega), Nat.lt_of_lt_of_le hlt' hO.size⟩
set_option maxRecDepth 100000 in
set_option maxHeartbeats 4000000 in
theorem climb_any {w : World} {p d n cap r x0 m : Nat} {A : Option Addr} {l : List Ld} {D : Nat → Nat} (hwk : WorkAt w p d A n cap l r) (hn : l.length = n) (hnn : n ≤ 1000) (hb : LB l) (hd : d ≤ 18446744073709551615)
    (hD : ∀ x, x ≤ 18446744073709551615 → D x = dem d l x) (hm : m ≤ 16777216) (hx1 : 1 ≤ x0) (hxm : x0 ≤ m) (hI : Below1 D x0) (hmono : ∀ a b, a ≤ b → D a ≤ D b) :
    Calls Try.prog 48 #[wfun p, U x0, U m] w (ClimbEnd D m x0 p d A n cap l w) := by
  have hmf : ∀ (fn : Fn) (first cap : Array Value) (w : World), (Instr.makeFunc fn first cap).run Try.prog w = .ok (.func fn first cap) w := fun _ _ _ _ => rfl
  have hst := Lib.hid (fun W r (h : WorkAt W p d A n cap l r) x (hx : x ≤ 18446744073709551615) => (wstep_any h hn hnn hb hd hx).mono (R' := StepEnd p d A n cap l (D x) W) (fun e w' h => by rw [hD x hx]; exact h))
  have hp := row_lt hwk.at_
  have hset := Lib.hid (fun W r (v : Value) (h : WorkAt W p d A n cap l r) => h.setq hwk.row (by omega) v)
  have hwk' := Lib.hid hwk
  have hI' := Lib.hid hI
  have hmono' := Lib.hid hmono
  obtain ⟨Z, hZ⟩ : ∃ Z, Z = ClimbEnd D m x0 p d A n cap l w := ⟨_, rfl⟩
  rw [← hZ]
  have hZ' := Lib.hid hZ
  obtain ⟨q, hq⟩ : ∃ q, q = w.heap.size := ⟨_, rfl⟩
  have hq' := Lib.hid hq
  have hx0 : ¬ (m : Int) < x0 := by omega
  have hxs := Lib.hid (And.intro hx1 (And.intro hxm hm))
  clear hwk hn hnn hb hd hD hI hmono hZ hx1 hxm hm
  unfold wfun
  go_enter_defers Try.func48, Try.ntmps48
  go_wp2
  rw [← hq] at hset ⊢
  have hpq : p ≠ q := by omega
  clear hq hp
  go_loopw [6, 8, 15] (fun u6 _ i wr => ∃ (k z r : Nat), i = .int .i64 k ∧ u6 = U z ∧ Hid (x0 ≤ z ∧ z ≤ m ∧ k ≤ 1048576 ∧ Below1 D z ∧ (k = 0 ∨ (r = z ∧ x0 < z))) ∧ Hid (WorkAt wr p d A n cap l r) ∧ Hid (Only (fun k => k = p) w wr) ∧ q < wr.heap.size ∧ wr.cell? ⟨q, 0, none⟩ = some (.bool false) ∧ wr.frozen? ⟨q, 0, none⟩ = false) (fun _ _ i _ => (1048576 - intOf i).toNat)
  case atStart => exact ⟨0, x0, r, rfl, rfl, Lib.hid ⟨Nat.le_refl _, hxs.out.2.1, by omega, hI'.out, .inl rfl⟩, Lib.hid (hwk'.out.new ((Only.refl _ _).alloc _)), Lib.hid ((Only.refl _ _).alloc _), by rw [hq'.out]; simp, by rw [hq'.out]; simp [go_sem], by rw [hq'.out]; simp [go_sem]⟩
  case round =>
    obtain ⟨k, z, r, rfl, rfl, hz, hW, hO, hsz, hc, hf⟩ := hrel
    by_cases hk : k < 1048576
    · have hlt : (k : Int) < 1048576 := by omega
      have hzs := Lib.hid (show z ≤ 18446744073709551615 by have := hz.out; have := hxs.out; omega)
      have hcall := Lib.hid (hst.out wr r hW.out z hzs.out)
      obtain ⟨s, hs⟩ : ∃ s, s = D z := ⟨_, rfl⟩
      rw [← hs] at hcall
      have hs' := Lib.hid hs
      have hk' := Lib.hid hk
      clear hs hk
      by_cases h1 : s ≤ z
      · have h1' : (s : Int) ≤ z := by omega
        go_wp2_with (go_at_call 34; refine hcall.out.mono ?_; rintro e w' ⟨rfl, hW2, hO2⟩; clear hlt; have hcy := hO2.cell hc (fun h => hpq h.symm); have hfy := (frozen_block hO2 hsz (fun h => hpq h.symm)).trans hf; have hsz2 := Nat.lt_of_lt_of_le hsz hO2.size; have hW2' := Lib.hid hW2; have hO2' := Lib.hid (hO.out.trans' hO2); clear hW2 hO2)
        refine leaves_cons (f := 58) (args := #[.pointer (some ⟨q, 0, none⟩)]) (by simp) (by simp [go_sem]) ?_
        refine (caught _ _).mono ?_
        rintro e u' w'' ⟨rfl, rfl, rfl⟩
        simp [Leaves, settle, results, Try.results48, go_sem, hcy]
        rw [hZ'.out]
        exact ⟨z, true, s, rfl, hset.out _ _ _ hW2'.out, hO2'.out.setCell (fun h => absurd h (by rw [hq'.out]; exact Nat.lt_irrefl _)) _, .inl ⟨rfl, by have := hz.out; have := hxs.out; omega, .inr ⟨by have := hz.out; have := hxs.out; omega, hz.out.2.1, by rw [← hs'.out]; exact h1, hz.out.2.2.2.1⟩⟩⟩
      · have h1' : ¬ (s : Int) ≤ z := by omega
        by_cases h2 : m < s
        · have h2' : (m : Int) < s := by omega
          go_wp2_with (go_at_call 34; refine hcall.out.mono ?_; rintro e w' ⟨rfl, hW2, hO2⟩; clear hlt; have hcy := hO2.cell hc (fun h => hpq h.symm); have hfy := (frozen_block hO2 hsz (fun h => hpq h.symm)).trans hf; have hsz2 := Nat.lt_of_lt_of_le hsz hO2.size; have hW2' := Lib.hid hW2; have hO2' := Lib.hid (hO.out.trans' hO2); clear hW2 hO2)
          refine leaves_cons (f := 58) (args := #[.pointer (some ⟨q, 0, none⟩)]) (by simp) (by simp [go_sem]) ?_
          refine (caught _ _).mono ?_
          rintro e u' w'' ⟨rfl, rfl, rfl⟩
          simp [Leaves, settle, results, Try.results48, go_sem, hcy]
          rw [hZ'.out]
          refine ⟨s, false, s, rfl, hset.out _ _ _ hW2'.out, hO2'.out.setCell (fun h => absurd h (by rw [hq'.out]; exact Nat.lt_irrefl _)) _, .inr ⟨rfl, .inl ⟨h2, .inl ⟨rfl, ?_⟩⟩⟩⟩
          have hB := hz.out.2.2.2.1.up hmono'.out (by rw [← hs'.out]; omega)
          rw [← hs'.out] at hB
          exact fun y h1 h2 => hB y h1 (by omega)
        · have h2' : ¬ (m : Int) < s := by omega
          go_wp2_with (go_at_call 34; refine hcall.out.mono ?_; rintro e w' ⟨rfl, hW2, hO2⟩; have hcy := hO2.cell hc (fun h => hpq h.symm); have hfy := (frozen_block hO2 hsz (fun h => hpq h.symm)).trans hf; have hsz2 := Nat.lt_of_lt_of_le hsz hO2.size; have hW2' := Lib.hid hW2; have hO2' := Lib.hid (hO.out.trans' hO2); clear hW2 hO2)
          go_roundw
          case rel =>
            refine ⟨k + 1, s, s, by go_num, rfl, Lib.hid ⟨by have := hz.out; omega, by omega, by have := hk'.out; omega, ?_, .inr ⟨rfl, by have := hz.out; omega⟩⟩, hW2', hO2', hsz2, hcy, hfy⟩
            have hB := hz.out.2.2.2.1.up hmono'.out (by rw [← hs'.out]; omega)
            rw [← hs'.out] at hB
            exact hB
          case measure => simp [intOf]; omega
    · have hk2 : k = 1048576 := by have := hz.out; omega
      subst hk2
      go_wp2
      refine leaves_cons (f := 58) (args := #[.pointer (some ⟨q, 0, none⟩)]) (by simp) (by simp [go_sem]) ?_
      refine (caught _ _).mono ?_
      rintro e u' w'' ⟨rfl, rfl, rfl⟩
      simp [Leaves, settle, results, Try.results48, go_sem, hc]
      rw [hZ'.out]
      have h5 := hz.out.2.2.2.2
      refine ⟨z, false, r, rfl, hset.out _ _ _ hW.out, hO.out.setCell (fun h => absurd h (by rw [hq'.out]; exact Nat.lt_irrefl _)) _, .inr ⟨rfl, .inr ?_⟩⟩
      obtain ⟨rfl, h6⟩ : r = z ∧ x0 < z := by omega
      exact ⟨hz.out.2.1, h6, hz.out.2.2.2.1⟩
end Go.Proofs.Ytcgnboplpibcgaa
