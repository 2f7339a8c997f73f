/- The way up: climb and Least of a window's step. -/
import Derived.Test.YtdoimkmhincmmaaBcStp
import Derived.Defers
import Derived.Recover
namespace Go.Proofs.Ytdoimkmhincmmaa
namespace Bch
open Go Go.RowKit
def wfun (p : Nat) : Value := .func (.func 999) #[.pointer (some ⟨p, 0, none⟩)] #[]
theorem frozen_block {S : Nat → Prop} {a w : World} (h : Only S a w) {b o : Nat} (hb : b < a.heap.size) (hS : ¬ S b) : w.frozen? ⟨b, o, none⟩ = a.frozen? ⟨b, o, none⟩ := by
  unfold World.frozen?
  simp only [h.block b hb hS]
def Below1 (D : Nat → Nat) (x : Nat) : Prop := ∀ y, 1 ≤ y → y < x → y < D y
theorem Below1.up {D : Nat → Nat} (hD : ∀ a b, a ≤ b → D a ≤ D b) {x : Nat} (h : Below1 D x) (_hx : x < D x) : Below1 D (D x) := fun y h1 h2 => by
  rcases Nat.lt_or_ge y x with h3 | h3
  · exact h y h1 h3
  · have := hD x y h3
    omega
def ClimbEnd (D : Nat → Nat) (m x0 p d : Nat) (A : Option Addr) (n cap : Nat) (l : List Ld) (w : World) (e : Ending) (w' : World) : Prop :=
  ∃ v b r', e = .returned (.tuple #[U v, .bool b]) ∧ WorkAt w' p d A n cap l r' ∧ Only (fun k => k = p) w w' ∧
    ((b = true ∧ 1 ≤ v ∧ IsWin D m v) ∨ (b = false ∧ ((m < r' ∧ IsWin D m 0) ∨ (r' ≤ m ∧ x0 < r' ∧ Below1 D r'))))
theorem climb_hit {D : Nat → Nat} {m x0 p d n cap v : Nat} {A : Option Addr} {l : List Ld} {w w3 : World} (hv1 : 1 ≤ v) (hvm : v ≤ m) (hI : Below1 D v) (hDv : D v ≤ v) (r' : Nat) (hw : WorkAt w3 p d A n cap l r') (ho : Only (fun k => k = p) w w3) :
    ClimbEnd D m x0 p d A n cap l w (.returned (.tuple #[U v, .bool true])) w3 := ⟨v, true, r', rfl, hw, ho, .inl ⟨rfl, hv1, .inr ⟨hv1, hvm, hDv, hI⟩⟩⟩
theorem WorkAt.setq {w W : World} {p d n cap r : Nat} {A : Option Addr} {l : List Ld} (h0 : LRow w A l) (h : WorkAt W p d A n cap l r) (hp : p ≠ w.heap.size) (v : Value) : WorkAt (W.setCell ⟨w.heap.size, 0, none⟩ v) p d A n cap l r := by
  have hO : Only (fun k => k = w.heap.size) W (W.setCell ⟨w.heap.size, 0, none⟩ v) := (Only.refl (fun k => k = w.heap.size) W).setCell (p := ⟨w.heap.size, 0, none⟩) (fun _ => rfl) v
  refine ⟨heap_kept_set h.at_ hp v, fun k c p' hk => ?_, h.ap⟩
  obtain ⟨b, off, rfl, _, _, hlt⟩ := h0 k c p' hk
  obtain ⟨b', off', e, c1, c2, hlt'⟩ := h.row k c p' hk
  cases e
  exact ⟨b, off, rfl, hO.cell c1 (fun e => by simp at e; omega), hO.cell c2 (fun e => by simp at e; omega), Nat.lt_of_lt_of_le hlt' hO.size⟩
end Bch
end Go.Proofs.Ytdoimkmhincmmaa
