/- Loads: a row of costs and periods; the demand of both sides. -/
import Derived.Test.YtdoimkmhincmmaaBcSat
import Derived.Test.YtdoimkmhincmmaaWin
namespace Go.Proofs.Ytdoimkmhincmmaa
namespace Bch
open Go Go.RowKit
abbrev Ld := Nat × Nat
def LRow (w : World) (A : Option Addr) (l : List Ld) : Prop :=
  ∀ k c p, l[k]? = some (c, p) → ∃ b off, A = some ⟨b, off, none⟩ ∧ w.cell? ⟨b, off + k * 2, none⟩ = some (U c) ∧ w.cell? ⟨b, off + k * 2 + 1, none⟩ = some (U p) ∧ b < w.heap.size
theorem LRow.kept {S : Nat → Prop} {w w' : World} {A : Option Addr} {l : List Ld} (h : LRow w A l) (ho : Only S w w') (hS : ∀ b off, 0 < l.length → A = some ⟨b, off, none⟩ → ¬ S b) : LRow w' A l := fun k c p hk => by
  have hl : 0 < l.length := by have := (List.getElem?_eq_some_iff.1 hk).1; omega
  obtain ⟨b, off, rfl, h1, h2, h3⟩ := h k c p hk
  exact ⟨b, off, rfl, ho.cell h1 (hS b off hl rfl), ho.cell h2 (hS b off hl rfl), Nat.lt_of_lt_of_le h3 ho.size⟩
theorem LRow.new {w w' : World} {A : Option Addr} {l : List Ld} (h : LRow w A l) (ho : Only (fun _ => False) w w') : LRow w' A l := h.kept ho fun _ _ _ _ h => h
def LB (l : List Ld) : Prop := ∀ (k c p : Nat), l[k]? = some (c, p) → c ≤ 18446744073709551615 ∧ p ≤ 18446744073709551615
def dem (d : Nat) (l : List Ld) (x : Nat) : Nat := l.foldl (fun d y => sA d (sM y.1 (sC x y.2))) d
theorem dem_le {d : Nat} (hd : d ≤ 18446744073709551615) (l : List Ld) (x : Nat) : dem d l x ≤ 18446744073709551615 := by
  induction l generalizing d with
  | nil => exact hd
  | cons y l ih => exact ih (sA_le _ _)
theorem dem_take {d : Nat} {l : List Ld} {x k c p : Nat} (h : l[k]? = some (c, p)) : dem d (l.take (k + 1)) x = sA (dem d (l.take k) x) (sM c (sC x p)) := by
  unfold dem
  rw [List.take_add_one, h, List.foldl_append]
  rfl
def GrowU (n : Nat) (w : World) (e : Ending) (w' : World) : Prop := e = .returned (U n) ∧ Only (fun _ => False) w w'

end Bch
end Go.Proofs.Ytdoimkmhincmmaa
