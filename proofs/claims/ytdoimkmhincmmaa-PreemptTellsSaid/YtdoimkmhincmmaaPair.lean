/- Two rows of one element type that grow side by side. Speaks of no program. -/
import Derived.Test.YtdoimkmhincmmaaWin
namespace Go.Proofs.Ytdoimkmhincmmaa
open Go Go.RowKit
/-- Two rows of one element type (one cell each) of the call's own, side by side. -/
structure Pair (et : TypeId) (w0 w : World) (vk : Value) (hk : Option Nat) (nk : Nat) (ks : List Value) (vg : Value) (hg : Option Nat) (ng : Nat) (gs : List Value) : Prop where
  k : Win w et 1 vk hk nk ks
  g : Win w et 1 vg hg ng gs
  ne : ∀ b, hk = some b → ¬ some b = hg
  fk : ∀ b, hk = some b → w0.heap.size ≤ b
  fg : ∀ b, hg = some b → w0.heap.size ≤ b
  only : Only (fun _ => False) w0 w
/-- A block of neither. -/
structure Loc (w : World) (X : Nat) (o : Obj) (hk hg : Option Nat) : Prop where
  at_ : w.heap[X]? = some o
  k : ¬ hk = some X
  g : ¬ hg = some X
section
variable {et : TypeId} {w0 w w' : World} {vk vg vk' : Value} {hk hg hk' : Option Nat} {nk ng nk' : Nat} {ks gs ks' : List Value} {X : Nat} {o : Obj}
theorem Pair.alloc (h : Pair et w0 w vk hk nk ks vg hg ng gs) (o : Obj) : Pair et w0 (w.alloc o) vk hk nk ks vg hg ng gs :=
  ⟨h.k.kept ((Only.refl (fun _ => False) w).alloc o) (fun _ _ h => h), h.g.kept ((Only.refl (fun _ => False) w).alloc o) (fun _ _ h => h), h.ne, h.fk, h.fg, h.only.alloc o⟩
theorem Pair.drew (h : Pair et w0 w vk hk nk ks vg hg ng gs) : Pair et w0 w.drew vk hk nk ks vg hg ng gs :=
  ⟨h.k.kept (Only.refl (fun _ => False) w).drew (fun _ _ h => h), h.g.kept (Only.refl (fun _ => False) w).drew (fun _ _ h => h), h.ne, h.fk, h.fg, h.only.drew⟩
theorem Pair.swap (h : Pair et w0 w vk hk nk ks vg hg ng gs) : Pair et w0 w vg hg ng gs vk hk nk ks :=
  ⟨h.g, h.k, fun b hb e => h.ne b e.symm hb.symm, h.fg, h.fk, h.only⟩
theorem Pair.grow_k (h : Pair et w0 w vk hk nk ks vg hg ng gs) (hW : Win w' et 1 vk' hk' nk' ks') (hO : Only (fun k => some k = hk) w w') (hh : hk' = hk ∨ ∃ g, hk' = some g ∧ w.heap.size ≤ g) : Pair et w0 w' vk' hk' nk' ks' vg hg ng gs := by
  have q := step_fresh h.only hO h.fk hh
  refine ⟨hW, h.g.kept hO (fun b hb e => h.ne b e.symm hb.symm), ?_, q.2, h.fg, q.1⟩
  intro b hb e
  rcases hh with rfl | ⟨g, rfl, hg'⟩
  · exact h.ne b hb e
  · cases hb
    have := h.g.lt _ e.symm
    omega
theorem Pair.grow_g {vg' : Value} {hg' : Option Nat} {ng' : Nat} {gs' : List Value} (h : Pair et w0 w vk hk nk ks vg hg ng gs) (hW : Win w' et 1 vg' hg' ng' gs') (hO : Only (fun k => some k = hg) w w') (hh : hg' = hg ∨ ∃ g, hg' = some g ∧ w.heap.size ≤ g) : Pair et w0 w' vk hk nk ks vg' hg' ng' gs' := (h.swap.grow_k hW hO hh).swap
theorem Loc.alloc (h : Loc w X o hk hg) (p : Obj) : Loc (w.alloc p) X o hk hg := ⟨heap_kept_alloc h.at_ p, h.k, h.g⟩
theorem Loc.drew (h : Loc w X o hk hg) : Loc w.drew X o hk hg := ⟨h.at_, h.k, h.g⟩
theorem Loc.grow_k (h : Loc w X o hk hg) (hO : Only (fun k => some k = hk) w w') (hh : hk' = hk ∨ ∃ g, hk' = some g ∧ w.heap.size ≤ g) : Loc w' X o hk' hg := by
  refine ⟨hO.heap h.at_ (fun e => h.k e.symm), ?_, h.g⟩
  rcases hh with rfl | ⟨g, rfl, hg'⟩
  · exact h.k
  · intro e
    cases e
    have := row_lt h.at_
    omega
theorem Loc.swap (h : Loc w X o hk hg) : Loc w X o hg hk := ⟨h.at_, h.g, h.k⟩
theorem Loc.grow_g {hg' : Option Nat} (h : Loc w X o hk hg) (hO : Only (fun k => some k = hg) w w') (hh : hg' = hg ∨ ∃ g, hg' = some g ∧ w.heap.size ≤ g) : Loc w' X o hk hg' := (h.swap.grow_k hO hh).swap
end

theorem pair_one {w : World} {X : Nat} {a : Value} {e : TypeId} (h : w.heap[X]? = some (.cells #[a] e (0, 0))) : ∀ j u, [a][j]? = some u → w.cell? ((⟨X, 0, none⟩ : Addr).add j) = some u := fun j u hu => by
  rw [Addr.add_lit, Nat.zero_add]
  exact row_cell (L := [a]) h hu
end Go.Proofs.Ytdoimkmhincmmaa
