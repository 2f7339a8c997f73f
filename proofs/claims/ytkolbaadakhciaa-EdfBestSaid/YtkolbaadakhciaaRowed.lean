/- Slices that came in, as the walks of laws are told of them. Speaks of no program. -/
import Derived.Test.YtkolbaadakhciaaMem
import Derived.OpenShut
namespace Go.Proofs.Ytkolbaadakhciaa
open Go Go.RowKit

/-- A slice that came in, read as values: of an empty one's address nothing is known. -/
def Row (w : World) (A : Option Addr) (n : Nat) (f : Nat → Value) : Prop :=
  ∀ k, k < n → ∃ b off, A = some ⟨b, off, none⟩ ∧ w.cell? ⟨b, off + k, none⟩ = some (f k) ∧ b < w.heap.size

theorem Row.below {w w' : World} {A : Option Addr} {n B : Nat} {f : Nat → Value} (h : Row w A n f) (hb : Below B w w') (hB : w.heap.size ≤ B) : Row w' A n f := fun k hk => by
  obtain ⟨b, off, rfl, hc, hlt⟩ := h k hk
  exact ⟨b, off, rfl, (hb.cell (p := ⟨b, off + k, none⟩) (Nat.lt_of_lt_of_le hlt hB)).trans hc, Nat.lt_of_lt_of_le hlt hb.size⟩
theorem Row.only {S : Nat → Prop} {w w' : World} {A : Option Addr} {n : Nat} {f : Nat → Value} (h : Row w A n f) (hb : Only S w w') (hS : ∀ k, S k → w.heap.size ≤ k) : Row w' A n f :=
  h.below (hb.below (Nat.le_refl _) hS) (Nat.le_refl _)

/-- The same of numbers: each fits its kind. -/
def IntRow (k : IntKind) (w : World) (A : Option Addr) (n : Nat) (f : Nat → Int) : Prop :=
  ∀ j, j < n → (∃ b off, A = some ⟨b, off, none⟩ ∧ w.cell? ⟨b, off + j, none⟩ = some (.int k (f j)) ∧ b < w.heap.size) ∧ (Lit.int k (f j)).wf = true
theorem IntRow.row {k : IntKind} {w : World} {A : Option Addr} {n : Nat} {f : Nat → Int} (h : IntRow k w A n f) : Row w A n (fun j => .int k (f j)) := fun j hj => (h j hj).1
theorem IntRow.wf {k : IntKind} {w : World} {A : Option Addr} {n : Nat} {f : Nat → Int} (h : IntRow k w A n f) {j : Nat} (hj : j < n) : (Lit.int k (f j)).wf = true := (h j hj).2

theorem add_block (a : Addr) (i : Nat) : (a.add i).block = a.block := by unfold Addr.add; split <;> rfl
/-- A cell at a place of a block: the address is one of whole cells. -/
theorem spot_none {w : World} {a : Addr} {v : Value} (h : w.cell? a = some v) : a.spot = none := by
  unfold World.cell? at h
  split at h
  · split at h
    · cases h
    · cases hs : a.spot with
      | none => rfl
      | some x => simp_all
  · cases h
theorem row_of {w : World} {x : Addr} {m len : Nat} {f : Nat → Value} (hcell : ∀ i, i < m → w.cell? (x.add i) = some (f i)) (hl : len ≤ m) : Row w (some x) len f := by
  intro k hk
  have h0 := hcell 0 (by omega)
  have hk' := hcell k (by omega)
  have hx : x = ⟨x.block, x.off, none⟩ := by
    have h1 := spot_none h0
    cases x with
    | mk b o s =>
      unfold Addr.add at h1
      simp at h1
      subst h1
      rfl
  have hb := World.block_lt_of_cell? w _ hk'
  rw [add_block] at hb
  refine ⟨x.block, x.off, congrArg some hx, ?_, hb⟩
  rw [hx, Addr.add_lit] at hk'
  exact hk'
theorem intRow_of {k : IntKind} {w : World} {x : Addr} {len : Nat} {zs : List Int} (hcell : ∀ i, i < zs.length → w.cell? (x.add i) = some (.int k (zs.getD i 0))) (hw : ∀ n ∈ zs, (Lit.int k n).wf = true) (hl : len ≤ zs.length) :
    IntRow k w (some x) len (fun j => zs.getD j 0) := fun j hj => by
  refine ⟨row_of (f := fun i => .int k (zs.getD i 0)) hcell hl j hj, hw _ ?_⟩
  have hj' : j < zs.length := by omega
  have : zs.getD j 0 = zs[j] := by simp [hj']
  show zs.getD j 0 ∈ zs
  rw [this]
  exact List.getElem_mem _
end Go.Proofs.Ytkolbaadakhciaa
