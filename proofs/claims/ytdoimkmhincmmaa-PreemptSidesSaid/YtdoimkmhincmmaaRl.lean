/- reload: which sets, which blocks; the models. -/
import Derived.Test.YtdoimkmhincmmaaRca3
namespace Go.Proofs.Ytdoimkmhincmmaa
namespace Rld
open Go Go.RowKit Rca

/-- The blocks that a program accesses, in order. -/
def accN (l : List Opn) : List Nat := (l.filter (fun o => decide (o.k = 2))).map (fun o => o.a.toNat)
/-- Each access is to a block from 0 on. -/
def accOk (l : List Opn) : Prop := ∀ o ∈ l, o.k = 2 → 0 ≤ o.a ∧ o.a ≤ 255
def loadS (S : Nat) (l : List Opn) (s : Nat) : Nat := Lru.loadN S (Lru.dd (accN l)) s
theorem accN_mem {l : List Opn} {x : Nat} : x ∈ accN l ↔ ∃ o ∈ l, o.k = 2 ∧ o.a.toNat = x := by
  unfold accN
  simp [List.mem_map, List.mem_filter, and_assoc]
theorem loadN_same {S s : Nat} {A B : List Nat} (ha : A.Nodup) (hb : B.Nodup) (h : ∀ x, x ∈ A ↔ x ∈ B) : Lru.loadN S A s = Lru.loadN S B s := by
  unfold Lru.loadN
  refine Nat.le_antisymm (Lru.nodup_le (ha.filter _) (fun x hx => ?_)) (Lru.nodup_le (hb.filter _) (fun x hx => ?_))
  · rw [List.mem_filter] at hx ⊢
    exact ⟨(h x).1 hx.1, hx.2⟩
  · rw [List.mem_filter] at hx ⊢
    exact ⟨(h x).2 hx.1, hx.2⟩
theorem loadS_of {S s : Nat} {l : List Opn} {B : List Nat} (hb : B.Nodup) (h : ∀ x, x ∈ B ↔ x ∈ accN l) : Lru.loadN S B s = loadS S l s :=
  loadN_same hb (Lru.dd_nodup _) (fun x => (h x).trans Lru.dd_mem.symm)
/-- has: is there such a task? -/
def hasT (n : Nat) (z : Int) : Bool := decide (0 ≤ z ∧ z < (n : Int))
/-- Those above a task's threshold, of the first k. -/
def aboU (ts : List TaskV) (th : Int) (k : Nat) : List Nat := (List.range k).filter (fun i => decide (th < prio ts i))
theorem aboU_succ (ts : List TaskV) (th : Int) (k : Nat) : aboU ts th (k + 1) = aboU ts th k ++ (if th < prio ts k then [k] else []) := by
  unfold aboU
  rw [List.range_succ, List.filter_append]
  congr 1
  by_cases h : th < prio ts k <;> simp [h]
theorem aboU_len (ts : List TaskV) (th : Int) (k : Nat) : (aboU ts th k).length ≤ k := by
  unfold aboU
  refine Nat.le_trans (List.length_filter_le _ _) ?_
  simp
theorem aboU_mem {ts : List TaskV} {th : Int} {k i : Nat} : i ∈ aboU ts th k ↔ i < k ∧ th < prio ts i := by
  unfold aboU
  simp
/-- Is a set touched by the first k of these tasks? -/
def touB (S : Nat) (pl : Tks) (T : List Nat) (s : Nat) : Bool := T.any (fun i => match pl[i]? with | some (_, l) => decide (0 < loadS S l s) | none => false)
end Rld
end Go.Proofs.Ytdoimkmhincmmaa
