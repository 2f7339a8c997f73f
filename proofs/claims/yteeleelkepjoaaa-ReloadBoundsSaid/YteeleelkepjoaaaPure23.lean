/- ReloadBounds: what others access costs no more than the bound. -/
import Derived.Test.YteeleelkepjoaaaFix23
import Derived.Test.YteeleelkepjoaaaFin
import Derived.Test.YteeleelkepjoaaaCopp
namespace Go.Proofs.Yteeleelkepjoaaa
namespace Rld
open Go Go.RowKit Rca Srt

def progA (pl : Tks) (j : Nat) : List Nat := match pl[j]? with
  | some (_, l) => accN l
  | none => []
theorem progA_some {pl : Tks} {j : Nat} {t : TaskV} {l : List Opn} (h : pl[j]? = some (t, l)) : progA pl j = accN l := by unfold progA; rw [h]
def blkU (pl : Tks) (AL : List Nat) (k : Nat) : List Nat := (AL.take k).flatMap (progA pl)
theorem blkU_succ {pl : Tks} {AL : List Nat} {k j : Nat} (h : AL[k]? = some j) : blkU pl AL (k + 1) = blkU pl AL k ++ progA pl j := by
  unfold blkU
  rw [List.take_add_one, h, List.flatMap_append]
  simp
theorem bnd_same {W : Nat} {T : Nat → Bool} {S : Nat} {bl : List Nat} : ∀ n, (Lru.boundN S W T bl n : Int) = bndU (W : Int) T (Lru.loadN S bl) n
  | 0 => rfl
  | n + 1 => by
    unfold Lru.boundN bndU
    rw [← bnd_same n]
    cases T n
    · simp
    · simp only [if_true]
      omega
theorem accN_append (a b : List Opn) : accN (a ++ b) = accN a ++ accN b := by unfold accN; simp
theorem law_pure {S W : Nat} (hS : 0 < S) {pl : Tks} {AL U O : List Nat} {l : List Opn} (cut : Nat) (hO : ∀ x ∈ O, x ∈ AL.flatMap (progA pl)) :
    ((Lru.missN S W U.reverse (accN (l.take cut)) : Int) + (Lru.missN S W (U ++ accN (l.take cut) ++ O).reverse (accN (l.drop cut)) : Int)) ≤ (Lru.missN S W U.reverse (accN l) : Int) + bndU (W : Int) (touB S pl AL) (loadS S l) S := by
  have e1 : accN l = accN (l.take cut) ++ accN (l.drop cut) := by rw [← accN_append, List.take_append_drop]
  have e2 : (U ++ accN (l.take cut) ++ O).reverse = O.reverse ++ ((accN (l.take cut)).reverse ++ U.reverse) := by simp
  have hT : ∀ x ∈ O.reverse, touB S pl AL (x % S) = true := by
    intro x hx
    obtain ⟨j, hj, hxj⟩ := List.mem_flatMap.1 (hO x (by simpa using hx))
    unfold touB
    rw [List.any_eq_true]
    refine ⟨j, hj, ?_⟩
    unfold progA at hxj
    split at hxj
    · rename_i t lj hlj
      have : 0 < loadS S lj (x % S) := by
        unfold loadS Lru.loadN
        exact List.length_pos_of_mem (List.mem_filter.2 ⟨Lru.dd_mem.2 hxj, by simp⟩)
      rw [hlj]
      simpa using this
    · simp at hxj
  have key := Lru.crpd (W := W) (h := (accN (l.take cut)).reverse ++ U.reverse) (l := accN (l.drop cut)) (bl := Lru.dd (accN l)) hS hT (fun x hx => Lru.dd_mem.2 (by rw [e1]; exact List.mem_append_right _ hx))
  rw [e2]
  have h2 := Lru.missN_append S W (accN (l.take cut)) (accN (l.drop cut)) U.reverse
  rw [← e1] at h2
  rw [h2]
  have h3 := bnd_same (W := W) (T := touB S pl AL) (S := S) (bl := Lru.dd (accN l)) S
  rw [show bndU (W : Int) (touB S pl AL) (loadS S l) S = bndU (W : Int) (touB S pl AL) (Lru.loadN S (Lru.dd (accN l))) S from rfl, ← h3]
  omega

theorem missN_le (S W : Nat) : ∀ (l h : List Nat), Lru.missN S W h l ≤ l.length
  | [], _ => Nat.le_refl _
  | b :: l, h => by
    have := missN_le S W l (b :: h)
    unfold Lru.missN
    split <;> simp <;> omega
/-- Numbers of a kind that came in, none below 0. -/
structure NumRow (kd : IntKind) (w : World) (A : Option Addr) (n : Nat) (bs : List Nat) (M : Nat) : Prop where
  len : bs.length = n
  top : ∀ b ∈ bs, b ≤ M
  row : ∀ (k b : Nat), bs[k]? = some b → ∃ g off, A = some ⟨g, off, none⟩ ∧ g < w.heap.size ∧ w.cell? ⟨g, off + k, none⟩ = some (.int kd b)
theorem NumRow.new {kd : IntKind} {w w' : World} {A : Option Addr} {n : Nat} {bs : List Nat} {M : Nat} (h : NumRow kd w A n bs M) (ho : Only (fun _ => False) w w') : NumRow kd w' A n bs M :=
  ⟨h.len, h.top, fun k b hb => by
    obtain ⟨g, off, rfl, hg, hc⟩ := h.row k b hb
    exact ⟨g, off, rfl, Nat.lt_of_lt_of_le hg ho.size, ho.cell hc (fun h => h)⟩⟩
theorem nat_of {kd : IntKind} {M : Nat} (h1 : kd.min = 0) (h2 : kd.max = M) {z : Int} (h : (Lit.int kd z).wf = true) : ∃ b : Nat, z = b ∧ b ≤ M := by
  simp [Lit.wf] at h
  simp only [h1, h2] at h
  exact ⟨z.toNat, by omega, by omega⟩
theorem nums_of {kd : IntKind} {M : Nat} (h1 : kd.min = 0) (h2 : kd.max = M) {w : World} {A : Option Addr} {n : Nat} {f : Nat → Int} (h : IntRow kd w A n f) : ∃ bs, NumRow kd w A n bs M := by
  have get : ∀ (k b : Nat), ((List.range n).map (fun i => (f i).toNat))[k]? = some b → k < n ∧ b = (f k).toNat := by
    intro k b hb
    rw [List.getElem?_map] at hb
    by_cases hk : k < n
    · rw [List.getElem?_range hk] at hb
      exact ⟨hk, by simpa using hb.symm⟩
    · rw [List.getElem?_eq_none (by simp; omega)] at hb
      cases hb
  refine ⟨(List.range n).map (fun i => (f i).toNat), by simp, fun b hb => ?_, fun k b hb => ?_⟩
  · obtain ⟨k, hkb⟩ := List.getElem?_of_mem hb
    obtain ⟨hk, rfl⟩ := get k b hkb
    obtain ⟨c, hc, hc2⟩ := nat_of h1 h2 (h.wf hk)
    omega
  · obtain ⟨hk, rfl⟩ := get k b hb
    obtain ⟨c, hc, hc2⟩ := nat_of h1 h2 (h.wf hk)
    obtain ⟨⟨g, off, rfl, hcell, hg⟩, _⟩ := h k hk
    refine ⟨g, off, rfl, hg, ?_⟩
    rw [hcell, hc]
    simp
/-- A row of operations cut. -/
theorem OpnRow.take {w : World} {A : Option Addr} {l : List Opn} (h : OpnRow w A l) (k : Nat) : OpnRow w A (l.take k) := fun i x hx => by
  refine h i x ?_
  rw [List.getElem?_take] at hx
  split at hx
  · exact hx
  · cases hx
theorem OpnRow.drop {w : World} {b off : Nat} {l : List Opn} (h : OpnRow w (some ⟨b, off, none⟩) l) (k : Nat) : OpnRow w (some ⟨b, off + k * 3, none⟩) (l.drop k) := fun i x hx => by
  rw [List.getElem?_drop] at hx
  obtain ⟨b', off', e, hb, c0, c1, c2⟩ := h (k + i) x hx
  cases e
  refine ⟨b, off + k * 3, rfl, hb, ?_, ?_, ?_⟩
  · rw [show off + k * 3 + i * 3 = off + (k + i) * 3 by omega]; exact c0
  · rw [show off + k * 3 + i * 3 = off + (k + i) * 3 by omega]; exact c1
  · rw [show off + k * 3 + i * 3 = off + (k + i) * 3 by omega]; exact c2
end Rld
end Go.Proofs.Yteeleelkepjoaaa
