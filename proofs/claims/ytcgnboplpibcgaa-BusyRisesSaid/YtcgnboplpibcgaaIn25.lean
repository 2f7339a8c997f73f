/- Loads that came in. -/
import Derived.Test.YtcgnboplpibcgaaFx25
import Derived.Test.YtcgnboplpibcgaaActs
namespace Go.Proofs.Ytcgnboplpibcgaa
open Go Go.RowKit Go.ChangeShapes Go.WideShapes Go.Deep
structure LoadsIn (w : World) (A : Option Addr) (n : Nat) (l : List Ld) : Prop where
  row : LRow w A l
  len : l.length = n
  lb : LB l
theorem LoadsIn.new {w w' : World} {A : Option Addr} {n : Nat} {l : List Ld} (h : LoadsIn w A n l) (ho : Only (fun _ => False) w w') : LoadsIn w' A n l := ⟨h.row.new ho, h.len, h.lb⟩
theorem nat_of {kd : IntKind} {M : Nat} (h1 : kd.min = 0) (h2 : kd.max = M) {z : Int} (h : (Lit.int kd z).wf = true) : ∃ b : Nat, z = b ∧ b ≤ M := by
  simp [Lit.wf] at h
  simp only [h1, h2] at h
  exact ⟨z.toNat, by omega, by omega⟩
theorem u64_of {z : Int} (h : (Lit.int .u64 z).wf = true) : ∃ b : Nat, z = b ∧ b ≤ 18446744073709551615 := nat_of (M := 18446744073709551615) (by decide) (by decide) h
theorem loads_in {H : Type} {enc : TypeId × Value → H} {w : World} {A : Option Addr} {len cap : Nat} {d : DataW H} {ps : List MemPlace} (h : DataW.Trod enc Try.prog w 0 (fun _ => true) true 23 (.slice A len cap) d ps) : ∃ l, LoadsIn w A len l := by
  obtain ⟨z, hz⟩ := open_acts [.int .u64, .int .u64] Try.underlying23 Try.underlying37 (by kernel_rfl) rfl (by decide) (fun i f hi => by
    match i with
    | 0 => cases hi; exact ⟨rfl, by kernel_rfl, Try.underlying22⟩
    | 1 => cases hi; exact ⟨rfl, by kernel_rfl, Try.underlying22⟩
    | i + 2 => simp at hi) h
  have each : ∀ i j, i < len → j < 2 → ∃ b : Nat, z i j = U b ∧ b ≤ 18446744073709551615 := fun i j hi hj => by
    obtain ⟨b, off, -, -, hc⟩ := hz i hi
    have hk : ∃ k, [FK.int .u64, FK.int .u64][j]? = some k ∧ k = FK.int .u64 := by
      match j, hj with
      | 0, _ => exact ⟨_, rfl, rfl⟩
      | 1, _ => exact ⟨_, rfl, rfl⟩
    obtain ⟨k, hk, rfl⟩ := hk
    obtain ⟨-, n, hn, hw⟩ := hc j _ hk
    obtain ⟨b, rfl, hb⟩ := u64_of hw
    exact ⟨b, hn, hb⟩
  refine ⟨(List.range len).map fun i => if h : i < len then (Classical.choose (each i 0 h (by omega)), Classical.choose (each i 1 h (by omega))) else (0, 0), fun k c p hk => ?_, by simp, fun k c p hk => ?_⟩
  · have hkl := (List.getElem?_eq_some_iff.1 hk).1
    simp at hkl
    rw [List.getElem?_map, List.getElem?_range hkl] at hk
    simp only [Option.map_some, Option.some.injEq, dif_pos hkl, Prod.mk.injEq] at hk
    obtain ⟨rfl, rfl⟩ := hk
    obtain ⟨b, off, rfl, hb, hc⟩ := hz k hkl
    refine ⟨b, off, rfl, ?_, ?_, hb⟩
    · rw [← (Classical.choose_spec (each k 0 hkl (by omega))).1]
      exact (hc 0 _ rfl).1
    · rw [← (Classical.choose_spec (each k 1 hkl (by omega))).1]
      exact (hc 1 _ rfl).1
  · have hkl := (List.getElem?_eq_some_iff.1 hk).1
    simp at hkl
    rw [List.getElem?_map, List.getElem?_range hkl] at hk
    simp only [Option.map_some, Option.some.injEq, dif_pos hkl, Prod.mk.injEq] at hk
    obtain ⟨rfl, rfl⟩ := hk
    exact ⟨(Classical.choose_spec (each k 0 hkl (by omega))).2, (Classical.choose_spec (each k 1 hkl (by omega))).2⟩
end Go.Proofs.Ytcgnboplpibcgaa
