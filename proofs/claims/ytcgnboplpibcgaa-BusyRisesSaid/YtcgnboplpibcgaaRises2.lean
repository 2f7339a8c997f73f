/- BusyRises over what came in. -/
import Derived.Test.YtcgnboplpibcgaaRises
namespace Go.Proofs.Ytcgnboplpibcgaa
open Go Go.RowKit Go.ChangeShapes Go.WideShapes Go.Deep
abbrev LdB := { y : Ld // y.1 ≤ 18446744073709551615 ∧ y.2 ≤ 18446744073709551615 }
theorem c37 : Try.prog.cellsOf 37 = 2 := by kernel_rfl
theorem fields37 : ∃ fs : Array Field, Try.prog.underlying 37 = some (.struct fs) ∧ fs.size = 2 ∧ ∀ (i : Nat) (f : Field), fs[i]? = some f → f.offset = i ∧ Try.prog.cellsOf f.type = 1 ∧ Try.prog.underlying f.type = some (.int .u64) := by
  refine ⟨_, Try.underlying37, rfl, fun i f hi => ?_⟩
  match i with
  | 0 => cases hi; exact ⟨rfl, by kernel_rfl, Try.underlying22⟩
  | 1 => cases hi; exact ⟨rfl, by kernel_rfl, Try.underlying22⟩
  | i + 2 => simp at hi
set_option maxRecDepth 100000 in
theorem load_in {H : Type} {enc : TypeId × Value → H} {w : World} {r : Reach} {b0 : Nat} {v : Value} {d : DataW H} {p : List MemPlace} (hv : Value.okWide Try.prog w r b0 37 v) (h : DataW.Trod enc Try.prog w 0 (fun _ => true) true 37 v d p) : ∃ y : LdB, v = .agg #[U y.1.1, U y.1.2] := by
  obtain ⟨fs, he, hsz, hfs⟩ := fields37
  obtain ⟨l, rfl, hl, hf⟩ := open_struct he (by rw [c37, hsz]) (fun i f hi => ⟨(hfs i f hi).1, (hfs i f hi).2.1⟩) hv h
  obtain ⟨u0, y0, n0, e0, t0⟩ := hf 0 (fs[0]'(by omega)) (Array.getElem?_eq_getElem _)
  obtain ⟨u1, y1, n1, e1, t1⟩ := hf 1 (fs[1]'(by omega)) (Array.getElem?_eq_getElem _)
  obtain ⟨z0, hz0, _, hw0⟩ := DataW.trod_int (hfs 0 _ (Array.getElem?_eq_getElem (by omega))).2.2 t0
  obtain ⟨z1, hz1, _, hw1⟩ := DataW.trod_int (hfs 1 _ (Array.getElem?_eq_getElem (by omega))).2.2 t1
  obtain ⟨a, rfl, ha⟩ := u64_of hw0
  obtain ⟨b, rfl, hb⟩ := u64_of hw1
  simp at hz0 hz1
  subst hz0 hz1
  have hl2 : l.length = 2 := hl.trans hsz
  refine ⟨⟨(a, b), ha, hb⟩, ?_⟩
  obtain ⟨x, y, rfl⟩ : ∃ x y, l = [x, y] := by
    match l, hl2 with
    | [x, y], _ => exact ⟨x, y, rfl⟩
  simp at e0 e1
  subst e0 e1
  rfl
theorem u32_of {z : Int} (h : (Lit.int .u32 z).wf = true) : ∃ b : Nat, z = b ∧ b ≤ 4294967295 := nat_of (M := 4294967295) (by decide) (by decide) h
theorem rises_law (a0 a1 : Int) (A : Option Addr) (n cap : Nat) (l : List Ld) (y : LdB) (W : World) (w0 : (Lit.int .u32 a0).wf = true) (w1 : (Lit.int .u32 a1).wf = true) (h : LoadsIn W A n l) :
    Calls Try.prog 5 #[.int .u32 a0, .int .u32 a1, .slice A n cap, .agg #[U y.1.1, U y.1.2]] W fun e w' => e = .returned (.bool true) ∧ Below W.heap.size W w' := by
  obtain ⟨d, rfl, hd⟩ := u32_of w0
  obtain ⟨m, rfl, hm⟩ := u32_of w1
  exact (rises_any h hd hm y.2.1 y.2.2).mono fun e w' ⟨he, hO⟩ => ⟨he, hO.below (Nat.le_refl _) (fun _ h => h.elim)⟩
end Go.Proofs.Ytcgnboplpibcgaa
