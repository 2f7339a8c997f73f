/- What came in: configurations, records, reports; the two laws over it. -/
import Derived.Test.YthippdgmbfaijaaLate19
namespace Go.Proofs.Ythippdgmbfaijaa
open Go Go.RowKit Go.ChangeShapes Go.WideShapes Go.Deep

theorem c33 : Try.prog.cellsOf 33 = 7 := by kernel_rfl
theorem c31 : Try.prog.cellsOf 31 = 1 := by kernel_rfl
theorem c48 : Try.prog.cellsOf 48 = 11 := by kernel_rfl
theorem c4 : Try.prog.cellsOf 4 = 1 := by kernel_rfl
section
variable {H : Type} {enc : TypeId × Value → H} {w : World}
theorem conf_in2 {r : Reach} {b0 : Nat} {v : Value} {d : DataW H} {p : List MemPlace} (hv : Value.okWide Try.prog w r b0 27 v) (h : DataW.Trod enc Try.prog w 0 (fun _ => true) true 27 v d p) : ∃ c : ConfV, v = c.val ∧ ∃ (dd : ConfL) (pl : Tks), ConfIn w c dd pl := by
  obtain ⟨c, dd, pl, h1, h2⟩ := conf_in hv h
  exact ⟨c, h1, dd, pl, h2⟩

theorem fields33 : ∃ fs : Array Field, Try.prog.underlying 33 = some (.struct fs) ∧ fs.size = 7 ∧ ∀ (i : Nat) (f : Field), fs[i]? = some f → f.offset = i ∧ Try.prog.cellsOf f.type = 1 ∧ Try.prog.underlying f.type = some (.int .i64) := by
  refine ⟨_, Try.underlying33, rfl, fun i f hi => ?_⟩
  match i with
  | 0 => cases hi; exact ⟨rfl, c3, Try.underlying3⟩
  | 1 => cases hi; exact ⟨rfl, c3, Try.underlying3⟩
  | 2 => cases hi; exact ⟨rfl, c3, Try.underlying3⟩
  | 3 => cases hi; exact ⟨rfl, c3, Try.underlying3⟩
  | 4 => cases hi; exact ⟨rfl, c3, Try.underlying3⟩
  | 5 => cases hi; exact ⟨rfl, c31, Try.underlying31⟩
  | 6 => cases hi; exact ⟨rfl, c3, Try.underlying3⟩
  | i + 7 => simp at hi
theorem recs_in {A : Option Addr} {len cap : Nat} {d : DataW H} {ps : List MemPlace} (h : DataW.Trod enc Try.prog w 0 (fun _ => true) true 28 (.slice A len cap) d ps) : ∃ l : List RecV, RecRow w A l ∧ l.length = len ∧ ∀ r ∈ l, fitR r := by
  obtain ⟨fuel, hf⟩ := h
  obtain ⟨fs, he, hsz, hfs⟩ := fields33
  obtain ⟨hc, z, hz⟩ := open_flat_ints Try.underlying28 he (by rw [c33, hsz]) (by omega) hfs hf
  rw [hsz] at hz
  refine ⟨(List.range len).map (fun i => ⟨z i 0, z i 1, z i 2, z i 3, z i 4, z i 5, z i 6⟩), fun k y hy => ?_, by simp, fun r hr => ?_⟩
  · have hk := (List.getElem?_eq_some_iff.1 hy).1
    simp at hk
    rw [List.getElem?_map, List.getElem?_range hk] at hy
    simp only [Option.map_some, Option.some.injEq] at hy
    subst hy
    obtain ⟨b, off, hA, hb, hcell⟩ := hz k hk
    refine ⟨b, off, hA, hb, ?_, ?_, ?_, ?_, ?_, ?_, ?_⟩
    · exact (hcell 0 (by omega)).1
    all_goals rw [Nat.add_assoc]
    · exact (hcell 1 (by omega)).1
    · exact (hcell 2 (by omega)).1
    · exact (hcell 3 (by omega)).1
    · exact (hcell 4 (by omega)).1
    · exact (hcell 5 (by omega)).1
    · exact (hcell 6 (by omega)).1
  · rw [List.mem_map] at hr
    obtain ⟨i, hi, rfl⟩ := hr
    rw [List.mem_range] at hi
    obtain ⟨b, off, hA, hb, hcell⟩ := hz i hi
    exact bounds_i64 (hcell 2 (by omega)).2

def repK : List FK := [.int .i64, .int .i64, .int .i64, .int .i64, .int .i64, .bool, .int .i64, .int .i64, .int .i64, .int .i64, .int .i64]
theorem fields48 : ∃ fs : Array Field, Try.prog.underlying 48 = some (.struct fs) ∧ fs.size = 11 ∧ ∀ (i : Nat) (f : Field), fs[i]? = some f → f.offset = i ∧ Try.prog.cellsOf f.type = 1 ∧ Try.prog.underlying f.type = (repK[i]?).map FK.ut := by
  refine ⟨_, Try.underlying48, rfl, fun i f hi => ?_⟩
  match i with
  | 0 => cases hi; exact ⟨rfl, c3, Try.underlying3⟩
  | 1 => cases hi; exact ⟨rfl, c3, Try.underlying3⟩
  | 2 => cases hi; exact ⟨rfl, c3, Try.underlying3⟩
  | 3 => cases hi; exact ⟨rfl, c3, Try.underlying3⟩
  | 4 => cases hi; exact ⟨rfl, c3, Try.underlying3⟩
  | 5 => cases hi; exact ⟨rfl, c4, Try.underlying4⟩
  | 6 => cases hi; exact ⟨rfl, c3, Try.underlying3⟩
  | 7 => cases hi; exact ⟨rfl, c3, Try.underlying3⟩
  | 8 => cases hi; exact ⟨rfl, c3, Try.underlying3⟩
  | 9 => cases hi; exact ⟨rfl, c3, Try.underlying3⟩
  | 10 => cases hi; exact ⟨rfl, c3, Try.underlying3⟩
  | i + 11 => simp at hi
def iv (v : Value) : Int := match v with | .int _ n => n | _ => 0
def bv (v : Value) : Bool := match v with | .bool b => b | _ => false
theorem iv_ok {k : IntKind} {v : Value} (h : FK.ok (.int k) v) : v = .int k (iv v) := by
  obtain ⟨n, rfl, -⟩ := h
  rfl
theorem bv_ok {v : Value} (h : FK.ok .bool v) : v = .bool (bv v) := by
  obtain ⟨b, rfl⟩ := h
  rfl
theorem reps_in {A : Option Addr} {len cap : Nat} {d : DataW H} {ps : List MemPlace} (h : DataW.Trod enc Try.prog w 0 (fun _ => true) true 45 (.slice A len cap) d ps) : ∃ l : List RepV, RepRow w A l ∧ l.length = len := by
  obtain ⟨fs, he, hsz, hfs⟩ := fields48
  obtain ⟨z, hz⟩ := open_acts repK Try.underlying45 he (by rw [c48, hsz]) (by rw [hsz]; rfl) (by omega) hfs h
  refine ⟨(List.range len).map (fun i => ⟨iv (z i 0), iv (z i 1), iv (z i 2), iv (z i 3), iv (z i 4), bv (z i 5), iv (z i 6), iv (z i 7), iv (z i 8), iv (z i 9), iv (z i 10)⟩), fun k y hy => ?_, by simp⟩
  have hk := (List.getElem?_eq_some_iff.1 hy).1
  simp at hk
  rw [List.getElem?_map, List.getElem?_range hk] at hy
  simp only [Option.map_some, Option.some.injEq] at hy
  subst hy
  obtain ⟨b, off, hA, hb, hc⟩ := hz k hk
  refine ⟨b, off, hA, hb, fun j v hv => ?_⟩
  have hj := (List.getElem?_eq_some_iff.1 hv).1
  simp [RepV.cells] at hj
  match j, hj with
  | 5, _ =>
    obtain ⟨h1, h2⟩ := hc 5 _ rfl
    rw [show repK.length = 11 from rfl, bv_ok h2] at h1
    cases hv
    exact h1
  | 0, _ =>
    obtain ⟨h1, h2⟩ := hc 0 _ rfl
    rw [show repK.length = 11 from rfl, iv_ok h2] at h1
    cases hv
    exact h1
  | 1, _ =>
    obtain ⟨h1, h2⟩ := hc 1 _ rfl
    rw [show repK.length = 11 from rfl, iv_ok h2] at h1
    cases hv
    exact h1
  | 2, _ =>
    obtain ⟨h1, h2⟩ := hc 2 _ rfl
    rw [show repK.length = 11 from rfl, iv_ok h2] at h1
    cases hv
    exact h1
  | 3, _ =>
    obtain ⟨h1, h2⟩ := hc 3 _ rfl
    rw [show repK.length = 11 from rfl, iv_ok h2] at h1
    cases hv
    exact h1
  | 4, _ =>
    obtain ⟨h1, h2⟩ := hc 4 _ rfl
    rw [show repK.length = 11 from rfl, iv_ok h2] at h1
    cases hv
    exact h1
  | 6, _ =>
    obtain ⟨h1, h2⟩ := hc 6 _ rfl
    rw [show repK.length = 11 from rfl, iv_ok h2] at h1
    cases hv
    exact h1
  | 7, _ =>
    obtain ⟨h1, h2⟩ := hc 7 _ rfl
    rw [show repK.length = 11 from rfl, iv_ok h2] at h1
    cases hv
    exact h1
  | 8, _ =>
    obtain ⟨h1, h2⟩ := hc 8 _ rfl
    rw [show repK.length = 11 from rfl, iv_ok h2] at h1
    cases hv
    exact h1
  | 9, _ =>
    obtain ⟨h1, h2⟩ := hc 9 _ rfl
    rw [show repK.length = 11 from rfl, iv_ok h2] at h1
    cases hv
    exact h1
  | 10, _ =>
    obtain ⟨h1, h2⟩ := hc 10 _ rfl
    rw [show repK.length = 11 from rfl, iv_ok h2] at h1
    cases hv
    exact h1
end

theorem late_law (c : ConfV) (A : Option Addr) (len cap : Nat) (l : List RepV) (now : Int) (W : World) (h1 : RepRow W A l ∧ l.length = len) (_ : (Lit.int .i64 now).wf = true) (h0 : ∃ (dd : ConfL) (pl : Tks), ConfIn W c dd pl) :
    Calls Try.prog 4 #[c.val, .slice A len cap, .int .i64 now] W fun e w' => e = .returned (.bool true) ∧ Below W.heap.size W w' := by
  obtain ⟨dd, pl, hc⟩ := h0
  exact (late19_any now hc.t hc.n h1.1 h1.2).mono fun e w' ⟨he, ho⟩ => ⟨he, ho.below (Nat.le_refl _) (fun _ h => h.elim)⟩
end Go.Proofs.Ythippdgmbfaijaa
