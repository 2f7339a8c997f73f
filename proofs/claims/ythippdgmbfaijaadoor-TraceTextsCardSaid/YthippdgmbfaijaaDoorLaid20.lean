/- What the rows list, and what came in, as facts on cells. -/
import Derived.Test.YthippdgmbfaijaaDoorTx16
import Derived.Test.YthippdgmbfaijaaDoorWrap
import Derived.Test.YthippdgmbfaijaaDoorFlat
import Derived.LaidMore
import Derived.LaidLaws
namespace Go.Proofs.YthippdgmbfaijaaDoor
open Go Go.RowKit

def laids : List (String × DataW Unit) := [("math/bits.deBruijn32tab", Rows.laid_math_bits_deBruijn32tab), ("math/bits.deBruijn64tab", Rows.laid_math_bits_deBruijn64tab), ("internal/strconv.uint64pow10", Rows.laid_internal_strconv_uint64pow10), ("strconv.ErrRange", Rows.laid_strconv_ErrRange), ("strconv.ErrSyntax", Rows.laid_strconv_ErrSyntax), ("signalbox/trace.names", Rows.laid_signalbox_trace_names)]
theorem gNames : Tryd.prog.globalNamed "signalbox/trace.names" = some 0 := by kernel_rfl
theorem gRange : Tryd.prog.globalNamed "strconv.ErrRange" = some 4 := by kernel_rfl
theorem gSyntax : Tryd.prog.globalNamed "strconv.ErrSyntax" = some 3 := by kernel_rfl
theorem tNames : (Tryd.prog.globals[0]?).map (·.type) = some 42 := by kernel_rfl
theorem tRange : (Tryd.prog.globals[4]?).map (·.type) = some 61 := by kernel_rfl
theorem tSyntax : (Tryd.prog.globals[3]?).map (·.type) = some 61 := by kernel_rfl
theorem tTab : (Tryd.prog.globals[2]?).map (·.type) = some 88 := by kernel_rfl
theorem c88 : Tryd.prog.cellsOf 88 = 20 := by kernel_rfl
theorem c66 : Tryd.prog.cellsOf 66 = 1 := by kernel_rfl
theorem c42 : Tryd.prog.cellsOf 42 = 9 := by kernel_rfl
theorem c9 : Tryd.prog.cellsOf 9 = 1 := by kernel_rfl
theorem c3 : Tryd.prog.cellsOf 3 = 1 := by kernel_rfl
theorem c22 : Tryd.prog.cellsOf 22 = 1 := by kernel_rfl
theorem c24 : Tryd.prog.cellsOf 24 = 7 := by kernel_rfl
theorem i61 : ∃ ms, Tryd.prog.underlying 61 = some (.interface ms) := ⟨_, Tryd.underlying61⟩
theorem names_data : (Rows.laid_signalbox_trace_names : DataW Unit) = .agg ((List.range 9).map fun k => .lit (.string (tname k))) := by rfl
theorem tab_data : (Rows.laid_internal_strconv_uint64pow10 : DataW Unit) = Lib.tabData .u64 Lib.pow10Tab := by rfl

theorem names_of {W : World} (h : laidMet Tryd.prog laids W) : ∀ k, k < 9 → W.cell? ⟨0, k, none⟩ = some (.string (toBA (tname k))) := by
  obtain ⟨ps, h1, _⟩ := h
  obtain ⟨g, t, cs, fuel, p, hg, ht, hvar, hd⟩ := laid_at h1 "signalbox/trace.names" Rows.laid_signalbox_trace_names (by unfold laids; simp)
  obtain rfl := Option.some.inj (gNames.symm.trans hg)
  obtain rfl := Option.some.inj (tNames.symm.trans ht)
  obtain ⟨xs, m, _, hx, hlen, hxl, hall⟩ := DataW.trod_array Tryd.underlying42 hd
  rw [c42] at hlen
  rw [c9] at hall
  rw [names_data] at hx
  have hxs : xs.map (·.1) = (List.range 9).map fun k => .lit (.string (tname k)) := by
    have := congrArg Prod.fst hx
    simpa using this.symm
  intro k hk
  have hk' := hall k hk
  obtain ⟨x, hxk⟩ : ∃ x, xs[k]? = some x := ⟨_, List.getElem?_eq_getElem (by omega)⟩
  have hx1 : x.1 = .lit (.string (tname k)) := by
    have := congrArg (·[k]?) hxs
    simp only [List.getElem?_map, hxk, List.getElem?_range hk, Option.map_some, Option.some.injEq] at this
    exact this
  rw [hxk] at hk'
  obtain ⟨s', hc0, hd0, _⟩ := DataW.trod_string Tryd.underlying9 hk'
  have e0 : cs.toList[k]? = some (.string s') := by
    have := congrArg (·[0]?) hc0
    simpa [List.getElem?_take, List.getElem?_drop] using this
  have g0 := World.var?_cell hg hvar k
  rw [← Array.getElem?_toList, e0] at g0
  have hs : s' = toBA (tname k) := by
    rw [hd0] at hx1
    simp only [DataW.lit.injEq, Lit.string.injEq] at hx1
    refine Go.WideShapes.bytes_inj ?_
    rw [hx1, toBA_list]
  rw [← hs]
  exact g0
theorem err_of {W : World} {n : String} {d : DataW Unit} {nm : String} {g : Nat} (h : laidMet Tryd.prog laids W) (hn : (n, DataW.iface nm d) ∈ laids) (hg : Tryd.prog.globalNamed n = some g) (ht : (Tryd.prog.globals[g]?).map (·.type) = some 61) : ∃ te pe, W.cell? ⟨g, 0, none⟩ = some (.iface te pe) := by
  obtain ⟨ps, h1, _⟩ := h
  obtain ⟨g', t, cs, fuel, p, hg', ht', hvar, hd⟩ := laid_at h1 n _ hn
  obtain rfl := Option.some.inj (hg.symm.trans hg')
  obtain rfl := Option.some.inj (ht.symm.trans ht')
  obtain ⟨ms, hms⟩ := i61
  obtain ⟨_, u, v, hcs, _, _⟩ := iface_of_trod hms hd
  have g0 := World.var?_cell hg hvar 0
  rw [← Array.getElem?_toList, hcs] at g0
  exact ⟨u, v, g0⟩
theorem bas_of {W : World} (h : laidMetH Tryd.prog laids W) (hs : W.ShapedOpen Tryd.prog) : Bas W := by
  rw [MakeChecks.laidMetH_plain _ _ _ (by kernel_rfl)] at h
  exact ⟨names_of h, Go.Proofs.cell_of_shapedOpen_int (zero := #[.int .i64 0]) (t := 3) hs (of_decide_eq_true (by kernel_rfl)) (by kernel_rfl) rfl (by kernel_rfl) (by kernel_rfl) Tryd.underlying3,
    tab_of_laid gTab tTab Tryd.underlying88 Tryd.underlying66 c66 c88 (by rw [← tab_data]; unfold laids; simp) h,
    err_of h (n := "strconv.ErrSyntax") (nm := "*errors.errorString") (by unfold laids; simp [Rows.laid_strconv_ErrSyntax]; rfl) gSyntax tSyntax,
    err_of h (n := "strconv.ErrRange") (nm := "*errors.errorString") (by unfold laids; simp [Rows.laid_strconv_ErrRange]; rfl) gRange tRange⟩

/-! ### What came in -/
theorem fields24 : ∃ fs : Array Field, Tryd.prog.underlying 24 = some (.struct fs) ∧ fs.size = 7 ∧ ∀ (i : Nat) (f : Field), fs[i]? = some f → f.offset = i ∧ Tryd.prog.cellsOf f.type = 1 ∧ Tryd.prog.underlying f.type = some (.int .i64) := by
  refine ⟨_, Tryd.underlying24, rfl, fun i f hi => ?_⟩
  match i with
  | 0 => cases hi; exact ⟨rfl, c3, Tryd.underlying3⟩
  | 1 => cases hi; exact ⟨rfl, c3, Tryd.underlying3⟩
  | 2 => cases hi; exact ⟨rfl, c3, Tryd.underlying3⟩
  | 3 => cases hi; exact ⟨rfl, c3, Tryd.underlying3⟩
  | 4 => cases hi; exact ⟨rfl, c3, Tryd.underlying3⟩
  | 5 => cases hi; exact ⟨rfl, c22, Tryd.underlying22⟩
  | 6 => cases hi; exact ⟨rfl, c3, Tryd.underlying3⟩
  | i + 7 => simp at hi
theorem fit_of {n : Int} (h : (Lit.int .i64 n).wf = true) : fitI n := by
  unfold fitI
  simp [Lit.wf] at h
  have : IntKind.i64.min = -9223372036854775808 := by decide
  rw [this] at h
  exact h
set_option maxRecDepth 100000 in
theorem recs_in {H : Type} {enc : TypeId × Value → H} {w : World} {A : Option Addr} {len cap : Nat} {d : DataW H} {ps : List MemPlace} (h : DataW.Trod enc Tryd.prog w 0 (fun _ => true) true 31 (.slice A len cap) d ps) : ∃ l : List RecV, RecRow w A l ∧ l.length = len ∧ ∀ r ∈ l, r.fit := by
  obtain ⟨fuel, hf⟩ := h
  obtain ⟨fs, he, hsz, hfs⟩ := fields24
  obtain ⟨hc, z, hz⟩ := open_flat_ints Tryd.underlying31 he (by rw [c24, hsz]) (by omega) hfs hf
  rw [hsz] at hz
  refine ⟨(List.range len).map (fun i => ⟨z i 0, z i 1, z i 2, z i 3, z i 4, z i 5, z i 6⟩), fun k y hy => ?_, by simp, fun r hr => ?_⟩
  · have hk := (List.getElem?_eq_some_iff.1 hy).1
    simp at hk
    rw [List.getElem?_map, List.getElem?_range hk] at hy
    simp only [Option.map_some, Option.some.injEq] at hy
    subst hy
    obtain ⟨b, off, hA, hb, hcell⟩ := hz k hk
    refine ⟨b, off, hA, hb, ?_, ?_, ?_, ?_, ?_, ?_, ?_⟩
    · exact (hcell 0 (by omega)).1
    all_goals rw [Nat.add_assoc]
    · exact (hcell 1 (by omega)).1
    · exact (hcell 2 (by omega)).1
    · exact (hcell 3 (by omega)).1
    · exact (hcell 4 (by omega)).1
    · exact (hcell 5 (by omega)).1
    · exact (hcell 6 (by omega)).1
  · rw [List.mem_map] at hr
    obtain ⟨i, hi, rfl⟩ := hr
    rw [List.mem_range] at hi
    obtain ⟨b, off, hA, hb, hcell⟩ := hz i hi
    exact ⟨fit_of (hcell 0 (by omega)).2, fit_of (hcell 1 (by omega)).2, fit_of (hcell 2 (by omega)).2, fit_of (hcell 3 (by omega)).2, fit_of (hcell 4 (by omega)).2, fit_of (hcell 5 (by omega)).2, fit_of (hcell 6 (by omega)).2⟩
set_option maxRecDepth 100000 in
theorem rec_in {H : Type} {enc : TypeId × Value → H} {w : World} {b0 : Nat} {r : Reach} {v : Value} {d : DataW H} {ps : List MemPlace} (hv : Value.okWide Tryd.prog w r b0 24 v) (h : DataW.Trod enc Tryd.prog w 0 (fun _ => true) true 24 v d ps) : ∃ e : RecV, v = e.val ∧ e.fit := by
  obtain ⟨fs, he, hsz, hfs⟩ := fields24
  obtain ⟨l, rfl, hl, hg⟩ := open_struct he (by rw [c24, hsz]) (fun i f hi => ⟨(hfs i f hi).1, (hfs i f hi).2.1⟩) hv h
  rw [hsz] at hl
  have each : ∀ i, i < 7 → ∃ z : Int, l[i]? = some (.int .i64 z) ∧ fitI z := by
    intro i hi
    obtain ⟨u, y, n, h1, h2⟩ := hg i fs[i] (Array.getElem?_eq_getElem (by omega))
    obtain ⟨z, hz, _, hw⟩ := DataW.trod_int (hfs i fs[i] (Array.getElem?_eq_getElem (by omega))).2.2 h2
    simp only [List.cons.injEq, and_true] at hz
    subst hz
    exact ⟨z, h1, fit_of hw⟩
  clear hg
  match l, hl, each with
  | [u0, u1, u2, u3, u4, u5, u6], _, each =>
    obtain ⟨z0, e0, f0⟩ := each 0 (by omega)
    obtain ⟨z1, e1, f1⟩ := each 1 (by omega)
    obtain ⟨z2, e2, f2⟩ := each 2 (by omega)
    obtain ⟨z3, e3, f3⟩ := each 3 (by omega)
    obtain ⟨z4, e4, f4⟩ := each 4 (by omega)
    obtain ⟨z5, e5, f5⟩ := each 5 (by omega)
    obtain ⟨z6, e6, f6⟩ := each 6 (by omega)
    cases e0; cases e1; cases e2; cases e3; cases e4; cases e5; cases e6
    exact ⟨⟨z0, z1, z2, z3, z4, z5, z6⟩, rfl, f0, f1, f2, f3, f4, f5, f6⟩
end Go.Proofs.YthippdgmbfaijaaDoor
