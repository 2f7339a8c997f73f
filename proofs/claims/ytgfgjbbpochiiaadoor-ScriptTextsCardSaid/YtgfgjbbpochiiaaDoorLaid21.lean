/- What the rows list, and what came in, as facts on cells. -/
import Derived.Test.YtgfgjbbpochiiaaDoorTexts21
import Derived.Test.YtgfgjbbpochiiaaDoorWrap
import Derived.Test.YtgfgjbbpochiiaaDoorFlat
import Derived.LaidMore
import Derived.LaidLaws
import Derived.Lib.LaidU8
namespace Go.Proofs.YtgfgjbbpochiiaaDoor
open Go Go.RowKit

def laids : List (String × DataW Unit) := [("math/bits.deBruijn32tab", Rows.laid_math_bits_deBruijn32tab), ("math/bits.deBruijn64tab", Rows.laid_math_bits_deBruijn64tab), ("internal/strconv.uint64pow10", Rows.laid_internal_strconv_uint64pow10), ("unicode/utf8.acceptRanges", Rows.laid_unicode_utf8_acceptRanges), ("strconv.ErrRange", Rows.laid_strconv_ErrRange), ("strconv.ErrSyntax", Rows.laid_strconv_ErrSyntax), ("signalbox/script.kinds", Rows.laid_signalbox_script_kinds), ("unicode/utf8.first", Rows.laid_unicode_utf8_first)]
theorem gKinds : Tryd.prog.globalNamed "signalbox/script.kinds" = some 0 := by kernel_rfl
theorem gRange : Tryd.prog.globalNamed "strconv.ErrRange" = some 4 := by kernel_rfl
theorem gSyntax : Tryd.prog.globalNamed "strconv.ErrSyntax" = some 3 := by kernel_rfl
theorem tKinds : (Tryd.prog.globals[0]?).map (·.type) = some 50 := by kernel_rfl
theorem tRange : (Tryd.prog.globals[4]?).map (·.type) = some 72 := by kernel_rfl
theorem tSyntax : (Tryd.prog.globals[3]?).map (·.type) = some 72 := by kernel_rfl
theorem tTab : (Tryd.prog.globals[2]?).map (·.type) = some 114 := by kernel_rfl
theorem c114 : Tryd.prog.cellsOf 114 = 20 := by kernel_rfl
theorem c93 : Tryd.prog.cellsOf 93 = 1 := by kernel_rfl
theorem c50 : Tryd.prog.cellsOf 50 = 12 := by kernel_rfl
theorem c49 : Tryd.prog.cellsOf 49 = 2 := by kernel_rfl
theorem c9 : Tryd.prog.cellsOf 9 = 1 := by kernel_rfl
theorem c3 : Tryd.prog.cellsOf 3 = 1 := by kernel_rfl
theorem c23 : Tryd.prog.cellsOf 23 = 5 := by kernel_rfl
theorem i72 : ∃ ms, Tryd.prog.underlying 72 = some (.interface ms) := ⟨_, Tryd.underlying72⟩
def kindD (k : Nat) : DataW Unit := .agg [.lit (.string (kname k)), .lit (.int .i64 (knums k))]
theorem kinds_data : (Rows.laid_signalbox_script_kinds : DataW Unit) = .agg ((List.range 6).map kindD) := by rfl
theorem tab_data : (Rows.laid_internal_strconv_uint64pow10 : DataW Unit) = Lib.tabData .u64 Lib.pow10Tab := by rfl

theorem kinds_of {W : World} (h : laidMet Tryd.prog laids W) : ∀ k, k < 6 → W.cell? ⟨0, k * 2, none⟩ = some (.string (toBA (kname k))) ∧ W.cell? ⟨0, k * 2 + 1, none⟩ = some (.int .i64 (knums k)) := by
  obtain ⟨ps, h1, _⟩ := h
  obtain ⟨g, t, cs, fuel, p, hg, ht, hvar, hd⟩ := laid_at h1 "signalbox/script.kinds" Rows.laid_signalbox_script_kinds (by unfold laids; simp)
  obtain rfl := Option.some.inj (gKinds.symm.trans hg)
  obtain rfl := Option.some.inj (tKinds.symm.trans ht)
  obtain ⟨xs, m, _, hx, hlen, hxl, hall⟩ := DataW.trod_array Tryd.underlying50 hd
  rw [c50] at hlen
  rw [c49] at hall
  rw [kinds_data] at hx
  have hxs : xs.map (·.1) = (List.range 6).map kindD := by
    have := congrArg Prod.fst hx
    simpa using this.symm
  intro k hk
  have hk' := hall k hk
  obtain ⟨x, hxk⟩ : ∃ x, xs[k]? = some x := ⟨_, List.getElem?_eq_getElem (by omega)⟩
  have hx1 : x.1 = kindD k := by
    have := congrArg (·[k]?) hxs
    simp only [List.getElem?_map, hxk, List.getElem?_range hk, Option.map_some, Option.some.injEq] at this
    exact this
  rw [hxk] at hk'
  obtain ⟨ys, m2, _, hy, _, hyl, hfs⟩ := DataW.trod_struct Tryd.underlying49 hk'
  have hyd : ys.map (·.1) = [.lit (.string (kname k)), .lit (.int .i64 (knums k))] := by
    have := congrArg Prod.fst hy
    rw [hx1] at this
    simpa [kindD] using this.symm
  have f0 := hfs 0 _ rfl
  have f1 := hfs 1 _ rfl
  match ys, hyd with
  | [y0, y1], hyd =>
    simp only [List.map_cons, List.map_nil, List.cons.injEq, and_true] at hyd
    obtain ⟨hy0, hy1⟩ := hyd
    obtain ⟨s', hc0, hd0, _⟩ := DataW.trod_string Tryd.underlying9 f0
    obtain ⟨n', hc1, hd1, _⟩ := DataW.trod_int Tryd.underlying3 f1
    have e0 : cs.toList[k * 2]? = some (.string s') := by
      have := congrArg (·[0]?) hc0
      simpa [c9, List.getElem?_take, List.getElem?_drop] using this
    have e1 : cs.toList[k * 2 + 1]? = some (.int .i64 n') := by
      have := congrArg (·[0]?) hc1
      simpa [c3, List.getElem?_take, List.getElem?_drop] using this
    have g0 := World.var?_cell hg hvar (k * 2)
    have g1 := World.var?_cell hg hvar (k * 2 + 1)
    rw [← Array.getElem?_toList] at g0 g1
    rw [e0] at g0
    rw [e1] at g1
    have h0 : s' = toBA (kname k) := by
      rw [hd0] at hy0
      simp only [DataW.lit.injEq, Lit.string.injEq] at hy0
      refine Go.WideShapes.bytes_inj ?_
      rw [hy0, toBA_list]
    have h1 : n' = knums k := by
      rw [hd1] at hy1
      simp only [DataW.lit.injEq, Lit.int.injEq, true_and] at hy1
      exact hy1
    rw [← h0, ← h1]
    exact ⟨g0, g1⟩
theorem err_of {W : World} {n : String} {d : DataW Unit} {nm : String} {g : Nat} (h : laidMet Tryd.prog laids W) (hn : (n, DataW.iface nm d) ∈ laids) (hg : Tryd.prog.globalNamed n = some g) (ht : (Tryd.prog.globals[g]?).map (·.type) = some 72) : ∃ te pe, W.cell? ⟨g, 0, none⟩ = some (.iface te pe) := by
  obtain ⟨ps, h1, _⟩ := h
  obtain ⟨g', t, cs, fuel, p, hg', ht', hvar, hd⟩ := laid_at h1 n _ hn
  obtain rfl := Option.some.inj (hg.symm.trans hg')
  obtain rfl := Option.some.inj (ht.symm.trans ht')
  obtain ⟨ms, hms⟩ := i72
  obtain ⟨_, u, v, hcs, _, _⟩ := iface_of_trod hms hd
  have g0 := World.var?_cell hg hvar 0
  rw [← Array.getElem?_toList, hcs] at g0
  exact ⟨u, v, g0⟩
theorem bas_of {W : World} (h : laidMetH Tryd.prog laids W) (hs : W.ShapedOpen Tryd.prog) : Bas W := by
  rw [MakeChecks.laidMetH_plain _ _ _ (by kernel_rfl)] at h
  have hk := kinds_of h
  exact ⟨fun k hk2 => by rw [Nat.mul_comm]; exact (hk k hk2).1, fun k hk2 => by rw [Nat.mul_comm]; exact (hk k hk2).2, Go.Proofs.cell_of_shapedOpen_int (zero := #[.int .i64 0]) (t := 3) hs (of_decide_eq_true (by kernel_rfl)) (by kernel_rfl) rfl (by kernel_rfl) (by kernel_rfl) Tryd.underlying3,
    tab_of_laid gTab tTab Tryd.underlying114 Tryd.underlying93 c93 c114 (by rw [← tab_data]; unfold laids; simp) h,
    err_of h (n := "strconv.ErrSyntax") (nm := "*errors.errorString") (by unfold laids; simp [Rows.laid_strconv_ErrSyntax]; rfl) gSyntax tSyntax,
    err_of h (n := "strconv.ErrRange") (nm := "*errors.errorString") (by unfold laids; simp [Rows.laid_strconv_ErrRange]; rfl) gRange tRange⟩

/-! ### What came in -/
theorem fields23 : ∃ fs : Array Field, Tryd.prog.underlying 23 = some (.struct fs) ∧ fs.size = 5 ∧ ∀ (i : Nat) (f : Field), fs[i]? = some f → f.offset = i ∧ Tryd.prog.cellsOf f.type = 1 ∧ Tryd.prog.underlying f.type = some (.int .i64) := by
  refine ⟨_, Tryd.underlying23, rfl, fun i f hi => ?_⟩
  match i with
  | 0 => cases hi; exact ⟨rfl, c3, Tryd.underlying3⟩
  | 1 => cases hi; exact ⟨rfl, c3, Tryd.underlying3⟩
  | 2 => cases hi; exact ⟨rfl, c3, Tryd.underlying3⟩
  | 3 => cases hi; exact ⟨rfl, c3, Tryd.underlying3⟩
  | 4 => cases hi; exact ⟨rfl, c3, Tryd.underlying3⟩
  | i + 5 => simp at hi
theorem fit_of {n : Int} (h : (Lit.int .i64 n).wf = true) : fitI n := by
  unfold fitI
  simp [Lit.wf] at h
  have : IntKind.i64.min = -9223372036854775808 := by decide
  rw [this] at h
  exact h
set_option maxRecDepth 100000 in
theorem evs_in {H : Type} {enc : TypeId × Value → H} {w : World} {A : Option Addr} {len cap : Nat} {d : DataW H} {ps : List MemPlace} (h : DataW.Trod enc Tryd.prog w 0 (fun _ => true) true 30 (.slice A len cap) d ps) : ∃ l : List EvV, EvRow w A l ∧ l.length = len ∧ ∀ r ∈ l, r.fit := by
  obtain ⟨fuel, hf⟩ := h
  obtain ⟨fs, he, hsz, hfs⟩ := fields23
  obtain ⟨hc, z, hz⟩ := open_flat_ints Tryd.underlying30 he (by rw [c23, hsz]) (by omega) hfs hf
  rw [hsz] at hz
  refine ⟨(List.range len).map (fun i => ⟨z i 0, z i 1, z i 2, z i 3, z i 4⟩), fun k y hy => ?_, by simp, fun r hr => ?_⟩
  · have hk := (List.getElem?_eq_some_iff.1 hy).1
    simp at hk
    rw [List.getElem?_map, List.getElem?_range hk] at hy
    simp only [Option.map_some, Option.some.injEq] at hy
    subst hy
    obtain ⟨b, off, hA, hb, hcell⟩ := hz k hk
    refine ⟨b, off, hA, hb, ?_, ?_, ?_, ?_, ?_⟩
    · exact (hcell 0 (by omega)).1
    all_goals rw [Nat.add_assoc]
    · exact (hcell 1 (by omega)).1
    · exact (hcell 2 (by omega)).1
    · exact (hcell 3 (by omega)).1
    · exact (hcell 4 (by omega)).1
  · rw [List.mem_map] at hr
    obtain ⟨i, hi, rfl⟩ := hr
    rw [List.mem_range] at hi
    obtain ⟨b, off, hA, hb, hcell⟩ := hz i hi
    exact ⟨fit_of (hcell 0 (by omega)).2, fit_of (hcell 1 (by omega)).2, fit_of (hcell 2 (by omega)).2, fit_of (hcell 3 (by omega)).2, fit_of (hcell 4 (by omega)).2⟩
set_option maxRecDepth 100000 in
theorem ev_in {H : Type} {enc : TypeId × Value → H} {w : World} {b0 : Nat} {r : Reach} {v : Value} {d : DataW H} {ps : List MemPlace} (hv : Value.okWide Tryd.prog w r b0 23 v) (h : DataW.Trod enc Tryd.prog w 0 (fun _ => true) true 23 v d ps) : ∃ e : EvV, v = e.val ∧ e.fit := by
  obtain ⟨fs, he, hsz, hfs⟩ := fields23
  obtain ⟨l, rfl, hl, hg⟩ := open_struct he (by rw [c23, hsz]) (fun i f hi => ⟨(hfs i f hi).1, (hfs i f hi).2.1⟩) hv h
  rw [hsz] at hl
  have each : ∀ i, i < 5 → ∃ z : Int, l[i]? = some (.int .i64 z) ∧ fitI z := by
    intro i hi
    obtain ⟨u, y, n, h1, h2⟩ := hg i fs[i] (Array.getElem?_eq_getElem (by omega))
    obtain ⟨z, hz, _, hw⟩ := DataW.trod_int (hfs i fs[i] (Array.getElem?_eq_getElem (by omega))).2.2 h2
    simp only [List.cons.injEq, and_true] at hz
    subst hz
    exact ⟨z, h1, fit_of hw⟩
  clear hg
  match l, hl, each with
  | [u0, u1, u2, u3, u4], _, each =>
    obtain ⟨z0, e0, f0⟩ := each 0 (by omega)
    obtain ⟨z1, e1, f1⟩ := each 1 (by omega)
    obtain ⟨z2, e2, f2⟩ := each 2 (by omega)
    obtain ⟨z3, e3, f3⟩ := each 3 (by omega)
    obtain ⟨z4, e4, f4⟩ := each 4 (by omega)
    cases e0; cases e1; cases e2; cases e3; cases e4
    exact ⟨⟨z0, z1, z2, z3, z4⟩, rfl, f0, f1, f2, f3, f4⟩

/-! ### A start -/
/-- The door's own heap, with the pinned table in its place. -/
noncomputable def doorW (os : Os) : World :=
  { World.doorLaid Tryd.prog 800 os with heap := (World.doorLaid Tryd.prog 800 os).heap.modify 5 fun o => match o with
    | .cells _ e fr => .cells (Lib.firstTab.map (Value.int .u8)).toArray e fr
    | o => o }
theorem own : ownKnob Tryd.prog.godebug = none := by kernel_rfl
theorem laidOut : laidOutB Tryd.prog = true := by kernel_rfl
theorem door_met (os : Os) (args : Array Value) : laidMetH Tryd.prog laids ((doorW os).forCall (fun _ _ => 0) ⟨#[], args, []⟩).memory :=
  laidMetH_of_parts3 (fuel := 8) (laidMet_of_run' 8 (by kernel_rfl) (by kernel_rfl)) (by kernel_rfl) (by kernel_rfl)
end Go.Proofs.YtgfgjbbpochiiaaDoor
