/- What the rows list, and what came in, as facts on cells. -/
import Derived.Test.YtmkdboiajjkghaaDoorFixed2
import Derived.Test.YtmkdboiajjkghaaDoorWrap
import Derived.Test.YtmkdboiajjkghaaDoorFlat
import Derived.LaidMore
namespace Go.Proofs.YtmkdboiajjkghaaDoor
open Go Go.RowKit

def laids : List (String × DataW Unit) := [("math/bits.deBruijn32tab", Rows.laid_math_bits_deBruijn32tab), ("math/bits.deBruijn64tab", Rows.laid_math_bits_deBruijn64tab), ("internal/strconv.uint64pow10", Rows.laid_internal_strconv_uint64pow10), ("signalbox/prog.words", Rows.laid_signalbox_prog_words)]
theorem gWords : Tryd.prog.globalNamed "signalbox/prog.words" = some 0 := by kernel_rfl
theorem tWords : (Tryd.prog.globals[0]?).map (·.type) = some 50 := by kernel_rfl
theorem tTab : (Tryd.prog.globals[2]?).map (·.type) = some 94 := by kernel_rfl
theorem c94 : Tryd.prog.cellsOf 94 = 20 := by kernel_rfl
theorem c85 : Tryd.prog.cellsOf 85 = 1 := by kernel_rfl
theorem c50 : Tryd.prog.cellsOf 50 = 32 := by kernel_rfl
theorem c49 : Tryd.prog.cellsOf 49 = 2 := by kernel_rfl
theorem c9 : Tryd.prog.cellsOf 9 = 1 := by kernel_rfl
theorem c3 : Tryd.prog.cellsOf 3 = 1 := by kernel_rfl
def wordD (k : Nat) : DataW Unit := .agg [.lit (.string (wname k)), .lit (.int .i64 (wnums.getD k 0))]
theorem words_data : (Rows.laid_signalbox_prog_words : DataW Unit) = .agg ((List.range 16).map wordD) := by rfl
theorem tab_data : (Rows.laid_internal_strconv_uint64pow10 : DataW Unit) = Lib.tabData .u64 Lib.pow10Tab := by rfl

theorem words_of {W : World} (h : laidMet Tryd.prog laids W) : Words W := by
  obtain ⟨ps, h1, _⟩ := h
  obtain ⟨g, t, cs, fuel, p, hg, ht, hvar, hd⟩ := laid_at h1 "signalbox/prog.words" Rows.laid_signalbox_prog_words (by unfold laids; simp)
  obtain rfl := Option.some.inj (gWords.symm.trans hg)
  obtain rfl := Option.some.inj (tWords.symm.trans ht)
  obtain ⟨xs, m, _, hx, hlen, hxl, hall⟩ := DataW.trod_array Tryd.underlying50 hd
  rw [c50] at hlen
  rw [c49] at hall
  rw [words_data] at hx
  have hxs : xs.map (·.1) = (List.range 16).map wordD := by
    have := congrArg Prod.fst hx
    simpa using this.symm
  intro k s n hs hn
  have hk : k < 16 := (List.getElem?_eq_some_iff.1 hs).1
  have hk' := hall k hk
  obtain ⟨x, hxk⟩ : ∃ x, xs[k]? = some x := ⟨_, List.getElem?_eq_getElem (by omega)⟩
  have hx1 : x.1 = wordD k := by
    have := congrArg (·[k]?) hxs
    simp only [List.getElem?_map, hxk, List.getElem?_range hk, Option.map_some, Option.some.injEq] at this
    exact this
  rw [hxk] at hk'
  obtain ⟨ys, m2, _, hy, _, hyl, hfs⟩ := DataW.trod_struct Tryd.underlying49 hk'
  have hyd : ys.map (·.1) = [.lit (.string (wname k)), .lit (.int .i64 (wnums.getD k 0))] := by
    have := congrArg Prod.fst hy
    rw [hx1] at this
    simpa [wordD] using this.symm
  have f0 := hfs 0 _ rfl
  have f1 := hfs 1 _ rfl
  have hsn : s = wnames.getD k ⟨#[]⟩ ∧ n = wnums.getD k 0 := by
    refine ⟨?_, ?_⟩
    · rw [List.getD_eq_getElem?_getD, hs]; rfl
    · rw [List.getD_eq_getElem?_getD, hn]; rfl
  match ys, hyd with
  | [y0, y1], hyd =>
    simp only [List.map_cons, List.map_nil, List.cons.injEq, and_true] at hyd
    obtain ⟨hy0, hy1⟩ := hyd
    obtain ⟨s', hc0, hd0, _⟩ := DataW.trod_string Tryd.underlying9 f0
    obtain ⟨n', hc1, hd1, _⟩ := DataW.trod_int Tryd.underlying3 f1
    have e0 : cs.toList[k * 2]? = some (.string s') := by
      have := congrArg (·[0]?) hc0
      simpa [c9, List.getElem?_take, List.getElem?_drop] using this
    have e1 : cs.toList[k * 2 + 1]? = some (.int .i64 n') := by
      have := congrArg (·[0]?) hc1
      simpa [c3, List.getElem?_take, List.getElem?_drop] using this
    have g0 := World.var?_cell hg hvar (k * 2)
    have g1 := World.var?_cell hg hvar (k * 2 + 1)
    rw [← Array.getElem?_toList] at g0 g1
    rw [e0] at g0
    rw [e1] at g1
    have h0 : s' = s := by
      rw [hd0] at hy0
      simp only [DataW.lit.injEq, Lit.string.injEq] at hy0
      rw [hsn.1]
      exact Go.WideShapes.bytes_inj hy0
    have h1 : n' = n := by
      rw [hd1] at hy1
      simp only [DataW.lit.injEq, Lit.int.injEq, true_and] at hy1
      rw [hsn.2]
      exact hy1
    rw [← h0, ← h1]
    exact ⟨g0, g1⟩

theorem bas_of {W : World} (h : laidMetH Tryd.prog laids W) (hs : W.ShapedOpen Tryd.prog) : Bas W := by
  rw [MakeChecks.laidMetH_plain _ _ _ (by kernel_rfl)] at h
  exact ⟨words_of h, Tryd.laysM219.s1_3 W hs, tab_of_laid gTab tTab Tryd.underlying94 Tryd.underlying85 c85 c94 (by rw [← tab_data]; unfold laids; simp) h⟩

/-! ### What came in -/
theorem c29 : Tryd.prog.cellsOf 29 = 3 := by kernel_rfl
theorem fields29 : ∃ fs : Array Field, Tryd.prog.underlying 29 = some (.struct fs) ∧ fs.size = 3 ∧ ∀ (i : Nat) (f : Field), fs[i]? = some f → f.offset = i ∧ Tryd.prog.cellsOf f.type = 1 ∧ Tryd.prog.underlying f.type = some (.int .i64) := by
  refine ⟨_, Tryd.underlying29, rfl, fun i f hi => ?_⟩
  match i with
  | 0 => cases hi; exact ⟨rfl, c3, Tryd.underlying3⟩
  | 1 => cases hi; exact ⟨rfl, c3, Tryd.underlying3⟩
  | 2 => cases hi; exact ⟨rfl, c3, Tryd.underlying3⟩
  | i + 3 => simp at hi
theorem fit_of {n : Int} (h : (Lit.int .i64 n).wf = true) : fitI n := by
  unfold fitI
  simp [Lit.wf] at h
  have : IntKind.i64.min = -9223372036854775808 := by decide
  rw [this] at h
  exact h
/-- Operations that came in. -/
structure OpArg (w : World) (A : Option Addr) (n cap : Nat) (l : List Opn) : Prop where
  len : l.length = n
  cap : n ≤ cap
  row : OpnRow w A l
  fit : ∀ x ∈ l, fitI x.a ∧ fitI x.b
theorem open_ops {H : Type} {enc : TypeId × Value → H} {w : World} {a : Option Addr} {len cap : Nat} {d : DataW H} {ps : List MemPlace} (h : DataW.Trod enc Tryd.prog w 0 (fun _ => true) true 22 (.slice a len cap) d ps) :
    ∃ z : List Opn, OpArg w a len cap z := by
  obtain ⟨fuel, hf⟩ := h
  obtain ⟨fs, he, hsz, hfs⟩ := fields29
  obtain ⟨hc, z, hz⟩ := open_flat_ints Tryd.underlying22 he (by rw [c29, hsz]) (by omega) hfs hf
  rw [hsz] at hz
  have get : ∀ k y, ((List.range len).map (fun i => (⟨z i 0, z i 1, z i 2⟩ : Opn)))[k]? = some y → k < len ∧ y = ⟨z k 0, z k 1, z k 2⟩ := by
    intro k y hy
    rw [List.getElem?_map] at hy
    by_cases hk : k < len
    · rw [List.getElem?_range hk] at hy
      exact ⟨hk, by simpa using hy.symm⟩
    · rw [List.getElem?_eq_none (by simp; omega)] at hy
      cases hy
  refine ⟨(List.range len).map (fun i => ⟨z i 0, z i 1, z i 2⟩), by simp, hc, fun k y hy => ?_, fun y hy => ?_⟩
  · obtain ⟨hk, rfl⟩ := get k y hy
    obtain ⟨b, off, rfl, hb, hcell⟩ := hz k hk
    exact ⟨b, off, rfl, hb, (hcell 0 (by omega)).1, (hcell 1 (by omega)).1, (hcell 2 (by omega)).1⟩
  · obtain ⟨k, hky⟩ := List.getElem?_of_mem hy
    obtain ⟨hk, rfl⟩ := get k y hky
    obtain ⟨b, off, rfl, hb, hcell⟩ := hz k hk
    exact ⟨fit_of (hcell 1 (by omega)).2, fit_of (hcell 2 (by omega)).2⟩
theorem c24 : Tryd.prog.cellsOf 24 = 4 := by kernel_rfl
theorem fields24 : ∃ fs : Array Field, Tryd.prog.underlying 24 = some (.struct fs) ∧ fs.size = 4 ∧ ∀ (i : Nat) (f : Field), fs[i]? = some f → f.offset = i ∧ Tryd.prog.cellsOf f.type = 1 ∧ Tryd.prog.underlying f.type = some (.int .i64) := by
  refine ⟨_, Tryd.underlying24, rfl, fun i f hi => ?_⟩
  match i with
  | 0 => cases hi; exact ⟨rfl, c3, Tryd.underlying3⟩
  | 1 => cases hi; exact ⟨rfl, c3, Tryd.underlying3⟩
  | 2 => cases hi; exact ⟨rfl, c3, Tryd.underlying3⟩
  | 3 => cases hi; exact ⟨rfl, c3, Tryd.underlying3⟩
  | i + 4 => simp at hi
theorem open_room {H : Type} {enc : TypeId × Value → H} {w : World} {b0 : Nat} {r : Reach} {v : Value} {d : DataW H} {ps : List MemPlace} (hv : Value.okWide Tryd.prog w r b0 24 v) (h : DataW.Trod enc Tryd.prog w 0 (fun _ => true) true 24 v d ps) : ∃ e : RoomV, v = e.val := by
  obtain ⟨fs, he, hsz, hfs⟩ := fields24
  obtain ⟨l, rfl, hl, hg⟩ := open_struct he (by rw [c24, hsz]) (fun i f hi => ⟨(hfs i f hi).1, (hfs i f hi).2.1⟩) hv h
  rw [hsz] at hl
  have each : ∀ i, i < 4 → ∃ z : Int, l[i]? = some (.int .i64 z) := by
    intro i hi
    obtain ⟨u, y, n, h1, h2⟩ := hg i fs[i] (Array.getElem?_eq_getElem (by omega))
    obtain ⟨z, hz, _, hw⟩ := DataW.trod_int (hfs i fs[i] (Array.getElem?_eq_getElem (by omega))).2.2 h2
    simp only [List.cons.injEq, and_true] at hz
    subst hz
    exact ⟨z, h1⟩
  clear hg
  match l, hl, each with
  | [u0, u1, u2, u3], _, each =>
    obtain ⟨z0, e0⟩ := each 0 (by omega)
    obtain ⟨z1, e1⟩ := each 1 (by omega)
    obtain ⟨z2, e2⟩ := each 2 (by omega)
    obtain ⟨z3, e3⟩ := each 3 (by omega)
    cases e0; cases e1; cases e2; cases e3
    exact ⟨⟨z0, z1, z2, z3⟩, rfl⟩
end Go.Proofs.YtmkdboiajjkghaaDoor
