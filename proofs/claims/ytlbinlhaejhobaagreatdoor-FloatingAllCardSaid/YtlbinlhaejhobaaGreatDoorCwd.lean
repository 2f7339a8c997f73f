/- What the rows list, as facts on cells (Cop's first half, for Copp beside it). -/
import Derived.Test.YtlbinlhaejhobaaGreatDoorPF
import Derived.Test.YtlbinlhaejhobaaGreatDoorRows
import Derived.Test.YtlbinlhaejhobaaGreatDoorPI
import Derived.LaidMore
namespace Go.Proofs.YtlbinlhaejhobaaGreatDoor
open Go Go.RowKit

/-- The one listed variable. -/
def laids : List (String × DataW Unit) := [("signalbox/prog.words", Rows.laid_signalbox_prog_words)]
theorem gWords : Tryz.prog.globalNamed "signalbox/prog.words" = some 0 := by kernel_rfl
theorem tWords : (Tryz.prog.globals[0]?).map (·.type) = some 198 := by kernel_rfl
theorem c128 : Tryz.prog.cellsOf 198 = 32 := by kernel_rfl
theorem c127 : Tryz.prog.cellsOf 197 = 2 := by kernel_rfl
theorem c9w : Tryz.prog.cellsOf 9 = 1 := by kernel_rfl
theorem c3w : Tryz.prog.cellsOf 3 = 1 := by kernel_rfl
def wname (k : Nat) : List UInt8 := (wnames.getD k ⟨#[]⟩).data.toList
def wordD (k : Nat) : DataW Unit := .agg [.lit (.string (wname k)), .lit (.int .i64 (wnums.getD k 0))]
theorem words_data : (Rows.laid_signalbox_prog_words : DataW Unit) = .agg ((List.range 16).map wordD) := by rfl

theorem words_of {W : World} (h : laidMet Tryz.prog laids W) : Words W := by
  obtain ⟨ps, h1, _⟩ := h
  obtain ⟨g, t, cs, fuel, p, hg, ht, hvar, hd⟩ := laid_at h1 "signalbox/prog.words" Rows.laid_signalbox_prog_words (by unfold laids; simp)
  obtain rfl := Option.some.inj (gWords.symm.trans hg)
  obtain rfl := Option.some.inj (tWords.symm.trans ht)
  obtain ⟨xs, m, _, hx, hlen, hxl, hall⟩ := DataW.trod_array Tryz.underlying198 hd
  rw [c128] at hlen
  rw [c127] at hall
  rw [words_data] at hx
  have hxs : xs.map (·.1) = (List.range 16).map wordD := by
    have := congrArg Prod.fst hx
    simpa using this.symm
  intro k s n hs hn
  have hk : k < 16 := (List.getElem?_eq_some_iff.1 hs).1
  have hk' := hall k hk
  obtain ⟨x, hxk⟩ : ∃ x, xs[k]? = some x := ⟨_, List.getElem?_eq_getElem (by omega)⟩
  have hx1 : x.1 = wordD k := by
    have := congrArg (·[k]?) hxs
    simp only [List.getElem?_map, hxk, List.getElem?_range hk, Option.map_some, Option.some.injEq] at this
    exact this
  rw [hxk] at hk'
  obtain ⟨ys, m2, _, hy, _, hyl, hfs⟩ := DataW.trod_struct Tryz.underlying197 hk'
  have hyd : ys.map (·.1) = [.lit (.string (wname k)), .lit (.int .i64 (wnums.getD k 0))] := by
    have := congrArg Prod.fst hy
    rw [hx1] at this
    simpa [wordD] using this.symm
  have f0 := hfs 0 _ rfl
  have f1 := hfs 1 _ rfl
  have hsn : s = wnames.getD k ⟨#[]⟩ ∧ n = wnums.getD k 0 := by
    refine ⟨?_, ?_⟩
    · rw [List.getD_eq_getElem?_getD, hs]; rfl
    · rw [List.getD_eq_getElem?_getD, hn]; rfl
  match ys, hyd with
  | [y0, y1], hyd =>
    simp only [List.map_cons, List.map_nil, List.cons.injEq, and_true] at hyd
    obtain ⟨hy0, hy1⟩ := hyd
    obtain ⟨s', hc0, hd0, _⟩ := DataW.trod_string Tryz.underlying9 f0
    obtain ⟨n', hc1, hd1, _⟩ := DataW.trod_int Tryz.underlying3 f1
    have e0 : cs.toList[k * 2]? = some (.string s') := by
      have := congrArg (·[0]?) hc0
      simpa [c9w, List.getElem?_take, List.getElem?_drop] using this
    have e1 : cs.toList[k * 2 + 1]? = some (.int .i64 n') := by
      have := congrArg (·[0]?) hc1
      simpa [c3w, List.getElem?_take, List.getElem?_drop] using this
    have g0 := World.var?_cell hg hvar (k * 2)
    have g1 := World.var?_cell hg hvar (k * 2 + 1)
    rw [← Array.getElem?_toList] at g0 g1
    rw [e0] at g0
    rw [e1] at g1
    have h0 : s' = s := by
      rw [hd0] at hy0
      simp only [DataW.lit.injEq, Lit.string.injEq] at hy0
      rw [hsn.1]
      exact Go.WideShapes.bytes_inj hy0
    have h1 : n' = n := by
      rw [hd1] at hy1
      simp only [DataW.lit.injEq, Lit.int.injEq, true_and] at hy1
      rw [hsn.2]
      exact hy1
    rw [← h0, ← h1]
    exact ⟨g0, g1⟩

theorem words_in {W : World} (h : laidMetH Tryz.prog laids W) : Words W := by
  rw [MakeChecks.laidMetH_plain _ _ _ (by kernel_rfl)] at h
  exact words_of h
end Go.Proofs.YtlbinlhaejhobaaGreatDoor
