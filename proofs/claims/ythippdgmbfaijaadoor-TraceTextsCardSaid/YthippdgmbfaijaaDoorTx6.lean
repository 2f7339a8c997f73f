/- A line's words. -/
import Derived.Test.YthippdgmbfaijaaDoorTx5
namespace Go.Proofs.YthippdgmbfaijaaDoor
open Go Go.RowKit

def sv (l : List UInt8) : Value := .string (toBA l)
def WordsEnd (s : List UInt8) (w : World) (e : Ending) (w' : World) : Prop :=
  ∃ a b c d f g h : List UInt8, e = .returned (.tuple #[.agg #[sv a, sv b, sv c, sv d, sv f, sv g, sv h], .bool (decide ((splitL 32 s).length = 7))]) ∧ ((splitL 32 s).length = 7 → splitL 32 s = [a, b, c, d, f, g, h]) ∧ Only (fun _ => False) w w'
/-- The words so far, in their row. -/
def wrow (pre : List (List UInt8)) : List Value := (pre ++ List.replicate (7 - pre.length) []).map sv
theorem wrow_set {pre : List (List UInt8)} (h : pre.length < 7) (x : List UInt8) : (wrow pre).set pre.length (sv x) = wrow (pre ++ [x]) := by
  unfold wrow
  rw [List.length_append]
  obtain ⟨m, hm⟩ : ∃ m, 7 - pre.length = m + 1 := ⟨7 - pre.length - 1, by omega⟩
  rw [hm, show 7 - (pre.length + [x].length) = m by simp; omega, List.replicate_succ, List.map_append, List.map_cons]
  rw [List.set_append_right _ _ (by rw [List.length_map]; exact Nat.le_refl _)]
  simp
theorem wrow_len {pre : List (List UInt8)} (h : pre.length ≤ 7) : (wrow pre).length = 7 := by
  unfold wrow
  rw [List.length_map, List.length_append, List.length_replicate]
  omega
theorem wrow_seven {pre : List (List UInt8)} (h : pre.length = 7) : ∃ a b c d f g k : List UInt8, pre = [a, b, c, d, f, g, k] ∧ wrow pre = [sv a, sv b, sv c, sv d, sv f, sv g, sv k] := by
  match pre, h with
  | [a, b, c, d, f, g, k], _ => exact ⟨a, b, c, d, f, g, k, rfl, rfl⟩

/-- Seven cells are written, one behind the other. -/
def st7 (w : World) (g : Nat) (a b c d f h i : Value) : World := ((((((w.setCell ⟨g, 0, none⟩ a).setCell ⟨g, 1, none⟩ b).setCell ⟨g, 2, none⟩ c).setCell ⟨g, 3, none⟩ d).setCell ⟨g, 4, none⟩ f).setCell ⟨g, 5, none⟩ h).setCell ⟨g, 6, none⟩ i
theorem only_set (w : World) (b i : Nat) (v : Value) : Only (fun k => k = b) w (w.setCell ⟨b, i, none⟩ v) := Only.setCell (Only.refl (fun k => k = b) w) (p := ⟨b, i, none⟩) (fun _ => rfl) v
theorem st7_row {w : World} {g : Nat} {e : TypeId} {x0 x1 x2 x3 x4 x5 x6 : Value} (h : w.heap[g]? = some (.cells [x0, x1, x2, x3, x4, x5, x6].toArray e (0, 0))) (a b c d f h' i : Value) : (st7 w g a b c d f h' i).heap[g]? = some (.cells [a, b, c, d, f, h', i].toArray e (0, 0)) := by
  have h0 := row_set h 0 a
  have h1 := row_set (L := [a, x1, x2, x3, x4, x5, x6]) h0 1 b
  have h2 := row_set (L := [a, b, x2, x3, x4, x5, x6]) h1 2 c
  have h3 := row_set (L := [a, b, c, x3, x4, x5, x6]) h2 3 d
  have h4 := row_set (L := [a, b, c, d, x4, x5, x6]) h3 4 f
  have h5 := row_set (L := [a, b, c, d, f, x5, x6]) h4 5 h'
  exact row_set (L := [a, b, c, d, f, h', x6]) h5 6 i
theorem st7_only (w : World) (g : Nat) (a b c d f h i : Value) : Only (fun k => k = g) w (st7 w g a b c d f h i) :=
  ((((((only_set _ _ _ _).trans' (only_set _ _ _ _)).trans' (only_set _ _ _ _)).trans' (only_set _ _ _ _)).trans' (only_set _ _ _ _)).trans' (only_set _ _ _ _)).trans' (only_set _ _ _ _)

set_option maxRecDepth 100000 in
set_option maxHeartbeats 2000000 in
theorem wordsOf_any {w : World} (hb : Bas w) (s : List UInt8) (hl : s.length ≤ 1000000) : Calls Tryd.prog 21 #[.string (toBA s)] w (WordsEnd s w) := by
  obtain ⟨W2, hW2⟩ : ∃ W2, W2 = (w.alloc (.cells #[.string ⟨#[]⟩, .string ⟨#[]⟩, .string ⟨#[]⟩, .string ⟨#[]⟩, .string ⟨#[]⟩, .string ⟨#[]⟩, .string ⟨#[]⟩] 47)).alloc (.cells #[.string ⟨#[]⟩, .string ⟨#[]⟩, .string ⟨#[]⟩, .string ⟨#[]⟩, .string ⟨#[]⟩, .string ⟨#[]⟩, .string ⟨#[]⟩] 47) := ⟨_, rfl⟩
  have hO : Only (fun _ => False) w W2 := by rw [hW2]; exact ((Only.refl _ w).alloc _).alloc _
  have h0 : W2.heap[w.heap.size]? = some (.cells (wrow []).toArray 47 (0, 0)) := by rw [hW2]; exact heap_kept_alloc (heap_new_at _ _ rfl) _
  have h1 : W2.heap[w.heap.size + 1]? = some (.cells (wrow []).toArray 47 (0, 0)) := by rw [hW2]; exact heap_new_at _ _ (by simp)
  have hb' := Lib.hid hb
  have hO' := Lib.hid hO
  have h0' := Lib.hid h0
  have h1' := Lib.hid h1
  have hW2' := Lib.hid hW2
  clear hW2 hO hb h0 h1
  go_enter Tryd.func21, Tryd.ntmps21
  go_wp2
  rw [← hW2'.out]
  go_loopw [0, 5, 7] (fun ln mo i wr => ∃ (pre : List (List UInt8)) (rest : List UInt8) (b : Bool), pre.length ≤ 7 ∧ i = .int .i64 pre.length ∧ ln = .string (toBA rest) ∧ mo = .bool b ∧ rest.length ≤ s.length ∧
      wr.heap[w.heap.size + 1]? = some (.cells (wrow pre).toArray 47 (0, 0)) ∧ (b = true → splitL 32 s = pre ++ splitL 32 rest) ∧ (b = false → splitL 32 s = pre) ∧ Only (fun k => k = w.heap.size + 1) W2 wr) (fun _ _ i _ => 7 - (intOf i).toNat)
  case atStart => exact ⟨[], s, true, by simp, rfl, rfl, rfl, Nat.le_refl _, h1'.out, (fun _ => rfl), (fun h => by cases h), Only.refl _ _⟩
  case round =>
    obtain ⟨pre, rest, b, hp, rfl, rfl, rfl, hrl, hrow, hy, hn, hOr⟩ := hrel
    obtain ⟨ws, hws⟩ : ∃ ws : World, ws = wr := ⟨_, rfl⟩
    subst hws
    have hz := Lib.hid (hOr.heap h0'.out (by omega))
    have hrow' := Lib.hid hrow
    have hy' := Lib.hid hy
    have hn' := Lib.hid hn
    have hOr' := Lib.hid hOr
    clear hrow hy hn hOr
    obtain ⟨k, hk⟩ : ∃ k, k = pre.length := ⟨_, rfl⟩
    rw [← hk]
    have hk' := Lib.hid hk
    rw [← hk] at hp
    clear hk
    by_cases hk7 : k < 7
    · have hk7' : (k : Int) < 7 := by omega
      have hk0 : (0 : Int) ≤ (k : Int) := by omega
      cases b with
      | false =>
        have hne := Lib.hid (show decide ((splitL 32 s).length = 7) = false by rw [hn'.out rfl, ← hk'.out]; exact decide_eq_false (by omega))
        have hzl := row_lt hz.out
        have z0 := row_free hz.out 0
        have z1 := row_free hz.out 1
        have z2 := row_free hz.out 2
        have z3 := row_free hz.out 3
        have z4 := row_free hz.out 4
        have z5 := row_free hz.out 5
        have z6 := row_free hz.out 6
        have y0 := row_cell hz.out (i := 0) rfl
        have y1 := row_cell hz.out (i := 1) rfl
        have y2 := row_cell hz.out (i := 2) rfl
        have y3 := row_cell hz.out (i := 3) rfl
        have y4 := row_cell hz.out (i := 4) rfl
        have y5 := row_cell hz.out (i := 5) rfl
        have y6 := row_cell hz.out (i := 6) rfl
        unfold sv at y0 y1 y2 y3 y4 y5 y6
        go_wp2
        change bodyPost _ _ _ _ _ (st7 ws w.heap.size _ _ _ _ _ _ _)
        have h7 := st7_row hz.out (sv []) (sv []) (sv []) (sv []) (sv []) (sv []) (sv [])
        have o7 := st7_only ws w.heap.size (sv []) (sv []) (sv []) (sv []) (sv []) (sv []) (sv [])
        change bodyPost _ _ _ _ _ (st7 ws w.heap.size (sv []) (sv []) (sv []) (sv []) (sv []) (sv []) (sv []))
        generalize st7 ws w.heap.size (sv []) (sv []) (sv []) (sv []) (sv []) (sv []) (sv []) = V at h7 o7 ⊢
        have r0 := row_cell h7 (i := 0) rfl
        have r1 := row_cell h7 (i := 1) rfl
        have r2 := row_cell h7 (i := 2) rfl
        have r3 := row_cell h7 (i := 3) rfl
        have r4 := row_cell h7 (i := 4) rfl
        have r5 := row_cell h7 (i := 5) rfl
        have r6 := row_cell h7 (i := 6) rfl
        refine bodyPost_ret (v := .tuple #[.agg #[sv [], sv [], sv [], sv [], sv [], sv [], sv []], .bool false]) (by simp [results, Tryd.results21, go_sem, r0, r1, r2, r3, r4, r5, r6]) rfl ?_
        refine ⟨[], [], [], [], [], [], [], by rw [hne.out], fun h => ?_, (hO'.out.trans hOr'.out (fun k hk e => by omega)).trans o7 (fun k hk e => by omega)⟩
        have := hne.out
        rw [decide_eq_true h] at this
        cases this
      | true =>
        have hyt := Lib.hid (hy'.out rfl)
        clear hy' hn'
        have hkey : ∃ (x r : List UInt8) (c : Bool), (Calls Tryd.prog 24 #[.string (toBA rest), .string ⟨#[32]⟩] ws (CutEnd x r c ws)) ∧ r.length ≤ rest.length ∧ (c = true → splitL 32 rest = x :: splitL 32 r) ∧ (c = false → splitL 32 rest = [x]) := by
          have hbs : Bas ws := hb'.out.new (hO'.out.trans hOr'.out (fun k hk e => by omega))
          rcases cut_cases 32 rest with h | ⟨a, r, h1, rfl⟩
          · exact ⟨rest, [], false, cut_no hbs 32 rest h (by omega), by simp, (fun h => by cases h), fun _ => splitL_not 32 rest h⟩
          · refine ⟨a, r, true, cut_yes hbs 32 a r h1 (by simp at hrl; omega), by simp; omega, fun _ => splitL_at 32 r a h1, (fun h => by cases h)⟩
        obtain ⟨x, r, c, hcut, hrr, hyes, hnot⟩ := hkey
        have hcut' := Lib.hid hcut
        have hyes' := Lib.hid hyes
        have hnot' := Lib.hid hnot
        clear hcut hyes hnot
        obtain ⟨R, hR⟩ : ∃ R, R = toBA rest := ⟨_, rfl⟩
        rw [← hR] at hcut' ⊢
        clear hR
        go_wp2_with fail
        refine hcut'.out.mono ?_
        rintro e w3 ⟨rfl, hO3⟩
        have hr3 := hO3.heap hrow'.out (fun h => h)
        have hlt3 := row_lt hr3
        have hfr := row_free hr3 k
        have hcl := row_cell (i := k) hr3 (List.getElem?_eq_getElem (by rw [wrow_len (by have := hk'.out; omega)]; exact hk7))
        have hnew := row_set hr3 k (sv x)
        rw [hk'.out, wrow_set (by have := hk'.out; omega)] at hnew
        have hnew' := Lib.hid hnew
        have hO3' := Lib.hid hO3
        clear hnew hr3 hO3
        go_wp2
        go_roundw
        case rel =>
          rw [hk'.out]
          refine ⟨pre ++ [x], r, c, by rw [List.length_append]; have := hk'.out; simp; omega, by rw [List.length_append]; rfl, rfl, rfl, by omega, hnew'.out, fun hc => ?_, fun hc => ?_, ?_⟩
          · rw [hyt.out, hyes'.out hc, List.append_assoc]
            rfl
          · rw [hyt.out, hnot'.out hc]
          · exact (hOr'.out.trans hO3'.out (fun _ _ h => h.elim)).trans (only_set _ _ _ _) (fun _ _ h => h)
        case measure => simp [intOf]; omega
    · obtain rfl : k = 7 := by omega
      obtain ⟨a, b', c, d, f, g, h, hpe, hwr⟩ := wrow_seven hk'.out.symm
      have hrow2 := hrow'.out
      rw [hwr] at hrow2
      have hbool := Lib.hid (show (!b) = decide ((splitL 32 s).length = 7) from by
        cases b with
        | false => rw [hn'.out rfl, ← hk'.out]; rfl
        | true =>
          rw [hy'.out rfl, List.length_append, ← hk'.out]
          have := List.length_pos_iff.2 (splitL_ne 32 rest)
          rw [decide_eq_false (by omega)]
          rfl)
      have hwords := Lib.hid (show (splitL 32 s).length = 7 → splitL 32 s = [a, b', c, d, f, g, h] from fun h7 => by
        cases b with
        | false => rw [hn'.out rfl, hpe]
        | true =>
          rw [hy'.out rfl, List.length_append, ← hk'.out] at h7
          have := List.length_pos_iff.2 (splitL_ne 32 rest)
          omega)
      have x0 := row_cell hrow2 (i := 0) rfl
      have x1 := row_cell hrow2 (i := 1) rfl
      have x2 := row_cell hrow2 (i := 2) rfl
      have x3 := row_cell hrow2 (i := 3) rfl
      have x4 := row_cell hrow2 (i := 4) rfl
      have x5 := row_cell hrow2 (i := 5) rfl
      have x6 := row_cell hrow2 (i := 6) rfl
      have hxl := row_lt hrow2
      have hzl := row_lt hz.out
      have z0 := row_free hz.out 0
      have z1 := row_free hz.out 1
      have z2 := row_free hz.out 2
      have z3 := row_free hz.out 3
      have z4 := row_free hz.out 4
      have z5 := row_free hz.out 5
      have z6 := row_free hz.out 6
      have y0 := row_cell hz.out (i := 0) rfl
      have y1 := row_cell hz.out (i := 1) rfl
      have y2 := row_cell hz.out (i := 2) rfl
      have y3 := row_cell hz.out (i := 3) rfl
      have y4 := row_cell hz.out (i := 4) rfl
      have y5 := row_cell hz.out (i := 5) rfl
      have y6 := row_cell hz.out (i := 6) rfl
      unfold sv at x0 x1 x2 x3 x4 x5 x6 y0 y1 y2 y3 y4 y5 y6
      clear hrow2
      go_wp2
      change bodyPost _ _ _ _ _ (st7 ws w.heap.size (sv a) (sv b') (sv c) (sv d) (sv f) (sv g) (sv h))
      have h7 := st7_row hz.out (sv a) (sv b') (sv c) (sv d) (sv f) (sv g) (sv h)
      have o7 := st7_only ws w.heap.size (sv a) (sv b') (sv c) (sv d) (sv f) (sv g) (sv h)
      generalize st7 ws w.heap.size (sv a) (sv b') (sv c) (sv d) (sv f) (sv g) (sv h) = V at h7 o7 ⊢
      have r0 := row_cell h7 (i := 0) rfl
      have r1 := row_cell h7 (i := 1) rfl
      have r2 := row_cell h7 (i := 2) rfl
      have r3 := row_cell h7 (i := 3) rfl
      have r4 := row_cell h7 (i := 4) rfl
      have r5 := row_cell h7 (i := 5) rfl
      have r6 := row_cell h7 (i := 6) rfl
      refine bodyPost_ret (v := .tuple #[.agg #[sv a, sv b', sv c, sv d, sv f, sv g, sv h], .bool (!b)]) (by simp [results, Tryd.results21, go_sem, r0, r1, r2, r3, r4, r5, r6]) rfl ?_
      exact ⟨a, b', c, d, f, g, h, by rw [hbool.out], hwords.out, (hO'.out.trans hOr'.out (fun k hk e => by omega)).trans o7 (fun k hk e => by omega)⟩
end Go.Proofs.YthippdgmbfaijaaDoor
