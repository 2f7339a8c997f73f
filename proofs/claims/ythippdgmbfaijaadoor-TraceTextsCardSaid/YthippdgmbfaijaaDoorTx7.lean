/- A record of its line: what the document asks; the program's Parse. -/
import Derived.Test.YthippdgmbfaijaaDoorTx6
namespace Go.Proofs.YthippdgmbfaijaaDoor
open Go Go.RowKit

/-- The j-th word. -/
def wd (s : List UInt8) (j : Nat) : List UInt8 := (splitL 32 s).getD j []
def okW (s : List UInt8) : Prop := (splitL 32 s).length = 7 ∧ (kindO (wd s 1) 9).isSome = true ∧ ∀ j, j < 7 → j ≠ 1 → (numO (wd s j)).isSome = true
def zrec : RecV := ⟨0, 0, 0, 0, 0, 0, 0⟩
open Classical in
/-- The record that a line tells. -/
noncomputable def parseO (s : List UInt8) : Option RecV :=
  if okW s then some ⟨(numO (wd s 0)).getD 0, ((kindO (wd s 1) 9).getD 0 : Nat), (numO (wd s 2)).getD 0, (numO (wd s 3)).getD 0, (numO (wd s 4)).getD 0, (numO (wd s 5)).getD 0, (numO (wd s 6)).getD 0⟩ else none
theorem parseO_no {s : List UInt8} (h : ¬ okW s) : parseO s = none := if_neg h
theorem parseO_yes {s : List UInt8} {n : Nat → Int} {k : Nat} (h7 : (splitL 32 s).length = 7) (hk : kindO (wd s 1) 9 = some k) (hn : ∀ j, j < 7 → j ≠ 1 → numO (wd s j) = some (n j)) : parseO s = some ⟨n 0, k, n 2, n 3, n 4, n 5, n 6⟩ := by
  have h : okW s := ⟨h7, by rw [hk]; rfl, fun j h1 h2 => by rw [hn j h1 h2]; rfl⟩
  unfold parseO
  rw [if_pos h, hk, hn 0 (by omega) (by omega), hn 2 (by omega) (by omega), hn 3 (by omega) (by omega), hn 4 (by omega) (by omega), hn 5 (by omega) (by omega), hn 6 (by omega) (by omega)]
  rfl
def ParseEnd (s : List UInt8) (w : World) (e : Ending) (w' : World) : Prop := e = .returned (.tuple #[((parseO s).getD zrec).val, .bool (parseO s).isSome]) ∧ Only (fun _ => False) w w'

/-- A row of seven numbers. -/
def nrow (n : Nat → Int) : List Value := [.int .i64 (n 0), .int .i64 (n 1), .int .i64 (n 2), .int .i64 (n 3), .int .i64 (n 4), .int .i64 (n 5), .int .i64 (n 6)]
def upd (n : Nat → Int) (k : Nat) (z : Int) (j : Nat) : Int := if j = k then z else n j
theorem nrow_set (n : Nat → Int) {k : Nat} (hk : k < 7) (z : Int) : (nrow n).set k (.int .i64 z) = nrow (upd n k z) := by
  match k, hk with
  | 0, _ | 1, _ | 2, _ | 3, _ | 4, _ | 5, _ | 6, _ => simp [nrow, upd]
theorem ix7_0 (a b c d e f g : Value) (w : World) : (Instr.index 47 (.agg #[a, b, c, d, e, f, g]) (.int .i64 0)).run Tryd.prog w = .ok a w := by kernel_rfl
theorem ix7_1 (a b c d e f g : Value) (w : World) : (Instr.index 47 (.agg #[a, b, c, d, e, f, g]) (.int .i64 1)).run Tryd.prog w = .ok b w := by kernel_rfl
theorem ix7_2 (a b c d e f g : Value) (w : World) : (Instr.index 47 (.agg #[a, b, c, d, e, f, g]) (.int .i64 2)).run Tryd.prog w = .ok c w := by kernel_rfl
theorem ix7_3 (a b c d e f g : Value) (w : World) : (Instr.index 47 (.agg #[a, b, c, d, e, f, g]) (.int .i64 3)).run Tryd.prog w = .ok d w := by kernel_rfl
theorem ix7_4 (a b c d e f g : Value) (w : World) : (Instr.index 47 (.agg #[a, b, c, d, e, f, g]) (.int .i64 4)).run Tryd.prog w = .ok e w := by kernel_rfl
theorem ix7_5 (a b c d e f g : Value) (w : World) : (Instr.index 47 (.agg #[a, b, c, d, e, f, g]) (.int .i64 5)).run Tryd.prog w = .ok f w := by kernel_rfl
theorem ix7_6 (a b c d e f g : Value) (w : World) : (Instr.index 47 (.agg #[a, b, c, d, e, f, g]) (.int .i64 6)).run Tryd.prog w = .ok g w := by kernel_rfl
theorem idx7 {s a b c d f g h : List UInt8} (hs : splitL 32 s = [a, b, c, d, f, g, h]) (j : Nat) (hj : j < 7) (w : World) : (Instr.index 47 (.agg #[sv a, sv b, sv c, sv d, sv f, sv g, sv h]) (.int .i64 j)).run Tryd.prog w = .ok (.string (toBA (wd s j))) w := by
  unfold wd
  rw [hs]
  match j, hj with
  | 0, _ => exact ix7_0 _ _ _ _ _ _ _ w
  | 1, _ => exact ix7_1 _ _ _ _ _ _ _ w
  | 2, _ => exact ix7_2 _ _ _ _ _ _ _ w
  | 3, _ => exact ix7_3 _ _ _ _ _ _ _ w
  | 4, _ => exact ix7_4 _ _ _ _ _ _ _ w
  | 5, _ => exact ix7_5 _ _ _ _ _ _ _ w
  | 6, _ => exact ix7_6 _ _ _ _ _ _ _ w
theorem wd_len (s : List UInt8) (j : Nat) : (wd s j).length ≤ s.length := by
  unfold wd
  rw [List.getD_eq_getElem?_getD]
  cases h : (splitL 32 s)[j]? with
  | none => simp
  | some p => exact split_len 32 s p (List.mem_of_getElem? h)

set_option maxRecDepth 100000 in
set_option maxHeartbeats 2000000 in
theorem parse_any {w : World} (hb : Bas w) (s : List UInt8) (hl : s.length ≤ 1000000) : Calls Tryd.prog 9 #[.string (toBA s)] w (ParseEnd s w) := by
  obtain ⟨W1, hW1⟩ : ∃ W1, W1 = w.alloc (.cells #[.int .i64 0, .int .i64 0, .int .i64 0, .int .i64 0, .int .i64 0, .int .i64 0, .int .i64 0] 24) := ⟨_, rfl⟩
  have hO : Only (fun _ => False) w W1 := by rw [hW1]; exact (Only.refl _ w).alloc _
  have h0 : W1.heap[w.heap.size]? = some (.cells (nrow (fun _ => 0)).toArray 24 (0, 0)) := by rw [hW1]; exact heap_new_at _ _ rfl
  have hW := Lib.hid (wordsOf_any (hb.new hO) s hl)
  have hb' := Lib.hid (hb.new hO)
  have hO' := Lib.hid hO
  have h0' := Lib.hid h0
  have hW1' := Lib.hid hW1
  -- how it ends with no record
  have hno := Lib.hid (fun (V : World) (hV : Only (fun _ => False) W1 V) (hn : ¬ okW s) => show (st7 V w.heap.size (.int .i64 0) (.int .i64 0) (.int .i64 0) (.int .i64 0) (.int .i64 0) (.int .i64 0) (.int .i64 0)).heap[w.heap.size]? = some (.cells (nrow (fun _ => 0)).toArray 24 (0, 0)) ∧ ParseEnd s w (.returned (.tuple #[.agg #[.int .i64 0, .int .i64 0, .int .i64 0, .int .i64 0, .int .i64 0, .int .i64 0, .int .i64 0], .bool false])) (st7 V w.heap.size (.int .i64 0) (.int .i64 0) (.int .i64 0) (.int .i64 0) (.int .i64 0) (.int .i64 0) (.int .i64 0)) from
    ⟨st7_row (hV.heap h0 (fun h => h)) _ _ _ _ _ _ _, by rw [parseO_no hn]; rfl, (hO.trans' hV).trans (st7_only _ _ _ _ _ _ _ _ _) (fun k hk e => by omega)⟩)
  obtain ⟨S, hS⟩ : ∃ S, S = toBA s := ⟨_, rfl⟩
  rw [← hS] at hW ⊢
  clear hS hW1 hO hb h0
  go_enter Tryd.func9, Tryd.ntmps9
  go_wp2_with fail
  rw [← hW1'.out]
  refine hW.out.mono ?_
  rintro e w2 ⟨a, b, c, d, f, g, q, rfl, hws, hO2⟩
  have hws' := Lib.hid hws
  have hO2' := Lib.hid hO2
  have hbx := Lib.hid (heap_new_at w2 (.cells [Value.string (toBA a), .string (toBA b), .string (toBA c), .string (toBA d), .string (toBA f), .string (toBA g), .string (toBA q)].toArray 47) rfl)
  have hO3 := Lib.hid (hO2.alloc (.cells #[Value.string (toBA a), .string (toBA b), .string (toBA c), .string (toBA d), .string (toBA f), .string (toBA g), .string (toBA q)] 47))
  clear hws hO2
  unfold sv
  by_cases h7 : (splitL 32 s).length = 7
  · rw [decide_eq_true h7]
    have hsp := Lib.hid (hws'.out h7)
    have hb1 : wd s 1 = b := by unfold wd; rw [hsp.out]; rfl
    have hkd := Lib.hid (fun W (hW : Only (fun _ => False) W1 W) => kindOf_any (hb'.out.new hW) b)
    have h7' := Lib.hid h7
    have i7 := Lib.hid (idx7 hsp.out)
    unfold sv at i7
    have x0 := row_cell hbx.out (i := 0) rfl
    have x1 := row_cell hbx.out (i := 1) rfl
    have x2 := row_cell hbx.out (i := 2) rfl
    have x3 := row_cell hbx.out (i := 3) rfl
    have x4 := row_cell hbx.out (i := 4) rfl
    have x5 := row_cell hbx.out (i := 5) rfl
    have x6 := row_cell hbx.out (i := 6) rfl
    have hxl := row_lt hbx.out
    have hz := Lib.hid (hO3.out.heap h0'.out (fun h => h))
    clear h7
    cases hk : kindO b 9 with
    | none =>
      have hn7 := Lib.hid (show ¬ okW s from fun h => by
        have := h.2.1
        rw [hb1, hk] at this
        cases this)
      unfold KindEnd at hkd
      rw [hk] at hkd
      have hzl := row_lt hz.out
      have z0 := row_free hz.out 0
      have z1 := row_free hz.out 1
      have z2 := row_free hz.out 2
      have z3 := row_free hz.out 3
      have z4 := row_free hz.out 4
      have z5 := row_free hz.out 5
      have z6 := row_free hz.out 6
      have y0 := row_cell hz.out (i := 0) rfl
      have y1 := row_cell hz.out (i := 1) rfl
      have y2 := row_cell hz.out (i := 2) rfl
      have y3 := row_cell hz.out (i := 3) rfl
      have y4 := row_cell hz.out (i := 4) rfl
      have y5 := row_cell hz.out (i := 5) rfl
      have y6 := row_cell hz.out (i := 6) rfl
      clear hk hb1
      go_wp2_with fail
      refine (hkd.out _ hO3.out).mono ?_
      rintro e w' ⟨rfl, rfl⟩
      go_wp2
      generalize w2.alloc (.cells #[.string (toBA a), .string (toBA b), .string (toBA c), .string (toBA d), .string (toBA f), .string (toBA g), .string (toBA q)] 47) = V at hO3 ⊢
      change bodyPost _ _ _ _ _ (st7 V w.heap.size (.int .i64 0) (.int .i64 0) (.int .i64 0) (.int .i64 0) (.int .i64 0) (.int .i64 0) (.int .i64 0))
      obtain ⟨hv1, hv2⟩ := hno.out V hO3.out hn7.out
      generalize st7 V w.heap.size (.int .i64 0) (.int .i64 0) (.int .i64 0) (.int .i64 0) (.int .i64 0) (.int .i64 0) (.int .i64 0) = V2 at hv1 hv2 ⊢
      have r0 := row_cell hv1 (i := 0) rfl
      have r1 := row_cell hv1 (i := 1) rfl
      have r2 := row_cell hv1 (i := 2) rfl
      have r3 := row_cell hv1 (i := 3) rfl
      have r4 := row_cell hv1 (i := 4) rfl
      have r5 := row_cell hv1 (i := 5) rfl
      have r6 := row_cell hv1 (i := 6) rfl
      exact bodyPost_ret (v := .tuple #[.agg #[.int .i64 0, .int .i64 0, .int .i64 0, .int .i64 0, .int .i64 0, .int .i64 0, .int .i64 0], .bool false]) (by simp [results, Tryd.results9, go_sem, r0, r1, r2, r3, r4, r5, r6]) rfl hv2
    | some kk =>
      have hk' := Lib.hid (show kindO (wd s 1) 9 = some kk by rw [hb1]; exact hk)
      unfold KindEnd at hkd
      rw [hk] at hkd
      clear hk hb1
      obtain ⟨W3, hW3⟩ : ∃ W3, W3 = w2.alloc (.cells #[.string (toBA a), .string (toBA b), .string (toBA c), .string (toBA d), .string (toBA f), .string (toBA g), .string (toBA q)] 47) := ⟨_, rfl⟩
      have hW3' := Lib.hid hW3
      rw [← hW3] at x0 x1 x2 x3 x4 x5 x6 hxl hz hO3 hbx
      have hO4 := Lib.hid (hO3.out.alloc (.cells #[.int .i64 0, .int .i64 0, .int .i64 0, .int .i64 0, .int .i64 0, .int .i64 0, .int .i64 0] 52))
      have hB7 := Lib.hid (heap_new_at W3 (.cells (nrow (fun _ => 0)).toArray 52) rfl)
      clear hW3
      go_wp2_with fail
      rw [← hW3'.out]
      refine (hkd.out _ hO3.out).mono ?_
      rintro e w' ⟨rfl, rfl⟩
      go_wp2
      generalize hW4 : W3.alloc (.cells #[.int .i64 0, .int .i64 0, .int .i64 0, .int .i64 0, .int .i64 0, .int .i64 0, .int .i64 0] 52) = W4 at hO4
      have hB7' := Lib.hid (show W4.heap[W3.heap.size]? = some (.cells (nrow (fun _ => 0)).toArray 52 (0, 0)) by rw [← hW4]; exact hB7.out)
      have hs3 := Lib.hid hO3.out.size
      clear hW4 hB7 x0 x1 x2 x3 x4 x5 x6 hxl hbx hW3'
      go_loopw [28] (fun i wr => ∃ (k : Nat) (n : Nat → Int), k ≤ 7 ∧ i = .int .i64 k ∧ wr.heap[W3.heap.size]? = some (.cells (nrow n).toArray 52 (0, 0)) ∧ (∀ j, j < k → j ≠ 1 → numO (wd s j) = some (n j)) ∧ Only (fun x => x = W3.heap.size) W4 wr) (fun i _ => 7 - (intOf i).toNat)
      case atStart => exact ⟨0, fun _ => 0, Nat.zero_le _, rfl, hB7'.out, (fun j hj => by omega), Only.refl _ _⟩
      case round =>
        obtain ⟨k, n, hk, rfl, hrow, hnum, hOr⟩ := hrel
        obtain ⟨ws, hws⟩ : ∃ ws : World, ws = wr := ⟨_, rfl⟩
        subst hws
        have hOw := Lib.hid (show Only (fun _ => False) W1 ws from hO4.out.trans hOr (fun x hx e => by have := hs3.out; omega))
        have hz := Lib.hid (hOw.out.heap h0'.out (fun h => h))
        have hrow' := Lib.hid hrow
        have hnum' := Lib.hid hnum
        have hOr' := Lib.hid hOr
        clear hrow hnum hOr
        by_cases hk7 : k < 7
        · have hk7' : (k : Int) < 7 := by omega
          have hk0 : (0 : Int) ≤ (k : Int) := by omega
          have q0 := i7.out k hk7
          by_cases hk1 : k = 1
          · have hk1' : ((k : Int) == 1) = true := by rw [beq_iff_eq]; omega
            have hk2 := Lib.hid hk1
            clear hk1
            go_wp2
            go_roundw
            case rel => exact ⟨k + 1, n, by omega, by go_num, hrow'.out, (fun j hj hj1 => hnum'.out j (by have := hk2.out; omega) hj1), hOr'.out⟩
            case measure => simp [intOf]; omega
          · have hk1' : ((k : Int) == 1) = false := by rw [beq_eq_false_iff_ne]; omega
            have hN := Lib.hid (numberOf_any (hb'.out.new hOw.out) (wd s k) (Nat.le_trans (wd_len s k) hl))
            obtain ⟨X, hX⟩ : ∃ X, X = toBA (wd s k) := ⟨_, rfl⟩
            rw [← hX] at q0 hN
            clear hX
            unfold NumEnd at hN
            cases hnk : numO (wd s k) with
            | none =>
              have hn7 := Lib.hid (show ¬ okW s from fun h => by
                have := h.2.2 k hk7 hk1
                rw [hnk] at this
                cases this)
              rw [hnk] at hN
              clear hnk
              go_wp2_with fail
              refine hN.out.mono ?_
              rintro e w5 ⟨m, rfl, -, hO5⟩
              have hO5' := Lib.hid (hOw.out.trans' hO5)
              have hrow5 := hO5.heap hrow'.out (fun h => h)
              have hl5 := row_lt hrow5
              have f5 := row_free hrow5 k
              have c5 : w5.cell? ⟨W3.heap.size, k, none⟩ = some (.int .i64 (n k)) := row_cell hrow5 (by
                match k, hk7 with
                | 0, _ | 1, _ | 2, _ | 3, _ | 4, _ | 5, _ | 6, _ => rfl)
              have hO6 := Lib.hid (show Only (fun _ => False) W1 (w5.setCell ⟨W3.heap.size, k, none⟩ (.int .i64 m)) from hO5'.out.trans (only_set _ _ _ _) (fun x hx e => by have := hs3.out; omega))
              have hz := Lib.hid (hO6.out.heap h0'.out (fun h => h))
              have hzl := row_lt hz.out
              have z0 := row_free hz.out 0
              have z1 := row_free hz.out 1
              have z2 := row_free hz.out 2
              have z3 := row_free hz.out 3
              have z4 := row_free hz.out 4
              have z5 := row_free hz.out 5
              have z6 := row_free hz.out 6
              have y0 := row_cell hz.out (i := 0) rfl
              have y1 := row_cell hz.out (i := 1) rfl
              have y2 := row_cell hz.out (i := 2) rfl
              have y3 := row_cell hz.out (i := 3) rfl
              have y4 := row_cell hz.out (i := 4) rfl
              have y5 := row_cell hz.out (i := 5) rfl
              have y6 := row_cell hz.out (i := 6) rfl
              clear hO5 hrow5
              go_wp2
              generalize w5.setCell ⟨W3.heap.size, k, none⟩ (.int .i64 m) = V at hO6 ⊢
              change bodyPost _ _ _ _ _ (st7 V w.heap.size (.int .i64 0) (.int .i64 0) (.int .i64 0) (.int .i64 0) (.int .i64 0) (.int .i64 0) (.int .i64 0))
              obtain ⟨hv1, hv2⟩ := hno.out V hO6.out hn7.out
              generalize st7 V w.heap.size (.int .i64 0) (.int .i64 0) (.int .i64 0) (.int .i64 0) (.int .i64 0) (.int .i64 0) (.int .i64 0) = V2 at hv1 hv2 ⊢
              have r0 := row_cell hv1 (i := 0) rfl
              have r1 := row_cell hv1 (i := 1) rfl
              have r2 := row_cell hv1 (i := 2) rfl
              have r3 := row_cell hv1 (i := 3) rfl
              have r4 := row_cell hv1 (i := 4) rfl
              have r5 := row_cell hv1 (i := 5) rfl
              have r6 := row_cell hv1 (i := 6) rfl
              exact bodyPost_ret (v := .tuple #[.agg #[.int .i64 0, .int .i64 0, .int .i64 0, .int .i64 0, .int .i64 0, .int .i64 0, .int .i64 0], .bool false]) (by simp [results, Tryd.results9, go_sem, r0, r1, r2, r3, r4, r5, r6]) rfl hv2
            | some v =>
              rw [hnk] at hN
              have hnk' := Lib.hid hnk
              clear hnk
              go_wp2_with fail
              refine hN.out.mono ?_
              rintro e w5 ⟨m, rfl, hm, hO5⟩
              obtain rfl : m = v := hm v rfl
              have hO5' := Lib.hid (hOw.out.trans' hO5)
              have hrow5 := hO5.heap hrow'.out (fun h => h)
              have hl5 := row_lt hrow5
              have f5 := row_free hrow5 k
              have c5 : w5.cell? ⟨W3.heap.size, k, none⟩ = some (.int .i64 (n k)) := row_cell hrow5 (by
                match k, hk7 with
                | 0, _ | 1, _ | 2, _ | 3, _ | 4, _ | 5, _ | 6, _ => rfl)
              have hnew := row_set hrow5 k (.int .i64 m)
              rw [nrow_set n hk7] at hnew
              have hnew' := Lib.hid hnew
              have hO6 := Lib.hid ((hOr'.out.trans hO5 (fun _ _ h => h.elim)).trans (only_set w5 W3.heap.size k (.int .i64 m)) (fun _ _ h => h))
              clear hO5 hrow5 hm hnew
              go_wp2
              go_roundw
              case rel =>
                refine ⟨k + 1, upd n k m, by omega, by go_num, hnew'.out, fun j hj hj1 => ?_, hO6.out⟩
                unfold upd
                by_cases hjk : j = k
                · rw [if_pos hjk, hjk]
                  exact hnk'.out
                · rw [if_neg hjk]
                  exact hnum'.out j (by omega) hj1
              case measure => simp [intOf]; omega
        · obtain rfl : k = 7 := by omega
          have hres := Lib.hid (parseO_yes h7'.out hk'.out hnum'.out)
          have x0 := row_cell hrow'.out (i := 0) rfl
          have x2 := row_cell hrow'.out (i := 2) rfl
          have x3 := row_cell hrow'.out (i := 3) rfl
          have x4 := row_cell hrow'.out (i := 4) rfl
          have x5 := row_cell hrow'.out (i := 5) rfl
          have x6 := row_cell hrow'.out (i := 6) rfl
          have hxl := row_lt hrow'.out
          have hzl := row_lt hz.out
          have z0 := row_free hz.out 0
          have z1 := row_free hz.out 1
          have z2 := row_free hz.out 2
          have z3 := row_free hz.out 3
          have z4 := row_free hz.out 4
          have z5 := row_free hz.out 5
          have z6 := row_free hz.out 6
          have y0 := row_cell hz.out (i := 0) rfl
          have y1 := row_cell hz.out (i := 1) rfl
          have y2 := row_cell hz.out (i := 2) rfl
          have y3 := row_cell hz.out (i := 3) rfl
          have y4 := row_cell hz.out (i := 4) rfl
          have y5 := row_cell hz.out (i := 5) rfl
          have y6 := row_cell hz.out (i := 6) rfl
          go_wp2
          change bodyPost _ _ _ _ _ (st7 ws w.heap.size (.int .i64 (n 0)) (.int .i64 kk) (.int .i64 (n 2)) (.int .i64 (n 3)) (.int .i64 (n 4)) (.int .i64 (n 5)) (.int .i64 (n 6)))
          have hv1 := st7_row hz.out (.int .i64 (n 0)) (.int .i64 kk) (.int .i64 (n 2)) (.int .i64 (n 3)) (.int .i64 (n 4)) (.int .i64 (n 5)) (.int .i64 (n 6))
          have o7 := st7_only ws w.heap.size (.int .i64 (n 0)) (.int .i64 kk) (.int .i64 (n 2)) (.int .i64 (n 3)) (.int .i64 (n 4)) (.int .i64 (n 5)) (.int .i64 (n 6))
          generalize st7 ws w.heap.size (.int .i64 (n 0)) (.int .i64 kk) (.int .i64 (n 2)) (.int .i64 (n 3)) (.int .i64 (n 4)) (.int .i64 (n 5)) (.int .i64 (n 6)) = V2 at hv1 o7 ⊢
          have r0 := row_cell hv1 (i := 0) rfl
          have r1 := row_cell hv1 (i := 1) rfl
          have r2 := row_cell hv1 (i := 2) rfl
          have r3 := row_cell hv1 (i := 3) rfl
          have r4 := row_cell hv1 (i := 4) rfl
          have r5 := row_cell hv1 (i := 5) rfl
          have r6 := row_cell hv1 (i := 6) rfl
          refine bodyPost_ret (v := .tuple #[.agg #[.int .i64 (n 0), .int .i64 kk, .int .i64 (n 2), .int .i64 (n 3), .int .i64 (n 4), .int .i64 (n 5), .int .i64 (n 6)], .bool true]) (by simp [results, Tryd.results9, go_sem, r0, r1, r2, r3, r4, r5, r6]) rfl ?_
          refine ⟨?_, (hO'.out.trans' hOw.out).trans o7 (fun k hk e => by omega)⟩
          rw [hres.out]
          rfl
  · rw [decide_eq_false h7]
    have hz := Lib.hid (hO3.out.heap h0'.out (fun h => h))
    have hn7 := Lib.hid (show ¬ okW s from fun h => h7 h.1)
    have hzl := row_lt hz.out
    have z0 := row_free hz.out 0
    have z1 := row_free hz.out 1
    have z2 := row_free hz.out 2
    have z3 := row_free hz.out 3
    have z4 := row_free hz.out 4
    have z5 := row_free hz.out 5
    have z6 := row_free hz.out 6
    have y0 := row_cell hz.out (i := 0) rfl
    have y1 := row_cell hz.out (i := 1) rfl
    have y2 := row_cell hz.out (i := 2) rfl
    have y3 := row_cell hz.out (i := 3) rfl
    have y4 := row_cell hz.out (i := 4) rfl
    have y5 := row_cell hz.out (i := 5) rfl
    have y6 := row_cell hz.out (i := 6) rfl
    clear h7
    go_wp2
    generalize w2.alloc (.cells #[.string (toBA a), .string (toBA b), .string (toBA c), .string (toBA d), .string (toBA f), .string (toBA g), .string (toBA q)] 47) = V at hO3 ⊢
    change bodyPost _ _ _ _ _ (st7 V w.heap.size (.int .i64 0) (.int .i64 0) (.int .i64 0) (.int .i64 0) (.int .i64 0) (.int .i64 0) (.int .i64 0))
    obtain ⟨hv1, hv2⟩ := hno.out V hO3.out hn7.out
    generalize st7 V w.heap.size (.int .i64 0) (.int .i64 0) (.int .i64 0) (.int .i64 0) (.int .i64 0) (.int .i64 0) (.int .i64 0) = V2 at hv1 hv2 ⊢
    have r0 := row_cell hv1 (i := 0) rfl
    have r1 := row_cell hv1 (i := 1) rfl
    have r2 := row_cell hv1 (i := 2) rfl
    have r3 := row_cell hv1 (i := 3) rfl
    have r4 := row_cell hv1 (i := 4) rfl
    have r5 := row_cell hv1 (i := 5) rfl
    have r6 := row_cell hv1 (i := 6) rfl
    exact bodyPost_ret (v := .tuple #[.agg #[.int .i64 0, .int .i64 0, .int .i64 0, .int .i64 0, .int .i64 0, .int .i64 0, .int .i64 0], .bool false]) (by simp [results, Tryd.results9, go_sem, r0, r1, r2, r3, r4, r5, r6]) rfl hv2
end Go.Proofs.YthippdgmbfaijaaDoor
