/- The calls whose answers the document fixes. -/
import Derived.Test.YtgfgjbbpochiiaaDoorSj
namespace Go.Proofs.YtgfgjbbpochiiaaDoor
open Go Go.RowKit

def ev0 : EvV := ⟨0, 5, 1, 10, 3⟩
theorem ev0_fit : ev0.fit := by constructor <;> (show fitI _; unfold fitI ev0; decide)
theorem ev0_ok : okE ev0 := by decide
theorem ev0_line : lineE ev0 = [48, 32, 116, 105, 109, 101, 114, 32, 49, 32, 49, 48, 32, 51] := by
  simp [lineE, wordsE, joinL, ev0, Lib.itoa, Lib.decDigits, kname, knames]
theorem ev0_evO : evO [48, 32, 116, 105, 109, 101, 114, 32, 49, 32, 49, 48, 32, 51] = some ev0 := evO_is ⟨ev0_ok, ev0_line⟩
def ev1 : EvV := ⟨3, 1, 0, 0, 0⟩
theorem ev1_ok : okE ev1 := by decide
theorem ev1_line : lineE ev1 = [51, 32, 114, 101, 108, 101, 97, 115, 101, 32, 48] := by
  simp [lineE, wordsE, joinL, ev1, Lib.itoa, Lib.decDigits, kname, knames]
theorem last9 : lastL 9 = [117, 110, 116, 105, 108, 32, 57] := by
  simp [lastL, untilW, Lib.itoa, Lib.decDigits]
theorem ev1_text : textO [51, 32, 114, 101, 108, 101, 97, 115, 101, 32, 48, 10, 117, 110, 116, 105, 108, 32, 57, 10] = some ([ev1], 9) := textO_is ⟨by intro e he; rw [List.mem_singleton] at he; rw [he]; exact ev1_ok, by decide, by
  rw [textE_cons, textE_nil, ev1_line, last9]
  rfl⟩

set_option maxRecDepth 100000 in
set_option maxHeartbeats 4000000 in
theorem fixed_any {w : World} (hb : Bas w) : Calls Tryd.prog 6 #[] w (GrowB true w) := by
  obtain ⟨W1, hW1⟩ : ∃ W1, W1 = w.alloc (.cells #[.int .i64 0, .int .i64 5, .int .i64 1, .int .i64 10, .int .i64 3] 23) := ⟨_, rfl⟩
  have hO1 : Only (fun _ => False) w W1 := by rw [hW1]; exact (Only.refl _ w).alloc _
  have h1 : W1.heap[w.heap.size]? = some (.cells [Value.int .i64 0, .int .i64 5, .int .i64 1, .int .i64 10, .int .i64 3].toArray 23 (0, 0)) := by rw [hW1]; exact heap_new_at _ _ rfl
  have hB := Lib.hid (fun W (hW : Only (fun _ => False) W1 W) => (hb.new hO1).new hW)
  have q1 := Lib.hid (line_any (hb.new hO1) ev0 ev0_fit)
  have q2 := Lib.hid (fun W (hW : Only (fun _ => False) W1 W) => parse_any (hB.out W hW) [48, 32, 116, 105, 109, 101, 114, 32, 49, 32, 49, 48, 32, 51] (by simp))
  have q3 := Lib.hid (fun W (hW : Only (fun _ => False) W1 W) => read_any (hB.out W hW) [51, 32, 114, 101, 108, 101, 97, 115, 101, 32, 48, 10, 117, 110, 116, 105, 108, 32, 57, 10] (by simp))
  unfold LineEnd at q1
  unfold ParseEnd at q2
  unfold ReadEnd at q3
  rw [ev1_text] at q3
  rw [ev0_evO] at q2
  rw [if_pos ev0_ok, decide_eq_true ev0_ok, ev0_line] at q1
  have hW1' := Lib.hid hW1
  have h1' := Lib.hid h1
  have hO1' := Lib.hid hO1
  have p1 := Lib.hid (show Calls Tryd.prog 7 #[.agg #[.int .i64 0, .int .i64 5, .int .i64 1, .int .i64 10, .int .i64 3]] W1 (fun e w' => e = .returned (.tuple #[.string ⟨#[48, 32, 116, 105, 109, 101, 114, 32, 49, 32, 49, 48, 32, 51]⟩, .bool true]) ∧ Only (fun _ => False) W1 w') from q1.out)
  have p2 := Lib.hid (show ∀ W, Only (fun _ => False) W1 W → Calls Tryd.prog 9 #[.string ⟨#[48, 32, 116, 105, 109, 101, 114, 32, 49, 32, 49, 48, 32, 51]⟩] W (fun e w' => e = .returned (.tuple #[.agg #[.int .i64 0, .int .i64 5, .int .i64 1, .int .i64 10, .int .i64 3], .bool true]) ∧ Only (fun _ => False) W w') from q2.out)
  have p3 := Lib.hid (show ∀ W, Only (fun _ => False) W1 W → Calls Tryd.prog 10 #[.string ⟨#[51, 32, 114, 101, 108, 101, 97, 115, 101, 32, 48, 10, 117, 110, 116, 105, 108, 32, 57, 10]⟩] W (fun e w' => ∃ b off cap, e = .returned (.tuple #[.slice (some ⟨b, off, none⟩) 1 cap, .int .i64 9, .int .i64 0]) ∧ b < w'.heap.size ∧ (w'.cell? ⟨b, off, none⟩ = some (.int .i64 3)) ∧ 1 ≤ cap ∧ Only (fun _ => False) W w') from fun W hW => (q3.out W hW).mono fun e w' h => by
    simp only [List.length_cons, List.length_nil] at h
    rw [if_pos (by omega)] at h
    obtain ⟨p, cap, hh, rfl, hWn, -, hO⟩ := h
    obtain ⟨g, off, cp, -, hv, hmc, -, hgl, hgc, -⟩ := hWn.at_ (by simp)
    cases hv
    exact ⟨g, off, cap, rfl, hgl, hgc 0 _ rfl, by simpa using hmc, hO⟩)
  have q4 := Lib.hid (fun W : World => @periodic_fix (W.alloc (.cells [Value.int .i64 0, .int .i64 0, .int .i64 4, .int .i64 0, .int .i64 0, .int .i64 0, .slice none 0 0].toArray 41)) W.heap.size (heap_new_at _ _ rfl))
  have p4 := Lib.hid (show ∀ W : World, Calls Tryd.prog 16 #[zcfg W.heap.size, .int .i64 9] (W.alloc (.cells [Value.int .i64 0, .int .i64 0, .int .i64 4, .int .i64 0, .int .i64 0, .int .i64 0, .slice none 0 0].toArray 41)) (fun e w' => ∃ b off cap, e = .returned (.slice (some ⟨b, off, none⟩) 3 cap) ∧ b < w'.heap.size ∧ (w'.cell? ⟨b, off + 10, none⟩ = some (.int .i64 8)) ∧ 3 ≤ cap ∧ Only (fun _ => False) (W.alloc (.cells [Value.int .i64 0, .int .i64 0, .int .i64 4, .int .i64 0, .int .i64 0, .int .i64 0, .slice none 0 0].toArray 41)) w') from fun W => (q4.out W).mono fun e w' h => by
    obtain ⟨p, cap, hh, rfl, hWn, hO⟩ := h
    obtain ⟨g, off, cp, -, hv, hmc, -, hgl, hgc, -⟩ := hWn.at_ (by omega)
    cases hv
    exact ⟨g, off, cap, rfl, hgl, hgc 10 _ rfl, hmc, hO⟩)
  unfold zcfg at p4
  clear q1 q2 q3 q4
  have e0 := row_cell h1 (i := 0) rfl
  have e1 := row_cell h1 (i := 1) rfl
  have e2 := row_cell h1 (i := 2) rfl
  have e3 := row_cell h1 (i := 3) rfl
  have e4 := row_cell h1 (i := 4) rfl
  have hl := row_lt h1
  clear hW1 hO1 h1 hb hB
  go_enter Tryd.func6, Tryd.ntmps6
  go_wp2_with fail
  rw [← hW1'.out]
  refine p1.out.mono ?_
  rintro e w2 ⟨rfl, hO2⟩
  have hO2' := Lib.hid hO2
  clear hO2 e0 e1 e2 e3 e4 hl
  go_wp2_with fail
  refine (p2.out _ hO2'.out).mono ?_
  rintro e w3 ⟨rfl, hO3⟩
  have hO3' := Lib.hid (hO2'.out.trans' hO3)
  clear hO3
  have hb3 := Lib.hid (heap_new_at w3 (.cells [Value.int .i64 0, .int .i64 5, .int .i64 1, .int .i64 10, .int .i64 3].toArray 23) rfl)
  have o3 := Lib.hid (hO3'.out.alloc (.cells [Value.int .i64 0, .int .i64 5, .int .i64 1, .int .i64 10, .int .i64 3].toArray 23))
  go_wp2_with fail
  refine (p3.out _ o3.out).mono ?_
  rintro e w4 ⟨b, off, cap, rfl, hbl, hc, hcap, hO4⟩
  have hb4 := Lib.hid (hO4.heap hb3.out (fun h => h))
  have o4 := Lib.hid (o3.out.trans' hO4)
  have hcc := Lib.hid (And.intro hbl (And.intro hc hcap))
  clear hbl hc hcap hO4
  go_wp2_with fail
  refine (p4.out w4).mono ?_
  rintro e w5 ⟨b2, off2, cap2, rfl, hbl2, hc2, hcap2, hO5⟩
  have o5' := Lib.hid (((Only.refl (fun _ => False) w4).alloc (.cells [Value.int .i64 0, .int .i64 0, .int .i64 4, .int .i64 0, .int .i64 0, .int .i64 0, .slice none 0 0].toArray 41)).trans' hO5)
  have o5 := Lib.hid (o4.out.trans' o5'.out)
  have hb5 := o5'.out.heap hb4.out (fun h => h)
  have hb1 := o5.out.heap h1'.out (fun h => h)
  obtain ⟨hbl, hc, hcap⟩ := hcc.out
  replace hc := o5'.out.cell hc (fun h => h)
  replace hbl := Nat.lt_of_lt_of_le hbl o5'.out.size
  clear hO5
  have e0 := row_cell hb1 (i := 0) rfl
  have e1 := row_cell hb1 (i := 1) rfl
  have e2 := row_cell hb1 (i := 2) rfl
  have e3 := row_cell hb1 (i := 3) rfl
  have e4 := row_cell hb1 (i := 4) rfl
  have g0 := row_cell hb5 (i := 0) rfl
  have g1 := row_cell hb5 (i := 1) rfl
  have g2 := row_cell hb5 (i := 2) rfl
  have g3 := row_cell hb5 (i := 3) rfl
  have g4 := row_cell hb5 (i := 4) rfl
  have hl1 := row_lt hb1
  have hl5 := row_lt hb5
  have hend := Lib.hid (hO1'.out.trans' o5.out)
  clear hb1 hb5
  go_wp2
  go_ret
  exact ⟨rfl, hend.out⟩
end Go.Proofs.YtgfgjbbpochiiaaDoor
