/- An event of its line: the program's Parse. -/
import Derived.Test.YtgfgjbbpochiiaaDoorSo
namespace Go.Proofs.YtgfgjbbpochiiaaDoor
open Go Go.RowKit

/-! ### When there is one -/
theorem knums_of {k : Nat} (h1 : 1 ≤ k) (h5 : k ≤ 5) : (k = 5 ∧ knums k = 4) ∨ (k ≠ 5 ∧ knums k = 2) := by
  unfold knums
  by_cases h : k = 5
  · exact .inl ⟨h, if_pos h⟩
  · exact .inr ⟨h, by rw [if_neg h, if_neg (by omega)]⟩
theorem words_del {e : EvV} (h : okE e) : ∃ t, wordsE e = Lib.itoa e.at_ :: kname e.k.toNat :: t ∧ Lib.itoa e.at_ :: t = ((figsE e).take (knums e.k.toNat)).map Lib.itoa ∧ ∀ x ∈ (figsE e).take (knums e.k.toNat), inN x := by
  obtain ⟨h1, h2, h3, h4⟩ := h
  by_cases h5 : e.k = 5
  · rw [if_pos h5] at h4
    rw [wordsE_five h5, h5]
    refine ⟨_, rfl, rfl, fun x hx => ?_⟩
    have hx : x ∈ [e.at_, e.a, e.b, e.c] := hx
    simp only [List.mem_cons, List.not_mem_nil, or_false] at hx
    rcases hx with rfl | rfl | rfl | rfl
    · exact h2
    · exact h3
    · exact h4.1
    · exact h4.2
  · rw [wordsE_three h5]
    have hk : knums e.k.toNat = 2 := by
      rcases knums_of (k := e.k.toNat) (by omega) (by omega) with ⟨a, -⟩ | ⟨-, b⟩
      · omega
      · exact b
    rw [hk]
    refine ⟨_, rfl, rfl, fun x hx => ?_⟩
    have hx : x ∈ [e.at_, e.a] := hx
    simp only [List.mem_cons, List.not_mem_nil, or_false] at hx
    rcases hx with rfl | rfl
    · exact h2
    · exact h3
theorem evO_short {s : List UInt8} (h : (cutN 32 4 s).length ≤ 1) : evO s = none := evO_no fun e he => by
  rw [cutN_lineE he] at h
  have := (wordsE_len e).1
  omega
theorem evO_words {s a b : List UInt8} {r : List (List UInt8)} {e : EvV} (hc : cutN 32 4 s = a :: b :: r) (h : isE s e) : kindO b 6 = some e.k.toNat ∧ a :: r = ((figsE e).take (knums e.k.toNat)).map Lib.itoa ∧ ∀ x ∈ (figsE e).take (knums e.k.toNat), inN x := by
  have hw := cutN_lineE h
  obtain ⟨t, h1, h2, h3⟩ := words_del h.1
  rw [hc, h1] at hw
  simp only [List.cons.injEq] at hw
  obtain ⟨rfl, rfl, rfl⟩ := hw
  have hk := h.1.1
  exact ⟨kindO_is (by omega) (by omega) rfl, h2, h3⟩
theorem evO_nokind {s a b : List UInt8} {r : List (List UInt8)} (hc : cutN 32 4 s = a :: b :: r) (h : kindO b 6 = none) : evO s = none := evO_no fun e he => by
  rw [(evO_words hc he).1] at h
  cases h
theorem figs_len (e : EvV) {n : Nat} (h : n ≤ 4) : ((figsE e).take n).length = n := by
  rw [List.length_take]
  have : (figsE e).length = 4 := rfl
  omega
theorem evO_count {s a b : List UInt8} {r : List (List UInt8)} {kk : Nat} (hc : cutN 32 4 s = a :: b :: r) (h : kindO b 6 = some kk) (hn : (a :: r).length ≠ knums kk) : evO s = none := evO_no fun e he => by
  obtain ⟨h1, h2, h3⟩ := evO_words hc he
  rw [h] at h1
  cases h1
  refine hn ?_
  rw [h2, List.length_map, figs_len e]
  have hk := he.1.1
  rcases knums_of (k := e.k.toNat) (by omega) (by omega) with ⟨-, b⟩ | ⟨-, b⟩ <;> omega
theorem evO_badnum {s a b x : List UInt8} {r : List (List UInt8)} {j : Nat} (hc : cutN 32 4 s = a :: b :: r) (hx : (a :: r)[j]? = some x) (hn : numS x = none) : evO s = none := evO_no fun e he => by
  obtain ⟨h1, h2, h3⟩ := evO_words hc he
  rw [h2, List.getElem?_map] at hx
  obtain ⟨y, hy, rfl⟩ := Option.map_eq_some_iff.1 hx
  rw [numS_itoa (h3 y (List.mem_of_getElem? hy))] at hn
  cases hn
theorem evO_yes {s a b : List UInt8} {r : List (List UInt8)} {kk : Nat} {n : Nat → Int} (hc : cutN 32 4 s = a :: b :: r) (h : kindO b 6 = some kk) (hn : (a :: r).length = knums kk) (hv : ∀ (j : Nat) x, (a :: r)[j]? = some x → numS x = some (n j)) (hz : ∀ j, knums kk ≤ j → n j = 0) : evO s = some ⟨n 0, kk, n 1, n 2, n 3⟩ := by
  obtain ⟨k1, k2, k3⟩ := kindO_some h
  have hs := join_cutN 32 4 s
  rw [hc] at hs
  refine evO_is ⟨?_, ?_⟩
  · refine ⟨by simp only; omega, (numS_some (hv 0 a rfl)).1, ?_, ?_⟩
    · rcases knums_of k1 (by omega) with ⟨-, e⟩ | ⟨-, e⟩
      all_goals
        rw [e] at hn
        match r, hn with
        | x :: _, _ => exact (numS_some (hv 1 x rfl)).1
    · rcases knums_of k1 (by omega) with ⟨e5, e⟩ | ⟨e5, e⟩
      · rw [if_pos (by simp only; omega)]
        rw [e] at hn
        match r, hn with
        | [x, y, z], _ => exact ⟨(numS_some (hv 2 y rfl)).1, (numS_some (hv 3 z rfl)).1⟩
      · rw [if_neg (by simp only; omega)]
        exact ⟨hz 2 (by omega), hz 3 (by omega)⟩
  · rw [← hs]
    unfold lineE
    congr 1
    rcases knums_of k1 (by omega) with ⟨e5, e⟩ | ⟨e5, e⟩
    · rw [wordsE_five (by simp only; omega)]
      rw [e] at hn
      match r, hn with
      | [x, y, z], _ =>
        simp only
        rw [(numS_some (hv 0 a rfl)).2, (numS_some (hv 1 x rfl)).2, (numS_some (hv 2 y rfl)).2, (numS_some (hv 3 z rfl)).2, ← k3, e5]
    · rw [wordsE_three (by simp only; omega)]
      rw [e] at hn
      match r, hn with
      | [x], _ =>
        simp only
        rw [(numS_some (hv 0 a rfl)).2, (numS_some (hv 1 x rfl)).2, ← k3, Int.toNat_natCast]

/-! ### The walk -/
def ParseEnd (s : List UInt8) (w : World) (e : Ending) (w' : World) : Prop := e = .returned (.tuple #[((evO s).getD zev).val, .bool (evO s).isSome]) ∧ Only (fun _ => False) w w'
/-- Five cells are written, one behind the other. -/
def st5 (w : World) (g : Nat) (a b c d f : Value) : World := ((((w.setCell ⟨g, 0, none⟩ a).setCell ⟨g, 1, none⟩ b).setCell ⟨g, 2, none⟩ c).setCell ⟨g, 3, none⟩ d).setCell ⟨g, 4, none⟩ f
theorem st5_row {w : World} {g : Nat} {e : TypeId} {x0 x1 x2 x3 x4 : Value} (h : w.heap[g]? = some (.cells [x0, x1, x2, x3, x4].toArray e (0, 0))) (a b c d f : Value) : (st5 w g a b c d f).heap[g]? = some (.cells [a, b, c, d, f].toArray e (0, 0)) := by
  have h0 := row_set h 0 a
  have h1 := row_set (L := [a, x1, x2, x3, x4]) h0 1 b
  have h2 := row_set (L := [a, b, x2, x3, x4]) h1 2 c
  have h3 := row_set (L := [a, b, c, x3, x4]) h2 3 d
  exact row_set (L := [a, b, c, d, x4]) h3 4 f
theorem st5_only (w : World) (g : Nat) (a b c d f : Value) : Only (fun k => k = g) w (st5 w g a b c d f) :=
  ((((only_set _ _ _ _).trans' (only_set _ _ _ _)).trans' (only_set _ _ _ _)).trans' (only_set _ _ _ _)).trans' (only_set _ _ _ _)
def nrow (n : Nat → Int) : List Value := [.int .i64 (n 0), .int .i64 (n 1), .int .i64 (n 2), .int .i64 (n 3)]
def upd (n : Nat → Int) (k : Nat) (v : Int) : Nat → Int := fun j => if j = k then v else n j
theorem nrow_set (n : Nat → Int) {k : Nat} (hk : k < 4) (v : Int) : (nrow n).set k (.int .i64 v) = nrow (upd n k v) := by
  match k, hk with
  | 0, _ | 1, _ | 2, _ | 3, _ => simp [nrow, upd]

set_option maxRecDepth 100000 in
set_option maxHeartbeats 4000000 in
theorem parse_any {w : World} (hb : Bas w) (s : List UInt8) (hl : s.length ≤ 1000000) : Calls Tryd.prog 9 #[.string (toBA s)] w (ParseEnd s w) := by
  obtain ⟨W1, hW1⟩ : ∃ W1, W1 = w.alloc (.cells #[.int .i64 0, .int .i64 0, .int .i64 0, .int .i64 0, .int .i64 0] 23) := ⟨_, rfl⟩
  have hO : Only (fun _ => False) w W1 := by rw [hW1]; exact (Only.refl _ w).alloc _
  have h0 : W1.heap[w.heap.size]? = some (.cells [Value.int .i64 0, .int .i64 0, .int .i64 0, .int .i64 0, .int .i64 0].toArray 23 (0, 0)) := by rw [hW1]; exact heap_new_at _ _ rfl
  have hsz1 : W1.heap.size = w.heap.size + 1 := by rw [hW1]; simp
  have hb' := Lib.hid (hb.new hO)
  have hO' := Lib.hid hO
  have h0' := Lib.hid h0
  have hW1' := Lib.hid hW1
  have hsz1' := Lib.hid hsz1
  have hW := Lib.hid (split5_any hb'.out s hl)
  have hno := Lib.hid (fun (V : World) (hV : Only (fun _ => False) W1 V) (hn : evO s = none) => show (st5 V w.heap.size (.int .i64 0) (.int .i64 0) (.int .i64 0) (.int .i64 0) (.int .i64 0)).heap[w.heap.size]? = some (.cells [Value.int .i64 0, .int .i64 0, .int .i64 0, .int .i64 0, .int .i64 0].toArray 23 (0, 0)) ∧ ParseEnd s w (.returned (.tuple #[.agg #[.int .i64 0, .int .i64 0, .int .i64 0, .int .i64 0, .int .i64 0], .bool false])) (st5 V w.heap.size (.int .i64 0) (.int .i64 0) (.int .i64 0) (.int .i64 0) (.int .i64 0)) from
    ⟨st5_row (hV.heap h0 (fun h => h)) _ _ _ _ _, ⟨by rw [hn]; rfl, (hO.trans' hV).trans (st5_only _ _ _ _ _ _ _) (fun k hk e => by omega)⟩⟩)
  obtain ⟨l, hcut⟩ : ∃ l, l = cutN 32 4 s := ⟨_, rfl⟩
  have hl5 := cutN_len 32 4 s
  have hplen := Lib.hid (cutN_plen 32 4 s)
  unfold CutEnd5 at hW
  rw [← hcut] at hW hl5 hplen
  have hcut' := Lib.hid hcut.symm
  obtain ⟨S, hS⟩ : ∃ S, S = toBA s := ⟨_, rfl⟩
  rw [← hS] at hW ⊢
  have hl' := Lib.hid hl
  clear hS hW1 hO hb h0 hcut hl hsz1
  obtain ⟨ln, hln⟩ : ∃ n, n = l.length := ⟨_, rfl⟩
  have hln' := Lib.hid hln
  rw [← hln] at hW hl5
  clear hln
  go_enter Tryd.func9, Tryd.ntmps9
  go_wp2_with fail
  rw [← hW1'.out]
  refine hW.out.mono ?_
  rintro e w2 ⟨cap, hlc, hc5, rfl, hwr, hXlt, hO2⟩
  have hwr' := Lib.hid hwr
  have hO2' := Lib.hid hO2
  have hXl := Lib.hid hXlt
  clear hwr hO2 hXlt
  by_cases h1 : ln ≤ 1
  · have hnone := Lib.hid (evO_short (s := s) (by have := hln'.out; rw [hcut'.out]; omega))
    have h1' : (ln : Int) ≤ 1 := by omega
    clear h1
    have hz := Lib.hid (hO2'.out.heap h0'.out (fun h => h))
    have hzl := row_lt hz.out
    have z0 := row_free hz.out 0
    have z1 := row_free hz.out 1
    have z2 := row_free hz.out 2
    have z3 := row_free hz.out 3
    have z4 := row_free hz.out 4
    have y0 := row_cell hz.out (i := 0) rfl
    have y1 := row_cell hz.out (i := 1) rfl
    have y2 := row_cell hz.out (i := 2) rfl
    have y3 := row_cell hz.out (i := 3) rfl
    have y4 := row_cell hz.out (i := 4) rfl
    go_wp2
    change bodyPost _ _ _ _ _ (st5 w2 w.heap.size (.int .i64 0) (.int .i64 0) (.int .i64 0) (.int .i64 0) (.int .i64 0))
    obtain ⟨hv1, hv2⟩ := hno.out w2 hO2'.out hnone.out
    generalize st5 w2 w.heap.size (.int .i64 0) (.int .i64 0) (.int .i64 0) (.int .i64 0) (.int .i64 0) = V2 at hv1 hv2 ⊢
    have r0 := row_cell hv1 (i := 0) rfl
    have r1 := row_cell hv1 (i := 1) rfl
    have r2 := row_cell hv1 (i := 2) rfl
    have r3 := row_cell hv1 (i := 3) rfl
    have r4 := row_cell hv1 (i := 4) rfl
    exact bodyPost_ret (v := .tuple #[.agg #[.int .i64 0, .int .i64 0, .int .i64 0, .int .i64 0, .int .i64 0], .bool false]) (by simp [results, Tryd.results9, go_sem, r0, r1, r2, r3, r4]) rfl hv2
  · obtain ⟨a, b, r, hlr⟩ : ∃ a b r, l = a :: b :: r := by
      have := hln'.out
      match l, this with
      | a :: b :: r, _ => exact ⟨a, b, r, rfl⟩
      | [_], h => simp at h; omega
      | [], h => simp at h; omega
    subst hlr
    have h1i : ¬ (ln : Int) ≤ 1 := by omega
    have hcc := Lib.hid hcut'.out
    have x1 : w2.cell? ⟨W1.heap.size, 1, none⟩ = some (sv b) := (hwr'.out 1 b rfl).1
    have hXl2 := hXl.out
    have hkd := Lib.hid (kindOf_any (hb'.out.new hO2'.out) b)
    have hdel := Lib.hid (del_any (n := ln) hwr'.out hln'.out hlc hc5)
    obtain ⟨pn, hpn⟩ : ∃ n, n = (a :: r).length := ⟨_, rfl⟩
    have hpn' := Lib.hid hpn
    have hlp := Lib.hid (show ln = pn + 1 by have := hln'.out; rw [hpn]; simpa using this)
    unfold DelEnd at hdel
    rw [← hpn] at hdel
    unfold sv at x1
    obtain ⟨SB, hSB⟩ : ∃ T, T = toBA b := ⟨_, rfl⟩
    rw [← hSB] at x1 hkd
    unfold KindEnd at hkd
    clear hSB hpn h1
    cases hk : kindO b 6 with
    | none =>
      have hnone := Lib.hid (evO_nokind hcc.out hk)
      rw [hk] at hkd
      clear hk
      go_wp2_with fail
      refine hkd.out.mono ?_
      rintro e w' ⟨rfl, rfl⟩
      go_wp2_with fail
      refine hdel.out.mono ?_
      rintro e w3 ⟨rfl, -, hO3⟩
      have hO3' := Lib.hid (show Only (fun _ => False) W1 w3 from hO2'.out.trans hO3 (fun k hk e => by omega))
      clear hO3 x1
      have hz := Lib.hid (hO3'.out.heap h0'.out (fun h => h))
      have hzl := row_lt hz.out
      have z0 := row_free hz.out 0
      have z1 := row_free hz.out 1
      have z2 := row_free hz.out 2
      have z3 := row_free hz.out 3
      have z4 := row_free hz.out 4
      have y0 := row_cell hz.out (i := 0) rfl
      have y1 := row_cell hz.out (i := 1) rfl
      have y2 := row_cell hz.out (i := 2) rfl
      have y3 := row_cell hz.out (i := 3) rfl
      have y4 := row_cell hz.out (i := 4) rfl
      go_wp2
      change bodyPost _ _ _ _ _ (st5 w3 w.heap.size (.int .i64 0) (.int .i64 0) (.int .i64 0) (.int .i64 0) (.int .i64 0))
      obtain ⟨hv1, hv2⟩ := hno.out w3 hO3'.out hnone.out
      generalize st5 w3 w.heap.size (.int .i64 0) (.int .i64 0) (.int .i64 0) (.int .i64 0) (.int .i64 0) = V2 at hv1 hv2 ⊢
      have r0 := row_cell hv1 (i := 0) rfl
      have r1 := row_cell hv1 (i := 1) rfl
      have r2 := row_cell hv1 (i := 2) rfl
      have r3 := row_cell hv1 (i := 3) rfl
      have r4 := row_cell hv1 (i := 4) rfl
      exact bodyPost_ret (v := .tuple #[.agg #[.int .i64 0, .int .i64 0, .int .i64 0, .int .i64 0, .int .i64 0], .bool false]) (by simp [results, Tryd.results9, go_sem, r0, r1, r2, r3, r4]) rfl hv2
    | some kk =>
      obtain ⟨kk1, kk6, -⟩ := kindO_some hk
      have hk' := Lib.hid hk
      rw [hk] at hkd
      clear hk
      have k0 : (0 : Int) ≤ (kk : Int) := by omega
      have k6 : (kk : Int) < 6 := by omega
      go_wp2_with fail
      refine hkd.out.mono ?_
      rintro e w' ⟨rfl, rfl⟩
      go_wp2_with fail
      refine hdel.out.mono ?_
      rintro e w3 ⟨rfl, hpw, hO3⟩
      have hpw' := Lib.hid hpw
      have hX3 := Nat.lt_of_lt_of_le hXl2 hO3.size
      have hO3' := Lib.hid (show Only (fun _ => False) W1 w3 from hO2'.out.trans hO3 (fun k hk e => by omega))
      have cu := (hb'.out.new hO3'.out).nums kk (by omega)
      rw [Nat.mul_comm] at cu
      have h0g := World.block_lt_of_cell? w3 _ cu
      obtain ⟨nn, hnn⟩ : ∃ n, n = knums kk := ⟨_, rfl⟩
      rw [← hnn] at cu
      have hnn' := Lib.hid hnn
      clear hO3 hpw x1 hnn hXl2
      by_cases hne : pn = nn
      case neg =>
        have hnone := Lib.hid (evO_count hcc.out hk'.out (by rw [← hpn'.out, ← hnn'.out]; exact hne))
        have hne' : ((pn : Int) != (nn : Int)) = true := by rw [bne_iff_ne]; omega
        clear hne
        have hz := Lib.hid (hO3'.out.heap h0'.out (fun h => h))
        have hzl := row_lt hz.out
        have z0 := row_free hz.out 0
        have z1 := row_free hz.out 1
        have z2 := row_free hz.out 2
        have z3 := row_free hz.out 3
        have z4 := row_free hz.out 4
        have y0 := row_cell hz.out (i := 0) rfl
        have y1 := row_cell hz.out (i := 1) rfl
        have y2 := row_cell hz.out (i := 2) rfl
        have y3 := row_cell hz.out (i := 3) rfl
        have y4 := row_cell hz.out (i := 4) rfl
        go_wp2
        change bodyPost _ _ _ _ _ (st5 w3 w.heap.size (.int .i64 0) (.int .i64 0) (.int .i64 0) (.int .i64 0) (.int .i64 0))
        obtain ⟨hv1, hv2⟩ := hno.out w3 hO3'.out hnone.out
        generalize st5 w3 w.heap.size (.int .i64 0) (.int .i64 0) (.int .i64 0) (.int .i64 0) (.int .i64 0) = V2 at hv1 hv2 ⊢
        have r0 := row_cell hv1 (i := 0) rfl
        have r1 := row_cell hv1 (i := 1) rfl
        have r2 := row_cell hv1 (i := 2) rfl
        have r3 := row_cell hv1 (i := 3) rfl
        have r4 := row_cell hv1 (i := 4) rfl
        exact bodyPost_ret (v := .tuple #[.agg #[.int .i64 0, .int .i64 0, .int .i64 0, .int .i64 0, .int .i64 0], .bool false]) (by simp [results, Tryd.results9, go_sem, r0, r1, r2, r3, r4]) rfl hv2
      case pos =>
        subst hne
        have hne' : ((pn : Int) != (pn : Int)) = false := by simp
        have hp4 : pn ≤ 4 := by
          have := hnn'.out
          rcases knums_of kk1 (by omega) with ⟨-, e⟩ | ⟨-, e⟩ <;> omega
        obtain ⟨W4, hW4⟩ : ∃ W4, W4 = w3.alloc (.cells #[.int .i64 0, .int .i64 0, .int .i64 0, .int .i64 0] 51) := ⟨_, rfl⟩
        have hO4 := Lib.hid (show Only (fun _ => False) W1 W4 from by rw [hW4]; exact hO3'.out.alloc _)
        have hO34 := Lib.hid (show Only (fun _ => False) w3 W4 from by rw [hW4]; exact (Only.refl _ _).alloc _)
        have hB4 := Lib.hid (show W4.heap[w3.heap.size]? = some (.cells (nrow (fun _ => 0)).toArray 51 (0, 0)) from by rw [hW4]; exact heap_new_at _ _ rfl)
        have hW4' := Lib.hid hW4
        have hs3 := Lib.hid hO3'.out.size
        clear hW4
        go_upto_region 9 with fail
        rw [← hW4'.out]
        clear cu h0g
        go_wp2
        go_loopw [39] (fun i wr => ∃ (k : Nat) (n : Nat → Int), k ≤ pn ∧ i = .int .i64 k ∧ wr.heap[w3.heap.size]? = some (.cells (nrow n).toArray 51 (0, 0)) ∧ (∀ (j : Nat) x, j < k → (a :: r)[j]? = some x → numS x = some (n j)) ∧ (∀ j, k ≤ j → n j = 0) ∧ Only (fun x => x = w3.heap.size) W4 wr) (fun i _ => pn - (intOf i).toNat)
        case atStart => exact ⟨0, fun _ => 0, Nat.zero_le _, rfl, hB4.out, (fun j x hj => by omega), (fun _ _ => rfl), Only.refl _ _⟩
        case round =>
          obtain ⟨k, n, hk, rfl, hrow, hnum, hnz, hOr⟩ := hrel
          obtain ⟨ws, hws⟩ : ∃ ws : World, ws = wr := ⟨_, rfl⟩
          subst hws
          have hOw := Lib.hid (show Only (fun _ => False) W1 ws from hO4.out.trans hOr (fun x hx e => by have := hs3.out; omega))
          have hOw3 := Lib.hid (show Only (fun _ => False) w3 ws from hO34.out.trans hOr (fun x hx e => by omega))
          have hrow' := Lib.hid hrow
          have hnum' := Lib.hid hnum
          have hnz' := Lib.hid hnz
          have hOr' := Lib.hid hOr
          clear hrow hnum hnz hOr
          by_cases hkn : k < pn
          · have hkn' : (k : Int) < (pn : Int) := by omega
            have hk0 : (0 : Int) ≤ (k : Int) := by omega
            have hk4 : k < 4 := by omega
            have hk4' : (k : Int) < 4 := by omega
            obtain ⟨x, hx⟩ : ∃ x, (a :: r)[k]? = some x := ⟨(a :: r)[k]'(by have := hpn'.out; omega), List.getElem?_eq_getElem _⟩
            have q0 := hOw3.out.cell (hpw'.out k x hx) (fun h => h)
            have hXw := Nat.lt_of_lt_of_le hX3 hOw3.out.size
            have hxl : x.length ≤ 1000000 := by
              have : x ∈ a :: b :: r := by
                have := List.mem_of_getElem? hx
                rcases List.mem_cons.1 this with h | h
                · rw [h]; simp
                · simp [h]
              have := hplen.out x this
              have := hl'.out
              omega
            have hN := Lib.hid (numberOf_any (hb'.out.new hOw.out) x hxl)
            have hx' := Lib.hid hx
            unfold sv at q0
            obtain ⟨X, hX⟩ : ∃ X, X = toBA x := ⟨_, rfl⟩
            rw [← hX] at q0 hN
            unfold NumEnd at hN
            clear hX hx hxl
            cases hnk : numS x with
            | none =>
              have hnone := Lib.hid (evO_badnum hcc.out hx'.out hnk)
              rw [hnk] at hN
              clear hnk
              go_wp2_with fail
              refine hN.out.mono ?_
              rintro e w5 ⟨rfl, hO5⟩
              have hO5' := Lib.hid (hOw.out.trans' hO5)
              have hrow5 := hO5.heap hrow'.out (fun h => h)
              have hl5 := row_lt hrow5
              have f5 := row_free hrow5 k
              have c5 : w5.cell? ⟨w3.heap.size, k, none⟩ = some (.int .i64 (n k)) := row_cell hrow5 (by
                match k, hk4 with
                | 0, _ | 1, _ | 2, _ | 3, _ => rfl)
              have hO6 := Lib.hid (show Only (fun _ => False) W1 (w5.setCell ⟨w3.heap.size, k, none⟩ (.int .i64 0)) from hO5'.out.trans (only_set _ _ _ _) (fun x hx e => by have := hs3.out; omega))
              have hz := Lib.hid (hO6.out.heap h0'.out (fun h => h))
              have hzl := row_lt hz.out
              have z0 := row_free hz.out 0
              have z1 := row_free hz.out 1
              have z2 := row_free hz.out 2
              have z3 := row_free hz.out 3
              have z4 := row_free hz.out 4
              have y0 := row_cell hz.out (i := 0) rfl
              have y1 := row_cell hz.out (i := 1) rfl
              have y2 := row_cell hz.out (i := 2) rfl
              have y3 := row_cell hz.out (i := 3) rfl
              have y4 := row_cell hz.out (i := 4) rfl
              clear hrow5 q0 hO5
              go_wp2
              generalize hV : w5.setCell ⟨w3.heap.size, k, none⟩ (.int .i64 0) = V at hO6 ⊢
              change bodyPost _ _ _ _ _ (st5 V w.heap.size (.int .i64 0) (.int .i64 0) (.int .i64 0) (.int .i64 0) (.int .i64 0))
              obtain ⟨hv1, hv2⟩ := hno.out V hO6.out hnone.out
              generalize st5 V w.heap.size (.int .i64 0) (.int .i64 0) (.int .i64 0) (.int .i64 0) (.int .i64 0) = V2 at hv1 hv2 ⊢
              have r0 := row_cell hv1 (i := 0) rfl
              have r1 := row_cell hv1 (i := 1) rfl
              have r2 := row_cell hv1 (i := 2) rfl
              have r3 := row_cell hv1 (i := 3) rfl
              have r4 := row_cell hv1 (i := 4) rfl
              exact bodyPost_ret (v := .tuple #[.agg #[.int .i64 0, .int .i64 0, .int .i64 0, .int .i64 0, .int .i64 0], .bool false]) (by simp [results, Tryd.results9, go_sem, r0, r1, r2, r3, r4]) rfl hv2
            | some v =>
              rw [hnk] at hN
              have hnk' := Lib.hid hnk
              clear hnk
              go_wp2_with fail
              refine hN.out.mono ?_
              rintro e w5 ⟨rfl, hO5⟩
              have hrow5 := hO5.heap hrow'.out (fun h => h)
              have hl5 := row_lt hrow5
              have f5 := row_free hrow5 k
              have c5 : w5.cell? ⟨w3.heap.size, k, none⟩ = some (.int .i64 (n k)) := row_cell hrow5 (by
                match k, hk4 with
                | 0, _ | 1, _ | 2, _ | 3, _ => rfl)
              have hnew := row_set hrow5 k (.int .i64 v)
              rw [nrow_set n hk4] at hnew
              have hnew' := Lib.hid hnew
              have hO6 := Lib.hid ((hOr'.out.trans hO5 (fun _ _ h => h.elim)).trans (only_set w5 w3.heap.size k (.int .i64 v)) (fun _ _ h => h))
              clear hO5 hrow5 hnew q0
              go_wp2
              go_roundw
              case rel =>
                refine ⟨k + 1, upd n k v, by omega, by go_num, hnew'.out, fun j y hj hy => ?_, fun j hj => ?_, hO6.out⟩
                · unfold upd
                  by_cases hjk : j = k
                  · rw [if_pos hjk]
                    rw [hjk, hx'.out] at hy
                    cases hy
                    exact hnk'.out
                  · rw [if_neg hjk]
                    exact hnum'.out j y (by omega) hy
                · unfold upd
                  rw [if_neg (by omega)]
                  exact hnz'.out j (by omega)
              case measure => simp [intOf]; omega
          · obtain rfl : k = pn := by omega
            have hyes := Lib.hid (evO_yes (n := n) hcc.out hk'.out (by rw [← hpn'.out]; exact hnn'.out) (fun j x hx => hnum'.out j x (by have h1 := (List.getElem?_eq_some_iff.1 hx).1; have := hpn'.out; omega) hx) (fun j hj => hnz'.out j (by rw [hnn'.out]; exact hj)))
            have n0 := row_cell hrow'.out (i := 0) rfl
            have n1 := row_cell hrow'.out (i := 1) rfl
            have n2 := row_cell hrow'.out (i := 2) rfl
            have n3 := row_cell hrow'.out (i := 3) rfl
            have nl := row_lt hrow'.out
            have hz := Lib.hid (hOw.out.heap h0'.out (fun h => h))
            have hzl := row_lt hz.out
            have z0 := row_free hz.out 0
            have z1 := row_free hz.out 1
            have z2 := row_free hz.out 2
            have z3 := row_free hz.out 3
            have z4 := row_free hz.out 4
            have y0 := row_cell hz.out (i := 0) rfl
            have y1 := row_cell hz.out (i := 1) rfl
            have y2 := row_cell hz.out (i := 2) rfl
            have y3 := row_cell hz.out (i := 3) rfl
            have y4 := row_cell hz.out (i := 4) rfl
            clear hX3
            go_wp2
            change bodyPost _ _ _ _ _ (st5 ws w.heap.size (.int .i64 (n 0)) (.int .i64 kk) (.int .i64 (n 1)) (.int .i64 (n 2)) (.int .i64 (n 3)))
            have hv1 := st5_row hz.out (.int .i64 (n 0)) (.int .i64 kk) (.int .i64 (n 1)) (.int .i64 (n 2)) (.int .i64 (n 3))
            have o7 := st5_only ws w.heap.size (.int .i64 (n 0)) (.int .i64 kk) (.int .i64 (n 1)) (.int .i64 (n 2)) (.int .i64 (n 3))
            generalize st5 ws w.heap.size (.int .i64 (n 0)) (.int .i64 kk) (.int .i64 (n 1)) (.int .i64 (n 2)) (.int .i64 (n 3)) = V2 at hv1 o7 ⊢
            have r0 := row_cell hv1 (i := 0) rfl
            have r1 := row_cell hv1 (i := 1) rfl
            have r2 := row_cell hv1 (i := 2) rfl
            have r3 := row_cell hv1 (i := 3) rfl
            have r4 := row_cell hv1 (i := 4) rfl
            refine bodyPost_ret (v := .tuple #[.agg #[.int .i64 (n 0), .int .i64 kk, .int .i64 (n 1), .int .i64 (n 2), .int .i64 (n 3)], .bool true]) (by simp [results, Tryd.results9, go_sem, r0, r1, r2, r3, r4]) rfl ?_
            refine ⟨?_, (hO'.out.trans' hOw.out).trans o7 (fun k hk e => by omega)⟩
            rw [hyes.out]
            rfl
end Go.Proofs.YtgfgjbbpochiiaaDoor
