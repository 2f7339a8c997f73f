/- Reports: which jobs were late. -/
import Derived.Test.YthippdgmbfaijaaMon8
namespace Go.Proofs.Ythippdgmbfaijaa
open Go Go.RowKit

/-- A report. -/
structure RepV where
  t : Int
  j : Int
  re : Int
  st : Int
  en : Int
  fa : Bool
  di : Int
  hi : Int
  mi : Int
  wi : Int
  ba : Int
def RepV.cells (r : RepV) : List Value := [.int .i64 r.t, .int .i64 r.j, .int .i64 r.re, .int .i64 r.st, .int .i64 r.en, .bool r.fa, .int .i64 r.di, .int .i64 r.hi, .int .i64 r.mi, .int .i64 r.wi, .int .i64 r.ba]
def RepV.val (r : RepV) : Value := .agg #[.int .i64 r.t, .int .i64 r.j, .int .i64 r.re, .int .i64 r.st, .int .i64 r.en, .bool r.fa, .int .i64 r.di, .int .i64 r.hi, .int .i64 r.mi, .int .i64 r.wi, .int .i64 r.ba]
/-- Reports in memory. -/
def RepRow (w : World) (A : Option Addr) (l : List RepV) : Prop :=
  ∀ (k : Nat) x, l[k]? = some x → ∃ b off, A = some ⟨b, off, none⟩ ∧ b < w.heap.size ∧ ∀ j v, x.cells[j]? = some v → w.cell? ⟨b, off + k * 11 + j, none⟩ = some v
theorem RepRow.new {w w' : World} {A : Option Addr} {l : List RepV} (h : RepRow w A l) (ho : Only (fun _ => False) w w') : RepRow w' A l := fun k x hx => by
  obtain ⟨b, off, rfl, hb, h⟩ := h k x hx
  exact ⟨b, off, rfl, Nat.lt_of_lt_of_le hb ho.size, fun j v hv => ho.cell (h j v hv) (fun h => h)⟩

def untilF (r : RepV) (now : Int) : Int := if r.en < 0 then cl now else cl r.en
theorem until_any (r : RepV) (now : Int) (w : World) : Calls Try.prog 15 #[r.val, .int .i64 now] w (GrowI (untilF r now) w) := by
  have hO := Lib.hid ((Only.refl (fun _ => False) w).alloc (.cells r.cells.toArray 48))
  have hb := heap_new_at w (.cells r.cells.toArray 48) rfl
  have c4 := row_cell hb (i := 4) rfl
  have hlt := row_lt hb
  obtain ⟨V, hV⟩ : ∃ V, V = untilF r now := ⟨_, rfl⟩
  rw [← hV]
  unfold untilF at hV
  unfold RepV.val
  unfold RepV.cells at *
  obtain ⟨t, j, re, st, en, fa, di, hi, mi, wi, ba⟩ := r
  dsimp only at *
  clear hb
  have q := Lib.hid (fun n W => counted_any n W)
  by_cases h0 : en < 0
  · rw [if_pos h0] at hV
    have hV' := Lib.hid hV
    clear hV
    go_enter Try.func15, Try.ntmps15
    go_wp2_with fail
    refine (q.out _ _).mono ?_
    rintro e w' ⟨rfl, rfl⟩
    go_wp2
    go_ret
    exact ⟨ret_int hV'.out.symm, hO.out⟩
  · rw [if_neg h0] at hV
    have hV' := Lib.hid hV
    clear hV
    go_enter Try.func15, Try.ntmps15
    go_wp2_with fail
    refine (q.out _ _).mono ?_
    rintro e w' ⟨rfl, rfl⟩
    go_wp2
    go_ret
    exact ⟨ret_int hV'.out.symm, hO.out⟩

/-- Wasn't the job done in time? -/
def lateB (ts : List TaskV) (now : Int) (r : RepV) : Bool :=
  if hasF ts.length r.t = true then
    match ts[r.t.toNat]? with
    | some t => decide (cl r.re + cl t.de < untilF r now)
    | none => false
  else false
def lateAt (ts : List TaskV) (now : Int) (l : List RepV) (i : Nat) : Bool := match l[i]? with | some x => lateB ts now x | none => false
def lateU (ts : List TaskV) (now : Int) (l : List RepV) (k : Nat) : List Int := ((List.range k).filter (lateAt ts now l)).map (fun (i : Nat) => (i : Int))
theorem lateU_zero (ts : List TaskV) (now : Int) (l : List RepV) : lateU ts now l 0 = [] := rfl
theorem lateU_yes {ts : List TaskV} {now : Int} {l : List RepV} {k : Nat} {x : RepV} (hr : l[k]? = some x) (hb : lateB ts now x = true) : lateU ts now l (k + 1) = lateU ts now l k ++ [(k : Int)] := by
  unfold lateU
  rw [List.range_succ, List.filter_append, List.map_append]
  have : lateAt ts now l k = true := by unfold lateAt; rw [hr]; exact hb
  simp [this]
theorem lateU_no {ts : List TaskV} {now : Int} {l : List RepV} {k : Nat} {x : RepV} (hr : l[k]? = some x) (hb : lateB ts now x = false) : lateU ts now l (k + 1) = lateU ts now l k := by
  unfold lateU
  rw [List.range_succ, List.filter_append, List.map_append]
  have : lateAt ts now l k = false := by unfold lateAt; rw [hr]; exact hb
  simp [this]
theorem lateU_len (ts : List TaskV) (now : Int) (l : List RepV) (k : Nat) : (lateU ts now l k).length ≤ k := by
  unfold lateU
  rw [List.length_map]
  have := List.length_filter_le (lateAt ts now l) (List.range k)
  simpa using this
def lateL (ts : List TaskV) (now : Int) (l : List RepV) : List Int := lateU ts now l l.length

set_option maxRecDepth 100000 in
set_option maxHeartbeats 2000000 in
theorem late_any {w : World} {c : ConfV} {ts : List TaskV} {A : Option Addr} {n cap : Nat} {l : List RepV} (now : Int) (hT : TasksAt w c.ta ts) (hT9 : c.ta.n ≤ 9223372036854775807) (hl : RepRow w A l) (hn : l.length = n) (hmax : n ≤ 1000000) :
    Calls Try.prog 10 #[c.val, .slice A n cap, .int .i64 now] w (IntsEnd (lateL ts now l) w) := by
  have hO := (Only.refl (fun _ => False) w).alloc (.cells c.cells.toArray 27)
  have hB := heap_new_at w (.cells c.cells.toArray 27) rfl
  obtain ⟨W1, hW1⟩ : ∃ W1, W1 = w.alloc (.cells c.cells.toArray 27) := ⟨_, rfl⟩
  rw [← hW1] at hB hO
  have hB' := Lib.hid hB
  have hO' := Lib.hid hO
  have hT' := Lib.hid (hT.new hO)
  have hl' := Lib.hid (hl.new hO)
  have hn' := Lib.hid hn
  have hlen := Lib.hid hT.len
  have qh := Lib.hid (fun t W => has_any c t W)
  obtain ⟨L, hL⟩ : ∃ L, L = lateL ts now l := ⟨_, rfl⟩
  rw [← hL]
  have hL' := Lib.hid hL
  unfold ConfV.val at qh ⊢
  unfold ConfV.cells at hW1 hB'
  obtain ⟨s, wy, h, mi, ⟨mA, mn, mc⟩, g, ⟨cA, cn, cc⟩, ⟨eA, en, ec⟩, ⟨tA, tn, tc⟩, ⟨lA, ln, lc⟩⟩ := c
  dsimp only at *
  have hW1' := Lib.hid hW1
  clear hT hl hn hL hW1 hB hO
  go_enter Try.func10, Try.ntmps10
  go_wp2
  rw [← hW1'.out]
  go_loopw [7, 12] (fun v i wr => ∃ (k : Nat) (p : Option Addr) (cap : Nat) (h : Option Nat), k ≤ n ∧ i = .int .i64 k ∧ v = .slice p (lateU ts now l k).length cap ∧ Win wr 3 1 (.slice p (lateU ts now l k).length cap) h (lateU ts now l k).length ((lateU ts now l k).map mkI) ∧ (∀ x, h = some x → W1.heap.size ≤ x) ∧ Only (fun _ => False) W1 wr) (fun _ i _ => n - (intOf i).toNat)
  case atStart => exact ⟨0, none, 0, none, Nat.zero_le _, rfl, rfl, Win.nil _ _ _, (fun x hx => by cases hx), Only.refl _ _⟩
  case round =>
    obtain ⟨k, p, cp, hh, hk, rfl, rfl, hW, hnew, hOk⟩ := hrel
    obtain ⟨ws, hws⟩ : ∃ ws : World, ws = wr := ⟨_, rfl⟩
    subst hws
    have hbox := Lib.hid (hOk.heap hB'.out (fun h => h))
    have hrow := Lib.hid (hT'.out.new hOk)
    have hrep := Lib.hid (hl'.out.new hOk)
    have hS := Lib.hid (And.intro hW (And.intro hnew hOk))
    clear hW hnew hOk
    by_cases hkn : k < n
    · have hkn' : (k : Int) < (n : Int) := by omega
      obtain ⟨r, hr⟩ : ∃ r, l[k]? = some r := ⟨_, List.getElem?_eq_getElem (by have := hn'.out; omega)⟩
      obtain ⟨b, off, hA, hb, hc⟩ := hrep.out k r hr
      have hr' := Lib.hid hr
      subst hA
      clear hr
      obtain ⟨t, j, re, st, en', fa, di, hi, mi', wi, ba⟩ := r
      have k0 := hc 0 _ rfl
      rw [Nat.add_zero] at k0
      have k1 := hc 1 _ rfl
      have k2 := hc 2 _ rfl
      have k3 := hc 3 _ rfl
      have k4 := hc 4 _ rfl
      have k5 := hc 5 _ rfl
      have k6 := hc 6 _ rfl
      have k7 := hc 7 _ rfl
      have k8 := hc 8 _ rfl
      have k9 := hc 9 _ rfl
      have k10 := hc 10 _ rfl
      clear hc
      go_upto_region 5 with fail
      obtain ⟨W2, hW2⟩ : ∃ W2, W2 = ws.alloc (.cells #[.int .i64 t, .int .i64 j, .int .i64 re, .int .i64 st, .int .i64 en', .bool fa, .int .i64 di, .int .i64 hi, .int .i64 mi', .int .i64 wi, .int .i64 ba] 48) := ⟨_, rfl⟩
      have hO2 : Only (fun _ => False) ws W2 := by rw [hW2]; exact (Only.refl _ ws).alloc _
      have hb2 : W2.heap[ws.heap.size]? = some (.cells #[.int .i64 t, .int .i64 j, .int .i64 re, .int .i64 st, .int .i64 en', .bool fa, .int .i64 di, .int .i64 hi, .int .i64 mi', .int .i64 wi, .int .i64 ba] 48 (0, 0)) := by rw [hW2]; exact heap_new_at _ _ rfl
      rw [← hW2]
      clear hW2 k0 k1 k2 k3 k4 k5 k6 k7 k8 k9 k10 hb
      have hbx := hO2.heap hbox.out (fun h => h)
      have hr2 := Lib.hid hr'.out
      obtain ⟨V, hV⟩ : ∃ V, V = lateB ts now ⟨t, j, re, st, en', fa, di, hi, mi', wi, ba⟩ := ⟨_, rfl⟩
      have hV' := Lib.hid hV
      unfold lateB at hV
      have hV2 := Lib.hid hV
      clear hV
      have qu := Lib.hid (fun W => until_any ⟨t, j, re, st, en', fa, di, hi, mi', wi, ba⟩ now W)
      have qc := Lib.hid (fun n W => counted_any n W)
      obtain ⟨U, hU⟩ : ∃ U, U = untilF ⟨t, j, re, st, en', fa, di, hi, mi', wi, ba⟩ now := ⟨_, rfl⟩
      rw [← hU] at qu hV2
      unfold RepV.val at qu
      dsimp only at qu hV2
      obtain ⟨cr, hcr⟩ : ∃ cr, cr = cl re := ⟨_, rfl⟩
      have hcrb := cl_bd re
      rw [← hcr] at hV2 hcrb
      have qc1 := Lib.hid (qc.out re)
      rw [← hcr] at qc1
      clear hU hcr
      obtain ⟨H, hH⟩ : ∃ H, H = hasF tn t := ⟨_, rfl⟩
      have qht := Lib.hid (qh.out t)
      rw [hlen.out, ← hH] at hV2
      rw [← hH] at qht
      have hH' := Lib.hid hH
      clear hH
      have hex := wd_ex W2
      have e0 := wd_cell (row_cell hb2 (i := 0) rfl)
      have e1 := wd_cell (row_cell hb2 (i := 1) rfl)
      have e2 := wd_cell (row_cell hb2 (i := 2) rfl)
      have e3 := wd_cell (row_cell hb2 (i := 3) rfl)
      have e4 := wd_cell (row_cell hb2 (i := 4) rfl)
      have e5 := wd_cell (row_cell hb2 (i := 5) rfl)
      have e6 := wd_cell (row_cell hb2 (i := 6) rfl)
      have e7 := wd_cell (row_cell hb2 (i := 7) rfl)
      have e8 := wd_cell (row_cell hb2 (i := 8) rfl)
      have e9 := wd_cell (row_cell hb2 (i := 9) rfl)
      have e10 := wd_cell (row_cell hb2 (i := 10) rfl)
      have d0 := wd_cell (row_cell hbx (i := 0) rfl)
      have d1 := wd_cell (row_cell hbx (i := 1) rfl)
      have d2 := wd_cell (row_cell hbx (i := 2) rfl)
      have d3 := wd_cell (row_cell hbx (i := 3) rfl)
      have d4 := wd_cell (row_cell hbx (i := 4) rfl)
      have d5 := wd_cell (row_cell hbx (i := 5) rfl)
      have d6 := wd_cell (row_cell hbx (i := 6) rfl)
      have d7 := wd_cell (row_cell hbx (i := 7) rfl)
      have d8 := wd_cell (row_cell hbx (i := 8) rfl)
      have d9 := wd_cell (row_cell hbx (i := 9) rfl)
      have hOw := Lib.hid hO2
      have p1 := Lib.hid (fun (x : Wd W2) => Calls.wd (x := x) (qht.out x.W))
      have p2 := Lib.hid (fun (x : Wd W2) => Calls.wd (x := x) (qu.out x.W))
      have p3 := Lib.hid (fun (x : Wd W2) => Calls.wd_same (x := x) ((qc1.out x.W).mono fun _ _ h => ⟨h.1, h.2⟩))
      have hrow2 := Lib.hid (hrow.out.new hO2)
      clear hO2 hb2 hbx
      go_cut [38] from 17 to 38 (fun v wc => v = .bool V ∧ Only (fun _ => False) W2 wc)
      case first =>
        cases H with
        | false =>
          have hv := Lib.hid (show false = V by rw [hV2.out]; simp)
          refine wp_region_wd (by kernel_rfl) (by kernel_rfl) ?_
          repeat (go_big_quiet_step (first | (go_at_call 14; exact p1.out _)))
          refine wpQuiet_nil ?_
          rintro _ ⟨x, rfl⟩
          have hx := Lib.hid x.ok
          clear hex e0 e1 e2 e3 e4 e5 e6 e7 e8 e9 e10 d0 d1 d2 d3 d4 d5 d6 d7 d8 d9
          go_wp2_with fail
          go_meet
          case rel => exact ⟨by rw [hv.out], hx.out⟩
        | true =>
          obtain ⟨ht0, ht1⟩ : 0 ≤ t ∧ t < tn := of_decide_eq_true (show decide (0 ≤ t ∧ t < (tn : Int)) = true from hH'.out.symm)
          obtain ⟨mt, rfl⟩ : ∃ mt : Nat, t = mt := ⟨t.toNat, by omega⟩
          obtain ⟨tk, htk⟩ : ∃ tk, ts[mt]? = some tk := ⟨_, List.getElem?_eq_getElem (by have := hlen.out; omega)⟩
          obtain ⟨bt, ot, hA, hbl, hcl⟩ := hrow2.out.at_ mt tk htk
          simp only at hA
          subst hA
          have t3 := wd_cell hcl.c3
          have hV3 := Lib.hid (show V = decide (cr + cl tk.de < U) by
            have h := hV2.out
            rw [if_pos rfl, Int.toNat_natCast, htk] at h
            exact h)
          clear hcl htk
          obtain ⟨P, th, pe, de, fr, fl, o⟩ := tk
          dsimp only at t3 hV3
          have qc2 := Lib.hid (qc.out de)
          have hdb := cl_bd de
          obtain ⟨cd, hcd⟩ : ∃ cd, cd = cl de := ⟨_, rfl⟩
          rw [← hcd] at qc2 hV3 hdb
          clear hcd
          have p4 := Lib.hid (fun (x : Wd W2) => Calls.wd_same (x := x) ((qc2.out x.W).mono fun _ _ h => ⟨h.1, h.2⟩))
          by_cases hlt : cr + cd < U
          · have hv := Lib.hid (show true = V by rw [hV3.out]; exact (decide_eq_true hlt).symm)
            refine wp_region_wd (by kernel_rfl) (by kernel_rfl) ?_
            repeat (go_big_quiet_step (first | (go_at_call 14; exact p1.out _) | (go_at_call 15; exact p2.out _) | (go_at_call 16; first | (with_reducible exact p3.out _) | (with_reducible exact p4.out _))))
            refine wpQuiet_nil ?_
            rintro _ ⟨x, rfl⟩
            have hx := Lib.hid x.ok
            clear hex e0 e1 e2 e3 e4 e5 e6 e7 e8 e9 e10 d0 d1 d2 d3 d4 d5 d6 d7 d8 d9 t3
            go_wp2_with fail
            go_meet
            case rel => exact ⟨by rw [hv.out], hx.out⟩
          · have hv := Lib.hid (show false = V by rw [hV3.out]; exact (decide_eq_false hlt).symm)
            refine wp_region_wd (by kernel_rfl) (by kernel_rfl) ?_
            repeat (go_big_quiet_step (first | (go_at_call 14; exact p1.out _) | (go_at_call 15; exact p2.out _) | (go_at_call 16; first | (with_reducible exact p3.out _) | (with_reducible exact p4.out _))))
            refine wpQuiet_nil ?_
            rintro _ ⟨x, rfl⟩
            have hx := Lib.hid x.ok
            clear hex e0 e1 e2 e3 e4 e5 e6 e7 e8 e9 e10 d0 d1 d2 d3 d4 d5 d6 d7 d8 d9 t3
            go_wp2_with fail
            go_meet
            case rel => exact ⟨by rw [hv.out], hx.out⟩
      obtain ⟨rfl, hOc⟩ := hcut
      obtain ⟨W3, hW3⟩ : ∃ W3 : World, W3 = wc := ⟨_, rfl⟩
      subst hW3
      have hO3 := Lib.hid (hOw.out.trans' hOc)
      clear hex e0 e1 e2 e3 e4 e5 e6 e7 e8 e9 e10 d0 d1 d2 d3 d4 d5 d6 d7 d8 d9 p1 p2 p3 hOc
      have hul := lateU_len ts now l k
      cases V with
      | true =>
        have hU2 := Lib.hid (lateU_yes hr2.out hV'.out.symm)
        obtain ⟨G, hG⟩ : ∃ G, G = lateU ts now l k := ⟨_, rfl⟩
        rw [← hG] at hS hU2 hul ⊢
        obtain ⟨m, hm⟩ : ∃ m, m = G.length := ⟨_, rfl⟩
        rw [← hm] at hS hul ⊢
        have hm' := Lib.hid hm
        clear hG hm
        go_wp2_with (at_builtin; refine wpList_append_win rfl _ _ 24 rfl 3 (Value.int .i64 0) 1 8 Try.underlying24 info3 rfl (by decide) rfl (hS.out.1.kept (hO3.out.alloc _) (fun _ _ h => h)) _ 1 1 rfl [Value.int .i64 k] rfl (fun _ => ⟨_, rfl, row_oneI (heap_new_at _ _ rfl)⟩) (by simp [Value.oneCell']) (by unfold maxLen; omega) (by omega) ?_; intro v4 w4 h4 hW4 hO4 hh4; obtain ⟨p4, c4, rfl, _, _⟩ := hW4.out.form)
        go_roundw
        case rel =>
          have hs1 := hS.out.2.2.size
          have hs2 := hO3.out.size
          refine ⟨k + 1, p4, c4, h4, by omega, by go_num, ?_, ?_, ?_, ?_⟩
          · rw [hU2.out, List.length_append, ← hm'.out]
            rfl
          · rw [hU2.out, List.length_append, ← hm'.out, List.map_append]
            exact hW4.out
          · intro x hx
            rcases hh4.out with rfl | ⟨g, hg, hge⟩
            · exact hS.out.2.1 x hx
            · rw [hg] at hx
              cases hx
              rw [alloc_size] at hge
              omega
          · exact ((hS.out.2.2.trans' hO3.out).alloc _).trans hO4.out (fun x hx e => by have := hS.out.2.1 x e.symm; omega)
        case measure => simp [intOf]; omega
      | false =>
        have hU2 := Lib.hid (lateU_no hr2.out hV'.out.symm)
        go_wp2
        go_roundw
        case rel =>
          refine ⟨k + 1, p, cp, hh, by omega, by go_num, ?_, ?_, hS.out.2.1, hS.out.2.2.trans' hO3.out⟩
          · rw [hU2.out]
          · rw [hU2.out]
            exact hS.out.1.kept hO3.out (fun _ _ h => h)
        case measure => simp [intOf]; omega
    · obtain rfl : k = n := by omega
      have hend := Lib.hid (show lateU ts now l k = L by rw [hL'.out, lateL, hn'.out])
      rw [hend.out] at hS ⊢
      clear hend
      go_wp2
      go_ret
      exact ⟨p, cp, hh, rfl, hS.out.1, fun x hx => by have := hS.out.2.1 x hx; have := hO'.out.size; omega, hO'.out.trans' hS.out.2.2⟩
end Go.Proofs.Ythippdgmbfaijaa
