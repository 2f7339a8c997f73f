/- The document's layer 28: Short, Admitted. -/
import Derived.Test.YtlbinlhaejhobaaGreatDoorRef2
import Derived.Test.YtlbinlhaejhobaaGreatDoorPre7
namespace Go.Proofs.YtlbinlhaejhobaaGreatDoor
namespace Adm
open Go Go.RowKit Rca Sct Lin Lck Cst Rld Pre
open Bch (U sA sC sM sA_le sC_le sM_le GrowU Ld LRow LB orU)

def ShEnd (pl : Tks) (w : World) (e : Ending) (w' : World) : Prop := ∃ b, e = .returned (.bool b) ∧ (b = true → ∀ (i : Nat) t, pl.ts[i]? = some t → t.pe ≤ 1500) ∧ Only (fun _ => False) w w'
set_option maxRecDepth 100000 in
set_option maxHeartbeats 4000000 in
theorem rshort_any {w : World} {c : ConfV} {d : ConfL} {pl : Tks} (hC : ConfIn w c d pl) (htn9 : c.ta.n ≤ 1000) :
    Calls Tryz.prog 16 #[c.val] w (ShEnd pl w) := by
  obtain ⟨q, hq⟩ : ∃ q, q = w.heap.size := ⟨_, rfl⟩
  obtain ⟨W2, hW2⟩ : ∃ W2, W2 = w.alloc (.cells c.cells.toArray 27) := ⟨_, rfl⟩
  have hO2 : Only (fun _ => False) w W2 := by rw [hW2]; exact (Only.refl _ w).alloc _
  have b0 : W2.heap[q]? = some (.cells c.cells.toArray 27 (0, 0)) := by rw [hW2]; exact heap_new_at _ _ hq.symm
  have hq' := Lib.hid hq
  have hcy := Lib.hid (fun W (ho : Only (fun _ => False) W2 W) => cyv_of (ho.heap b0 (fun h => h)))
  obtain ⟨cv, hcv⟩ : ∃ cv, cv = c.val := ⟨_, rfl⟩
  have hlen := hC.t.len
  have hta := Lib.hid (fun W (ho : Only (fun _ => False) W2 W) x (hx : x < c.ta.n) => show ∃ t b off, pl.ts[x]? = some t ∧ c.ta.A = some ⟨b, off, none⟩ ∧ b < W.heap.size ∧ TaskCells W b (off + x * 7) t from by
    have hT := (hC.new (hO2.trans' ho)).t
    obtain ⟨t, ht⟩ : ∃ t, pl.ts[x]? = some t := ⟨_, List.getElem?_eq_getElem (by rw [hT.len]; exact hx)⟩
    obtain ⟨b, off, hA, hb, hCe⟩ := hT.at_ x t ht
    exact ⟨t, b, off, ht, hA, hb, hCe⟩)
  obtain ⟨Z, hZ⟩ : ∃ Z, Z = ShEnd pl w := ⟨_, rfl⟩
  rw [← hZ]
  have hno := Lib.hid (fun W (ho : Only (fun _ => False) W2 W) => show Z (.returned (.bool false)) W from by rw [hZ]; exact ⟨false, rfl, fun h => (by simp at h), hO2.trans' ho⟩)
  have hyes := Lib.hid (fun W (ho : Only (fun _ => False) W2 W) (ha : ∀ x, x < c.ta.n → per pl.ts x ≤ 1500) => show Z (.returned (.bool true)) W from by
    rw [hZ]
    exact ⟨true, rfl, fun _ i t ht => by have := ha i (by rw [← hlen]; exact (List.getElem?_eq_some_iff.1 ht).1); rwa [per_at ht] at this, hO2.trans' ho⟩)
  rw [← hcv]
  unfold ConfV.val at hcv
  subst hcv
  unfold CYv at hcy
  unfold ConfV.cells at hW2
  have hW2' := Lib.hid hW2
  clear hZ hq hO2 b0 hW2 hC hlen
  obtain ⟨c0, wy, h, mi, ⟨mA, mn, mc⟩, g, ⟨cA, cn, cc⟩, ⟨eA, en, ec⟩, ⟨tA, tn, tc⟩, ⟨lA, ln, lc⟩⟩ := c
  dsimp only at *
  obtain ⟨d0, d1, d2, d3, d4, d5, d6, d7, d8, d9, dl⟩ := hcy.out W2 (Only.refl _ _)
  go_enter Tryz.func16, Tryz.ntmps16
  go_upto_region 1 with fail
  rw [← hq'.out]
  rw [← hW2'.out]
  go_wp2
  clear d0 d1 d2 d3 d4 d5 d6 d7 d8 d9 dl
  go_loopw [8] (fun i' wr => ∃ k : Nat, i' = .int .i64 k ∧ k ≤ tn ∧ Hid (∀ x, x < k → per pl.ts x ≤ 1500) ∧ Hid (Only (fun _ => False) W2 wr)) (fun i' _ => tn - (intOf i').toNat)
  case atStart => exact ⟨0, rfl, Nat.zero_le _, Lib.hid (fun x hx => by omega), Lib.hid (Only.refl _ _)⟩
  case round =>
    obtain ⟨k, rfl, hk, hP, hO⟩ := hrel
    obtain ⟨ws, hws⟩ : ∃ ws : World, ws = wr := ⟨_, rfl⟩
    subst hws
    by_cases hkn : k < tn
    · have hkn' : (k : Int) < (tn : Int) := by omega
      obtain ⟨t, tb, toff, htk, hA, htb, c0', c1', c2', c3', c4', c5', c6'⟩ := hta.out ws hO.out k hkn
      subst hA
      have hpk := per_at htk
      clear htk
      obtain ⟨tp, tth, tpe, tde, tfr, tfl, ⟨oA, on, oc⟩⟩ := t
      simp only at *
      have hO2 := Lib.hid (hO.out.alloc (.cells #[.int .i64 tp, .int .i64 tth, .int .i64 tpe, .int .i64 tde, .int .i64 tfr, .int .i64 tfl, .slice oA on oc] 49))
      by_cases h1 : 1500 < tpe
      · have hf := Lib.hid (hno.out _ hO2.out)
        clear hpk
        go_wp2
        exact hf.out
      · by_cases h2 : (30 : Int) < (on : Int)
        · have hf := Lib.hid (hno.out _ hO2.out)
          clear hpk
          go_wp2
          exact hf.out
        · have hn := Lib.hid (show ∀ x, x < k + 1 → per pl.ts x ≤ 1500 from fun x hx => by
            by_cases hxk : x = k
            · subst hxk; rw [hpk]; omega
            · exact hP.out x (by omega))
          clear hpk
          go_wp2
          go_roundw
          case rel => exact ⟨k + 1, by go_num, by omega, hn, hO2⟩
          case measure => simp [intOf]; omega
    · obtain rfl : k = tn := by omega
      have hkn' : ¬ (k : Int) < (k : Int) := by omega
      have hf := Lib.hid (hyes.out ws hO.out hP.out)
      go_wp2
      exact hf.out
/-- Is a task done within its deadline, by windows up to it? -/
def rokI (c : ConfV) (d : ConfL) (pl : Tks) (i : Nat) : Bool := decide (Bch.win (Bch.dem (dlyI c d pl i) (ldL c pl (prio pl.ts i))) (dedI pl i).toNat ≠ 0)
def radB (c : ConfV) (d : ConfL) (pl : Tks) (k : Nat) : Bool := (List.range k).all (rokI c d pl)
theorem radB_succ (c : ConfV) (d : ConfL) (pl : Tks) (k : Nat) : radB c d pl (k + 1) = (radB c d pl k && rokI c d pl k) := by
  unfold radB
  rw [List.range_succ, List.all_append]
  simp
theorem radB_le {c : ConfV} {d : ConfL} {pl : Tks} {k n : Nat} (h : k < n) (hr : rokI c d pl k = false) : radB c d pl n = false := by
  unfold radB
  rw [List.all_eq_false]
  exact ⟨k, List.mem_range.2 h, by simp [hr]⟩
theorem rdly_any {w : World} {c : ConfV} {d : ConfL} {pl : Tks} (hC : ConfIn w c d pl) (hF : Fin0.Fine c d pl) {i : Nat} (hi : i < c.ta.n) :
    Calls Tryz.prog 53 #[c.val, .int .i64 (i : Int)] w (GrowU (dlyI c d pl i) w) := by
  obtain ⟨t, l, h1, h2, -⟩ := fine_at hC hF hi
  have hn := hF.counts
  have e : dlyI c d pl i = dlyU (blkI c d pl t.p) (thoseU Pre.lowB pl.ts t.p c.ta.n) := by unfold dlyI; rw [prio_at h2]
  rw [e]
  exact rdelay_any hC (by omega) (by omega) (fun k t l h => by have := (hF.prog (fine_lt hC hF h) h).2.1; omega) (fun k t l h => by have := (hF.nums (fine_lt hC hF h) h).2.2.2.2.2; omega) h2
set_option maxRecDepth 100000 in
set_option maxHeartbeats 4000000 in
theorem radmitted_any {w : World} {c : ConfV} {d : ConfL} {pl : Tks} (hC : ConfIn w c d pl) (hF : Fin0.Fine c d pl) (hS : ∀ (i : Nat) t, pl.ts[i]? = some t → t.pe ≤ 1500) :
    Calls Tryz.prog 17 #[c.val] w (GrowB (radB c d pl c.ta.n) w) := by
  obtain ⟨q, hq⟩ : ∃ q, q = w.heap.size := ⟨_, rfl⟩
  obtain ⟨W2, hW2⟩ : ∃ W2, W2 = w.alloc (.cells c.cells.toArray 27) := ⟨_, rfl⟩
  have hO2 : Only (fun _ => False) w W2 := by rw [hW2]; exact (Only.refl _ w).alloc _
  have b0 : W2.heap[q]? = some (.cells c.cells.toArray 27 (0, 0)) := by rw [hW2]; exact heap_new_at _ _ hq.symm
  have hq' := Lib.hid hq
  have hcy := Lib.hid (fun W (ho : Only (fun _ => False) W2 W) => cyv_of (ho.heap b0 (fun h => h)))
  obtain ⟨cv, hcv⟩ : ∃ cv, cv = c.val := ⟨_, rfl⟩
  have cdly := Lib.hid (fun W (ho : Only (fun _ => False) W2 W) x (hx : x < c.ta.n) => show Calls Tryz.prog 53 #[cv, .int .i64 (x : Int)] W (GrowU (dlyI c d pl x) W) from by rw [hcv]; exact rdly_any (hC.new (hO2.trans' ho)) hF hx)
  have crsp := Lib.hid (fun W (ho : Only (fun _ => False) W2 W) x (hx : x < c.ta.n) (most : Nat) (hm : most ≤ 100000) => show Calls Tryz.prog 52 #[cv, .int .i64 (x : Int), U (dlyI c d pl x), U most] W (GrowU (Bch.win (Bch.dem (dlyI c d pl x) (ldL c pl (prio pl.ts x))) most) W) from by rw [hcv]; exact rresp_any (hC.new (hO2.trans' ho)) hF hx (dlyI_le hC hF x) hm)
  have hta := Lib.hid (fun W (ho : Only (fun _ => False) W2 W) x (hx : x < c.ta.n) => show ∃ t b off, pl.ts[x]? = some t ∧ (1 ≤ t.de ∧ t.de ≤ 1500) ∧ c.ta.A = some ⟨b, off, none⟩ ∧ b < W.heap.size ∧ TaskCells W b (off + x * 7) t from by
    have hT := (hC.new (hO2.trans' ho)).t
    obtain ⟨t, l, h1, ht, -⟩ := fine_at hC hF hx
    obtain ⟨b, off, hA, hb, hCe⟩ := hT.at_ x t ht
    have h2 := (hF.nums hx h1).2.2.2.1
    have h3 := hS x t ht
    exact ⟨t, b, off, ht, by omega, hA, hb, hCe⟩)
  obtain ⟨Z, hZ⟩ : ∃ Z, Z = GrowB (radB c d pl c.ta.n) w := ⟨_, rfl⟩
  rw [← hZ]
  have hno := Lib.hid (fun W (ho : Only (fun _ => False) W2 W) x (hx : x < c.ta.n) (hr : rokI c d pl x = false) => show Z (.returned (.bool false)) W from by rw [hZ, radB_le hx hr]; exact ⟨rfl, hO2.trans' ho⟩)
  have hyes := Lib.hid (fun W (ho : Only (fun _ => False) W2 W) (ha : radB c d pl c.ta.n = true) => show Z (.returned (.bool true)) W from by rw [hZ, ha]; exact ⟨rfl, hO2.trans' ho⟩)
  have hsu := Lib.hid (radB_succ c d pl)
  have htn9 : c.ta.n ≤ 8 := by have := hF.counts; omega
  have hr0 : radB c d pl 0 = true := rfl
  obtain ⟨RB, hRB⟩ : ∃ RB, RB = radB c d pl := ⟨_, rfl⟩
  rw [← hRB] at hyes hsu hr0
  have hr0' := Lib.hid hr0
  have hrk := Lib.hid (fun x => show rokI c d pl x = decide (Bch.win (Bch.dem (dlyI c d pl x) (ldL c pl (prio pl.ts x))) (dedI pl x).toNat ≠ 0) from rfl)
  obtain ⟨RK, hRK⟩ : ∃ RK, RK = rokI c d pl := ⟨_, rfl⟩
  rw [← hRK] at hno hsu hrk
  obtain ⟨DL, hDL⟩ : ∃ DL, DL = dlyI c d pl := ⟨_, rfl⟩
  rw [← hDL] at cdly crsp hrk
  obtain ⟨WN, hWN⟩ : ∃ WN : Nat → Nat → Nat, WN = fun x most => Bch.win (Bch.dem (DL x) (ldL c pl (prio pl.ts x))) most := ⟨_, rfl⟩
  have hwn : ∀ x most, Bch.win (Bch.dem (DL x) (ldL c pl (prio pl.ts x))) most = WN x most := fun x most => by rw [hWN]
  simp only [hwn] at crsp hrk
  rw [← hcv]
  unfold ConfV.val at hcv
  subst hcv
  unfold CYv at hcy
  unfold ConfV.cells at hW2
  have hW2' := Lib.hid hW2
  clear hZ hq hO2 b0 hW2 hC hF hRB hr0 hRK hDL hWN hwn hS
  obtain ⟨c0, wy, h, mi, ⟨mA, mn, mc⟩, g, ⟨cA, cn, cc⟩, ⟨eA, en, ec⟩, ⟨tA, tn, tc⟩, ⟨lA, ln, lc⟩⟩ := c
  dsimp only at *
  obtain ⟨d0, d1, d2, d3, d4, d5, d6, d7, d8, d9, dl⟩ := hcy.out W2 (Only.refl _ _)
  go_enter Tryz.func17, Tryz.ntmps17
  go_upto_region 1 with fail
  rw [← hq'.out]
  rw [← hW2'.out]
  go_wp2
  clear d0 d1 d2 d3 d4 d5 d6 d7 d8 d9 dl
  go_loopw [3, 8] (fun _ i' wr => ∃ k : Nat, i' = .int .i64 k ∧ k ≤ tn ∧ Hid (RB k = true) ∧ Hid (Only (fun _ => False) W2 wr)) (fun _ i' _ => tn - (intOf i').toNat)
  case atStart => exact ⟨0, rfl, Nat.zero_le _, hr0', Lib.hid (Only.refl _ _)⟩
  case round =>
    obtain ⟨k, rfl, hk, hP, hO⟩ := hrel
    obtain ⟨ws, hws⟩ : ∃ ws : World, ws = wr := ⟨_, rfl⟩
    subst hws
    by_cases hkn : k < tn
    · have hkn' : (k : Int) < (tn : Int) := by omega
      obtain ⟨t, tb, toff, htk, hde, hA, htb, c0', c1', c2', c3', c4', c5', c6'⟩ := hta.out ws hO.out k hkn
      subst hA
      have hdk := dedI_at htk
      clear htk
      obtain ⟨tp, tth, tpe, tde, tfr, tfl, ⟨oA, on, oc⟩⟩ := t
      simp only at *
      obtain ⟨DE, rfl⟩ : ∃ DE : Nat, tde = (DE : Int) := ⟨tde.toNat, by omega⟩
      have hrx := hrk.out k
      rw [hdk, show ((DE : Int)).toNat = DE by omega] at hrx
      have hw9 : IntKind.u64.wrap (DE : Int) = (DE : Int) := by rw [IntKind.wrap_u64]; omega
      have q1 := Lib.hid (fun (x : Wd (ws.alloc (.cells #[.int .i64 tp, .int .i64 tth, .int .i64 tpe, .int .i64 (DE : Int), .int .i64 tfr, .int .i64 tfl, .slice oA on oc] 49))) => Calls.wd (x := x) (cdly.out x.W ((hO.out.alloc _).trans' x.ok) k hkn))
      have q2 := Lib.hid (fun (x : Wd (ws.alloc (.cells #[.int .i64 tp, .int .i64 tth, .int .i64 tpe, .int .i64 (DE : Int), .int .i64 tfr, .int .i64 tfl, .slice oA on oc] 49))) => Calls.wd (x := x) (crsp.out x.W ((hO.out.alloc _).trans' x.ok) k hkn DE (by omega)))
      obtain ⟨wn, hwn⟩ : ∃ n, n = WN k DE := ⟨_, rfl⟩
      rw [← hwn] at q2 hrx
      obtain ⟨dv, hdv⟩ : ∃ n, n = DL k := ⟨_, rfl⟩
      rw [← hdv] at q1 q2
      clear hwn hdv hdk
      obtain ⟨d0, d1, d2, d3, d4, d5, d6, d7, d8, d9, dl⟩ := hcy.out ws hO.out
      go_wp2
      go_upto_region 4 with fail
      obtain ⟨wb, hwb⟩ : ∃ wb, wb = ws.alloc (.cells #[.int .i64 tp, .int .i64 tth, .int .i64 tpe, .int .i64 (DE : Int), .int .i64 tfr, .int .i64 tfl, .slice oA on oc] 49) := ⟨_, rfl⟩
      obtain ⟨X, hX⟩ : ∃ X, X = ws.heap.size := ⟨_, rfl⟩
      rw [← hwb] at q1 q2 ⊢
      rw [← hX]
      have hOb : Only (fun _ => False) W2 wb := by rw [hwb]; exact hO.out.alloc _
      have bx : wb.heap[X]? = some (.cells #[.int .i64 tp, .int .i64 tth, .int .i64 tpe, .int .i64 (DE : Int), .int .i64 tfr, .int .i64 tfl, .slice oA on oc] 49 (0, 0)) := by rw [hwb, hX]; exact heap_new_at _ _ rfl
      have f3 := row_cell (L := [.int .i64 tp, .int .i64 tth, .int .i64 tpe, .int .i64 (DE : Int), .int .i64 tfr, .int .i64 tfl, .slice oA on oc]) bx (i := 3) rfl
      clear d0 d1 d2 d3 d4 d5 d6 d7 d8 d9 dl c0' c1' c2' c3' c4' c5' c6' hwb hX
      obtain ⟨d0, d1, d2, d3, d4, d5, d6, d7, d8, d9, dl⟩ := hcy.out wb hOb
      have p0 := wd_cell d0
      have p1 := wd_cell d1
      have p2 := wd_cell d2
      have p3 := wd_cell d3
      have p4 := wd_cell d4
      have p5 := wd_cell d5
      have p6 := wd_cell d6
      have p7 := wd_cell d7
      have p8 := wd_cell d8
      have p9 := wd_cell d9
      have g3 := wd_cell f3
      have hex := wd_ex wb
      have hOb' := Lib.hid hOb
      clear hOb bx
      by_cases h0 : wn = 0
      · subst h0
        have hrx2 := Lib.hid (show RK k = false from by rw [hrx]; simp)
        clear hrx
        refine wp_region_wd (by kernel_rfl) (by kernel_rfl) ?_
        repeat (go_big_quiet_step (first | (go_at_call 53; with_reducible exact q1.out _) | (go_at_call 52; with_reducible exact q2.out _)))
        refine wpQuiet_nil ?_
        rintro _ ⟨v, rfl⟩
        have hf := Lib.hid (hno.out v.W (hOb'.out.trans' v.ok) k hkn hrx2.out)
        go_wp2
        exact hf.out
      · have hrx2 := Lib.hid (show RB (k + 1) = true from by rw [hsu.out k, hP.out, hrx]; simpa using h0)
        have hwe : ((wn : Int) == 0) = false := beq_eq_false_iff_ne.2 (by omega)
        clear hrx
        refine wp_region_wd (by kernel_rfl) (by kernel_rfl) ?_
        repeat (go_big_quiet_step (first | (go_at_call 53; with_reducible exact q1.out _) | (go_at_call 52; with_reducible exact q2.out _)))
        refine wpQuiet_nil ?_
        rintro _ ⟨v, rfl⟩
        have hO3 := Lib.hid (hOb'.out.trans' v.ok)
        go_wp2
        go_roundw
        case rel => exact ⟨k + 1, by go_num, by omega, hrx2, hO3⟩
        case measure => simp [intOf]; omega
    · obtain rfl : k = tn := by omega
      have hkn' : ¬ (k : Int) < (k : Int) := by omega
      have hf := Lib.hid (hyes.out ws hO.out hP.out)
      go_wp2
      exact hf.out
end Adm
end Go.Proofs.YtlbinlhaejhobaaGreatDoor
