/- admit: what is told of a task. -/
import Derived.Test.YtlbinlhaejhobaaGreatDoorAdm1
import Derived.Test.YtlbinlhaejhobaaGreatDoorPK
import Derived.Deep.RegionHeld3
namespace Go.Proofs.YtlbinlhaejhobaaGreatDoor
namespace Adm
open Go Go.RowKit Rca Sct Lin Lck Cst Rld Pre
open Bch (U sA sC sM sA_le sC_le sM_le GrowU Ld LRow LB orU)
variable {w : World} {c : ConfV} {d : ConfL} {pl : Tks}

/-- The delay of a task, its window, and so on. -/
def dlyI (c : ConfV) (d : ConfL) (pl : Tks) (i : Nat) : Nat := dlyU (blkI c d pl (prio pl.ts i)) (thoseU Pre.lowB pl.ts (prio pl.ts i) c.ta.n)
def winI (c : ConfV) (d : ConfL) (pl : Tks) (i : Nat) : Nat := Bch.win (Bch.dem (dlyI c d pl i) (ldL c pl (prio pl.ts i))) 16777216
def relI (c : ConfV) (pl : Tks) (i : Nat) : Nat :=
  match pl[i]? with
  | some (t, l) => (Rld.bndZ c pl c.s.toNat t.th l).toNat
  | none => 0
def thI (pl : Tks) (i : Nat) : Int := (pl.ts.map (·.th)).getD i 0
theorem thI_at {pl : Tks} {k : Nat} {t : TaskV} (h : pl.ts[k]? = some t) : thI pl k = t.th := by
  unfold thI
  rw [List.getD_eq_getElem?_getD, List.getElem?_map, h]
  rfl
def cntI (c : ConfV) (pl : Tks) (i win : Nat) : Nat := totU (cntU pl.ts win) (aboU pl.ts (thI pl i) c.ta.n)
structure LnV where
  co : Nat
  de : Nat
  re : Nat
  pr : Nat
  rl : Nat
  ex : Nat
def LnV.cells (x : LnV) : List Value := [U x.co, U x.de, U x.re, U x.pr, U x.rl, U x.ex]
def LnV.val (x : LnV) : Value := .agg #[U x.co, U x.de, U x.re, U x.pr, U x.rl, U x.ex]
def lineI (c : ConfV) (d : ConfL) (pl : Tks) (i : Nat) : LnV :=
  ⟨cosI c pl i, dlyI c d pl i, orU (winI c d pl i), if winI c d pl i = 0 then 18446744073709551615 else cntI c pl i (winI c d pl i), relI c pl i, if winI c d pl i = 0 then 18446744073709551615 else sM (cntI c pl i (winI c d pl i)) (relI c pl i)⟩
theorem dlyI_le (hC : ConfIn w c d pl) (hF : Fin0.Fine c d pl) (i : Nat) : dlyI c d pl i ≤ 18446744073709551615 := dlyU_le (fun k => blkI_le (fun k t l h => by have := (hF.prog (fine_lt hC hF h) h).2.1; omega) _ k) _
theorem ldL_lb (hC : ConfIn w c d pl) (hF : Fin0.Fine c d pl) (own : Int) : LB (ldL c pl own) := fun k co pe h => by
  unfold ldL at h
  rw [List.getElem?_map] at h
  obtain ⟨x, hx, e⟩ := Option.map_eq_some_iff.1 h
  have hxn := (thoseU_mem.1 (List.mem_of_getElem? hx)).1
  have h1 := cosI_le hC hF x
  have h2 := perI_le hC hF hxn
  unfold ldI at e
  cases e
  omega
theorem ldL_len (c : ConfV) (pl : Tks) (own : Int) : (ldL c pl own).length ≤ c.ta.n := by unfold ldL; rw [List.length_map]; exact thoseU_len _ _ _ _
theorem winI_le (c : ConfV) (d : ConfL) (pl : Tks) (i : Nat) : winI c d pl i ≤ 16777216 := by
  have h := Bch.win_is (Bch.dem (dlyI c d pl i) (ldL c pl (prio pl.ts i))) 16777216
  unfold winI
  rcases h with ⟨h, -⟩ | ⟨-, h, -⟩ <;> omega
theorem cfok (hC : ConfIn w c d pl) (hF : Fin0.Fine c d pl) : CfOk w c pl c.s.toNat := by
  obtain ⟨⟨h1, h2⟩, h3, -⟩ := hF.machine
  have h4 := hF.counts
  refine ⟨by omega, by omega, by omega, by omega, hC.t, ⟨fun i t l h => ?_⟩, fun i t l h => ?_⟩
  · have h5 := (hF.prog (fine_lt hC hF h) h).2.1
    have h6 := hC.p i t l h
    exact ⟨h6.1, h6.2.1, by omega, h6.2.2⟩
  · intro o ho hk
    exact Fin0.acc_in ((hF.prog (fine_lt hC hF h) h).2.2 o ho) hk
theorem relI_le (_hC : ConfIn w c d pl) (hF : Fin0.Fine c d pl) (i : Nat) : relI c pl i ≤ 100000 := by
  unfold relI
  split
  · next t l h =>
    obtain ⟨⟨h1, h2⟩, h3, -⟩ := hF.machine
    have := bndU_bound (W := c.wy) (T := touB c.s.toNat pl (aboU pl.ts t.th c.ta.n)) (L := loadS c.s.toNat l) (by omega) (by omega) (k := c.s.toNat)
    unfold Rld.bndZ
    omega
  · omega
theorem ln_a {W2 wp : World} {q : Nat} {o r : Obj} (hs : W2.heap.size = q + 2) (hb : W2.heap[q + 1]? = some r) (hp : Only (fun _ => False) W2 wp) :
    ∃ X, Value.pointer (some ⟨wp.heap.size, 0, none⟩) = .pointer (some ⟨X, 0, none⟩) ∧ q + 2 ≤ X ∧ (wp.alloc o).heap[X]? = some o ∧ (wp.alloc o).heap[q + 1]? = some r ∧ Only (fun k => q + 1 ≤ k) W2 (wp.alloc o) :=
  ⟨_, rfl, by have := hp.size; omega, heap_new_at wp o rfl, heap_kept_alloc (hp.heap hb (fun h => h)) _, (hp.mono (fun _ _ h => h.elim)).alloc _⟩
theorem ln_b {W2 wk : World} {q X : Nat} {r : Obj} {a b c d e f u0 u1 u2 u3 u4 u5 : Value} {T : TypeId} (_hs : W2.heap.size = q + 2) (hb : W2.heap[q + 1]? = some r) (hp : Only (fun _ => False) W2 wk) (h : q + 2 ≤ X ∧ wk.heap[X]? = some (.cells #[a, b, c, d, e, f] T (0, 0))) :
    ∃ Y, Value.pointer (some ⟨X, 0, none⟩) = .pointer (some ⟨Y, 0, none⟩) ∧ q + 2 ≤ Y ∧ ((((((wk.setCell ⟨X, 0, none⟩ u0).setCell ⟨X, 1, none⟩ u1).setCell ⟨X, 2, none⟩ u2).setCell ⟨X, 3, none⟩ u3).setCell ⟨X, 4, none⟩ u4).setCell ⟨X, 5, none⟩ u5).heap[Y]? = some (.cells [u0, u1, u2, u3, u4, u5].toArray T (0, 0)) ∧
      ((((((wk.setCell ⟨X, 0, none⟩ u0).setCell ⟨X, 1, none⟩ u1).setCell ⟨X, 2, none⟩ u2).setCell ⟨X, 3, none⟩ u3).setCell ⟨X, 4, none⟩ u4).setCell ⟨X, 5, none⟩ u5).heap[q + 1]? = some r ∧
      Only (fun k => q + 1 ≤ k) W2 ((((((wk.setCell ⟨X, 0, none⟩ u0).setCell ⟨X, 1, none⟩ u1).setCell ⟨X, 2, none⟩ u2).setCell ⟨X, 3, none⟩ u3).setCell ⟨X, 4, none⟩ u4).setCell ⟨X, 5, none⟩ u5) := by
  obtain ⟨h1, h2⟩ := h
  have h3 : wk.heap[X]? = some (.cells [a, b, c, d, e, f].toArray T (0, 0)) := h2
  have hq : q + 1 ≠ X := by omega
  refine ⟨X, rfl, h1, row_set (row_set (row_set (row_set (row_set (row_set h3 0 u0) 1 u1) 2 u2) 3 u3) 4 u4) 5 u5, ?_, ?_⟩
  · exact heap_kept_set (heap_kept_set (heap_kept_set (heap_kept_set (heap_kept_set (heap_kept_set (hp.heap hb (fun h => h)) hq _) hq _) hq _) hq _) hq _) hq _
  · have hx : ∀ i : Nat, (⟨X, i, none⟩ : Addr).block < W2.heap.size → q + 1 ≤ (⟨X, i, none⟩ : Addr).block := fun i _ => by dsimp only; omega
    exact ((((((hp.mono (fun _ _ h => h.elim)).setCell (hx 0) _).setCell (hx 1) _).setCell (hx 2) _).setCell (hx 3) _).setCell (hx 4) _).setCell (hx 5) _
theorem zz_new {W2 wp wk : World} {o : Obj} {q : Nat} (hs : W2.heap.size = q + 2) (hp : Only (fun _ => False) W2 wp) (ho : Only (fun _ => False) (wp.alloc o) wk) : q + 2 ≤ wp.heap.size ∧ wk.heap[wp.heap.size]? = some o :=
  ⟨by have := hp.size; omega, ho.heap (heap_new_at wp o rfl) (fun h => h)⟩
theorem zz_new' {W2 wp wk : World} {o : Obj} {q : Nat} (hs : W2.heap.size = q + 2) (hp : Only (fun _ => False) W2 wp) (ho : Only (fun _ => False) (wp.alloc o).drew wk) : q + 2 ≤ wp.heap.size ∧ wk.heap[wp.heap.size]? = some o :=
  ⟨by have := hp.size; omega, ho.heap (heap_new_at wp o rfl) (fun h => h)⟩
theorem zz_on {wk wl : World} {o : Obj} {q X : Nat} (h : q + 2 ≤ X ∧ wk.heap[X]? = some o) (ho : Only (fun _ => False) wk wl) : q + 2 ≤ X ∧ wl.heap[X]? = some o := ⟨h.1, ho.heap h.2 (fun h => h)⟩
theorem zz_ge {W2 wk : World} {o : Obj} {q X : Nat} (hs : W2.heap.size = q + 2) (h : q + 2 ≤ X ∧ wk.heap[X]? = some o) : ¬ X < W2.heap.size := by have := h.1; omega
theorem zz_six {W : World} {q X : Nat} {a b c d e f : Value} {T : TypeId} (h : q + 2 ≤ X ∧ W.heap[X]? = some (.cells #[a, b, c, d, e, f] T (0, 0))) : W.cell? ⟨X, 0, none⟩ = some a ∧ W.cell? ⟨X, 1, none⟩ = some b ∧ W.cell? ⟨X, 2, none⟩ = some c ∧ W.cell? ⟨X, 3, none⟩ = some d ∧ W.cell? ⟨X, 4, none⟩ = some e ∧ W.cell? ⟨X, 5, none⟩ = some f ∧
    W.frozen? ⟨X, 0, none⟩ = false ∧ W.frozen? ⟨X, 1, none⟩ = false ∧ W.frozen? ⟨X, 2, none⟩ = false ∧ W.frozen? ⟨X, 3, none⟩ = false ∧ W.frozen? ⟨X, 4, none⟩ = false ∧ W.frozen? ⟨X, 5, none⟩ = false ∧ X < W.heap.size := by
  have q := h.2
  have r : W.heap[X]? = some (.cells [a, b, c, d, e, f].toArray T (0, 0)) := q
  exact ⟨row_cell r (i := 0) rfl, row_cell r (i := 1) rfl, row_cell r (i := 2) rfl, row_cell r (i := 3) rfl, row_cell r (i := 4) rfl, row_cell r (i := 5) rfl, row_free r 0, row_free r 1, row_free r 2, row_free r 3, row_free r 4, row_free r 5, row_lt r⟩
set_option maxRecDepth 100000 in
set_option maxHeartbeats 4000000 in
theorem line_any {w : World} {c : ConfV} {d : ConfL} {pl : Tks} (hC : ConfIn w c d pl) (hF : Fin0.Fine c d pl) {i : Nat} (hi : i < c.ta.n) :
    Calls Tryz.prog 44 #[c.val, .int .i64 (i : Int)] w (fun e w' => e = .returned (lineI c d pl i).val ∧ Only (fun _ => False) w w') := by
  obtain ⟨t, l, hp, hts, hl9, -⟩ := fine_at hC hF hi
  have hn8 := hF.counts.2.2.2.2.1
  have hce := hF.counts.2.2.2.1
  have hpi : prio pl.ts i = t.p := prio_at hts
  have hthi : thI pl i = t.th := thI_at hts
  have hl1000 : ∀ (k : Nat) t l, pl[k]? = some (t, l) → l.length ≤ 1000 := fun k t l h => by have := (hF.prog (fine_lt hC hF h) h).2.1; omega
  obtain ⟨q, hq⟩ : ∃ q, q = w.heap.size := ⟨_, rfl⟩
  obtain ⟨W2, hW2⟩ : ∃ W2, W2 = (w.alloc (.cells c.cells.toArray 27)).alloc (.cells #[.int .u64 0, .int .u64 0, .int .u64 0, .int .u64 0, .int .u64 0, .int .u64 0] 46) := ⟨_, rfl⟩
  have hO2 : Only (fun _ => False) w W2 := by rw [hW2]; exact ((Only.refl _ w).alloc _).alloc _
  have b0 : W2.heap[q]? = some (.cells c.cells.toArray 27 (0, 0)) := by rw [hW2]; exact heap_kept_alloc (heap_new_at _ _ hq.symm) _
  have b1 : W2.heap[q + 1]? = some (.cells [.int .u64 0, .int .u64 0, .int .u64 0, .int .u64 0, .int .u64 0, .int .u64 0].toArray 46 (0, 0)) := by rw [hW2]; exact heap_new_at _ _ (by simp [hq])
  have hs2 : W2.heap.size = q + 2 := by rw [hW2]; simp [hq]
  have hq' := Lib.hid hq
  have hb := Lib.hid (fun W (ho : Only (fun k => q + 1 ≤ k) W2 W) => show W.heap[q]? = some (.cells c.cells.toArray 27 (0, 0)) ∧ Only (fun _ => False) w W from ⟨ho.heap b0 (by omega), hO2.trans ho (fun x hx e => by omega)⟩)
  have hcy := Lib.hid (fun W (ho : Only (fun k => q + 1 ≤ k) W2 W) => cyv_of (hb.out W ho).1)
  obtain ⟨cv, hcv⟩ : ∃ cv, cv = c.val := ⟨_, rfl⟩
  obtain ⟨x, hx⟩ : ∃ x, x = lineI c d pl i := ⟨_, rfl⟩
  obtain ⟨ll, hll⟩ : ∃ ll, ll = ldL c pl t.p := ⟨_, rfl⟩
  have hll8 : ll.length ≤ 8 := by rw [hll]; exact Nat.le_trans (ldL_len c pl t.p) hn8
  have cwor := Lib.hid (fun W (ho : Only (fun k => q + 1 ≤ k) W2 W) => show Calls Tryz.prog 48 #[cv, .int .i64 (i : Int)] W (GrowU x.co W) from by rw [hcv, hx]; exact aworst_any (hC.new (hb.out W ho).2) hF hi)
  have cdly := Lib.hid (fun W (ho : Only (fun k => q + 1 ≤ k) W2 W) => show Calls Tryz.prog 76 #[cv, .int .i64 (i : Int)] W (GrowU x.de W) from by
    rw [hcv, hx]
    show Calls _ _ _ _ (GrowU (dlyI c d pl i) W)
    unfold dlyI
    rw [hpi]
    exact delay_any (hC.new (hb.out W ho).2) (by omega) (by omega) hl1000 hts)
  obtain ⟨z, hz⟩ : ∃ z, z = Rld.bndZ c pl c.s.toNat t.th l := ⟨_, rfl⟩
  have hz9 : z.toNat = x.rl ∧ 0 ≤ z ∧ z ≤ 100000 := by
    obtain ⟨⟨h1, h2⟩, h3, -⟩ := hF.machine
    have := bndU_bound (W := c.wy) (T := touB c.s.toNat pl (aboU pl.ts t.th c.ta.n)) (L := loadS c.s.toNat l) (by omega) (by omega) (k := c.s.toNat)
    refine ⟨?_, ?_, ?_⟩
    · rw [hx]
      show z.toNat = relI c pl i
      unfold relI
      rw [hp, hz]
    · rw [hz]; unfold Rld.bndZ; omega
    · rw [hz]; unfold Rld.bndZ; omega
  have cbnd := Lib.hid (fun W (ho : Only (fun k => q + 1 ≤ k) W2 W) => show Calls Tryz.prog 77 #[cv, .int .i64 (i : Int)] W (AnsI z W) from by
    rw [hcv, hz]
    have := hF.machine
    exact Rld.bound_any (cfok (hC.new (hb.out W ho).2) hF) (by omega) (by omega) hp)
  have cof := Lib.hid (fun W => satOf_any z W)
  rw [ofU_small (by omega), hz9.1] at cof
  have clds := Lib.hid (fun W (ho : Only (fun k => q + 1 ≤ k) W2 W) => show Calls Tryz.prog 41 #[cv, .int .i64 (i : Int)] W (LdsEnd W ll) from by rw [hcv, hll]; exact loads_any (hC.new (hb.out W ho).2) hF hts)
  obtain ⟨r, hr⟩ : ∃ r, r = winI c d pl i := ⟨_, rfl⟩
  have hr9 : r ≤ 16777216 := by rw [hr]; exact winI_le c d pl i
  have cwin := Lib.hid (fun W (A : Option Addr) (cap : Nat) (hR : LRow W A ll) => show Calls Tryz.prog 78 #[U x.de, .slice A ll.length cap, .int .u64 16777216] W (Bch.WinEnd r W) from by
    have := Bch.window_any (cap := cap) (d := x.de) (most := 16777216) hR rfl (by omega) (by rw [hll]; exact ldL_lb hC hF _) (by rw [hx]; exact dlyI_le hC hF i) (by omega)
    rw [hr]
    unfold winI
    rw [hpi, ← hll]
    rw [show min 16777216 16777216 = 16777216 from rfl] at this
    rw [hx] at this ⊢
    exact this)
  have hre : x.re = orU r := by rw [hx, hr]; rfl
  have ccnt := Lib.hid (fun W (ho : Only (fun k => q + 1 ≤ k) W2 W) => show Calls Tryz.prog 79 #[cv, .int .i64 (i : Int), U r] W (GrowU (cntI c pl i r) W) from by
    rw [hcv]
    unfold cntI
    rw [hthi]
    exact count_any (hC.new (hb.out W ho).2).t (by omega) (by omega) hts)
  have hpr : ¬ r = 0 → x.pr = cntI c pl i r ∧ x.ex = sM (cntI c pl i r) x.rl := fun h => by
    rw [hx, hr] at *
    exact ⟨if_neg h, if_neg h⟩
  have hpr0 : r = 0 → x.pr = 18446744073709551615 ∧ x.ex = 18446744073709551615 := fun h => by
    rw [hx, hr] at *
    exact ⟨if_pos h, if_pos h⟩
  have hrl9 : x.rl ≤ 100000 := by rw [hx]; exact relI_le hC hF i
  have hcn9 : cntI c pl i r ≤ 18446744073709551615 := totU_le _ _
  have cmul := Lib.hid (fun W => Bch.mul_any (cntI c pl i r) x.rl W hcn9 (by omega))
  obtain ⟨Z, hZ⟩ : ∃ Z : Ending → World → Prop, Z = (fun e w' => e = .returned (lineI c d pl i).val ∧ Only (fun _ => False) w w') := ⟨_, rfl⟩
  rw [← hZ]
  have hfin := Lib.hid (fun W (ho : Only (fun k => q + 1 ≤ k) W2 W) (v : Value) (hv : v = .agg #[U x.co, U x.de, U (orU r), U x.pr, U x.rl, U x.ex]) => show Z (.returned v) W from by
    rw [hZ, hv, ← hx, ← hre]
    exact ⟨rfl, (hb.out W ho).2⟩)
  obtain ⟨xco, hxco⟩ : ∃ y, y = x.co := ⟨_, rfl⟩
  obtain ⟨xde, hxde⟩ : ∃ y, y = x.de := ⟨_, rfl⟩
  obtain ⟨xpr, hxpr⟩ : ∃ y, y = x.pr := ⟨_, rfl⟩
  obtain ⟨xrl, hxrl⟩ : ∃ y, y = x.rl := ⟨_, rfl⟩
  obtain ⟨xex, hxex⟩ : ∃ y, y = x.ex := ⟨_, rfl⟩
  obtain ⟨kn, hkn⟩ : ∃ y, y = cntI c pl i r := ⟨_, rfl⟩
  rw [← hxco] at cwor hfin
  rw [← hxde] at cdly cwin hfin
  rw [← hxrl, ← hkn] at cmul
  rw [← hxrl] at cof
  rw [← hkn] at ccnt
  rw [← hxpr, ← hkn] at hpr
  rw [← hxpr] at hpr0
  rw [← hxex, ← hxrl] at hpr
  rw [← hxex] at hpr0
  rw [← hxpr, ← hxrl, ← hxex] at hfin
  have hprH := Lib.hid hpr
  have hprH0 := Lib.hid hpr0
  have hb1 := Lib.hid b1
  have hs2' := Lib.hid hs2
  rw [← hcv]
  unfold ConfV.val at hcv
  subst hcv
  unfold CYv at hcy
  unfold ConfV.cells at hW2
  have hW2' := Lib.hid hW2
  clear hZ hq hO2 b0 b1 hW2 hC hF hp hts hl9 hx hll hz hz9 hr hre hpr hpr0 hxco hxde hxpr hxrl hxex hkn hcn9 hrl9 hpi hthi hl1000 hs2 hn8 hce hi
  obtain ⟨c0, wy, h, mi, ⟨mA, mn, mc⟩, g, ⟨cA, cn, cc⟩, ⟨eA, en, ec⟩, ⟨tA, tn, tc⟩, ⟨lA, ln, lc⟩⟩ := c
  dsimp only at *
  obtain ⟨d0, d1, d2, d3, d4, d5, d6, d7, d8, d9, dl⟩ := hcy.out W2 (Only.refl _ _)
  go_enter Tryz.func44, Tryz.ntmps44
  go_upto_region 1 with fail
  rw [← hq'.out]
  rw [← hW2'.out]
  have ca := Lib.hid (fun W (ho : Only (fun _ => False) W2 W) => cwor.out W (ho.mono (fun _ _ h => h.elim)))
  have cb := Lib.hid (fun W (ho : Only (fun _ => False) W2 W) => cdly.out W (ho.mono (fun _ _ h => h.elim)))
  have cc9 := Lib.hid (fun W (ho : Only (fun _ => False) W2 W) => cbnd.out W (ho.mono (fun _ _ h => h.elim)))
  have hk2 := Lib.hid (fun W (ho : Only (fun _ => False) W2 W) => show W.cell? ⟨q, 0, none⟩ = some (.int .i64 c0) ∧ W.cell? ⟨q, 1, none⟩ = some (.int .i64 wy) ∧ W.cell? ⟨q, 2, none⟩ = some (.int .i64 h) ∧ W.cell? ⟨q, 3, none⟩ = some (.int .i64 mi) ∧ W.cell? ⟨q, 4, none⟩ = some (.slice mA mn mc) ∧ W.cell? ⟨q, 5, none⟩ = some (.int .i64 g) ∧ W.cell? ⟨q, 6, none⟩ = some (.slice cA cn cc) ∧ W.cell? ⟨q, 7, none⟩ = some (.slice eA en ec) ∧ W.cell? ⟨q, 8, none⟩ = some (.slice tA tn tc) ∧ W.cell? ⟨q, 9, none⟩ = some (.slice lA ln lc) ∧ q < W.heap.size from hcy.out W (ho.mono (fun _ _ h => h.elim)))
  go_cut [5] from 8 to 18 (fun u5 wd => ∃ X, u5 = .pointer (some ⟨X, 0, none⟩) ∧ q + 2 ≤ X ∧ wd.heap[X]? = some (.cells [U xco, U xde, .int .u64 0, .int .u64 18446744073709551615, U xrl, .int .u64 18446744073709551615].toArray 46 (0, 0)) ∧ wd.heap[q + 1]? = some (.cells [.int .u64 0, .int .u64 0, .int .u64 0, .int .u64 0, .int .u64 0, .int .u64 0].toArray 46 (0, 0)) ∧ Only (fun k => q + 1 ≤ k) W2 wd)
  case first =>
    go_region_held3 (fun W0 => W0.cell? ⟨q, 0, none⟩ = some (.int .i64 c0) ∧ W0.cell? ⟨q, 1, none⟩ = some (.int .i64 wy) ∧ W0.cell? ⟨q, 2, none⟩ = some (.int .i64 h) ∧ W0.cell? ⟨q, 3, none⟩ = some (.int .i64 mi) ∧ W0.cell? ⟨q, 4, none⟩ = some (.slice mA mn mc) ∧ W0.cell? ⟨q, 5, none⟩ = some (.int .i64 g) ∧ W0.cell? ⟨q, 6, none⟩ = some (.slice cA cn cc) ∧ W0.cell? ⟨q, 7, none⟩ = some (.slice eA en ec) ∧ W0.cell? ⟨q, 8, none⟩ = some (.slice tA tn tc) ∧ W0.cell? ⟨q, 9, none⟩ = some (.slice lA ln lc) ∧ q < W0.heap.size)
      (exact hk2.out _ (by repeat (first | with_reducible assumption | with_reducible exact Only.refl _ _ | with_reducible refine Only.setCell ?_ (p := ⟨_, _, none⟩) (fun h => absurd h (zz_ge hs2'.out hzz)) _ | with_reducible apply Only.drew | with_reducible apply Only.alloc)))
      (first
        | (go_at_call 48; (with_reducible refine (ca.out _ (by repeat (first | with_reducible assumption | with_reducible exact Only.refl _ _ | with_reducible apply Only.drew | with_reducible apply Only.alloc))).mono ?_); rintro _ w5 ⟨rfl, ho5⟩; have Ho5 : Only (fun _ => False) W2 w5 := Only.trans' (by repeat (first | with_reducible assumption | with_reducible exact Only.refl _ _ | with_reducible apply Only.drew | with_reducible apply Only.alloc)) ho5; (first | (replace hzz := zz_on hzz ho5) | (have hzz := zz_new hs2'.out (by repeat (first | with_reducible assumption | with_reducible exact Only.refl _ _ | with_reducible apply Only.drew | with_reducible apply Only.alloc)) ho5) | (have hzz := zz_new' hs2'.out (by repeat (first | with_reducible assumption | with_reducible exact Only.refl _ _ | with_reducible apply Only.drew | with_reducible apply Only.alloc)) ho5) | skip); (first | (have z9 := zz_six hzz; obtain ⟨z0, z1, z2, z3, z4, z5, f0, f1, f2, f3, f4, f5, zl⟩ := z9) | skip); clear ho5)
        | (go_at_call 76; (with_reducible refine (cb.out _ (by repeat (first | with_reducible assumption | with_reducible exact Only.refl _ _ | with_reducible apply Only.drew | with_reducible apply Only.alloc))).mono ?_); rintro _ w6 ⟨rfl, ho6⟩; have Ho6 : Only (fun _ => False) W2 w6 := Only.trans' (by repeat (first | with_reducible assumption | with_reducible exact Only.refl _ _ | with_reducible apply Only.drew | with_reducible apply Only.alloc)) ho6; (first | (replace hzz := zz_on hzz ho6) | (have hzz := zz_new hs2'.out (by repeat (first | with_reducible assumption | with_reducible exact Only.refl _ _ | with_reducible apply Only.drew | with_reducible apply Only.alloc)) ho6) | (have hzz := zz_new' hs2'.out (by repeat (first | with_reducible assumption | with_reducible exact Only.refl _ _ | with_reducible apply Only.drew | with_reducible apply Only.alloc)) ho6) | skip); (first | (have z9 := zz_six hzz; obtain ⟨z0, z1, z2, z3, z4, z5, f0, f1, f2, f3, f4, f5, zl⟩ := z9) | skip); clear ho6)
        | (go_at_call 77; (with_reducible refine (cc9.out _ (by repeat (first | with_reducible assumption | with_reducible exact Only.refl _ _ | with_reducible apply Only.drew | with_reducible apply Only.alloc))).mono ?_); rintro _ w7 ⟨rfl, ho7⟩; have Ho7 : Only (fun _ => False) W2 w7 := Only.trans' (by repeat (first | with_reducible assumption | with_reducible exact Only.refl _ _ | with_reducible apply Only.drew | with_reducible apply Only.alloc)) ho7; (first | (replace hzz := zz_on hzz ho7) | (have hzz := zz_new hs2'.out (by repeat (first | with_reducible assumption | with_reducible exact Only.refl _ _ | with_reducible apply Only.drew | with_reducible apply Only.alloc)) ho7) | (have hzz := zz_new' hs2'.out (by repeat (first | with_reducible assumption | with_reducible exact Only.refl _ _ | with_reducible apply Only.drew | with_reducible apply Only.alloc)) ho7) | skip); (first | (have z9 := zz_six hzz; obtain ⟨z0, z1, z2, z3, z4, z5, f0, f1, f2, f3, f4, f5, zl⟩ := z9) | skip); clear ho7)
        | (go_at_call 45; (with_reducible refine (cof.out _).mono ?_); rintro _ w8 ⟨rfl, hw8⟩; subst hw8))
    all_goals
      go_wp2
      go_meet
      case rel => first | with_reducible exact ln_b hs2'.out hb1.out (by assumption) hzz | with_reducible exact ln_a hs2'.out hb1.out (by assumption)
  obtain ⟨X, rfl, hXq, hX4, hR4, hO4⟩ := hcut
  obtain ⟨w4, hw4⟩ : ∃ w4 : World, w4 = wc := ⟨_, rfl⟩
  subst hw4
  have hO4' := Lib.hid hO4
  have hX4' := Lib.hid hX4
  have hR4' := Lib.hid hR4
  have hXq' := Lib.hid hXq
  have hk4 := Lib.hid (fun W (ho : Only (fun _ => False) w4 W) => show W.cell? ⟨q, 0, none⟩ = some (.int .i64 c0) ∧ W.cell? ⟨q, 1, none⟩ = some (.int .i64 wy) ∧ W.cell? ⟨q, 2, none⟩ = some (.int .i64 h) ∧ W.cell? ⟨q, 3, none⟩ = some (.int .i64 mi) ∧ W.cell? ⟨q, 4, none⟩ = some (.slice mA mn mc) ∧ W.cell? ⟨q, 5, none⟩ = some (.int .i64 g) ∧ W.cell? ⟨q, 6, none⟩ = some (.slice cA cn cc) ∧ W.cell? ⟨q, 7, none⟩ = some (.slice eA en ec) ∧ W.cell? ⟨q, 8, none⟩ = some (.slice tA tn tc) ∧ W.cell? ⟨q, 9, none⟩ = some (.slice lA ln lc) ∧ q < W.heap.size ∧ W.cell? ⟨X, 1, none⟩ = some (U xde) ∧ X < W.heap.size from by
    obtain ⟨d0, d1, d2, d3, d4, d5, d6, d7, d8, d9, dl⟩ := hcy.out W (hO4'.out.trans' (ho.mono (fun _ _ h => h.elim)))
    exact ⟨d0, d1, d2, d3, d4, d5, d6, d7, d8, d9, dl, row_cell (ho.heap hX4'.out (fun h => h)) (i := 1) rfl, row_lt (ho.heap hX4'.out (fun h => h))⟩)
  have clds2 := Lib.hid (fun W (ho : Only (fun _ => False) w4 W) => clds.out W (hO4'.out.trans' (ho.mono (fun _ _ h => h.elim))))
  obtain ⟨RU, hRU⟩ : ∃ R, R = orU r := ⟨_, rfl⟩
  unfold Bch.WinEnd at cwin
  rw [← hRU] at cwin hfin
  have hRUe := Lib.hid hRU
  clear hRU
  clear hX4 hXq hO4 hR4 clds ca cb cc9 hk2
  unfold LdsEnd at clds2
  obtain ⟨lln, hlln⟩ : ∃ n, n = ll.length := ⟨_, rfl⟩
  rw [← hlln] at clds2 cwin
  have hlln' := Lib.hid hlln
  clear hlln hll8
  go_upto_region 2 with fail
  go_cut [6, 7] from 19 to 27 (fun u6 u7 wd => u6 = U RU ∧ u7 = .bool (decide (0 < r)) ∧ Only (fun _ => False) w4 wd)
  case first =>
    obtain ⟨d0, d1, d2, d3, d4, d5, d6, d7, d8, d9, dl, y1, yl⟩ := hk4.out w4 (Only.refl _ _)
    go_region_held3 (fun W0 => W0.cell? ⟨q, 0, none⟩ = some (.int .i64 c0) ∧ W0.cell? ⟨q, 1, none⟩ = some (.int .i64 wy) ∧ W0.cell? ⟨q, 2, none⟩ = some (.int .i64 h) ∧ W0.cell? ⟨q, 3, none⟩ = some (.int .i64 mi) ∧ W0.cell? ⟨q, 4, none⟩ = some (.slice mA mn mc) ∧ W0.cell? ⟨q, 5, none⟩ = some (.int .i64 g) ∧ W0.cell? ⟨q, 6, none⟩ = some (.slice cA cn cc) ∧ W0.cell? ⟨q, 7, none⟩ = some (.slice eA en ec) ∧ W0.cell? ⟨q, 8, none⟩ = some (.slice tA tn tc) ∧ W0.cell? ⟨q, 9, none⟩ = some (.slice lA ln lc) ∧ q < W0.heap.size ∧ W0.cell? ⟨X, 1, none⟩ = some (U xde) ∧ X < W0.heap.size)
      (exact hk4.out _ (by repeat (first | assumption | exact Only.refl _ _ | apply Only.drew | apply Only.drewN)))
      (first
        | (go_at_call 41; (with_reducible refine (clds2.out _ (by repeat (first | assumption | exact Only.refl _ _ | apply Only.drew | apply Only.drewN))).mono ?_); rintro _ w5 ⟨A, cap, h5, rfl, hW5, -, ho5⟩; have hO5 : Only (fun _ => False) w4 w5 := Only.trans' (by repeat (first | assumption | exact Only.refl _ _ | apply Only.drew | apply Only.drewN)) ho5; have hWn := Lib.hid (fun W (ho : Only (fun _ => False) w5 W) => cwin.out W A cap (win_lrow (n := lln) (cap := cap) (h := h5) (by have := hW5.kept ho (fun _ _ h => h); exact this))); clear hW5 ho5)
        | (go_at_call 78; (with_reducible refine (hWn.out _ (by repeat (first | assumption | exact Only.refl _ _ | apply Only.drew | apply Only.drewN))).mono ?_); rintro _ w6 ⟨rfl, ho6⟩; have hO6 : Only (fun _ => False) w4 w6 := Only.trans' (by repeat (first | assumption | exact Only.refl _ _ | apply Only.drew | apply Only.drewN)) ho6; clear ho6))
    all_goals
      go_wp2
      go_meet
      case rel => exact ⟨rfl, rfl, (by repeat (first | assumption | exact Only.refl _ _ | apply Only.drew | apply Only.drewN))⟩
  obtain ⟨rfl, rfl, hOc⟩ := hcut
  obtain ⟨w6, hw6⟩ : ∃ w6 : World, w6 = wc := ⟨_, rfl⟩
  subst hw6
  have hX6 := Lib.hid (hOc.heap hX4'.out (fun h => h))
  have hR6 := Lib.hid (hOc.heap hR4'.out (fun h => h))
  have hO6 := Lib.hid (hO4'.out.trans' (hOc.mono (T := fun k => q + 1 ≤ k) (fun _ _ h => h.elim)))
  clear hOc hk4 clds2
  go_upto_region 3 with fail
  have yl := row_lt hX6.out
  have y2 := row_cell hX6.out (i := 2) rfl
  have yf := row_free hX6.out 2
  go_upto_region 4 with fail
  obtain ⟨w7, hw7⟩ : ∃ w7, w7 = w6.setCell ⟨X, 2, none⟩ (U RU) := ⟨_, rfl⟩
  rw [← hw7]
  have hX7 := Lib.hid (show w7.heap[X]? = some (.cells [U xco, U xde, U RU, .int .u64 18446744073709551615, U xrl, .int .u64 18446744073709551615].toArray 46 (0, 0)) from by rw [hw7]; exact row_set hX6.out 2 (U RU))
  have hR7 := Lib.hid (show w7.heap[q + 1]? = some (.cells [.int .u64 0, .int .u64 0, .int .u64 0, .int .u64 0, .int .u64 0, .int .u64 0].toArray 46 (0, 0)) from by rw [hw7]; exact heap_kept_set hR6.out (by have := hXq'.out; dsimp only; omega) _)
  have hO7 := Lib.hid (show Only (fun k => q + 1 ≤ k) W2 w7 from by rw [hw7]; exact hO6.out.setCell (p := ⟨X, 2, none⟩) (fun _ => by have := hXq'.out; dsimp only; omega) _)
  clear hw7 y2 yl yf
  by_cases hr0 : r = 0
  · have hPE := Lib.hid (hprH0.out hr0)
    have hdr : decide (0 < r) = false := by simp [hr0]
    rw [hdr]
    have hR8 := hR7
    have hO8 := hO7
    have y0 := row_cell hX7.out (i := 0) rfl
    have y1 := row_cell hX7.out (i := 1) rfl
    have y2 := row_cell hX7.out (i := 2) rfl
    have y3 := row_cell hX7.out (i := 3) rfl
    have y4 := row_cell hX7.out (i := 4) rfl
    have y5 := row_cell hX7.out (i := 5) rfl
    have yl := row_lt hX7.out
    have r0 := row_cell hR7.out (i := 0) rfl
    have r1 := row_cell hR7.out (i := 1) rfl
    have r2 := row_cell hR7.out (i := 2) rfl
    have r3 := row_cell hR7.out (i := 3) rfl
    have r4 := row_cell hR7.out (i := 4) rfl
    have r5 := row_cell hR7.out (i := 5) rfl
    have rl := row_lt hR7.out
    have q0 := row_free hR7.out 0
    have q1 := row_free hR7.out 1
    have q2 := row_free hR7.out 2
    have q3 := row_free hR7.out 3
    have q4 := row_free hR7.out 4
    have q5 := row_free hR7.out 5
    clear hr0 hdr
    go_wp2
    obtain ⟨W9, hW9⟩ : ∃ W9, W9 = ((((((w7.setCell ⟨q + 1, 0, none⟩ (U xco)).setCell ⟨q + 1, 1, none⟩ (U xde)).setCell ⟨q + 1, 2, none⟩ (U RU)).setCell ⟨q + 1, 3, none⟩ (.int .u64 18446744073709551615)).setCell ⟨q + 1, 4, none⟩ (U xrl)).setCell ⟨q + 1, 5, none⟩ (.int .u64 18446744073709551615)) := ⟨_, rfl⟩
    rw [← hW9]
    have hR9 : W9.heap[q + 1]? = some (.cells [U xco, U xde, U RU, .int .u64 18446744073709551615, U xrl, .int .u64 18446744073709551615].toArray 46 (0, 0)) := by rw [hW9]; exact row_set (row_set (row_set (row_set (row_set (row_set hR8.out 0 (U xco)) 1 (U xde)) 2 (U RU)) 3 (.int .u64 18446744073709551615)) 4 (U xrl)) 5 (.int .u64 18446744073709551615)
    have hO9 : Only (fun k => q + 1 ≤ k) W2 W9 := by rw [hW9]; exact (((((hO8.out.setCell (p := ⟨q + 1, 0, none⟩) (fun _ => Nat.le_refl _) _).setCell (p := ⟨q + 1, 1, none⟩) (fun _ => Nat.le_refl _) _).setCell (p := ⟨q + 1, 2, none⟩) (fun _ => Nat.le_refl _) _).setCell (p := ⟨q + 1, 3, none⟩) (fun _ => Nat.le_refl _) _).setCell (p := ⟨q + 1, 4, none⟩) (fun _ => Nat.le_refl _) _).setCell (p := ⟨q + 1, 5, none⟩) (fun _ => Nat.le_refl _) _
    have e0 := row_cell hR9 (i := 0) rfl
    have e1 := row_cell hR9 (i := 1) rfl
    have e2 := row_cell hR9 (i := 2) rfl
    have e3 := row_cell hR9 (i := 3) rfl
    have e4 := row_cell hR9 (i := 4) rfl
    have e5 := row_cell hR9 (i := 5) rfl
    clear hW9
    exact bodyPost_ret (v := .agg #[U xco, U xde, U RU, .int .u64 18446744073709551615, U xrl, .int .u64 18446744073709551615]) (by simp [results, Tryz.results44, go_sem, e0, e1, e2, e3, e4, e5]) rfl (hfin.out W9 hO9 _ (by rw [hPE.out.1, hPE.out.2] <;> rfl))
  · have hPE := Lib.hid (hprH.out hr0)
    have hdr : decide (0 < r) = true := by simp; omega
    have hro : orU r = r := if_neg hr0
    have hRr : RU = r := hRUe.out.trans hro
    rw [hdr]
    obtain ⟨d0, d1, d2, d3, d4, d5, d6, d7, d8, d9, dl⟩ := hcy.out w7 hO7.out
    have cc := Lib.hid (ccnt.out w7 hO7.out)
    rw [← hRr] at cc
    clear hr0 hdr hro hRr
    go_wp2_with fail
    refine cc.out.mono ?_
    rintro e w8 ⟨rfl, ho⟩
    have hX8 := Lib.hid (ho.heap hX7.out (fun h => h))
    have hR8' := Lib.hid (ho.heap hR7.out (fun h => h))
    have hO8' := Lib.hid (hO7.out.trans' (ho.mono (T := fun k => q + 1 ≤ k) (fun _ _ h => h.elim)))
    clear ho cc d0 d1 d2 d3 d4 d5 d6 d7 d8 d9 dl
    have y3 := row_cell hX8.out (i := 3) rfl
    have yf := row_free hX8.out 3
    have yl := row_lt hX8.out
    go_upto_region 6 with fail
    obtain ⟨w9, hw9⟩ : ∃ w9, w9 = w8.setCell ⟨X, 3, none⟩ (U kn) := ⟨_, rfl⟩
    rw [← hw9]
    have hX9 := Lib.hid (show w9.heap[X]? = some (.cells [U xco, U xde, U RU, U kn, U xrl, .int .u64 18446744073709551615].toArray 46 (0, 0)) from by rw [hw9]; exact row_set hX8.out 3 (U kn))
    have hR9' := Lib.hid (show w9.heap[q + 1]? = some (.cells [.int .u64 0, .int .u64 0, .int .u64 0, .int .u64 0, .int .u64 0, .int .u64 0].toArray 46 (0, 0)) from by rw [hw9]; exact heap_kept_set hR8'.out (by have := hXq'.out; dsimp only; omega) _)
    have hO9' := Lib.hid (show Only (fun k => q + 1 ≤ k) W2 w9 from by rw [hw9]; exact hO8'.out.setCell (p := ⟨X, 3, none⟩) (fun _ => by have := hXq'.out; dsimp only; omega) _)
    clear hw9 y3 yl yf
    have y3 := row_cell hX9.out (i := 3) rfl
    have y4 := row_cell hX9.out (i := 4) rfl
    have y5 := row_cell hX9.out (i := 5) rfl
    have yf := row_free hX9.out 5
    have yl := row_lt hX9.out
    go_wp2_with fail
    refine (cmul.out _).mono ?_
    rintro e wa ⟨rfl, hwa⟩
    subst hwa
    obtain ⟨EX, hEX⟩ : ∃ EX, EX = sM kn xrl := ⟨_, rfl⟩
    rw [← hEX] at hPE ⊢
    clear hEX
    go_upto_region 7 with fail
    obtain ⟨wb, hwb⟩ : ∃ wb, wb = wa.setCell ⟨X, 5, none⟩ (U EX) := ⟨_, rfl⟩
    rw [← hwb]
    have hXb := Lib.hid (show wb.heap[X]? = some (.cells [U xco, U xde, U RU, U kn, U xrl, U EX].toArray 46 (0, 0)) from by rw [hwb]; exact row_set hX9.out 5 (U EX))
    have hR8 := Lib.hid (show wb.heap[q + 1]? = some (.cells [.int .u64 0, .int .u64 0, .int .u64 0, .int .u64 0, .int .u64 0, .int .u64 0].toArray 46 (0, 0)) from by rw [hwb]; exact heap_kept_set hR9'.out (by have := hXq'.out; dsimp only; omega) _)
    have hO8 := Lib.hid (show Only (fun k => q + 1 ≤ k) W2 wb from by rw [hwb]; exact hO9'.out.setCell (p := ⟨X, 5, none⟩) (fun _ => by have := hXq'.out; dsimp only; omega) _)
    clear hwb y3 y4 y5 yl yf
    have y0 := row_cell hXb.out (i := 0) rfl
    have y1 := row_cell hXb.out (i := 1) rfl
    have y2 := row_cell hXb.out (i := 2) rfl
    have y3 := row_cell hXb.out (i := 3) rfl
    have y4 := row_cell hXb.out (i := 4) rfl
    have y5 := row_cell hXb.out (i := 5) rfl
    have yl := row_lt hXb.out
    have r0 := row_cell hR8.out (i := 0) rfl
    have r1 := row_cell hR8.out (i := 1) rfl
    have r2 := row_cell hR8.out (i := 2) rfl
    have r3 := row_cell hR8.out (i := 3) rfl
    have r4 := row_cell hR8.out (i := 4) rfl
    have r5 := row_cell hR8.out (i := 5) rfl
    have rl := row_lt hR8.out
    have q0 := row_free hR8.out 0
    have q1 := row_free hR8.out 1
    have q2 := row_free hR8.out 2
    have q3 := row_free hR8.out 3
    have q4 := row_free hR8.out 4
    have q5 := row_free hR8.out 5
    go_wp2
    obtain ⟨W9, hW9⟩ : ∃ W9, W9 = ((((((wb.setCell ⟨q + 1, 0, none⟩ (U xco)).setCell ⟨q + 1, 1, none⟩ (U xde)).setCell ⟨q + 1, 2, none⟩ (U RU)).setCell ⟨q + 1, 3, none⟩ (U kn)).setCell ⟨q + 1, 4, none⟩ (U xrl)).setCell ⟨q + 1, 5, none⟩ (U EX)) := ⟨_, rfl⟩
    rw [← hW9]
    have hR9 : W9.heap[q + 1]? = some (.cells [U xco, U xde, U RU, U kn, U xrl, U EX].toArray 46 (0, 0)) := by rw [hW9]; exact row_set (row_set (row_set (row_set (row_set (row_set hR8.out 0 (U xco)) 1 (U xde)) 2 (U RU)) 3 (U kn)) 4 (U xrl)) 5 (U EX)
    have hO9 : Only (fun k => q + 1 ≤ k) W2 W9 := by rw [hW9]; exact (((((hO8.out.setCell (p := ⟨q + 1, 0, none⟩) (fun _ => Nat.le_refl _) _).setCell (p := ⟨q + 1, 1, none⟩) (fun _ => Nat.le_refl _) _).setCell (p := ⟨q + 1, 2, none⟩) (fun _ => Nat.le_refl _) _).setCell (p := ⟨q + 1, 3, none⟩) (fun _ => Nat.le_refl _) _).setCell (p := ⟨q + 1, 4, none⟩) (fun _ => Nat.le_refl _) _).setCell (p := ⟨q + 1, 5, none⟩) (fun _ => Nat.le_refl _) _
    have e0 := row_cell hR9 (i := 0) rfl
    have e1 := row_cell hR9 (i := 1) rfl
    have e2 := row_cell hR9 (i := 2) rfl
    have e3 := row_cell hR9 (i := 3) rfl
    have e4 := row_cell hR9 (i := 4) rfl
    have e5 := row_cell hR9 (i := 5) rfl
    clear hW9
    exact bodyPost_ret (v := .agg #[U xco, U xde, U RU, U kn, U xrl, U EX]) (by simp [results, Tryz.results44, go_sem, e0, e1, e2, e3, e4, e5]) rfl (hfin.out W9 hO9 _ (by rw [hPE.out.1, hPE.out.2] <;> rfl))

end Adm
end Go.Proofs.YtlbinlhaejhobaaGreatDoor
