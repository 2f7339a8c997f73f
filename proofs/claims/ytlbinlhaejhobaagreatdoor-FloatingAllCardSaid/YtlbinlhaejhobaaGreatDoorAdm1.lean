/- admit: costs, loads. -/
import Derived.Test.YtlbinlhaejhobaaGreatDoorPre6
import Derived.Test.YtlbinlhaejhobaaGreatDoorPJ
import Derived.Test.YtlbinlhaejhobaaGreatDoorPH
import Derived.Test.YtlbinlhaejhobaaGreatDoorPA
import Derived.Deep.RegionHeld3
import Derived.Deep.RegionLaw
namespace Go.Proofs.YtlbinlhaejhobaaGreatDoor
namespace Adm
open Go Go.RowKit Rca Sct Lin Lck Cst Rld Pre
open Bch (U sA sC sM sA_le sC_le GrowU Ld LRow LB)
variable {w : World} {c : ConfV} {d : ConfL} {pl : Tks}

def lcells (l : List Ld) : List Value := l.flatMap fun y => [U y.1, U y.2]
theorem lcells_length (l : List Ld) : (lcells l).length = l.length * 2 := by
  induction l with
  | nil => rfl
  | cons y l ih => rw [lcells, List.flatMap_cons, List.length_append, ← lcells, ih]; simp; omega
theorem lcells_at : ∀ (l : List Ld) (k c p : Nat), l[k]? = some (c, p) → (lcells l)[k * 2]? = some (U c) ∧ (lcells l)[k * 2 + 1]? = some (U p)
  | [], k, c, p, h => by simp at h
  | y :: l, 0, c, p, h => by
    simp at h
    subst h
    exact ⟨rfl, rfl⟩
  | y :: l, k + 1, c, p, h => by
    have h' : l[k]? = some (c, p) := by simpa using h
    obtain ⟨h1, h2⟩ := lcells_at l k c p h'
    have e : lcells (y :: l) = [U y.1, U y.2] ++ lcells l := rfl
    rw [e, show (k + 1) * 2 = k * 2 + 2 by omega]
    exact ⟨by rw [List.getElem?_append_right (by simp)]; simpa using h1, by rw [List.getElem?_append_right (by simp)]; simpa using h2⟩
theorem lcells_one (l : List Ld) : ∀ u ∈ lcells l, u.oneCell' = true := by
  intro u hu
  unfold lcells at hu
  rw [List.mem_flatMap] at hu
  obtain ⟨y, _, h⟩ := hu
  simp at h
  rcases h with rfl | rfl <;> rfl
theorem lrow_src {w : World} {A : Option Addr} {l : List Ld} {n : Nat} (h : LRow w A l) (hn : l.length = n) (h0 : 0 < n) : ∃ ad, A = some ad ∧ ∀ j u, (lcells l)[j]? = some u → w.cell? (ad.add j) = some u := by
  obtain ⟨b, off, rfl, _, _, _⟩ := h 0 (l[0]'(by omega)).1 (l[0]'(by omega)).2 (List.getElem?_eq_getElem (by omega))
  refine ⟨_, rfl, fun j u hj => ?_⟩
  have hjl := (List.getElem?_eq_some_iff.1 hj).1
  rw [lcells_length] at hjl
  obtain ⟨⟨c, p⟩, hcp⟩ : ∃ y, l[j / 2]? = some y := ⟨_, List.getElem?_eq_getElem (by omega)⟩
  obtain ⟨b', off', e, c1, c2, _⟩ := h (j / 2) c p hcp
  cases e
  obtain ⟨h1, h2⟩ := lcells_at l (j / 2) c p hcp
  rw [Addr.add_lit]
  rcases Nat.mod_two_eq_zero_or_one j with hm | hm
  · rw [show j / 2 * 2 = j by omega] at h1 c1
    rw [h1] at hj
    cases hj
    exact c1
  · rw [show j / 2 * 2 + 1 = j by omega] at h2
    rw [show off + j / 2 * 2 + 1 = off + j by omega] at c2
    rw [h2] at hj
    cases hj
    exact c2
theorem win_lrow {w : World} {A : Option Addr} {n cap : Nat} {h : Option Nat} {l : List Ld} (hW : Win w 93 2 (.slice A n cap) h n (lcells l)) : LRow w A l := by
  intro k c p hk
  have hl := hW.1
  rw [lcells_length] at hl
  have hkl := (List.getElem?_eq_some_iff.1 hk).1
  obtain ⟨g, off, cap', _, hv, _, _, hlt, hc, _⟩ := hW.at_ (by omega)
  simp only [Value.slice.injEq, true_and] at hv
  obtain ⟨rfl, rfl⟩ := hv
  obtain ⟨h1, h2⟩ := lcells_at l k c p hk
  exact ⟨g, off, rfl, hc _ _ h1, by have := hc _ _ h2; rwa [← Nat.add_assoc] at this, hlt⟩
theorem infoL : (Tryz.prog.info? 93).map (fun i => (i.zero, i.size, i.bytes)) = some (some (.agg #[U 0, U 0]), 2, 16) := by kernel_rfl
def cosI (c : ConfV) (pl : Tks) (k : Nat) : Nat :=
  match pl[k]? with
  | some (_, l) => (wrsZ l c.h c.mi).toNat
  | none => 0
theorem cosI_at {c : ConfV} {pl : Tks} {k : Nat} {t : TaskV} {l : List Opn} (h : pl[k]? = some (t, l)) : cosI c pl k = (wrsZ l c.h c.mi).toNat := by unfold cosI; rw [h]
def perI (pl : Tks) (k : Nat) : Nat := (per pl.ts k).toNat
def ldI (c : ConfV) (pl : Tks) (k : Nat) : Ld := (cosI c pl k, perI pl k)
theorem fine_at (hC : ConfIn w c d pl) (hF : Fin0.Fine c d pl) {k : Nat} (hk : k < c.ta.n) : ∃ t l, pl[k]? = some (t, l) ∧ pl.ts[k]? = some t ∧ l.length ≤ 64 ∧ 0 < l.length := by
  obtain ⟨⟨t, l⟩, h⟩ : ∃ y, pl[k]? = some y := ⟨_, List.getElem?_eq_getElem (by rw [ts_len hC]; exact hk)⟩
  exact ⟨t, l, h, ts_some h, (hF.prog hk h).2.1, (hF.prog hk h).1⟩
theorem fine_lt (hC : ConfIn w c d pl) (_hF : Fin0.Fine c d pl) {k : Nat} {t : TaskV} {l : List Opn} (h : pl[k]? = some (t, l)) : k < c.ta.n := by have := (List.getElem?_eq_some_iff.1 h).1; rw [ts_len hC] at this; exact this
theorem cosI_le (hC : ConfIn w c d pl) (hF : Fin0.Fine c d pl) (k : Nat) : cosI c pl k ≤ 68719476736 := by
  unfold cosI
  split
  · next t l h =>
    have h2 := (hF.prog (fine_lt hC hF h) h).2.1
    have h1 := sumU_bound (costK_le l c.h c.mi) l.length
    unfold wrsZ
    omega
  · omega
theorem perI_le (hC : ConfIn w c d pl) (hF : Fin0.Fine c d pl) {k : Nat} (hk : k < c.ta.n) : 1 ≤ perI pl k ∧ perI pl k ≤ 1048576 ∧ ((perI pl k : Nat) : Int) = per pl.ts k := by
  obtain ⟨t, l, h1, h2, -⟩ := fine_at hC hF hk
  have h3 := (hF.nums hk h1).2.2.1
  unfold perI
  rw [per_at h2]
  omega
theorem fine_prio (hC : ConfIn w c d pl) (hF : Fin0.Fine c d pl) {i k : Nat} (hi : i < c.ta.n) (hk : k < c.ta.n) (h : prio pl.ts i = prio pl.ts k) : i = k := by
  have key : ∀ i k, k < c.ta.n → i < k → prio pl.ts i ≠ prio pl.ts k := fun i k hk hik e => by
    obtain ⟨t, l, h1, h2, -⟩ := fine_at hC hF hk
    obtain ⟨u, m, h3, h4, -⟩ := fine_at hC hF (k := i) (by omega)
    have := (hF.task k t l hk h1).2.2.2
    rw [List.any_eq_false] at this
    rw [prio_at h2, prio_at h4] at e
    exact this u (List.mem_iff_getElem?.2 ⟨i, by rw [List.getElem?_take_of_lt hik]; exact h4⟩) (by simpa using e)
  rcases Nat.lt_trichotomy i k with h1 | h1 | h1
  · exact absurd h (key i k hk h1)
  · exact h1
  · exact absurd h.symm (key k i hi h1)
set_option maxRecDepth 100000 in
theorem aworst_any {w : World} {c : ConfV} {d : ConfL} {pl : Tks} (hC : ConfIn w c d pl) (hF : Fin0.Fine c d pl) {i : Nat} (hi : i < c.ta.n) :
    Calls Tryz.prog 48 #[c.val, .int .i64 (i : Int)] w (GrowU (cosI c pl i) w) := by
  obtain ⟨q, hq⟩ : ∃ q, q = w.heap.size := ⟨_, rfl⟩
  obtain ⟨W2, hW2⟩ : ∃ W2, W2 = w.alloc (.cells c.cells.toArray 27) := ⟨_, rfl⟩
  have hO2 : Only (fun _ => False) w W2 := by rw [hW2]; exact (Only.refl _ w).alloc _
  have b0 : W2.heap[q]? = some (.cells c.cells.toArray 27 (0, 0)) := by rw [hW2]; exact heap_new_at _ _ hq.symm
  have hq' := Lib.hid hq
  have hcy := Lib.hid (fun W (ho : Only (fun _ => False) W2 W) => cyv_of (ho.heap b0 (fun h => h)))
  obtain ⟨cv, hcv⟩ : ∃ cv, cv = c.val := ⟨_, rfl⟩
  obtain ⟨t, l, hp, hts, hl9, -⟩ := fine_at hC hF hi
  rw [cosI_at hp]
  have hlt : l.length = t.o.n := (hC.p i t l hp).2.1
  have cworst := Lib.hid (fun W (ho : Only (fun _ => False) W2 W) => worst_any (cap := t.o.cap) ((hC.new (hO2.trans' ho)).p i t l hp).1 hlt (by omega) c.s c.wy c.h c.mi)
  obtain ⟨hz0, hz9⟩ := wrsZ_le (h := c.h) (mi := c.mi) (show l.length ≤ 1000 by omega)
  obtain ⟨z, hz⟩ : ∃ z, z = wrsZ l c.h c.mi := ⟨_, rfl⟩
  rw [← hz] at cworst hz0 hz9 ⊢
  have cof := Lib.hid (fun W => satOf_any z W)
  rw [ofU_small (by omega)] at cof
  obtain ⟨wr, hwr⟩ : ∃ s, s = z.toNat := ⟨_, rfl⟩
  rw [← hwr] at cof ⊢
  have hta := Lib.hid (fun W (ho : Only (fun _ => False) W2 W) => (hC.new (hO2.trans' ho)).t.at_ i t hts)
  obtain ⟨Z, hZ⟩ : ∃ Z, Z = GrowU wr w := ⟨_, rfl⟩
  rw [← hZ]
  have hfin := Lib.hid (fun W (ho : Only (fun _ => False) W2 W) => show Z (.returned (U wr)) W from by rw [hZ]; exact ⟨rfl, hO2.trans' ho⟩)
  have hin : (i : Int) < c.ta.n := by omega
  rw [← hcv]
  unfold ConfV.val at hcv
  subst hcv
  unfold CYv at hcy
  unfold ConfV.cells at hW2
  have hW2' := Lib.hid hW2
  clear hZ hq hO2 b0 hW2 hC hF hp hts hlt hl9 hwr hz hi
  obtain ⟨c0, wy, h, mi, ⟨mA, mn, mc⟩, g, ⟨cA, cn, cc⟩, ⟨eA, en, ec⟩, ⟨tA, tn, tc⟩, ⟨lA, ln, lc⟩⟩ := c
  dsimp only at *
  obtain ⟨d0, d1, d2, d3, d4, d5, d6, d7, d8, d9, dl⟩ := hcy.out W2 (Only.refl _ _)
  obtain ⟨b, off, hA, hb, hCe⟩ := hta.out W2 (Only.refl _ _)
  have f6 := hCe.c6
  subst hA
  have p0 := wd_cell d0
  have p1 := wd_cell d1
  have p2 := wd_cell d2
  have p3 := wd_cell d3
  have p8 := wd_cell d8
  have g6 := wd_cell f6
  have q1 := Lib.hid (fun (x : Wd W2) => Calls.wd (x := x) (cworst.out x.W x.ok))
  have q2 := Lib.hid (fun (x : Wd W2) => Calls.wd_same (x := x) ((cof.out x.W).mono fun _ _ h => ⟨h.1, h.2.symm⟩))
  have hex := wd_ex W2
  clear hCe
  go_enter Tryz.func48, Tryz.ntmps48
  go_upto_region 1 with fail
  rw [← hq'.out]
  rw [← hW2'.out]
  refine wp_region_wd (by kernel_rfl) (by kernel_rfl) ?_
  repeat (go_big_quiet_step (first | (go_at_call 81; with_reducible exact q1.out _) | (go_at_call 45; with_reducible exact q2.out _)))
  refine wpQuiet_nil ?_
  rintro _ ⟨v, rfl⟩
  have hf := Lib.hid (hfin.out v.W v.ok)
  go_wp2
  exact hf.out
/-- The loads of a task's response. -/
def ldL (c : ConfV) (pl : Tks) (own : Int) : List Ld := (thoseU highB pl.ts own c.ta.n).map (ldI c pl)
def LdsEnd (w : World) (l : List Ld) (e : Ending) (w' : World) : Prop :=
  ∃ (A : Option Addr) (cap : Nat) (h : Option Nat), e = .returned (.slice A l.length cap) ∧ Win w' 93 2 (.slice A l.length cap) h l.length (lcells l) ∧ (∀ b, h = some b → w.heap.size ≤ b) ∧ Only (fun _ => False) w w'
theorem lcells_snoc (l : List Ld) (y : Ld) : lcells (l ++ [y]) = lcells l ++ [U y.1, U y.2] := by
  unfold lcells
  rw [List.flatMap_append]
  rfl
set_option maxRecDepth 100000 in
set_option maxHeartbeats 4000000 in
theorem loads_any {w : World} {c : ConfV} {d : ConfL} {pl : Tks} (hC : ConfIn w c d pl) (hF : Fin0.Fine c d pl) {i : Nat} {ti : TaskV} (hti : pl.ts[i]? = some ti) :
    Calls Tryz.prog 41 #[c.val, .int .i64 (i : Int)] w (LdsEnd w (ldL c pl ti.p)) := by
  obtain ⟨q, hq⟩ : ∃ q, q = w.heap.size := ⟨_, rfl⟩
  obtain ⟨W2, hW2⟩ : ∃ W2, W2 = w.alloc (.cells c.cells.toArray 27) := ⟨_, rfl⟩
  have hO2 : Only (fun _ => False) w W2 := by rw [hW2]; exact (Only.refl _ w).alloc _
  have b0 : W2.heap[q]? = some (.cells c.cells.toArray 27 (0, 0)) := by rw [hW2]; exact heap_new_at _ _ hq.symm
  have hq' := Lib.hid hq
  have hcy := Lib.hid (fun W (ho : Only (fun _ => False) W2 W) => cyv_of (ho.heap b0 (fun h => h)))
  obtain ⟨cv, hcv⟩ : ∃ cv, cv = c.val := ⟨_, rfl⟩
  have hin : i < c.ta.n := by have := (List.getElem?_eq_some_iff.1 hti).1; have := hC.t.len; omega
  have hn8 : c.ta.n ≤ 8 := hF.counts.2.2.2.2.1
  have chig := Lib.hid (show Calls Tryz.prog 70 #[cv, .int .i64 (i : Int)] W2 (RowEnd W2 (thoseU highB pl.ts ti.p c.ta.n)) from by rw [hcv]; exact higher_any (hC.new hO2).t (by omega) hti)
  obtain ⟨L, hL⟩ : ∃ L, L = thoseU highB pl.ts ti.p c.ta.n := ⟨_, rfl⟩
  have hLm := Lib.hid (fun x (hx : x ∈ L) => show x < c.ta.n ∧ (x = i ∨ prio pl.ts i < prio pl.ts x) from by
    rw [hL] at hx
    obtain ⟨h1, h2⟩ := thoseU_mem.1 hx
    refine ⟨h1, ?_⟩
    by_cases hxi : x = i
    · exact .inl hxi
    · right
      have h3 := of_decide_eq_true h2
      have h4 : prio pl.ts x ≠ prio pl.ts i := fun e => hxi (fine_prio hC hF h1 hin e)
      rw [prio_at hti] at h4 ⊢
      omega)
  have hL9 : L.length ≤ 8 := by rw [hL]; exact Nat.le_trans (thoseU_len _ _ _ _) hn8
  have cwor := Lib.hid (fun W (ho : Only (fun _ => False) W2 W) (x : Nat) (hx : x < c.ta.n) => show Calls Tryz.prog 48 #[cv, .int .i64 (x : Int)] W (GrowU (cosI c pl x) W) from by rw [hcv]; exact aworst_any (hC.new (hO2.trans' ho)) hF hx)
  have hper := Lib.hid (fun x (hx : x < c.ta.n) => show ofU (per pl.ts x) = perI pl x ∧ perI pl x ≤ 1048576 from by
    obtain ⟨h1, h2, h3⟩ := perI_le hC hF hx
    rw [ofU_small (by omega)]
    omega)
  have hco := Lib.hid (fun x => cosI_le hC hF x)
  have hta := Lib.hid (fun W (ho : Only (fun _ => False) W2 W) x (hx : x < c.ta.n) => show ∃ b off, c.ta.A = some ⟨b, off, none⟩ ∧ b < W.heap.size ∧ W.cell? ⟨b, off + x * 7, none⟩ = some (.int .i64 (prio pl.ts x)) ∧ W.cell? ⟨b, off + x * 7 + 2, none⟩ = some (.int .i64 (per pl.ts x)) from by
    have hT := (hC.new (hO2.trans' ho)).t
    obtain ⟨t, ht⟩ : ∃ t, pl.ts[x]? = some t := ⟨_, List.getElem?_eq_getElem (by rw [hT.len]; exact hx)⟩
    obtain ⟨b, off, hA, hb, hCe⟩ := hT.at_ x t ht
    rw [prio_at ht, per_at ht]
    exact ⟨b, off, hA, hb, hCe.c0, hCe.c2⟩)
  obtain ⟨f, hf⟩ : ∃ f, f = ldI c pl := ⟨_, rfl⟩
  have hfx := Lib.hid (fun x => show f x = (cosI c pl x, perI pl x) from by rw [hf]; rfl)
  obtain ⟨cf, hcf⟩ : ∃ cf, cf = cosI c pl := ⟨_, rfl⟩
  obtain ⟨pf, hpf⟩ : ∃ pf, pf = perI pl := ⟨_, rfl⟩
  rw [← hcf] at hfx cwor hco
  rw [← hpf] at hfx hper
  rw [← hL] at chig
  unfold RowEnd at chig
  obtain ⟨m, hm⟩ : ∃ m, m = L.length := ⟨_, rfl⟩
  rw [← hm] at chig hL9
  have hm' := Lib.hid hm
  obtain ⟨Z, hZ⟩ : ∃ Z, Z = LdsEnd w (ldL c pl ti.p) := ⟨_, rfl⟩
  rw [← hZ]
  have hfin := Lib.hid (fun W (ho : Only (fun _ => False) W2 W) (A : Option Addr) (cap : Nat) (h : Option Nat) (hW : Win W 93 2 (.slice A m cap) h m (lcells (L.map f))) (hnew : ∀ b, h = some b → W2.heap.size ≤ b) => show Z (.returned (.slice A m cap)) W from by
    rw [hZ, ldL, ← hL, ← hf]
    have e : m = (L.map f).length := by rw [List.length_map, hm]
    rw [e] at hW ⊢
    exact ⟨A, cap, h, rfl, hW, fun b hb => Nat.le_trans hO2.size (hnew b hb), hO2.trans' ho⟩)
  rw [← hcv]
  unfold ConfV.val at hcv
  subst hcv
  unfold CYv at hcy
  unfold ConfV.cells at hW2
  have hW2' := Lib.hid hW2
  have hin' : (i : Int) < c.ta.n := by omega
  clear hZ hq hO2 b0 hW2 hC hF hL hf hm hti hcf hpf
  obtain ⟨c0, wy, h, mi, ⟨mA, mn, mc⟩, g, ⟨cA, cn, cc⟩, ⟨eA, en, ec⟩, ⟨tA, tn, tc⟩, ⟨lA, ln, lc⟩⟩ := c
  dsimp only at *
  obtain ⟨d0, d1, d2, d3, d4, d5, d6, d7, d8, d9, dl⟩ := hcy.out W2 (Only.refl _ _)
  go_enter Tryz.func41, Tryz.ntmps41
  go_upto_region 2 with fail
  rw [← hq'.out]
  rw [← hW2'.out]
  go_wp2_with fail
  refine chig.out.mono ?_
  rintro e w3 ⟨p, cp, hh, rfl, hW, -, ho⟩
  have hO3 := Lib.hid ho
  have hW' := Lib.hid (fun W (ho : Only (fun _ => False) w3 W) => hW.kept ho (fun _ _ h => h))
  clear ho hW d0 d1 d2 d3 d4 d5 d6 d7 d8 d9 dl chig
  go_wp2
  go_loopw [5, 7, 12] (fun u5 _ i' wr => ∃ (k : Nat) (A : Option Addr) (cap : Nat) (h : Option Nat), i' = .int .i64 k ∧ k ≤ m ∧ u5 = .slice A k cap ∧ Hid (Win wr 93 2 (.slice A k cap) h k (lcells ((L.take k).map f))) ∧ Hid (∀ b, h = some b → w3.heap.size ≤ b) ∧ Hid (Only (fun _ => False) w3 wr)) (fun _ _ i' _ => m - (intOf i').toNat)
  case atStart => exact ⟨0, none, 0, none, rfl, Nat.zero_le _, rfl, Lib.hid (Win.nil _ _ _), Lib.hid (fun b hb => by cases hb), Lib.hid (Only.refl _ _)⟩
  case round =>
    obtain ⟨k, A, cap, h6, rfl, hk, rfl, hWk, hnk, hO⟩ := hrel
    obtain ⟨ws, hws⟩ : ∃ ws : World, ws = wr := ⟨_, rfl⟩
    subst hws
    have hOs := Lib.hid (hO3.out.trans' hO.out)
    by_cases hkm : k < m
    · have hkm' : (k : Int) < m := by omega
      obtain ⟨x, hx⟩ : ∃ x, L[k]? = some x := ⟨_, List.getElem?_eq_getElem (by have := hm'.out; omega)⟩
      obtain ⟨gg, off, rfl, cx, cxl⟩ := cell_at (hW'.out ws hO.out) (dat_at hx)
      obtain ⟨hxn, hxi⟩ := hLm.out x (List.mem_of_getElem? hx)
      have hxn' : (x : Int) < tn := by omega
      have hsu := Lib.hid (show (L.take (k + 1)).map f = (L.take k).map f ++ [f x] by rw [Bch.take_snoc hx, List.map_append]; rfl)
      have hfe := hfx.out x
      obtain ⟨hpe, hpe9⟩ := hper.out x hxn
      have hcx := hco.out x
      have q1 := Lib.hid (fun W (ho : Only (fun _ => False) W2 W) => cwor.out W ho x hxn)
      have q2 := Lib.hid (fun W => satOf_any (per pl.ts x) W)
      rw [hpe] at q2
      obtain ⟨PE, hPE⟩ : ∃ PE, PE = pf x := ⟨_, rfl⟩
      obtain ⟨CO, hCO⟩ : ∃ CO, CO = cf x := ⟨_, rfl⟩
      rw [← hPE] at hfe hpe9 q2
      rw [← hCO] at hfe hcx q1
      rw [hfe] at hsu
      have hta2 := Lib.hid (fun W (ho : Only (fun _ => False) W2 W) => hta.out W ho x hxn)
      have hiS : (i : Int) < tn := by omega
      have hi0 : i < tn := by omega
      obtain ⟨tb, toff, rfl, htb, f0, f2⟩ := hta.out ws hOs.out x hxn
      obtain ⟨tb2, toff2, hA2, htb2, e0, -⟩ := hta.out ws hOs.out i hi0
      cases hA2
      have hxor : x = i ∨ (¬ x = i ∧ prio pl.ts i < prio pl.ts x) := by
        rcases hxi with h | h
        · exact .inl h
        · exact .inr ⟨fun e => by subst e; omega, h⟩
      obtain ⟨P0, hP0⟩ : ∃ P, P = prio pl.ts i := ⟨_, rfl⟩
      obtain ⟨P1, hP1⟩ : ∃ P, P = prio pl.ts x := ⟨_, rfl⟩
      rw [← hP0] at e0 hxor
      rw [← hP1] at f0 hxor
      clear hx hxi hfe hpe hPE hCO hP0 hP1
      obtain ⟨d0, d1, d2, d3, d4, d5, d6, d7, d8, d9, dl⟩ := hcy.out ws hOs.out
      have p8 := wd_cell d8
      have g0 := wd_cell f0
      have g1 := wd_cell e0
      have hex := wd_ex ws
      go_wp2_with fail
      go_cut [33] from 16 to 33 (fun u33 wd => u33 = .bool true ∧ Only (fun _ => False) ws wd)
      case first =>
        rcases hxor with rfl | ⟨hne, hlt⟩
        · refine wp_region_wd (by kernel_rfl) (by kernel_rfl) ?_
          repeat (go_big_quiet_step (fail))
          refine wpQuiet_nil ?_
          rintro _ ⟨v, rfl⟩
          have hv := Lib.hid v.ok
          go_wp2
          go_meet
          case rel => exact ⟨rfl, hv.out⟩
        · have hne' : ((x : Int) == (i : Int)) = false := beq_eq_false_iff_ne.2 (by omega)
          refine wp_region_wd (by kernel_rfl) (by kernel_rfl) ?_
          repeat (go_big_quiet_step (fail))
          refine wpQuiet_nil ?_
          rintro _ ⟨v, rfl⟩
          have hv := Lib.hid v.ok
          go_wp2
          go_meet
          case rel => exact ⟨rfl, hv.out⟩
      obtain ⟨rfl, hOc⟩ := hcut
      obtain ⟨w5, hw5⟩ : ∃ w5 : World, w5 = wc := ⟨_, rfl⟩
      subst hw5
      have hO5 := Lib.hid (hO.out.trans' hOc)
      have hOs5 := Lib.hid (hOs.out.trans' hOc)
      have hS5 := Lib.hid hOc
      clear hOc hex p8 g0 g1 f0 f2 e0 cx cxl hxor htb htb2 d0 d1 d2 d3 d4 d5 d6 d7 d8 d9 dl
      obtain ⟨d0, d1, d2, d3, d4, d5, d6, d7, d8, d9, dl⟩ := hcy.out w5 hOs5.out
      obtain ⟨tb2, toff2, hA2, htb2, -, e2⟩ := hta2.out w5 hOs5.out
      cases hA2
      have hk5 := Lib.hid (fun W (ho : Only (fun _ => False) w3 W) => show W.cell? ⟨q, 0, none⟩ = some (.int .i64 c0) ∧ W.cell? ⟨q, 1, none⟩ = some (.int .i64 wy) ∧ W.cell? ⟨q, 2, none⟩ = some (.int .i64 h) ∧ W.cell? ⟨q, 3, none⟩ = some (.int .i64 mi) ∧ W.cell? ⟨q, 4, none⟩ = some (.slice mA mn mc) ∧ W.cell? ⟨q, 5, none⟩ = some (.int .i64 g) ∧ W.cell? ⟨q, 6, none⟩ = some (.slice cA cn cc) ∧ W.cell? ⟨q, 7, none⟩ = some (.slice eA en ec) ∧ W.cell? ⟨q, 8, none⟩ = some (.slice (some ⟨tb, toff, none⟩) tn tc) ∧ W.cell? ⟨q, 9, none⟩ = some (.slice lA ln lc) ∧ q < W.heap.size ∧ W.cell? ⟨tb, toff + x * 7 + 2, none⟩ = some (.int .i64 (per pl.ts x)) ∧ tb < W.heap.size from by
        obtain ⟨d0, d1, d2, d3, d4, d5, d6, d7, d8, d9, dl⟩ := hcy.out W (hO3.out.trans' ho)
        obtain ⟨tb3, toff3, hA3, htb3, -, e3⟩ := hta2.out W (hO3.out.trans' ho)
        cases hA3
        exact ⟨d0, d1, d2, d3, d4, d5, d6, d7, d8, d9, dl, e3, htb3⟩)
      go_upto_region 6 with fail
      have hs5p : Only (fun _ => False) ws w5 := hS5.out
      have hp5 : Only (fun _ => False) w3 w5 := hO5.out
      go_region_held3 (fun W0 => W0.cell? ⟨q, 0, none⟩ = some (.int .i64 c0) ∧ W0.cell? ⟨q, 1, none⟩ = some (.int .i64 wy) ∧ W0.cell? ⟨q, 2, none⟩ = some (.int .i64 h) ∧ W0.cell? ⟨q, 3, none⟩ = some (.int .i64 mi) ∧ W0.cell? ⟨q, 4, none⟩ = some (.slice mA mn mc) ∧ W0.cell? ⟨q, 5, none⟩ = some (.int .i64 g) ∧ W0.cell? ⟨q, 6, none⟩ = some (.slice cA cn cc) ∧ W0.cell? ⟨q, 7, none⟩ = some (.slice eA en ec) ∧ W0.cell? ⟨q, 8, none⟩ = some (.slice (some ⟨tb, toff, none⟩) tn tc) ∧ W0.cell? ⟨q, 9, none⟩ = some (.slice lA ln lc) ∧ q < W0.heap.size ∧ W0.cell? ⟨tb, toff + x * 7 + 2, none⟩ = some (.int .i64 (per pl.ts x)) ∧ tb < W0.heap.size)
        (exact hk5.out _ (by repeat (first | assumption | exact Only.refl _ _ | apply Only.drew | apply Only.alloc)))
        (first
          | (go_at_call 48; (with_reducible refine (q1.out _ (hO3.out.trans' (by repeat (first | assumption | exact Only.refl _ _ | apply Only.drew | apply Only.alloc)))).mono ?_); rintro _ w6 ⟨rfl, ho6⟩; have hS6 : Only (fun _ => False) ws w6 := Only.trans' (by repeat (first | assumption | exact Only.refl _ _ | apply Only.drew | apply Only.alloc)) ho6; have hO6 : Only (fun _ => False) w3 w6 := Only.trans' (by repeat (first | assumption | exact Only.refl _ _ | apply Only.drew | apply Only.alloc)) ho6; clear ho6)
          | (go_at_call 45; (with_reducible refine (q2.out _).mono ?_); rintro _ w7 ⟨rfl, hw7⟩; subst hw7)
          | (refine step_append_win rfl (.tmp 34) (.tmp 46) 70 rfl 93 (.agg #[U 0, U 0]) 2 16 Tryz.underlying70 infoL rfl (by decide) (v := .slice A k cap) (h := h6) (by rfl) (hWk.out.kept (by repeat (first | assumption | exact Only.refl _ _ | apply Only.drew | apply Only.alloc)) (fun _ _ h => h)) _ 1 1 (by rfl) [U CO, U PE] rfl (fun _ => ⟨_, rfl, (by first | exact row_two (heap_new_at _ _ (by simp)) | exact row_two (heap_new_at _ _ rfl))⟩) (by simp [Value.oneCell']) (by unfold maxLen; omega) (by omega) ?_; intro v4 w8 h8 hW8 hO8 hh8; obtain ⟨p8', c8, rfl, _, _⟩ := hW8.out.form; have hst := Lib.hid (step_fresh (w := w3) ((by repeat (first | assumption | exact Only.refl _ _ | apply Only.drew | apply Only.alloc))) hO8.out hnk.out hh8.out); have hp8 := hst.out.1))
      all_goals
        go_wp2
        go_roundw
        case rel =>
          refine ⟨k + 1, p8', c8, h8, by go_num, by omega, rfl, ?_, Lib.hid hst.out.2, Lib.hid hst.out.1⟩
          rw [hsu.out, lcells_snoc]
          exact hW8
        case measure => simp [intOf]; omega
    · obtain rfl : k = m := by omega
      have hWm := hWk.out
      rw [List.take_of_length_le (by have := hm'.out; omega)] at hWm
      have hf2 := Lib.hid (hfin.out ws hOs.out A cap h6 hWm (fun b hb => Nat.le_trans hO3.out.size (hnk.out b hb)))
      clear hWm
      go_wp2
      exact hf2.out
end Adm
end Go.Proofs.YtlbinlhaejhobaaGreatDoor
