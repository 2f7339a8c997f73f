/- section.Levels: the walk. -/
import Derived.Test.YtdoimkmhincmmaaLvl
namespace Go.Proofs.Ytdoimkmhincmmaa
namespace Sct
open Go Go.RowKit Lin Lck

theorem run_make_pairs (w : World) (n : Nat) (hn : n ≤ 1000000) : (Instr.makeSlice 81 (.int .i64 (n : Int)) (.int .i64 (n : Int))).run Try.prog w = .ok (.slice (some ⟨w.heap.size, 0, none⟩) n n) (w.alloc (.cells (List.replicate (n * 2) (Value.int .i64 0)).toArray 84)) := by
  have hinfo : (Try.prog.info? 84).map (fun i => (i.zero, i.size, i.bytes)) = some (some (.agg #[.int .i64 0, .int .i64 0]), 2, 16) := by kernel_rfl
  obtain ⟨i, hi, hzz⟩ := Option.map_eq_some_iff.1 hinfo
  simp only [Prod.mk.injEq] at hzz
  obtain ⟨hz, hs, hb⟩ := hzz
  have hr := run_make (P := Try.prog) w 81 84 i _ Try.underlying81 hi hz .i64 .i64 n n (by omega) (Int.le_refl _) (by rw [hb]; omega) (by omega)
  simp only [Int.toNat_natCast, hs] at hr
  rw [hr]
  have : madeCells (Value.agg #[Value.int .i64 0, Value.int .i64 0]).cells (n * 2) = (List.replicate (n * 2) (Value.int .i64 0)).toArray := by
    show madeCells #[Value.int .i64 0, Value.int .i64 0] (n * 2) = _
    unfold madeCells
    apply Array.ext_getElem?
    intro j
    simp only [Array.getElem?_map, Array.getElem?_range, List.getElem?_toArray, List.getElem?_replicate]
    by_cases h : j < n * 2
    · rw [if_pos h, if_pos h]
      have : j % 2 = 0 ∨ j % 2 = 1 := by omega
      rcases this with h2 | h2 <;> simp [h2]
    · rw [if_neg h, if_neg h]
      rfl
  rw [this]

/-- What Levels answers. -/
def LvsEnd (th : Int) (z : Nat → Int) (n : Nat) (l : List Opn) (w : World) (e : Ending) (w' : World) : Prop :=
  ∃ G, e = .returned (.slice (some ⟨G, 0, none⟩) l.length l.length) ∧ w.heap.size ≤ G ∧ w'.heap[G]? = some (.cells (pairs th z n l l.length l.length).toArray 84 (0, 0)) ∧ Only (fun _ => False) w w'
def ceZ (ce : List Int) (i : Nat) : Int := ce.getD i 0
theorem ce_row {w : World} {x : Sl} {ce : List Int} (h : IntsAt w x ce) : Row w x.A x.n (fun i => .int .i64 (ceZ ce i)) := fun k hk => by
  have hz : ce[k]? = some (ceZ ce k) := by
    unfold ceZ
    rw [List.getD_eq_getElem?_getD, List.getElem?_eq_getElem (by have := h.len; omega)]
    rfl
  obtain ⟨b, off, h1, h2, h3⟩ := h.at_ k _ hz
  exact ⟨b, off, h1, h3, h2⟩
theorem opn_row {w : World} {A : Option Addr} {l : List Opn} (h : OpnRow w A l) {k : Nat} {o : Opn} (ho : l[k]? = some o) : ∃ b off, A = some ⟨b, off, none⟩ ∧ b < w.heap.size ∧ w.cell? ⟨b, off + k * 3, none⟩ = some (.int .i64 o.k) ∧ w.cell? ⟨b, off + k * 3 + 1, none⟩ = some (.int .i64 o.a) ∧ w.cell? ⟨b, off + k * 3 + 2, none⟩ = some (.int .i64 o.b) := by
  obtain ⟨b, off, e, hb, c0, c1, c2⟩ := h k o ho
  exact ⟨b, off, e, hb, c0, c1, c2⟩

theorem lv_a {w2 w3 : World} {en : Nat} {zz : Nat → Int} {th : Int} (hL : LkAt w3 (w2.heap.size + 1) w2.heap.size en zz (fun _ => 0) (fun _ => false)) (hO : Only (fun _ => False) w2 w3) :
    ∃ a b g, Value.pointer (some ⟨w3.heap.size, 0, none⟩) = .pointer (some ⟨a, 0, none⟩) ∧ WkAt (w3.alloc (.cells #[.int .i64 th, .pointer (some ⟨w2.heap.size + 1, 0, none⟩), .int .i64 0] 95)) a b g en zz th st0 ∧ Only (fun _ => False) w2 (w3.alloc (.cells #[.int .i64 th, .pointer (some ⟨w2.heap.size + 1, 0, none⟩), .int .i64 0] 95)) ∧ w2.heap.size ≤ a ∧ w2.heap.size ≤ g := by
  have h1 := hL.lt
  refine ⟨_, w2.heap.size + 1, w2.heap.size, rfl, ⟨heap_new_at w3 _ rfl, hL.new ((Only.refl _ w3).alloc _), ?_, ?_⟩, hO.alloc _, hO.size, Nat.le_refl _⟩ <;> omega
theorem lv_b {w2 w3 : World} {en : Nat} {zz : Nat → Int} {th : Int} (hL : LkAt w3 (w2.heap.size + 1 + 1) (w2.heap.size + 1) en zz (fun _ => 0) (fun _ => false)) (hO : Only (fun _ => False) w2 w3) (hz : w3.heap[w2.heap.size]? = some (.cells #[.int .i64 0, .pointer none, .int .i64 0] 95 (0, 0))) :
    ∃ a b g, Value.pointer (some ⟨w2.heap.size, 0, none⟩) = .pointer (some ⟨a, 0, none⟩) ∧ WkAt (((w3.setCell ⟨w2.heap.size, 0, none⟩ (.int .i64 th)).setCell ⟨w2.heap.size, 1, none⟩ (.pointer (some ⟨w2.heap.size + 1 + 1, 0, none⟩))).setCell ⟨w2.heap.size, 2, none⟩ (.int .i64 0)) a b g en zz th st0 ∧ Only (fun _ => False) w2 (((w3.setCell ⟨w2.heap.size, 0, none⟩ (.int .i64 th)).setCell ⟨w2.heap.size, 1, none⟩ (.pointer (some ⟨w2.heap.size + 1 + 1, 0, none⟩))).setCell ⟨w2.heap.size, 2, none⟩ (.int .i64 0)) ∧ w2.heap.size ≤ a ∧ w2.heap.size ≤ g := by
  have s0 := row_set (L := [.int .i64 0, .pointer none, .int .i64 0]) hz 0 (.int .i64 th)
  have s1 := row_set s0 1 (.pointer (some ⟨w2.heap.size + 1 + 1, 0, none⟩))
  have s2 := row_set s1 2 (.int .i64 0)
  have o9 : Only (fun k => k = w2.heap.size) w3 (((w3.setCell ⟨w2.heap.size, 0, none⟩ (.int .i64 th)).setCell ⟨w2.heap.size, 1, none⟩ (.pointer (some ⟨w2.heap.size + 1 + 1, 0, none⟩))).setCell ⟨w2.heap.size, 2, none⟩ (.int .i64 0)) :=
    (((Only.refl (fun k => k = w2.heap.size) w3).setCell (p := ⟨w2.heap.size, 0, none⟩) (fun _ => rfl) _).setCell (p := ⟨w2.heap.size, 1, none⟩) (fun _ => rfl) _).setCell (p := ⟨w2.heap.size, 2, none⟩) (fun _ => rfl) _
  refine ⟨_, w2.heap.size + 1 + 1, w2.heap.size + 1, rfl, ⟨s2, hL.kept o9 (fun e => by omega) (fun e => by omega), ?_, ?_⟩, hO.trans o9 (fun x hx e => by omega), Nat.le_refl _, by omega⟩ <;> omega

set_option maxRecDepth 100000 in
set_option maxHeartbeats 4000000 in
theorem levels_any {w : World} {c : ConfV} {d : ConfL} {pl : Tks} (hC : ConfIn w c d pl) (hen : c.ce.n ≤ 4096) {i : Nat} {t : TaskV} {l : List Opn} (hi : pl[i]? = some (t, l)) (hl9 : l.length ≤ 1000) (htn : c.ta.n ≤ 1000000) :
    Calls Try.prog 69 #[c.val, .int .i64 (i : Int)] w (LvsEnd t.th (ceZ d.ce) c.ce.n l w) := by
  obtain ⟨Z, hZ⟩ : ∃ Z, Z = LvsEnd t.th (ceZ d.ce) c.ce.n l w := ⟨_, rfl⟩
  rw [← hZ]
  have hZ' := Lib.hid hZ
  clear hZ
  have hO := (Only.refl (fun _ => False) w).alloc (.cells c.cells.toArray 27)
  have hB := heap_new_at w (.cells c.cells.toArray 27) rfl
  obtain ⟨W1, hW1⟩ : ∃ W1, W1 = w.alloc (.cells c.cells.toArray 27) := ⟨_, rfl⟩
  rw [← hW1] at hB hO
  have hB' := Lib.hid hB
  have hO' := Lib.hid hO
  have hitn : i < c.ta.n := by
    have h1 := hC.t.len
    unfold Tks.ts at h1
    rw [List.length_map] at h1
    have := (List.getElem?_eq_some_iff.1 hi).1
    omega
  have hnew := Lib.hid (fun W (h : Only (fun _ => False) w W) => new_any W c.ce.A c.ce.n c.ce.cap (ceZ d.ce) hen (ce_row (hC.new h).ce))
  have hrow := Lib.hid (fun W (h : Only (fun _ => False) w W) => ((hC.new h).p i t l hi).1)
  have hln : l.length = t.o.n := (hC.p i t l hi).2.1
  obtain ⟨tb, toff, htA, htb, htC⟩ := (hC.new hO).t.at_ i t (ts_some hi)
  obtain ⟨q, hqq⟩ : ∃ q, q = w.heap.size := ⟨_, rfl⟩
  have hqq' := Lib.hid hqq
  rw [← hqq] at hB'
  clear hO hB hqq hC hi
  rw [show c.val = .agg #[.int .i64 c.s, .int .i64 c.wy, .int .i64 c.h, .int .i64 c.mi, .slice c.mb.A c.mb.n c.mb.cap, .int .i64 c.g, .slice c.cn.A c.cn.n c.cn.cap, .slice c.ce.A c.ce.n c.ce.cap, .slice c.ta.A c.ta.n c.ta.cap, .slice c.li.A c.li.n c.li.cap] from rfl]
  unfold ConfV.cells at hW1 hB'
  obtain ⟨s, wy, h, mi, ⟨mA, mn, mc⟩, g, ⟨cA, cn, cc⟩, ⟨eA, en, ec⟩, ⟨tA, tn, tc⟩, ⟨lA, ln, lc⟩⟩ := c
  dsimp only at *
  subst htA
  have hW1' := Lib.hid hW1
  clear hW1
  obtain ⟨tp, th, tpe, tde, tfr, tfl, ⟨oA, on, oc⟩⟩ := t
  dsimp only at *
  obtain ⟨zz, hzz⟩ : ∃ zz, zz = ceZ d.ce := ⟨_, rfl⟩
  rw [← hzz] at hnew hZ'
  clear hzz
  obtain ⟨c0, c1, c2, c3, c4, c5, c6⟩ := htC
  dsimp only at c0 c1 c2 c3 c4 c5 c6
  have e8 := row_cell hB'.out (i := 8) rfl
  have hqlt := row_lt hB'.out
  have hi0 : ¬ (i : Int) < 0 := by omega
  have hi1 : ¬ (tn : Int) ≤ (i : Int) := by omega
  have hi2 : (i : Int) < (tn : Int) := by omega
  go_enter Try.func69, Try.ntmps69
  go_upto_region 1 with fail
  rw [← hqq'.out, ← hW1'.out]
  go_upto_region 4 with fail
  obtain ⟨Y, hY⟩ : ∃ Y, Y = W1.heap.size := ⟨_, rfl⟩
  have hY' := Lib.hid hY
  clear hY
  rw [← hY'.out]
  generalize hw2 : W1.alloc (.cells #[.int .i64 tp, .int .i64 th, .int .i64 tpe, .int .i64 tde, .int .i64 tfr, .int .i64 tfl, .slice oA on oc] 38) = w2
  have hO2 := Lib.hid (show Only (fun _ => False) w w2 by rw [← hw2]; exact hO'.out.alloc _)
  have hB2 := Lib.hid (((Only.refl (fun _ => False) W1).alloc (.cells #[.int .i64 tp, .int .i64 th, .int .i64 tpe, .int .i64 tde, .int .i64 tfr, .int .i64 tfl, .slice oA on oc] 38)).heap hB'.out (fun h => h))
  rw [hw2] at hB2
  have hy2 := Lib.hid (show w2.heap[Y]? = some (.cells #[.int .i64 tp, .int .i64 th, .int .i64 tpe, .int .i64 tde, .int .i64 tfr, .int .i64 tfl, .slice oA on oc] 38 (0, 0)) by rw [← hw2]; exact heap_new_at _ _ hY'.out.symm)
  have hwY : w.heap.size ≤ Y ∧ Y < w2.heap.size := ⟨by rw [hY'.out]; exact hO'.out.size, row_lt hy2.out⟩
  clear hw2 e8 hqlt c0 c1 c2 c3 c4 c5 c6 htb hB' hO' hW1'
  have hkeep := Lib.hid (fun W0 (h0 : Only (fun _ => False) w2 W0) => show W0.cell? ⟨Y, 1, none⟩ = some (.int .i64 th) ∧ W0.cell? ⟨q, 7, none⟩ = some (.slice eA en ec) ∧ Y < W0.heap.size ∧ q < W0.heap.size from by
    have q1 := h0.heap hy2.out (fun h => h)
    have q2 := h0.heap hB2.out (fun h => h)
    exact ⟨row_cell (L := [.int .i64 tp, .int .i64 th, .int .i64 tpe, .int .i64 tde, .int .i64 tfr, .int .i64 tfl, .slice oA on oc]) q1 (i := 1) rfl, row_cell q2 (i := 7) rfl, row_lt q1, row_lt q2⟩)
  obtain ⟨k1, k2, k3, k4⟩ := hkeep.out _ (Only.refl _ _)
  have hnew2 := Lib.hid (fun W (h : Only (fun _ => False) w2 W) => hnew.out W (hO2.out.trans' h))
  have hfr := Lib.hid (fun (W0 W3 : World) (ho : Only (fun _ => False) W0 W3) (h : W0.heap[w2.heap.size]? = some (.cells #[.int .i64 0, .pointer none, .int .i64 0] 95 (0, 0))) => show W3.cell? ⟨w2.heap.size, 0, none⟩ = some (.int .i64 0) ∧ W3.cell? ⟨w2.heap.size, 1, none⟩ = some (.pointer none) ∧ W3.cell? ⟨w2.heap.size, 2, none⟩ = some (.int .i64 0) ∧ W3.frozen? ⟨w2.heap.size, 0, none⟩ = false ∧ W3.frozen? ⟨w2.heap.size, 1, none⟩ = false ∧ W3.frozen? ⟨w2.heap.size, 2, none⟩ = false ∧ w2.heap.size < W3.heap.size from by
    have q := ho.heap h (fun h => h)
    exact ⟨row_cell (L := [.int .i64 0, .pointer none, .int .i64 0]) q (i := 0) rfl, row_cell (L := [.int .i64 0, .pointer none, .int .i64 0]) q (i := 1) rfl, row_cell (L := [.int .i64 0, .pointer none, .int .i64 0]) q (i := 2) rfl, row_free (L := [.int .i64 0, .pointer none, .int .i64 0]) q 0, row_free (L := [.int .i64 0, .pointer none, .int .i64 0]) q 1, row_free (L := [.int .i64 0, .pointer none, .int .i64 0]) q 2, row_lt q⟩)
  go_cut [6] from 25 to 30 (fun v wd => ∃ a b g, v = .pointer (some ⟨a, 0, none⟩) ∧ WkAt wd a b g en zz th st0 ∧ Only (fun _ => False) w2 wd ∧ w2.heap.size ≤ a ∧ w2.heap.size ≤ g)
  case first =>
    go_region_held3 (fun W0 => W0.cell? ⟨Y, 1, none⟩ = some (.int .i64 th) ∧ W0.cell? ⟨q, 7, none⟩ = some (.slice eA en ec) ∧ Y < W0.heap.size ∧ q < W0.heap.size)
      (exact hkeep.out _ (by repeat (first | assumption | exact Only.refl _ _ | apply Only.drew | apply Only.alloc | (refine Only.setCell ?_ (fun h => (Nat.lt_irrefl _ h).elim) _) | (refine Only.setCell ?_ (fun h => absurd h (Nat.not_lt.2 hO3.size)) _))))
      (first
        | (go_at_call 78; (with_reducible refine (hnew2.out _ (by repeat (first | assumption | exact Only.refl _ _ | apply Only.drew | apply Only.alloc))).mono ?_); rintro _ w3 ⟨rfl, hL3, ho3⟩; have hO3 : Only (fun _ => False) w2 w3 := Only.trans' (by repeat (first | assumption | exact Only.refl _ _ | apply Only.drew | apply Only.alloc)) ho3; have hL3' := Lib.hid hL3; (first | (have hfr9 := hfr.out _ _ ho3 (heap_new_at _ _ rfl); obtain ⟨z0, z1, z2, f0, f1, f2, zl⟩ := hfr9; have hz9 := Lib.hid (ho3.heap (heap_new_at w2 (.cells #[.int .i64 0, .pointer none, .int .i64 0] 95) rfl) (fun h => h))) | skip); clear hL3 ho3))
    all_goals
      go_wp2
      go_meet
      case rel => first | exact lv_a hL3'.out hO3 | exact lv_b (by simpa using hL3'.out) hO3 hz9.out
  obtain ⟨a, b, g9, rfl, hk, hO3, ha, hg⟩ := hcut
  have hk' := Lib.hid hk
  have hO3' := Lib.hid hO3
  have hyc := Lib.hid (hO3.heap hy2.out (fun h => h))
  clear hk hO3 hkeep hnew hnew2 k1 k2 k3 k4 hfr
  have y6 := row_cell (L := [.int .i64 tp, .int .i64 th, .int .i64 tpe, .int .i64 tde, .int .i64 tfr, .int .i64 tfl, .slice oA on oc]) hyc.out (i := 6) rfl
  have hyl := row_lt hyc.out
  obtain ⟨G, hG⟩ : ∃ G, G = wc.heap.size := ⟨_, rfl⟩
  have hG' := Lib.hid hG
  clear hG
  have mk := fun W0 : World => run_make_pairs W0 on (by omega)
  go_wp2_with fail
  rw [← hG'.out]
  clear mk
  obtain ⟨w5, hw5⟩ : ∃ w5, w5 = wc.alloc (.cells (Array.replicate (on * 2) (Value.int .i64 0)) 84) := ⟨_, rfl⟩
  rw [← hw5]
  have hr5 := Lib.hid (show w5.heap[G]? = some (.cells (pairs th zz en l on 0).toArray 84 (0, 0)) by rw [hw5, pairs_zero, List.toArray_replicate]; exact heap_new_at _ _ hG'.out.symm)
  have hOc5 : Only (fun _ => False) wc w5 := by rw [hw5]; exact (Only.refl _ _).alloc _
  have hO5 := Lib.hid (hO2.out.trans' (hO3'.out.trans' hOc5))
  have hk5 := Lib.hid (hk'.out.new hOc5)
  have hy5 := Lib.hid (hyc.out |> fun h => hOc5.heap h (fun h => h))
  have hGs : w2.heap.size ≤ G ∧ a ≠ G ∧ g9 ≠ G ∧ b ≠ G := by
    have h1 := hO3'.out.size
    have h2 := hG'.out
    have h3 := row_lt hk'.out.box
    have h4 := hk'.out.lk.lt
    omega
  have hYn : Y < w2.heap.size := hwY.2
  have hww := Lib.hid (show w.heap.size ≤ w2.heap.size from hO2.out.size)
  have hqy := Lib.hid (And.intro ha hg)
  clear hOc5 hw5 hyc hk' hO3' y6 hyl ha hg hY'
  refine (wlevel_any hk5.out hen (by simp [st0])).mono ?_
  rintro e w6 ⟨rfl, hO6⟩
  have hl0 : levS th zz en st0 = levK th zz en l 0 := by unfold levK stS; simp
  rw [hl0]
  have hr6 := Lib.hid (hO6.heap hr5.out (fun h => h))
  have hk6 := Lib.hid (hk5.out.new hO6)
  have hy6 := Lib.hid (hO6.heap hy5.out (fun h => h))
  have hO6' := Lib.hid (hO5.out.trans' hO6)
  have y6 := row_cell (L := [.int .i64 tp, .int .i64 th, .int .i64 tpe, .int .i64 tde, .int .i64 tfr, .int .i64 tfl, .slice oA on oc]) hy6.out (i := 6) rfl
  have hyl := row_lt hy6.out
  have hln' := Lib.hid hln
  have hon9 : on ≤ 1000 := by omega
  obtain ⟨LV, hLV⟩ : ∃ LV, LV = levK th zz en l := ⟨_, rfl⟩
  rw [← hLV]
  have hLV' := Lib.hid hLV
  clear hO6 hk5 hr5 hy5 hO5 hl0 hln hLV
  go_wp2_with fail
  go_loopw [8, 39] (fun v i' wr => ∃ k : Nat, k ≤ on ∧ i' = .int .i64 k ∧ v = .int .i64 (LV k) ∧ wr.heap[G]? = some (.cells (pairs th zz en l on k).toArray 84 (0, 0)) ∧ WkAt wr a b g9 en zz th (stS (l.take k)) ∧ Only (fun x => x = a ∨ x = g9 ∨ x = G) w6 wr) (fun _ i' _ => on - (intOf i').toNat)
  case atStart => exact ⟨0, Nat.zero_le _, rfl, rfl, hr6.out, by simpa [stS] using hk6.out, Only.refl _ _⟩
  case round =>
    obtain ⟨k, hk, rfl, rfl, hr, hK, hO⟩ := hrel
    obtain ⟨ws, hws⟩ : ∃ ws : World, ws = wr := ⟨_, rfl⟩
    subst hws
    have hr' := Lib.hid hr
    have hK' := Lib.hid hK
    have hOs := Lib.hid hO
    have hOw := Lib.hid (show Only (fun _ => False) w ws from hO6'.out.trans hO (fun x hx e => by have h1 := hqy.out; have h2 := hww.out; omega))
    clear hr hK hO
    by_cases hkn : k < on
    · have hkn' : (k : Int) < (on : Int) := by omega
      obtain ⟨o, ho⟩ : ∃ o, l[k]? = some o := ⟨_, List.getElem?_eq_getElem (by have := hln'.out; omega)⟩
      obtain ⟨vb, voff, hvA, hvb, c0, c1, c2⟩ := opn_row (hrow.out _ hOw.out) ho
      subst hvA
      have hst := Lib.hid (stS_succ ho)
      have hrg := reg_take l k
      have hlevs := Lib.hid (show levS th zz en (doS (stS (l.take k)) o) = LV (k + 1) by rw [hLV'.out]; unfold levK; rw [stS_succ ho])
      have hdo := Lib.hid (fun W (h : Only (fun _ => False) ws W) => wdo_any (hK'.out.new h) (by omega) o)
      unfold Opn.val at hdo
      obtain ⟨ok, oa, ob⟩ := o
      dsimp only at c0 c1 c2 hdo
      have hOa := Lib.hid ((Only.refl (fun _ => False) ws).alloc (.cells #[.int .i64 ok, .int .i64 oa, .int .i64 ob] 48))
      clear ho
      go_wp2_with fail
      refine (hdo.out _ hOa.out).mono ?_
      rintro e w7 ⟨rfl, hK7, hO7⟩
      have hK7' := Lib.hid hK7
      have hr7 := Lib.hid (hO7.heap (hOa.out.heap hr'.out (fun h => h)) (by omega))
      have hO7' := Lib.hid (hOs.out.trans' ((hOa.out.mono (fun _ _ h => h.elim)).trans hO7 (fun x _ e => by rcases e with e | e <;> simp [e])))
      have hlev := Lib.hid (wlevel_any hK7 hen (by have := reg_take l (k + 1); rw [hst.out] at this; omega))
      rw [hlevs.out] at hlev
      clear hK7 hO7 hdo c0 c1 c2
      go_wp2_with fail
      refine hlev.out.mono ?_
      rintro e w8 ⟨rfl, hO8⟩
      have hr8 := Lib.hid (hO8.heap hr7.out (fun h => h))
      have hK8 := Lib.hid (hK7'.out.new hO8)
      have hO8' := Lib.hid (hO7'.out.trans hO8 (fun _ _ h => h.elim))
      clear hO8 hlev
      have hpl := pairs_len th zz en l on k
      have g0 : ∃ u0, w8.cell? ⟨G, k * 2, none⟩ = some u0 := ⟨_, row_cell hr8.out (List.getElem?_eq_getElem (by omega))⟩
      have g1 : ∃ u1, w8.cell? ⟨G, k * 2 + 1, none⟩ = some u1 := ⟨_, row_cell hr8.out (List.getElem?_eq_getElem (by omega))⟩
      obtain ⟨u0, g0⟩ := g0
      obtain ⟨u1, g1⟩ := g1
      have f0 := row_free hr8.out (k * 2)
      have f1 := row_free hr8.out (k * 2 + 1)
      have hGl := row_lt hr8.out
      clear hpl
      have hps := Lib.hid (pairs_set (th := th) (z := zz) (n := en) (l := l) hkn)
      rw [← hLV'.out] at hps
      have ho9 := Lib.hid (fun (v0 v1 : Value) => show Only (fun x => x = G) w8 ((w8.setCell ⟨G, k * 2, none⟩ v0).setCell ⟨G, k * 2 + 1, none⟩ v1) from ((Only.refl (fun x => x = G) w8).setCell (p := ⟨G, k * 2, none⟩) (fun _ => rfl) v0).setCell (p := ⟨G, k * 2 + 1, none⟩) (fun _ => rfl) v1)
      go_wp2
      go_roundw
      case rel =>
        refine ⟨k + 1, by omega, by go_num, rfl, ?_, ?_, ?_⟩
        · rw [← hps.out]
          exact row_set (row_set hr8.out _ _) _ _
        · rw [hst.out]
          exact hK8.out.kept (ho9.out _ _) (by omega) (by omega) (by omega)
        · exact hO8'.out.trans (ho9.out _ _) (fun x _ e => .inr (.inr e))
      case measure => simp [intOf]; omega
    · obtain rfl : k = on := by omega
      have hkn' : ¬ (k : Int) < (k : Int) := by omega
      have hfin := Lib.hid (show Z (.returned (.slice (some ⟨G, 0, none⟩) k k)) ws from by
        rw [hZ'.out]
        refine ⟨G, by rw [hln'.out], by have := hww.out; omega, ?_, hOw.out⟩
        rw [hln'.out]
        exact hr'.out)
      go_wp2
      exact hfin.out
end Sct
end Go.Proofs.Ytdoimkmhincmmaa
