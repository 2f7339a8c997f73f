/- reload.Bound and Cost. -/
import Derived.Test.YteeleelkepjoaaaTou
namespace Go.Proofs.Yteeleelkepjoaaa
namespace Rld
open Go Go.RowKit Rca Srt

/-- The sum over the first k sets. -/
def bndU (W : Int) (T : Nat → Bool) (L : Nat → Nat) : Nat → Int
  | 0 => 0
  | k + 1 => bndU W T L k + (if T k then min W (L k : Int) else 0)
theorem bndU_bound {W : Int} {T : Nat → Bool} {L : Nat → Nat} (hW : 0 ≤ W) (hW2 : W ≤ 1000) : ∀ {k : Nat}, 0 ≤ bndU W T L k ∧ bndU W T L k ≤ 1000 * (k : Int)
  | 0 => by simp [bndU]
  | k + 1 => by
    have := bndU_bound (T := T) (L := L) hW hW2 (k := k)
    unfold bndU
    split <;> omega
/-- What Bound answers. -/
def bndZ (c : ConfV) (pl : Tks) (S : Nat) (th : Int) (l : List Opn) : Int := bndU c.wy (touB S pl (aboU pl.ts th c.ta.n)) (loadS S l) S

set_option maxRecDepth 100000 in
set_option maxHeartbeats 4000000 in
theorem bound_any {w : World} {c : ConfV} {pl : Tks} {S : Nat} (hc : CfOk w c pl S) (hw0 : 0 ≤ c.wy) (hw1 : c.wy ≤ 1000) {i : Nat} {t : TaskV} {l : List Opn} (hi : pl[i]? = some (t, l)) :
    Calls Try.prog 13 #[c.val, .int .i64 (i : Int)] w (AnsI (bndZ c pl S t.th l) w) := by
  obtain ⟨V, hV⟩ : ∃ V, V = bndZ c pl S t.th l := ⟨_, rfl⟩
  rw [← hV]
  have hV' := Lib.hid hV
  clear hV
  have hO := (Only.refl (fun _ => False) w).alloc (.cells c.cells.toArray 27)
  have hB := heap_new_at w (.cells c.cells.toArray 27) rfl
  obtain ⟨W1, hW1⟩ : ∃ W1, W1 = w.alloc (.cells c.cells.toArray 27) := ⟨_, rfl⟩
  rw [← hW1] at hB hO
  have hB' := Lib.hid hB
  have hO' := Lib.hid hO
  have hlen' := Lib.hid (show pl.length = c.ta.n by have := hc.t.len; unfold Tks.ts at this; simpa using this)
  have hip : i < pl.length := (List.getElem?_eq_some_iff.1 hi).1
  have hq := Lib.hid (fun W => show Calls Try.prog 33 #[c.val, .int .i64 (i : Int)] W (GrowB true W) from by
    have h1 := has_any W c (i : Int)
    have h2 : hasT c.ta.n (i : Int) = true := by unfold hasT; have := hlen'.out; simp; omega
    rwa [h2] at h1)
  have hab := Lib.hid (fun W (h : Only (fun _ => False) w W) => above_any (hc.new h).t hc.n (ts_some hi))
  have hto := Lib.hid (fun W (h : Only (fun _ => False) w W) (A : Option Addr) (n cap : Nat) (hT : Option Nat) (hW : Win W 3 1 (.slice A n cap) hT n (dat (aboU pl.ts t.th c.ta.n))) (hn : n ≤ 1000000) => touched_any (hc.new h) hW (fun i hi => by have := (aboU_mem.1 hi).1; have := hlen'.out; omega) hn)
  have hld := Lib.hid (fun W (h : Only (fun _ => False) w W) => loads_any (cap := t.o.cap) ((hc.p.row i t l hi).1.new h) (hc.p.row i t l hi).2.1 (hc.p.row i t l hi).2.2.1 (hc.ok i t l hi) S c.wy c.h c.mi hc.s1 hc.s2)
  have hta := Lib.hid (fun W (h : Only (fun _ => False) w W) => (hc.t.new h).at_ i t (ts_some hi))
  have hal := Lib.hid (Nat.le_trans (aboU_len pl.ts t.th c.ta.n) hc.n)
  obtain ⟨T, hT⟩ : ∃ T, T = touB S pl (aboU pl.ts t.th c.ta.n) := ⟨_, rfl⟩
  obtain ⟨L, hL⟩ : ∃ L, L = loadS S l := ⟨_, rfl⟩
  have hL9 : ∀ j, L j ≤ 1000000 := by
    intro j
    rw [hL]
    have h1 := loadN_le S (Lru.dd (accN l)) j
    have h2 := Lru.nodup_le (Lru.dd_nodup (accN l)) (fun x hx => Lru.dd_mem.1 hx)
    have h3 := accN_len l
    have h4 := (hc.p.row i t l hi).2.1
    have h5 := (hc.p.row i t l hi).2.2.1
    unfold loadS
    omega
  have hL9' := Lib.hid hL9
  have hVV := Lib.hid (show V = bndU c.wy T L S by rw [hV'.out, hT, hL]; rfl)
  have hT' := Lib.hid hT
  have hL' := Lib.hid hL
  have hss := hc.s
  have hs1 := hc.s1
  have hs2 := hc.s2
  have hnn := hc.n
  obtain ⟨q, hqq⟩ : ∃ q, q = w.heap.size := ⟨_, rfl⟩
  have hqq' := Lib.hid hqq
  rw [← hqq] at hB'
  clear hO hB hqq hc hi hT hL hL9 hV'
  rw [show c.val = .agg #[.int .i64 c.s, .int .i64 c.wy, .int .i64 c.h, .int .i64 c.mi, .slice c.mb.A c.mb.n c.mb.cap, .int .i64 c.g, .slice c.cn.A c.cn.n c.cn.cap, .slice c.ce.A c.ce.n c.ce.cap, .slice c.ta.A c.ta.n c.ta.cap, .slice c.li.A c.li.n c.li.cap] from rfl] at hq hab hto ⊢
  unfold ConfV.cells at hW1 hB'
  obtain ⟨s, wy, h, mi, ⟨mA, mn, mc⟩, g, ⟨cA, cn, cc⟩, ⟨eA, en, ec⟩, ⟨tA, tn, tc⟩, ⟨lA, ln, lc⟩⟩ := c
  dsimp only at *
  subst hss
  have hW1' := Lib.hid hW1
  clear hW1
  obtain ⟨AB, hAB⟩ : ∃ AB, AB = aboU pl.ts t.th tn := ⟨_, rfl⟩
  rw [← hAB] at hab hto hal hT'
  obtain ⟨na, hna⟩ : ∃ na, na = AB.length := ⟨_, rfl⟩
  have hna' := Lib.hid hna
  clear hAB hna
  have e0 := row_cell hB'.out (i := 0) rfl
  have e1 := row_cell hB'.out (i := 1) rfl
  have e2 := row_cell hB'.out (i := 2) rfl
  have e3 := row_cell hB'.out (i := 3) rfl
  have e4 := row_cell hB'.out (i := 4) rfl
  have e5 := row_cell hB'.out (i := 5) rfl
  have e6 := row_cell hB'.out (i := 6) rfl
  have e7 := row_cell hB'.out (i := 7) rfl
  have e8 := row_cell hB'.out (i := 8) rfl
  have e9 := row_cell hB'.out (i := 9) rfl
  have hqlt := row_lt hB'.out
  go_enter Try.func13, Try.ntmps13
  go_wp2_with fail
  rw [← hqq'.out, ← hW1'.out]
  go_wp2_with fail
  refine (hq.out _).mono ?_
  rintro e w2 ⟨rfl, hO2⟩
  have hO2' := Lib.hid (hO'.out.trans' hO2)
  have hB2 := Lib.hid (hO2.heap hB'.out (fun h => h))
  clear e0 e1 e2 e3 e4 e5 e6 e7 e8 e9 hqlt hO2
  have hkeep := Lib.hid (fun W0 (h0 : Only (fun _ => False) w2 W0) => show W0.cell? ⟨q, 0, none⟩ = some (.int .i64 (S : Int)) ∧ W0.cell? ⟨q, 1, none⟩ = some (.int .i64 wy) ∧ W0.cell? ⟨q, 2, none⟩ = some (.int .i64 h) ∧ W0.cell? ⟨q, 3, none⟩ = some (.int .i64 mi) ∧ W0.cell? ⟨q, 4, none⟩ = some (.slice mA mn mc) ∧ W0.cell? ⟨q, 5, none⟩ = some (.int .i64 g) ∧ W0.cell? ⟨q, 6, none⟩ = some (.slice cA cn cc) ∧ W0.cell? ⟨q, 7, none⟩ = some (.slice eA en ec) ∧ W0.cell? ⟨q, 8, none⟩ = some (.slice tA tn tc) ∧ W0.cell? ⟨q, 9, none⟩ = some (.slice lA ln lc) ∧ q < W0.heap.size from by
    have z := h0.heap hB2.out (fun h => h)
    exact ⟨row_cell z (i := 0) rfl, row_cell z (i := 1) rfl, row_cell z (i := 2) rfl, row_cell z (i := 3) rfl, row_cell z (i := 4) rfl, row_cell z (i := 5) rfl, row_cell z (i := 6) rfl, row_cell z (i := 7) rfl, row_cell z (i := 8) rfl, row_cell z (i := 9) rfl, row_lt z⟩)
  obtain ⟨e0, e1, e2, e3, e4, e5, e6, e7, e8, e9, hqlt⟩ := hkeep.out _ (Only.refl _ _)
  have hab2 := Lib.hid (fun W (h : Only (fun _ => False) w2 W) => hab.out W (hO2'.out.trans' h))
  have hto2 := Lib.hid (fun W (h : Only (fun _ => False) w2 W) (A : Option Addr) (cap : Nat) (hT : Option Nat) (hW : Win W 3 1 (.slice A na cap) hT na (dat AB)) => hto.out W (hO2'.out.trans' h) A _ cap hT hW (by rw [hna'.out]; exact hal.out))
  have hab3 := Lib.hid (fun (e : Ending) (W w' : World) (hR : RowEnd W AB e w') => show ∃ p c h, e = .returned (.slice p na c) ∧ Win w' 3 1 (.slice p na c) h na (dat AB) ∧ Only (fun _ => False) W w' from by
    obtain ⟨p, c, h, h1, h2, _, h4⟩ := hR
    rw [hna'.out]
    exact ⟨p, c, h, h1, h2, h4⟩)
  have hto3 := Lib.hid (fun (e : Ending) (W w' : World) (hR : TouEnd S pl AB W e w') => show ∃ g, e = .returned (.slice (some ⟨g, 0, none⟩) S S) ∧ w'.heap[g]? = some (.cells (brow S T).toArray 4 (0, 0)) ∧ Only (fun _ => False) W w' from by
    obtain ⟨g, h1, _, h3, h4⟩ := hR
    rw [hT'.out]
    exact ⟨g, h1, h3, h4⟩)
  clear hab hto
  go_wp2_with fail
  go_region_held3 (fun W0 => W0.cell? ⟨q, 0, none⟩ = some (.int .i64 (S : Int)) ∧ W0.cell? ⟨q, 1, none⟩ = some (.int .i64 wy) ∧ W0.cell? ⟨q, 2, none⟩ = some (.int .i64 h) ∧ W0.cell? ⟨q, 3, none⟩ = some (.int .i64 mi) ∧ W0.cell? ⟨q, 4, none⟩ = some (.slice mA mn mc) ∧ W0.cell? ⟨q, 5, none⟩ = some (.int .i64 g) ∧ W0.cell? ⟨q, 6, none⟩ = some (.slice cA cn cc) ∧ W0.cell? ⟨q, 7, none⟩ = some (.slice eA en ec) ∧ W0.cell? ⟨q, 8, none⟩ = some (.slice tA tn tc) ∧ W0.cell? ⟨q, 9, none⟩ = some (.slice lA ln lc) ∧ q < W0.heap.size)
    (exact hkeep.out _ (by repeat (first | assumption | exact Only.refl _ _ | apply Only.drew)))
    (first
      | (go_at_call 26; (with_reducible refine (hab2.out _ (by repeat (first | assumption | exact Only.refl _ _ | apply Only.drew))).mono ?_); intro e3 w3 hR3; obtain ⟨p3, c3, h3, rfl, hW3, ho3⟩ := hab3.out _ _ _ hR3; clear hR3; have hO3 : Only (fun _ => False) w2 w3 := Only.trans' (by repeat (first | assumption | exact Only.refl _ _ | apply Only.drew)) ho3; have hW3' := Lib.hid hW3; clear hW3)
      | (go_at_call 27; (with_reducible refine (hto2.out _ (by repeat (first | assumption | exact Only.refl _ _ | apply Only.drew)) _ _ _ (by first | exact hW3'.out | exact hW3'.out.same rfl)).mono ?_); intro e4 w4 hR4; obtain ⟨g4, rfl, hrow4, ho4⟩ := hto3.out _ _ _ hR4; clear hR4; have hO4 : Only (fun _ => False) w2 w4 := Only.trans' (by repeat (first | assumption | exact Only.refl _ _ | apply Only.drew)) ho4; have hrow4' := Lib.hid hrow4; clear hrow4))
  have hO4' := Lib.hid hO4
  clear e0 e1 e2 e3 e4 e5 e6 e7 e8 e9 hqlt hkeep hab2 hto2 hab3 hto3 hO3 ho3 ho4 hO4 hW3'
  have hB4 := Lib.hid (hO4'.out.heap hB2.out (fun h => h))
  obtain ⟨b, off, hA, hb, hC⟩ := hta.out _ (hO2'.out.trans' hO4'.out)
  subst hA
  have htn' : (i : Int) < (tn : Int) := by have := hlen'.out; omega
  have hkeep := Lib.hid (fun W0 (h0 : Only (fun _ => False) w4 W0) => show W0.cell? ⟨q, 8, none⟩ = some (.slice (some ⟨b, off, none⟩) tn tc) ∧ W0.cell? ⟨b, off + i * 7 + 6, none⟩ = some (.slice t.o.A t.o.n t.o.cap) ∧ W0.cell? ⟨q, 0, none⟩ = some (.int .i64 (S : Int)) ∧ W0.cell? ⟨q, 1, none⟩ = some (.int .i64 wy) ∧ W0.cell? ⟨q, 2, none⟩ = some (.int .i64 h) ∧ W0.cell? ⟨q, 3, none⟩ = some (.int .i64 mi) ∧ q < W0.heap.size ∧ b < W0.heap.size from by
    have z := h0.heap hB4.out (fun h => h)
    exact ⟨row_cell z (i := 8) rfl, h0.cell hC.c6 (fun h => h), row_cell z (i := 0) rfl, row_cell z (i := 1) rfl, row_cell z (i := 2) rfl, row_cell z (i := 3) rfl, row_lt z, Nat.lt_of_lt_of_le hb h0.size⟩)
  have hld2 := Lib.hid (fun W (h : Only (fun _ => False) w4 W) => hld.out W (hO2'.out.trans' (hO4'.out.trans' h)))
  obtain ⟨f8, f6, f0, f1, f2, f3, fq, fb⟩ := hkeep.out _ (Only.refl _ _)
  clear hC hb
  go_wp2_with fail
  go_region_held3 (fun W' => W'.cell? ⟨q, 8, none⟩ = some (.slice (some ⟨b, off, none⟩) tn tc) ∧ W'.cell? ⟨b, off + i * 7 + 6, none⟩ = some (.slice t.o.A t.o.n t.o.cap) ∧ W'.cell? ⟨q, 0, none⟩ = some (.int .i64 (S : Int)) ∧ W'.cell? ⟨q, 1, none⟩ = some (.int .i64 wy) ∧ W'.cell? ⟨q, 2, none⟩ = some (.int .i64 h) ∧ W'.cell? ⟨q, 3, none⟩ = some (.int .i64 mi) ∧ q < W'.heap.size ∧ b < W'.heap.size)
    (exact hkeep.out _ (by repeat (first | assumption | exact Only.refl _ _ | apply Only.drew)))
    (first
      | (go_at_call 24; (with_reducible refine (hld2.out _ (by repeat (first | assumption | exact Only.refl _ _ | apply Only.drew))).mono ?_); rintro _ w5 ⟨g3, rfl, hge3, hrow3, ho5⟩; have hO5 : Only (fun _ => False) w4 w5 := Only.trans' (by repeat (first | assumption | exact Only.refl _ _ | apply Only.drew)) ho5; have hrow3' := Lib.hid hrow3; clear hrow3 hge3 ho5))
  have hrT := Lib.hid (hO5.heap hrow4'.out (fun h => h))
  have hB5 := Lib.hid (hO5.heap hB4.out (fun h => h))
  have hO5w := Lib.hid (hO2'.out.trans' (hO4'.out.trans' hO5))
  clear f8 f6 f0 f1 f2 f3 fq fb hkeep hld2 hO5 hB4
  go_wp2
  go_loopw [6, 28] (fun v i' wr => ∃ k : Nat, k ≤ S ∧ i' = .int .i64 k ∧ v = .int .i64 (bndU wy T L k) ∧ w5 = wr) (fun _ i' _ => S - (intOf i').toNat)
  case atStart => exact ⟨0, Nat.zero_le _, rfl, rfl, rfl⟩
  case round =>
    obtain ⟨k, hk, rfl, rfl, rfl⟩ := hrel
    have hlt5 := row_lt hB5.out
    by_cases hkS : k < S
    · have hkS' : (k : Int) < (S : Int) := by omega
      have c3 := row_cell hrow3'.out (show (loadsL S l)[k]? = some (.int .i64 (L k : Int)) by unfold loadsL; rw [List.getElem?_map, List.getElem?_range hkS, hL'.out]; rfl)
      have hl3 := row_lt hrow3'.out
      have cT := row_cell hrT.out (brow_at (f := T) hkS)
      have hlT := row_lt hrT.out
      have cw := row_cell hB5.out (i := 1) rfl
      have hx9 := hL9'.out k
      obtain ⟨x, hx⟩ : ∃ x, x = L k := ⟨_, rfl⟩
      obtain ⟨B, hBB⟩ : ∃ B, B = T k := ⟨_, rfl⟩
      rw [← hx] at c3 hx9
      rw [← hBB] at cT
      have hsu := Lib.hid (show bndU wy T L (k + 1) = bndU wy T L k + (if B then min wy (x : Int) else 0) by rw [bndU, hBB, hx])
      obtain ⟨z1, z2⟩ := bndU_bound (T := T) (L := L) hw0 hw1 (k := k)
      obtain ⟨z, hz⟩ : ∃ z, z = bndU wy T L k := ⟨_, rfl⟩
      rw [← hz] at hsu z1 z2 ⊢
      clear hz hBB hx
      cases B
      · go_wp2
        go_roundw
        case rel => exact ⟨k + 1, by omega, by go_num, by rw [hsu.out]; simp, by simp⟩
        case measure => simp [intOf]; omega
      · have hmn : min wy (x : Int) ≤ 1000 := by omega
        have hmn0 : 0 ≤ min wy (x : Int) := by omega
        obtain ⟨y, hy⟩ : ∃ y, y = min wy (x : Int) := ⟨_, rfl⟩
        have hrun := Lib.hid hy
        rw [← hy] at hmn hmn0
        clear hy
        go_wp2
        go_roundw
        case rel => exact ⟨k + 1, by omega, by go_num, by rw [hsu.out]; simp, by simp⟩
        case measure => simp [intOf]; omega
    · obtain rfl : k = S := by omega
      have hkS' : ¬ (k : Int) < (k : Int) := by omega
      rw [← hVV.out]
      have hend := Lib.hid (show AnsI V w (.returned (.int .i64 V)) w5 from ⟨rfl, hO5w.out⟩)
      go_wp2
      go_ret
      exact hend.out

/-- Of no task: 0. -/
theorem bound_none {w : World} {c : ConfV} {z : Int} (hz : hasT c.ta.n z = false) : Calls Try.prog 13 #[c.val, .int .i64 z] w (AnsI 0 w) := by
  have hO := (Only.refl (fun _ => False) w).alloc (.cells c.cells.toArray 27)
  have hB := heap_new_at w (.cells c.cells.toArray 27) rfl
  obtain ⟨W1, hW1⟩ : ∃ W1, W1 = w.alloc (.cells c.cells.toArray 27) := ⟨_, rfl⟩
  rw [← hW1] at hB hO
  have hO' := Lib.hid hO
  have hq := Lib.hid (fun W => has_any W c z)
  rw [hz] at hq
  have e0 := row_cell hB (i := 0) rfl
  have e1 := row_cell hB (i := 1) rfl
  have e2 := row_cell hB (i := 2) rfl
  have e3 := row_cell hB (i := 3) rfl
  have e4 := row_cell hB (i := 4) rfl
  have e5 := row_cell hB (i := 5) rfl
  have e6 := row_cell hB (i := 6) rfl
  have e7 := row_cell hB (i := 7) rfl
  have e8 := row_cell hB (i := 8) rfl
  have e9 := row_cell hB (i := 9) rfl
  have hqlt := row_lt hB
  clear hB hO hz
  rw [show c.val = .agg #[.int .i64 c.s, .int .i64 c.wy, .int .i64 c.h, .int .i64 c.mi, .slice c.mb.A c.mb.n c.mb.cap, .int .i64 c.g, .slice c.cn.A c.cn.n c.cn.cap, .slice c.ce.A c.ce.n c.ce.cap, .slice c.ta.A c.ta.n c.ta.cap, .slice c.li.A c.li.n c.li.cap] from rfl] at hq ⊢
  unfold ConfV.cells at hW1
  obtain ⟨s, wy, h, mi, ⟨mA, mn, mc⟩, g, ⟨cA, cn, cc⟩, ⟨eA, en, ec⟩, ⟨tA, n, tc⟩, ⟨lA, ln, lc⟩⟩ := c
  dsimp only at *
  have hW1' := Lib.hid hW1
  clear hW1
  go_enter Try.func13, Try.ntmps13
  go_wp2_with fail
  rw [← hW1'.out]
  go_wp2_with fail
  refine (hq.out _).mono ?_
  rintro e W2 ⟨rfl, hOx⟩
  have hO2' := Lib.hid (hO'.out.trans' hOx)
  clear hOx
  go_wp2
  go_ret
  exact ⟨rfl, hO2'.out⟩

def costZ (b h mi : Int) : Int := b * max (clZ mi - clZ h) 0
set_option maxRecDepth 100000 in
set_option maxHeartbeats 4000000 in
theorem cost_any {w : World} {c : ConfV} {z B : Int} (hb : ∀ W, Only (fun _ => False) w W → Calls Try.prog 13 #[c.val, .int .i64 z] W (AnsI B W)) (hB0 : 0 ≤ B) (hB9 : B ≤ 1000000) :
    Calls Try.prog 28 #[c.val, .int .i64 z] w (AnsI (costZ B c.h c.mi) w) := by
  have hO := (Only.refl (fun _ => False) w).alloc (.cells c.cells.toArray 27)
  have hB := heap_new_at w (.cells c.cells.toArray 27) rfl
  obtain ⟨W1, hW1⟩ : ∃ W1, W1 = w.alloc (.cells c.cells.toArray 27) := ⟨_, rfl⟩
  rw [← hW1] at hB hO
  have hB' := Lib.hid hB
  have hO' := Lib.hid hO
  have hb' := Lib.hid hb
  obtain ⟨Z, hZ⟩ : ∃ Z, Z = AnsI (costZ B c.h c.mi) w := ⟨_, rfl⟩
  rw [← hZ]
  have hZ' := Lib.hid hZ
  clear hB hO hb hZ
  rw [show c.val = .agg #[.int .i64 c.s, .int .i64 c.wy, .int .i64 c.h, .int .i64 c.mi, .slice c.mb.A c.mb.n c.mb.cap, .int .i64 c.g, .slice c.cn.A c.cn.n c.cn.cap, .slice c.ce.A c.ce.n c.ce.cap, .slice c.ta.A c.ta.n c.ta.cap, .slice c.li.A c.li.n c.li.cap] from rfl] at hb' ⊢
  unfold ConfV.cells at hW1 hB'
  obtain ⟨s, wy, h, mi, ⟨mA, mn, mc⟩, g, ⟨cA, cn, cc⟩, ⟨eA, en, ec⟩, ⟨tA, n, tc⟩, ⟨lA, ln, lc⟩⟩ := c
  dsimp only at *
  have hW1' := Lib.hid hW1
  clear hW1
  have e0 := row_cell hB'.out (i := 0) rfl
  have e1 := row_cell hB'.out (i := 1) rfl
  have e2 := row_cell hB'.out (i := 2) rfl
  have e3 := row_cell hB'.out (i := 3) rfl
  have e4 := row_cell hB'.out (i := 4) rfl
  have e5 := row_cell hB'.out (i := 5) rfl
  have e6 := row_cell hB'.out (i := 6) rfl
  have e7 := row_cell hB'.out (i := 7) rfl
  have e8 := row_cell hB'.out (i := 8) rfl
  have e9 := row_cell hB'.out (i := 9) rfl
  have hqlt := row_lt hB'.out
  have hx : ∃ x, x = clZ mi := ⟨_, rfl⟩
  obtain ⟨x, hx⟩ := hx
  obtain ⟨y, hy⟩ : ∃ y, y = clZ h := ⟨_, rfl⟩
  have hx0 : 0 ≤ x ∧ x ≤ 100 := by rw [hx]; unfold clZ; omega
  have hy0 : 0 ≤ y ∧ y ≤ 100 := by rw [hy]; unfold clZ; omega
  have q1 := Lib.hid (fun W => clamped_any W mi)
  have q2 := Lib.hid (fun W => clamped_any W h)
  rw [← hx] at q1
  rw [← hy] at q2
  have hxy := Lib.hid (And.intro hx hy)
  obtain ⟨hx1, hx2⟩ := hx0
  obtain ⟨hy1, hy2⟩ := hy0
  have hbd : 0 ≤ B * max (x - y) 0 ∧ B * max (x - y) 0 ≤ 100000000 := by
    refine ⟨Int.mul_nonneg hB0 (by omega), ?_⟩
    calc B * max (x - y) 0 ≤ 1000000 * 100 := Int.mul_le_mul hB9 (by omega) (by omega) (by omega)
      _ = 100000000 := by rfl
  obtain ⟨hbd1, hbd2⟩ := hbd
  clear hx hy
  go_enter Try.func28, Try.ntmps28
  go_wp2_with fail
  rw [← hW1'.out]
  go_quiet ((go_at_call 44; first | (with_reducible exact Calls.quiet_of_same ((q1.out _).mono fun _ _ ⟨a, b⟩ => ⟨a, b.symm⟩)) | (with_reducible exact Calls.quiet_of_same ((q2.out _).mono fun _ _ ⟨a, b⟩ => ⟨a, b.symm⟩))))
  have hOd := Lib.hid (hO'.out.drewN nq)
  go_wp2_with fail
  refine (hb'.out _ hOd.out).mono ?_
  rintro e w4 ⟨rfl, hO4⟩
  have hfin := Lib.hid (show Z (.returned (.int .i64 (B * max (x - y) 0))) w4 from by
    rw [hZ'.out]
    exact ⟨by unfold costZ; rw [← hxy.out.1, ← hxy.out.2], hOd.out.trans' hO4⟩)
  clear hO4
  go_wp2
  exact hfin.out
end Rld
end Go.Proofs.Yteeleelkepjoaaa
