/- The document's layer 23: Bound. -/
import Derived.Test.YtlbinlhaejhobaaGreatDoorRef6
import Derived.Test.YtlbinlhaejhobaaGreatDoorPK
namespace Go.Proofs.YtlbinlhaejhobaaGreatDoor
namespace Rld
open Go Go.RowKit Rca Srt
set_option maxRecDepth 100000 in
set_option maxHeartbeats 4000000 in
theorem rbound_any {w : World} {c : ConfV} {pl : Tks} {S : Nat} (hc : CfOk w c pl S) (hw0 : 0 ≤ c.wy) (hw1 : c.wy ≤ 1000) {i : Nat} {t : TaskV} {l : List Opn} (hi : pl[i]? = some (t, l)) :
    Calls Tryz.prog 56 #[c.val, .int .i64 (i : Int)] w (AnsI (bndZ c pl S t.th l) w) := by
  obtain ⟨V, hV⟩ : ∃ V, V = bndZ c pl S t.th l := ⟨_, rfl⟩
  rw [← hV]
  have hV' := Lib.hid hV
  clear hV
  have hO := (Only.refl (fun _ => False) w).alloc (.cells c.cells.toArray 27)
  have hB := heap_new_at w (.cells c.cells.toArray 27) rfl
  obtain ⟨W1, hW1⟩ : ∃ W1, W1 = w.alloc (.cells c.cells.toArray 27) := ⟨_, rfl⟩
  rw [← hW1] at hB hO
  have hB' := Lib.hid hB
  have hO' := Lib.hid hO
  have hlen' := Lib.hid (show pl.length = c.ta.n by have := hc.t.len; unfold Tks.ts at this; simpa using this)
  have hip : i < pl.length := (List.getElem?_eq_some_iff.1 hi).1
  have hab := Lib.hid (fun W (h : Only (fun _ => False) w W) => rabove_any (hc.new h).t hc.n (ts_some hi))
  have hto := Lib.hid (fun W (h : Only (fun _ => False) w W) (A : Option Addr) (n cap : Nat) (hT : Option Nat) (hW : Win W 3 1 (.slice A n cap) hT n (dat (aboU pl.ts t.th c.ta.n))) (hn : n ≤ 1000000) => rtouched_any (hc.new h) hW (fun i hi => by have := (aboU_mem.1 hi).1; have := hlen'.out; omega) hn)
  have hld := Lib.hid (fun W (h : Only (fun _ => False) w W) => rloads_any (cap := t.o.cap) ((hc.p.row i t l hi).1.new h) (hc.p.row i t l hi).2.1 (hc.p.row i t l hi).2.2.1 (hc.ok i t l hi) S c.wy c.h c.mi hc.s1 hc.s2)
  have hta := Lib.hid (fun W (h : Only (fun _ => False) w W) => (hc.t.new h).at_ i t (ts_some hi))
  have hal := Lib.hid (Nat.le_trans (aboU_len pl.ts t.th c.ta.n) hc.n)
  obtain ⟨T, hT⟩ : ∃ T, T = touB S pl (aboU pl.ts t.th c.ta.n) := ⟨_, rfl⟩
  obtain ⟨L, hL⟩ : ∃ L, L = loadS S l := ⟨_, rfl⟩
  have hL9 : ∀ j, L j ≤ 1000000 := by
    intro j
    rw [hL]
    have h1 := loadN_le S (Lru.dd (accN l)) j
    have h2 := Lru.nodup_le (Lru.dd_nodup (accN l)) (fun x hx => Lru.dd_mem.1 hx)
    have h3 := accN_len l
    have h4 := (hc.p.row i t l hi).2.1
    have h5 := (hc.p.row i t l hi).2.2.1
    unfold loadS
    omega
  have hL9' := Lib.hid hL9
  have hVV := Lib.hid (show V = bndU c.wy T L S by rw [hV'.out, hT, hL]; rfl)
  have hT' := Lib.hid hT
  have hL' := Lib.hid hL
  have hss := hc.s
  have hs1 := hc.s1
  have hs2 := hc.s2
  have hnn := hc.n
  obtain ⟨q, hqq⟩ : ∃ q, q = w.heap.size := ⟨_, rfl⟩
  have hqq' := Lib.hid hqq
  rw [← hqq] at hB'
  clear hO hB hqq hc hi hT hL hL9 hV'
  rw [show c.val = .agg #[.int .i64 c.s, .int .i64 c.wy, .int .i64 c.h, .int .i64 c.mi, .slice c.mb.A c.mb.n c.mb.cap, .int .i64 c.g, .slice c.cn.A c.cn.n c.cn.cap, .slice c.ce.A c.ce.n c.ce.cap, .slice c.ta.A c.ta.n c.ta.cap, .slice c.li.A c.li.n c.li.cap] from rfl] at hab hto ⊢
  unfold ConfV.cells at hW1 hB'
  obtain ⟨s, wy, h, mi, ⟨mA, mn, mc⟩, g, ⟨cA, cn, cc⟩, ⟨eA, en, ec⟩, ⟨tA, tn, tc⟩, ⟨lA, ln, lc⟩⟩ := c
  dsimp only at *
  subst hss
  have hW1' := Lib.hid hW1
  clear hW1
  obtain ⟨AB, hAB⟩ : ∃ AB, AB = aboU pl.ts t.th tn := ⟨_, rfl⟩
  rw [← hAB] at hab hto hal hT'
  obtain ⟨na, hna⟩ : ∃ na, na = AB.length := ⟨_, rfl⟩
  have hna' := Lib.hid hna
  clear hAB hna
  go_enter Tryz.func56, Tryz.ntmps56
  go_upto_region 1 with fail
  rw [← hqq'.out, ← hW1'.out]
  obtain ⟨b, off, hA, hb, hC⟩ := hta.out _ (hO'.out)
  subst hA
  have htn' : (i : Int) < (tn : Int) := by have := hlen'.out; omega
  have hkeep := Lib.hid (fun W0 (h0 : Only (fun _ => False) W1 W0) => show W0.cell? ⟨q, 8, none⟩ = some (.slice (some ⟨b, off, none⟩) tn tc) ∧ W0.cell? ⟨b, off + i * 7 + 6, none⟩ = some (.slice t.o.A t.o.n t.o.cap) ∧ W0.cell? ⟨q, 0, none⟩ = some (.int .i64 (S : Int)) ∧ W0.cell? ⟨q, 1, none⟩ = some (.int .i64 wy) ∧ W0.cell? ⟨q, 2, none⟩ = some (.int .i64 h) ∧ W0.cell? ⟨q, 3, none⟩ = some (.int .i64 mi) ∧ q < W0.heap.size ∧ b < W0.heap.size from by
    have z := h0.heap hB'.out (fun h => h)
    exact ⟨row_cell z (i := 8) rfl, h0.cell hC.c6 (fun h => h), row_cell z (i := 0) rfl, row_cell z (i := 1) rfl, row_cell z (i := 2) rfl, row_cell z (i := 3) rfl, row_lt z, Nat.lt_of_lt_of_le hb h0.size⟩)
  have hld2 := Lib.hid (fun W (h : Only (fun _ => False) W1 W) => hld.out W (hO'.out.trans' h))
  obtain ⟨f8, f6, f0, f1, f2, f3, fq, fb⟩ := hkeep.out _ (Only.refl _ _)
  clear hC hb
  go_wp2_with fail
  go_region_held3 (fun W' => W'.cell? ⟨q, 8, none⟩ = some (.slice (some ⟨b, off, none⟩) tn tc) ∧ W'.cell? ⟨b, off + i * 7 + 6, none⟩ = some (.slice t.o.A t.o.n t.o.cap) ∧ W'.cell? ⟨q, 0, none⟩ = some (.int .i64 (S : Int)) ∧ W'.cell? ⟨q, 1, none⟩ = some (.int .i64 wy) ∧ W'.cell? ⟨q, 2, none⟩ = some (.int .i64 h) ∧ W'.cell? ⟨q, 3, none⟩ = some (.int .i64 mi) ∧ q < W'.heap.size ∧ b < W'.heap.size)
    (exact hkeep.out _ (by repeat (first | assumption | exact Only.refl _ _ | apply Only.drew)))
    (first
      | (go_at_call 85; (with_reducible refine (hld2.out _ (by repeat (first | assumption | exact Only.refl _ _ | apply Only.drew))).mono ?_); rintro _ w5 ⟨g3, rfl, hge3, hrow3, ho5⟩; have hO5 : Only (fun _ => False) W1 w5 := Only.trans' (by repeat (first | assumption | exact Only.refl _ _ | apply Only.drew)) ho5; have hrow3' := Lib.hid hrow3; clear hrow3 hge3 ho5))
  have hO5w := Lib.hid (hO'.out.trans' hO5)
  have hB5 := Lib.hid (hO5.heap hB'.out (fun h => h))
  clear f8 f6 f0 f1 f2 f3 fq fb hkeep hld2 hO5
  have hkeep := Lib.hid (fun W0 (h0 : Only (fun _ => False) w5 W0) => show W0.cell? ⟨q, 0, none⟩ = some (.int .i64 (S : Int)) ∧ W0.cell? ⟨q, 1, none⟩ = some (.int .i64 wy) ∧ W0.cell? ⟨q, 2, none⟩ = some (.int .i64 h) ∧ W0.cell? ⟨q, 3, none⟩ = some (.int .i64 mi) ∧ W0.cell? ⟨q, 4, none⟩ = some (.slice mA mn mc) ∧ W0.cell? ⟨q, 5, none⟩ = some (.int .i64 g) ∧ W0.cell? ⟨q, 6, none⟩ = some (.slice cA cn cc) ∧ W0.cell? ⟨q, 7, none⟩ = some (.slice eA en ec) ∧ W0.cell? ⟨q, 8, none⟩ = some (.slice (some ⟨b, off, none⟩) tn tc) ∧ W0.cell? ⟨q, 9, none⟩ = some (.slice lA ln lc) ∧ q < W0.heap.size from by
    have z := h0.heap hB5.out (fun h => h)
    exact ⟨row_cell z (i := 0) rfl, row_cell z (i := 1) rfl, row_cell z (i := 2) rfl, row_cell z (i := 3) rfl, row_cell z (i := 4) rfl, row_cell z (i := 5) rfl, row_cell z (i := 6) rfl, row_cell z (i := 7) rfl, row_cell z (i := 8) rfl, row_cell z (i := 9) rfl, row_lt z⟩)
  obtain ⟨e0, e1, e2, e3, e4, e5, e6, e7, e8, e9, hqlt⟩ := hkeep.out _ (Only.refl _ _)
  have hab2 := Lib.hid (fun W (h : Only (fun _ => False) w5 W) => hab.out W (hO5w.out.trans' h))
  have hto2 := Lib.hid (fun W (h : Only (fun _ => False) w5 W) (A : Option Addr) (cap : Nat) (hT : Option Nat) (hW : Win W 3 1 (.slice A na cap) hT na (dat AB)) => hto.out W (hO5w.out.trans' h) A _ cap hT hW (by rw [hna'.out]; exact hal.out))
  have hab3 := Lib.hid (fun (e : Ending) (W w' : World) (hR : RowEnd W AB e w') => show ∃ p c h, e = .returned (.slice p na c) ∧ Win w' 3 1 (.slice p na c) h na (dat AB) ∧ Only (fun _ => False) W w' from by
    obtain ⟨p, c, h, h1, h2, _, h4⟩ := hR
    rw [hna'.out]
    exact ⟨p, c, h, h1, h2, h4⟩)
  have hto3 := Lib.hid (fun (e : Ending) (W w' : World) (hR : TouEnd S pl AB W e w') => show ∃ g, e = .returned (.slice (some ⟨g, 0, none⟩) S S) ∧ w'.heap[g]? = some (.cells (brow S T).toArray 4 (0, 0)) ∧ Only (fun _ => False) W w' from by
    obtain ⟨g, h1, _, h3, h4⟩ := hR
    rw [hT'.out]
    exact ⟨g, h1, h3, h4⟩)
  clear hab hto
  go_wp2_with fail
  go_region_held3 (fun W0 => W0.cell? ⟨q, 0, none⟩ = some (.int .i64 (S : Int)) ∧ W0.cell? ⟨q, 1, none⟩ = some (.int .i64 wy) ∧ W0.cell? ⟨q, 2, none⟩ = some (.int .i64 h) ∧ W0.cell? ⟨q, 3, none⟩ = some (.int .i64 mi) ∧ W0.cell? ⟨q, 4, none⟩ = some (.slice mA mn mc) ∧ W0.cell? ⟨q, 5, none⟩ = some (.int .i64 g) ∧ W0.cell? ⟨q, 6, none⟩ = some (.slice cA cn cc) ∧ W0.cell? ⟨q, 7, none⟩ = some (.slice eA en ec) ∧ W0.cell? ⟨q, 8, none⟩ = some (.slice (some ⟨b, off, none⟩) tn tc) ∧ W0.cell? ⟨q, 9, none⟩ = some (.slice lA ln lc) ∧ q < W0.heap.size)
    (exact hkeep.out _ (by repeat (first | assumption | exact Only.refl _ _ | apply Only.drew)))
    (first
      | (go_at_call 87; (with_reducible refine (hab2.out _ (by repeat (first | assumption | exact Only.refl _ _ | apply Only.drew))).mono ?_); intro e3 w3 hR3; obtain ⟨p3, c3, h3, rfl, hW3, ho3⟩ := hab3.out _ _ _ hR3; clear hR3; have hO3 : Only (fun _ => False) w5 w3 := Only.trans' (by repeat (first | assumption | exact Only.refl _ _ | apply Only.drew)) ho3; have hW3' := Lib.hid hW3; clear hW3)
      | (go_at_call 86; (with_reducible refine (hto2.out _ (by repeat (first | assumption | exact Only.refl _ _ | apply Only.drew)) _ _ _ (by first | exact hW3'.out | exact hW3'.out.same rfl)).mono ?_); intro e4 w4 hR4; obtain ⟨g4, rfl, hrow4, ho4⟩ := hto3.out _ _ _ hR4; clear hR4; have hO4 : Only (fun _ => False) w5 w4 := Only.trans' (by repeat (first | assumption | exact Only.refl _ _ | apply Only.drew)) ho4; have hrow4' := Lib.hid hrow4; clear hrow4))
  have hrT := Lib.hid hrow4'.out
  have hr7 := Lib.hid (hO4.heap hrow3'.out (fun h => h))
  have hB7 := Lib.hid (hO4.heap hB5.out (fun h => h))
  have hO7w := Lib.hid (hO5w.out.trans' hO4)
  clear e0 e1 e2 e3 e4 e5 e6 e7 e8 e9 hqlt hkeep hab2 hto2 hab3 hto3 hO3 ho3 ho4 hO4 hW3' hrow3' hB5 hO5w
  go_wp2
  go_loopw [5, 24] (fun v i' wr => ∃ k : Nat, k ≤ S ∧ i' = .int .i64 k ∧ v = .int .i64 (bndU wy T L k) ∧ Hid (Only (fun _ => False) w4 wr)) (fun _ i' _ => S - (intOf i').toNat)
  case atStart => exact ⟨0, Nat.zero_le _, rfl, rfl, Lib.hid (Only.refl _ _)⟩
  case round =>
    obtain ⟨k, hk, rfl, rfl, hOr⟩ := hrel
    obtain ⟨ws, hws⟩ : ∃ ws : World, ws = wr := ⟨_, rfl⟩
    subst hws
    have hrT := Lib.hid (hOr.out.heap hrT.out (fun h => h))
    have hr7 := Lib.hid (hOr.out.heap hr7.out (fun h => h))
    have hB7 := Lib.hid (hOr.out.heap hB7.out (fun h => h))
    have hlt5 := row_lt hB7.out
    by_cases hkS : k < S
    · have hkS' : (k : Int) < (S : Int) := by omega
      have c3 := row_cell hr7.out (show (loadsL S l)[k]? = some (.int .i64 (L k : Int)) by unfold loadsL; rw [List.getElem?_map, List.getElem?_range hkS, hL'.out]; rfl)
      have hl3 := row_lt hr7.out
      have cT := row_cell hrT.out (brow_at (f := T) hkS)
      have hlT := row_lt hrT.out
      have cw := row_cell hB7.out (i := 1) rfl
      have hx9 := hL9'.out k
      obtain ⟨x, hx⟩ : ∃ x, x = L k := ⟨_, rfl⟩
      obtain ⟨B, hBB⟩ : ∃ B, B = T k := ⟨_, rfl⟩
      rw [← hx] at c3 hx9
      rw [← hBB] at cT
      have hsu := Lib.hid (show bndU wy T L (k + 1) = bndU wy T L k + (if B then min (x : Int) wy else 0) by rw [bndU, hBB, hx]; split <;> omega)
      obtain ⟨z1, z2⟩ := bndU_bound (T := T) (L := L) hw0 hw1 (k := k)
      obtain ⟨z, hz⟩ : ∃ z, z = bndU wy T L k := ⟨_, rfl⟩
      rw [← hz] at hsu z1 z2 ⊢
      clear hz hBB hx
      cases B
      · go_wp2
        go_roundw
        case rel => exact ⟨k + 1, by omega, by go_num, by rw [hsu.out]; simp, hOr⟩
        case measure => simp [intOf]; omega
      · have hmn : min (x : Int) wy ≤ 1000 := by omega
        have hmn0 : 0 ≤ min (x : Int) wy := by omega
        obtain ⟨y, hy⟩ : ∃ y, y = min (x : Int) wy := ⟨_, rfl⟩
        have hrun := Lib.hid hy
        rw [← hy] at hmn hmn0
        clear hy
        go_wp2
        go_quiet (fail)
        go_wp2
        go_roundw
        case rel => exact ⟨k + 1, by omega, by go_num, by rw [hsu.out]; simp, Lib.hid (hOr.out.drewN _)⟩
        case measure => simp [intOf]; omega
    · obtain rfl : k = S := by omega
      have hkS' : ¬ (k : Int) < (k : Int) := by omega
      rw [← hVV.out]
      have hend := Lib.hid (show AnsI V w (.returned (.int .i64 V)) ws from ⟨rfl, hO7w.out.trans' hOr.out⟩)
      go_wp2
      go_ret
      exact hend.out

end Rld
end Go.Proofs.YtlbinlhaejhobaaGreatDoor
