/- Merged: Rlv Rrc Plo Rlo Nst Non24. -/
import Derived.Test.YteeleelkepjoaaaFew24
import Derived.Test.YteeleelkepjoaaaRch
import Derived.Test.YteeleelkepjoaaaLon
import Derived.Test.YteeleelkepjoaaaRsm
import Derived.Test.YteeleelkepjoaaaWd
import Derived.Maps.Own
import Derived.Maps.OwnSet
import Derived.Maps.Views
/- The reference's Level. -/
namespace Go.Proofs.Yteeleelkepjoaaa
namespace Sct
open Go Go.RowKit Lin Lck Cst

def hrow (n : Nat) (d : Nat → Bool) : List Value := (List.range n).map (fun i => Value.int .i64 (if d i then 1 else 0))
theorem hrow_len (n : Nat) (d : Nat → Bool) : (hrow n d).length = n := by simp [hrow]
theorem hrow_at {n i : Nat} {d : Nat → Bool} (hi : i < n) : (hrow n d)[i]? = some (.int .i64 (if d i then 1 else 0)) := by
  unfold hrow
  rw [List.getElem?_map, List.getElem?_range hi]
  rfl
theorem hrow_set {n i : Nat} {d : Nat → Bool} (_hi : i < n) (v : Bool) : (hrow n d).set i (.int .i64 (if v then 1 else 0)) = hrow n (setD d (i : Int) v) := by
  apply List.ext_getElem?
  intro j
  by_cases hj : j < n
  · rw [List.getElem?_set, hrow_at (d := setD d (i : Int) v) hj]
    unfold setD
    by_cases he : i = j
    · subst he
      rw [if_pos rfl, if_pos (by rw [hrow_len]; exact hj), if_pos rfl]
    · rw [if_neg he, hrow_at hj, if_neg (show ¬ (j : Int) = (i : Int) by omega)]
  · rw [List.getElem?_eq_none (by simp [hrow_len]; omega), List.getElem?_eq_none (by rw [hrow_len]; omega)]
theorem hrow_out {n : Nat} {d : Nat → Bool} {a : Int} {v : Bool} (h : a < 0 ∨ (n : Int) ≤ a) : hrow n (setD d a v) = hrow n d := by
  unfold hrow
  refine List.map_congr_left fun i hi => ?_
  rw [setD_out h (List.mem_range.1 hi)]
theorem hrow_zero (n : Nat) : hrow n (fun _ => false) = List.replicate n (.int .i64 0) := by
  unfold hrow
  rw [List.map_const']
  simp

set_option maxRecDepth 100000 in
set_option maxHeartbeats 8000000 in
theorem rlevel_any {w : World} {c : ConfV} {d : ConfL} (hce : ∀ W, Only (fun _ => False) w W → IntsAt W c.ce d.ce) (hen : c.ce.n ≤ 4096) (t : TaskV) {A : Option Addr} {n cap : Nat} {l : List Opn} (hl : OpnRow w A l) (hn : l.length = n) (h9 : n ≤ 1000) :
    Calls Try.prog 20 #[c.val, t.val, .slice A n cap] w (GrowI (levS t.th (ceZ d.ce) c.ce.n (stS l)) w) := by
  obtain ⟨V, hV⟩ : ∃ V, V = levS t.th (ceZ d.ce) c.ce.n (stS l) := ⟨_, rfl⟩
  rw [← hV]
  have hV' := Lib.hid hV
  obtain ⟨Z, hZ⟩ : ∃ Z, Z = GrowI V w := ⟨_, rfl⟩
  rw [← hZ]
  have hZ' := Lib.hid hZ
  have hl' := Lib.hid (fun W (h : Only (fun _ => False) w W) => hl.new h)
  have hn' := Lib.hid hn
  have hce' := Lib.hid hce
  obtain ⟨W1, hW1⟩ : ∃ W1, W1 = (w.alloc (.cells c.cells.toArray 27)).alloc (.cells t.cells.toArray 36) := ⟨_, rfl⟩
  have hO : Only (fun _ => False) w W1 := by rw [hW1]; exact ((Only.refl (fun _ => False) w).alloc _).alloc _
  obtain ⟨q, hqq⟩ : ∃ q, q = w.heap.size := ⟨_, rfl⟩
  have hB : W1.heap[q]? = some (.cells c.cells.toArray 27 (0, 0)) := by rw [hW1]; exact heap_kept_alloc (heap_new_at _ _ hqq.symm) _
  have hT : W1.heap[q + 1]? = some (.cells t.cells.toArray 36 (0, 0)) := by rw [hW1]; exact heap_new_at _ _ (by simp [hqq])
  have hqq' := Lib.hid hqq
  have hB' := Lib.hid hB
  have hT' := Lib.hid hT
  have hO' := Lib.hid hO
  have hcl := Lib.hid ((hce w (Only.refl _ _)).len)
  clear hl hn hce hO hB hT hqq hV hZ
  rw [show c.val = .agg #[.int .i64 c.s, .int .i64 c.wy, .int .i64 c.h, .int .i64 c.mi, .slice c.mb.A c.mb.n c.mb.cap, .int .i64 c.g, .slice c.cn.A c.cn.n c.cn.cap, .slice c.ce.A c.ce.n c.ce.cap, .slice c.ta.A c.ta.n c.ta.cap, .slice c.li.A c.li.n c.li.cap] from rfl]
  rw [show t.val = .agg #[.int .i64 t.p, .int .i64 t.th, .int .i64 t.pe, .int .i64 t.de, .int .i64 t.fr, .int .i64 t.fl, .slice t.o.A t.o.n t.o.cap] from rfl]
  unfold ConfV.cells at hW1 hB'
  unfold TaskV.cells at hW1 hT'
  obtain ⟨s, wy, h, mi, ⟨mA, mn, mc⟩, g, ⟨cA, cn, cc⟩, ⟨eA, en, ec⟩, ⟨tA, tn, tc⟩, ⟨lA, ln, lc⟩⟩ := c
  obtain ⟨tp, th, tpe, tde, tfr, tfl, ⟨oA, on, oc⟩⟩ := t
  dsimp only at *
  have hW1' := Lib.hid hW1
  clear hW1
  obtain ⟨zz, hzz⟩ : ∃ zz, zz = ceZ d.ce := ⟨_, rfl⟩
  have hzz' := Lib.hid hzz
  rw [← hzz] at hV'
  clear hzz
  have e7 := row_cell hB'.out (i := 7) rfl
  have t1 := row_cell hT'.out (i := 1) rfl
  have hql := row_lt hB'.out
  have htl := row_lt hT'.out
  have mk := fun W0 : World => run_make_list (P := Try.prog) W0 24 3 (.int .i64 0) 8 Try.underlying24 (by kernel_rfl) rfl en (by omega) (by omega)
  obtain ⟨G, hG⟩ : ∃ G, G = W1.heap.size := ⟨_, rfl⟩
  have hG' := Lib.hid hG
  clear hG
  go_enter Try.func20, Try.ntmps20
  go_upto_region 1 with fail
  rw [← hqq'.out, ← hW1'.out]
  go_upto_region 4 with fail
  rw [← hG'.out]
  obtain ⟨w3, hw3⟩ : ∃ w3, w3 = W1.alloc (.cells (Array.replicate en (Value.int .i64 0)) 3) := ⟨_, rfl⟩
  rw [← hw3]
  have hr3 := Lib.hid (show w3.heap[G]? = some (.cells (hrow en (fun _ => false)).toArray 3 (0, 0)) by rw [hw3, hrow_zero, List.toArray_replicate]; exact heap_new_at _ _ hG'.out.symm)
  have hO13 : Only (fun _ => False) W1 w3 := by rw [hw3]; exact (Only.refl _ _).alloc _
  have hO3 := Lib.hid (hO'.out.trans' hO13)
  have hB3 := Lib.hid (hO13.heap hB'.out (fun h => h))
  have hqG : q < G ∧ w.heap.size ≤ G := by
    have h1 := row_lt hB'.out
    have h2 := hG'.out
    have h3 := hO'.out.size
    omega
  clear hw3 mk e7 t1 hql htl hB' hT' hO' hW1' hG' hO13
  have hfr := Lib.hid (fun W (h : Only (fun x => x = G) w3 W) => show Only (fun _ => False) w W from hO3.out.trans h (fun x hx e => by omega))
  go_wp2
  go_loopw [7, 22] (fun a i' wr => ∃ k : Nat, k ≤ n ∧ i' = .int .i64 k ∧ a = .int .i64 ((stS (l.take k)).reg : Int) ∧ wr.heap[G]? = some (.cells (hrow en (stS (l.take k)).d).toArray 3 (0, 0)) ∧ Only (fun x => x = G) w3 wr) (fun _ i' _ => n - (intOf i').toNat)
  case atStart => exact ⟨0, Nat.zero_le _, rfl, rfl, hr3.out, Only.refl _ _⟩
  case round =>
    obtain ⟨k, hk, rfl, rfl, hr, hOk⟩ := hrel
    obtain ⟨ws, hws⟩ : ∃ ws : World, ws = wr := ⟨_, rfl⟩
    subst hws
    have hr' := Lib.hid hr
    have hOk' := Lib.hid hOk
    have hGl := row_lt hr
    clear hr hOk
    by_cases hkn : k < n
    · have hkn' : (k : Int) < (n : Int) := by omega
      obtain ⟨o, ho⟩ : ∃ o, l[k]? = some o := ⟨_, List.getElem?_eq_getElem (by have := hn'.out; omega)⟩
      have hst := stS_succ ho
      have hrg := reg_take l k
      obtain ⟨vb, voff, hvA, hvb, c0, c1, c2⟩ := opn_row (hl'.out _ (hfr.out _ hOk'.out)) ho
      subst hvA
      obtain ⟨K, A, B⟩ := o
      dsimp only at c0 c1 c2
      obtain ⟨⟨r, dd⟩, hS⟩ : ∃ S, S = stS (l.take k) := ⟨_, rfl⟩
      rw [← hS] at hst hrg hr' ⊢
      dsimp only at hrg hr' ⊢
      have hOa := Lib.hid ((Only.refl (fun _ => False) ws).alloc (.cells #[.int .i64 K, .int .i64 A, .int .i64 B] 39))
      have hra := Lib.hid (hOa.out.heap hr'.out (fun h => h))
      have hOka := Lib.hid (hOk'.out.trans hOa.out (fun _ _ h => h.elim))
      have hrel1 := Lib.hid (fun (r' : Nat) (hd : doS ⟨r, dd⟩ ⟨K, A, B⟩ = ⟨r', dd⟩) => show (stS (l.take (k + 1))).reg = r' ∧ (ws.alloc (.cells #[.int .i64 K, .int .i64 A, .int .i64 B] 39)).heap[G]? = some (.cells (hrow en (stS (l.take (k + 1))).d).toArray 3 (0, 0)) from by
        rw [hst, hd]
        exact ⟨rfl, hra.out⟩)
      have hst' := Lib.hid hst
      clear ho hS hst
      by_cases h3 : K = 3
      · subst h3
        obtain ⟨z1, z2⟩ := hrel1.out (r + 1) rfl
        have z2' := Lib.hid z2
        have z1' := Lib.hid z1
        clear z1 z2
        go_wp2
        go_roundw
        case rel => exact ⟨k + 1, by omega, by go_num, by rw [z1'.out]; push_cast; rfl, z2'.out, hOka.out⟩
        case measure => simp [intOf]; omega
      by_cases h4 : K = 4
      · subst h4
        obtain ⟨z1, z2⟩ := hrel1.out (r - 1) rfl
        have z2' := Lib.hid z2
        have z1' := Lib.hid z1
        clear z1 z2 h3
        go_wp2
        go_roundw
        case rel => exact ⟨k + 1, by omega, by go_num, by rw [z1'.out]; congr 1; omega, z2'.out, hOka.out⟩
        case measure => simp [intOf]; omega
      by_cases h56 : K = 5 ∨ K = 6
      · obtain ⟨v, hv, hvK⟩ : ∃ v : Bool, doS ⟨r, dd⟩ ⟨K, A, B⟩ = ⟨r, setD dd A v⟩ ∧ (v = true ↔ K = 5) := by
          rcases h56 with rfl | rfl
          · exact ⟨true, rfl, by simp⟩
          · exact ⟨false, rfl, by simp⟩
        have hst2 := Lib.hid (show stS (l.take (k + 1)) = ⟨r, setD dd A v⟩ from by rw [hst'.out]; exact hv)
        clear hv hrel1
        by_cases hout : A < 0 ∨ (en : Int) ≤ A
        · have z2' := Lib.hid (show (ws.alloc (.cells #[.int .i64 K, .int .i64 A, .int .i64 B] 39)).heap[G]? = some (.cells (hrow en (stS (l.take (k + 1))).d).toArray 3 (0, 0)) from by
            rw [hst2.out]
            dsimp only
            rw [hrow_out hout]
            exact hra.out)
          have z1' := Lib.hid (show (stS (l.take (k + 1))).reg = r from by rw [hst2.out])
          clear h3 h4 hvK
          by_cases hA0 : A < 0
          · clear hout
            rcases h56 with rfl | rfl
            · go_wp2
              go_roundw
              case rel => exact ⟨k + 1, by omega, by go_num, by rw [z1'.out], z2'.out, hOka.out⟩
              case measure => simp [intOf]; omega
            · go_wp2
              go_roundw
              case rel => exact ⟨k + 1, by omega, by go_num, by rw [z1'.out], z2'.out, hOka.out⟩
              case measure => simp [intOf]; omega
          · have hA1 : (en : Int) ≤ A := by omega
            clear hout
            rcases h56 with rfl | rfl
            · go_wp2
              go_roundw
              case rel => exact ⟨k + 1, by omega, by go_num, by rw [z1'.out], z2'.out, hOka.out⟩
              case measure => simp [intOf]; omega
            · go_wp2
              go_roundw
              case rel => exact ⟨k + 1, by omega, by go_num, by rw [z1'.out], z2'.out, hOka.out⟩
              case measure => simp [intOf]; omega
        · obtain ⟨a, ha⟩ : ∃ a : Nat, A = (a : Int) := ⟨A.toNat, by omega⟩
          subst ha
          have hae : a < en := by omega
          have hae' : (a : Int) < (en : Int) := by omega
          have f0 := row_free hr'.out a
          have g0 := row_cell hr'.out (hrow_at (d := dd) hae)
          have z1' := Lib.hid (show (stS (l.take (k + 1))).reg = r from by rw [hst2.out])
          have hs5 := Lib.hid (hrow_set (d := dd) hae v)
          have hfin2 := Lib.hid (fun (x : Value) (K9 : Int) (hx : x = .int .i64 (if v then 1 else 0)) => show ((ws.setCell ⟨G, a, none⟩ x).alloc (.cells #[.int .i64 K9, .int .i64 (a : Int), .int .i64 B] 39)).heap[G]? = some (.cells (hrow en (stS (l.take (k + 1))).d).toArray 3 (0, 0)) ∧ Only (fun x => x = G) w3 ((ws.setCell ⟨G, a, none⟩ x).alloc (.cells #[.int .i64 K9, .int .i64 (a : Int), .int .i64 B] 39)) from by
            subst hx
            refine ⟨heap_kept_alloc ?_ _, (hOk'.out.trans' ((Only.refl (fun x => x = G) _).setCell (p := ⟨G, a, none⟩) (fun _ => rfl) _)).alloc _⟩
            rw [hst2.out]
            dsimp only
            rw [← hs5.out]
            exact row_set hr'.out a _)
          obtain ⟨u0, hu0⟩ : ∃ u0 : Int, u0 = (if dd a then 1 else 0) := ⟨_, rfl⟩
          rw [← hu0] at g0
          clear h3 h4 hu0 hout
          rcases h56 with rfl | rfl
          · obtain rfl : v = true := hvK.2 rfl
            clear hvK
            obtain ⟨y1, y2⟩ := hfin2.out (.int .i64 1) 5 rfl
            have y1' := Lib.hid y1
            have y2' := Lib.hid y2
            clear y1 y2
            go_wp2
            go_roundw
            case rel => exact ⟨k + 1, by omega, by go_num, by rw [z1'.out], y1'.out, y2'.out⟩
            case measure => simp [intOf]; omega
          · obtain rfl : v = false := by cases v <;> simp_all
            clear hvK
            obtain ⟨y1, y2⟩ := hfin2.out (.int .i64 0) 6 rfl
            have y1' := Lib.hid y1
            have y2' := Lib.hid y2
            clear y1 y2
            go_wp2
            go_roundw
            case rel => exact ⟨k + 1, by omega, by go_num, by rw [z1'.out], y1'.out, y2'.out⟩
            case measure => simp [intOf]; omega
      · have hd : doS ⟨r, dd⟩ ⟨K, A, B⟩ = ⟨r, dd⟩ := by unfold doS; simp [h3, h4]; rw [if_neg (fun e => h56 (.inl e)), if_neg (fun e => h56 (.inr e))]
        obtain ⟨z1, z2⟩ := hrel1.out r hd
        have z2' := Lib.hid z2
        have z1' := Lib.hid z1
        have g3 : (K == 3) = false := beq_eq_false_iff_ne.2 h3
        have g4 : (K == 4) = false := beq_eq_false_iff_ne.2 h4
        have g5 : (K == 5) = false := beq_eq_false_iff_ne.2 (fun e => h56 (.inl e))
        have g6 : (K == 6) = false := beq_eq_false_iff_ne.2 (fun e => h56 (.inr e))
        clear z1 z2 h3 h4 h56 hd
        go_wp2
        go_roundw
        case rel => exact ⟨k + 1, by omega, by go_num, by rw [z1'.out], z2'.out, hOka.out⟩
        case measure => simp [intOf]; omega
    · obtain rfl : k = n := by omega
      have hkn' : ¬ (k : Int) < (k : Int) := by omega
      have hall : l.take k = l := by rw [← hn'.out, List.take_length]
      rw [hall] at hr' ⊢
      obtain ⟨⟨r, dd⟩, hS⟩ : ∃ S, S = stS l := ⟨_, rfl⟩
      rw [← hS] at hr' hV' ⊢
      dsimp only at hr' ⊢
      have hBs := Lib.hid (hOk'.out.heap hB3.out (by omega))
      have hOw := Lib.hid (hfr.out _ hOk'.out)
      clear hS hfr
      go_wp2
      go_loopw [8, 64] (fun a i' wr => ∃ y : Nat, y ≤ en ∧ i' = .int .i64 y ∧ a = .int .i64 (lev th zz dd y) ∧ ws = wr) (fun _ i' _ => en - (intOf i').toNat)
      case atStart => exact ⟨0, Nat.zero_le _, rfl, rfl, rfl⟩
      case round =>
        obtain ⟨y, hy, rfl, rfl, rfl⟩ := hrel
        by_cases hyn : y < en
        · have hyn' : (y : Int) < (en : Int) := by omega
          have g0 := row_cell hr'.out (hrow_at (d := dd) hyn)
          have e7 := row_cell hBs.out (i := 7) rfl
          have hql := row_lt hBs.out
          obtain ⟨zv, hz⟩ : ∃ zv, d.ce[y]? = some zv := ⟨_, List.getElem?_eq_getElem (by have := hcl.out; omega)⟩
          obtain ⟨ub, uoff, huA, hub, huc⟩ := (hce'.out _ hOw.out).at_ y zv hz
          cases huA
          have hzy : zz y = zv := by rw [hzz'.out]; unfold ceZ; rw [List.getD_eq_getElem?_getD, hz]; rfl
          have hl1 : lev th zz dd (y + 1) = if dd y = true then max (lev th zz dd y) (zz y) else lev th zz dd y := rfl
          rw [hzy] at hl1
          obtain ⟨L, hL⟩ : ∃ L, L = lev th zz dd y := ⟨_, rfl⟩
          rw [← hL] at hl1 ⊢
          obtain ⟨bb, hbb⟩ : ∃ bb, bb = dd y := ⟨_, rfl⟩
          rw [← hbb] at hl1 g0
          clear hz hzy hL hbb
          cases bb
          · have hl2 := Lib.hid (show lev th zz dd (y + 1) = L by rw [hl1]; simp)
            simp only [Bool.false_eq_true, if_false] at g0
            clear hl1
            go_wp2
            go_roundw
            case rel => exact ⟨y + 1, by omega, by go_num, by rw [hl2.out], by simp⟩
            case measure => simp [intOf]; omega
          · simp only [if_true] at g0 hl1
            by_cases hlt : L < zv
            · have hl2 := Lib.hid (show lev th zz dd (y + 1) = zv by rw [hl1]; omega)
              clear hl1
              go_wp2
              go_roundw
              case rel => exact ⟨y + 1, by omega, by go_num, by rw [hl2.out], by simp⟩
              case measure => simp [intOf]; omega
            · have hl2 := Lib.hid (show lev th zz dd (y + 1) = L by rw [hl1]; omega)
              clear hl1
              go_wp2
              go_roundw
              case rel => exact ⟨y + 1, by omega, by go_num, by rw [hl2.out], by simp⟩
              case measure => simp [intOf]; omega
        · obtain rfl : y = en := by omega
          have hyn' : ¬ (y : Int) < (y : Int) := by omega
          have hreg9 : r ≤ 1000000000 ∨ True := .inr trivial
          by_cases h0 : 0 < r
          · have h0' : (0 : Int) < (r : Int) := by omega
            have hVe : V = 64 := by rw [hV'.out]; unfold levS; rw [if_pos h0]
            have hend := Lib.hid (show Z (.returned (.int .i64 64)) ws from by rw [hZ'.out, hVe]; exact ⟨rfl, hOw.out⟩)
            clear hVe hreg9
            go_wp2
            exact hend.out
          · have h0' : ¬ (0 : Int) < (r : Int) := by omega
            have hVe : V = lev th zz dd y := by rw [hV'.out]; unfold levS; rw [if_neg h0]
            have hend := Lib.hid (show Z (.returned (.int .i64 (lev th zz dd y))) ws from by rw [hZ'.out, hVe]; exact ⟨rfl, hOw.out⟩)
            clear hVe hreg9
            go_wp2
            exact hend.out
end Sct
end Go.Proofs.Yteeleelkepjoaaa
/- The reference's Reach. -/
namespace Go.Proofs.Yteeleelkepjoaaa
namespace Sct
open Go Go.RowKit Lin Lck Cst Srt

theorem opnrow_take {w : World} {A : Option Addr} {l : List Opn} (h : OpnRow w A l) (k : Nat) : OpnRow w A (l.take k) := fun i x hx => by
  rw [List.getElem?_take] at hx
  split at hx
  · exact h i x hx
  · cases hx
/-- Is v a level behind one of the first m operations, or ahead of them? -/
def hitB (LV : Nat → Int) (m : Nat) (v : Int) : Bool := (List.range (m + 1)).any (fun k => LV k == v)
theorem hitB_iff {LV : Nat → Int} {m : Nat} {v : Int} : hitB LV m v = true ↔ ∃ k, k ≤ m ∧ LV k = v := by
  unfold hitB
  rw [List.any_eq_true]
  constructor
  · rintro ⟨k, hk, h⟩
    exact ⟨k, by have := List.mem_range.1 hk; omega, by simpa using h⟩
  · rintro ⟨k, hk, h⟩
    exact ⟨k, List.mem_range.2 (by omega), by simpa using h⟩
/-- Those of the j numbers above the threshold. -/
def rrU (th : Int) (LV : Nat → Int) (m : Nat) : Nat → List Int
  | 0 => []
  | j + 1 => rrU th LV m j ++ (if hitB LV m (th + 1 + j) = true then [th + 1 + (j : Int)] else [])
theorem rrU_mem {th : Int} {LV : Nat → Int} {m : Nat} {x : Int} : ∀ {j : Nat}, x ∈ rrU th LV m j ↔ ∃ i : Nat, i < j ∧ x = th + 1 + i ∧ hitB LV m x = true
  | 0 => by simp [rrU]
  | j + 1 => by
    unfold rrU
    rw [List.mem_append, rrU_mem]
    constructor
    · rintro (⟨i, h1, h2, h3⟩ | h)
      · exact ⟨i, by omega, h2, h3⟩
      · split at h
        · simp at h; subst h; exact ⟨j, by omega, rfl, by assumption⟩
        · simp at h
    · rintro ⟨i, h1, h2, h3⟩
      by_cases hj : i = j
      · subst hj
        right
        rw [← h2, if_pos h3]
        simp
      · exact .inl ⟨i, by omega, h2, h3⟩
theorem rrU_sorted (th : Int) (LV : Nat → Int) (m : Nat) : ∀ j, (rrU th LV m j).Pairwise (· < ·)
  | 0 => List.Pairwise.nil
  | j + 1 => by
    unfold rrU
    rw [List.pairwise_append]
    refine ⟨rrU_sorted th LV m j, ?_, ?_⟩
    · split <;> simp
    · intro a ha b hb
      obtain ⟨i, h1, h2, _⟩ := rrU_mem.1 ha
      split at hb
      · simp at hb; omega
      · simp at hb
theorem rrU_len (th : Int) (LV : Nat → Int) (m : Nat) : ∀ j, (rrU th LV m j).length ≤ j
  | 0 => Nat.le_refl _
  | j + 1 => by
    have := rrU_len th LV m j
    unfold rrU
    rw [List.length_append]
    split <;> simp <;> omega
theorem rr_eq {th : Int} {LV : Nat → Int} {m : Nat} (h0 : LV 0 = th) (h64 : ∀ k, LV k ≤ 64) : rrU th LV m (64 - th).toNat = rchL th LV m := by
  refine sorted_ext (rrU_sorted _ _ _ _) (rchL_sorted _ _ _) (fun x => ?_)
  rw [rrU_mem, rchL_mem]
  constructor
  · rintro ⟨i, h1, h2, h3⟩
    obtain ⟨k, hk, hv⟩ := hitB_iff.1 h3
    cases k with
    | zero => omega
    | succ k => exact ⟨k, by omega, hv, by omega⟩
  · rintro ⟨j, h1, h2, h3⟩
    have := h64 (j + 1)
    exact ⟨(x - th - 1).toNat, by omega, by omega, hitB_iff.2 ⟨j + 1, by omega, h2⟩⟩

set_option maxRecDepth 100000 in
set_option maxHeartbeats 4000000 in
theorem rreach_any {w : World} {c : ConfV} {d : ConfL} {pl : Tks} (hC : ConfIn w c d pl) (hen : c.ce.n ≤ 4096) (hce : ∀ W, Only (fun _ => False) w W → IntsAt W c.ce d.ce) {i : Nat} {t : TaskV} {l : List Opn} (hi : pl[i]? = some (t, l)) (hl9 : l.length ≤ 1000) (hth1 : -1000 ≤ t.th) (hth2 : t.th ≤ 64) :
    Calls Try.prog 21 #[c.val, .int .i64 (i : Int)] w (IntsEnd w (rrU t.th (levK t.th (ceZ d.ce) c.ce.n l) l.length (64 - t.th).toNat)) := by
  have hlv := Lib.hid (fun W (h : Only (fun _ => False) w W) (k : Nat) (hk : k ≤ l.length) => show Calls Try.prog 20 #[c.val, t.val, .slice t.o.A k t.o.cap] W (GrowI (levK t.th (ceZ d.ce) c.ce.n l k) W) from by
    have := rlevel_any (w := W) (c := c) (d := d) (fun W' h' => hce W' (h.trans' h')) hen t (cap := t.o.cap) (opnrow_take ((hC.p i t l hi).1.new h) k) (n := k) (by rw [List.length_take]; omega) (by omega)
    exact this)
  obtain ⟨hpA, hpn, hpc⟩ := hC.p i t l hi
  obtain ⟨m, hm⟩ : ∃ m, m = l.length := ⟨_, rfl⟩
  obtain ⟨LV, hLV⟩ : ∃ LV, LV = levK t.th (ceZ d.ce) c.ce.n l := ⟨_, rfl⟩
  rw [← hm, ← hLV] at hlv ⊢
  have hmn : t.o.n = m := by omega
  have hm9 : m ≤ 1000 := by omega
  obtain ⟨J, hJ⟩ : ∃ J, J = (64 - t.th).toNat := ⟨_, rfl⟩
  rw [← hJ]
  obtain ⟨th, hth⟩ : ∃ th, th = t.th := ⟨_, rfl⟩
  have hthJ : th + J = 64 := by omega
  rw [← hth]
  obtain ⟨Z, hZ⟩ : ∃ Z, Z = IntsEnd w (rrU th LV m J) := ⟨_, rfl⟩
  rw [← hZ]
  have hZ' := Lib.hid hZ
  clear hZ
  have hO := (Only.refl (fun _ => False) w).alloc (.cells c.cells.toArray 27)
  have hB := heap_new_at w (.cells c.cells.toArray 27) rfl
  obtain ⟨W1, hW1⟩ : ∃ W1, W1 = w.alloc (.cells c.cells.toArray 27) := ⟨_, rfl⟩
  rw [← hW1] at hB hO
  have hB' := Lib.hid hB
  have hO' := Lib.hid hO
  have hitn : i < c.ta.n := by
    have h1 := hC.t.len
    unfold Tks.ts at h1
    rw [List.length_map] at h1
    have := (List.getElem?_eq_some_iff.1 hi).1
    omega
  have hta := Lib.hid (fun W (h : Only (fun _ => False) w W) => (hC.new h).t.at_ i t (ts_some hi))
  obtain ⟨q, hqq⟩ : ∃ q, q = w.heap.size := ⟨_, rfl⟩
  have hqq' := Lib.hid hqq
  rw [← hqq] at hB'
  have hAn : t.o.A = none → m = 0 := by
    intro h0
    rcases Nat.eq_zero_or_pos m with h | h
    · exact h
    · obtain ⟨o, ho⟩ : ∃ o, l[0]? = some o := ⟨_, List.getElem?_eq_getElem (by omega)⟩
      obtain ⟨b, off, e, _⟩ := hpA 0 o ho
      rw [h0] at e
      cases e
  clear hO hB hqq hC hi hm hLV hpA hpn hJ hce
  rw [show c.val = .agg #[.int .i64 c.s, .int .i64 c.wy, .int .i64 c.h, .int .i64 c.mi, .slice c.mb.A c.mb.n c.mb.cap, .int .i64 c.g, .slice c.cn.A c.cn.n c.cn.cap, .slice c.ce.A c.ce.n c.ce.cap, .slice c.ta.A c.ta.n c.ta.cap, .slice c.li.A c.li.n c.li.cap] from rfl] at hlv ⊢
  rw [show t.val = .agg #[.int .i64 t.p, .int .i64 t.th, .int .i64 t.pe, .int .i64 t.de, .int .i64 t.fr, .int .i64 t.fl, .slice t.o.A t.o.n t.o.cap] from rfl] at hlv
  unfold ConfV.cells at hW1 hB'
  obtain ⟨s, wy, h, mi, ⟨mA, mn, mc⟩, g, ⟨cA, cn, cc⟩, ⟨eA, en, ec⟩, ⟨tA, tn, tc⟩, ⟨lA, ln, lc⟩⟩ := c
  dsimp only at *
  have hW1' := Lib.hid hW1
  clear hW1
  have e0 := row_cell hB'.out (i := 0) rfl
  have e1 := row_cell hB'.out (i := 1) rfl
  have e2 := row_cell hB'.out (i := 2) rfl
  have e3 := row_cell hB'.out (i := 3) rfl
  have e4 := row_cell hB'.out (i := 4) rfl
  have e5 := row_cell hB'.out (i := 5) rfl
  have e6 := row_cell hB'.out (i := 6) rfl
  have e7 := row_cell hB'.out (i := 7) rfl
  have e8 := row_cell hB'.out (i := 8) rfl
  have e9 := row_cell hB'.out (i := 9) rfl
  have hqlt := row_lt hB'.out
  have hi2 : (i : Int) < (tn : Int) := by omega
  obtain ⟨tb, toff, htA, htb, htC⟩ := hta.out _ hO'.out
  subst htA
  obtain ⟨c0, c1, c2, c3, c4, c5, c6⟩ := htC
  obtain ⟨tp, th', tpe, tde, tfr, tfl, ⟨oA, on, oc⟩⟩ := t
  dsimp only at *
  subst hth
  subst hmn
  clear hta
  go_enter Try.func21, Try.ntmps21
  go_upto_region 1 with fail
  rw [← hqq'.out, ← hW1'.out]
  go_upto_region 2 with fail
  generalize hw4 : W1.alloc (.cells #[.int .i64 tp, .int .i64 th, .int .i64 tpe, .int .i64 tde, .int .i64 tfr, .int .i64 tfl, .slice oA on oc] 36) = w4
  have hO14 : Only (fun _ => False) W1 w4 := by rw [← hw4]; exact (Only.refl _ _).alloc _
  obtain ⟨Y, hY⟩ : ∃ Y, Y = W1.heap.size := ⟨_, rfl⟩
  have hy4 := Lib.hid (show w4.heap[Y]? = some (.cells #[.int .i64 tp, .int .i64 th, .int .i64 tpe, .int .i64 tde, .int .i64 tfr, .int .i64 tfl, .slice oA on oc] 36 (0, 0)) by rw [← hw4]; exact heap_new_at _ _ hY.symm)
  rw [← hY]
  have hO4' := Lib.hid (hO'.out.trans' hO14)
  have hB4 := Lib.hid (hO14.heap hB'.out (fun h => h))
  have hkeep := Lib.hid (fun W0 (h0 : Only (fun _ => False) w4 W0) => show W0.cell? ⟨q, 0, none⟩ = some (.int .i64 s) ∧ W0.cell? ⟨q, 1, none⟩ = some (.int .i64 wy) ∧ W0.cell? ⟨q, 2, none⟩ = some (.int .i64 h) ∧ W0.cell? ⟨q, 3, none⟩ = some (.int .i64 mi) ∧ W0.cell? ⟨q, 4, none⟩ = some (.slice mA mn mc) ∧ W0.cell? ⟨q, 5, none⟩ = some (.int .i64 g) ∧ W0.cell? ⟨q, 6, none⟩ = some (.slice cA cn cc) ∧ W0.cell? ⟨q, 7, none⟩ = some (.slice eA en ec) ∧ W0.cell? ⟨q, 8, none⟩ = some (.slice (some ⟨tb, toff, none⟩) tn tc) ∧ W0.cell? ⟨q, 9, none⟩ = some (.slice lA ln lc) ∧ q < W0.heap.size ∧ W0.cell? ⟨Y, 0, none⟩ = some (.int .i64 tp) ∧ W0.cell? ⟨Y, 1, none⟩ = some (.int .i64 th) ∧ W0.cell? ⟨Y, 2, none⟩ = some (.int .i64 tpe) ∧ W0.cell? ⟨Y, 3, none⟩ = some (.int .i64 tde) ∧ W0.cell? ⟨Y, 4, none⟩ = some (.int .i64 tfr) ∧ W0.cell? ⟨Y, 5, none⟩ = some (.int .i64 tfl) ∧ W0.cell? ⟨Y, 6, none⟩ = some (.slice oA on oc) ∧ Y < W0.heap.size from by
    have z := h0.heap hB4.out (fun h => h)
    have y := h0.heap hy4.out (fun h => h)
    exact ⟨row_cell z (i := 0) rfl, row_cell z (i := 1) rfl, row_cell z (i := 2) rfl, row_cell z (i := 3) rfl, row_cell z (i := 4) rfl, row_cell z (i := 5) rfl, row_cell z (i := 6) rfl, row_cell z (i := 7) rfl, row_cell z (i := 8) rfl, row_cell z (i := 9) rfl, row_lt z,
      row_cell (L := [.int .i64 tp, .int .i64 th, .int .i64 tpe, .int .i64 tde, .int .i64 tfr, .int .i64 tfl, .slice oA on oc]) y (i := 0) rfl, row_cell (L := [.int .i64 tp, .int .i64 th, .int .i64 tpe, .int .i64 tde, .int .i64 tfr, .int .i64 tfl, .slice oA on oc]) y (i := 1) rfl, row_cell (L := [.int .i64 tp, .int .i64 th, .int .i64 tpe, .int .i64 tde, .int .i64 tfr, .int .i64 tfl, .slice oA on oc]) y (i := 2) rfl, row_cell (L := [.int .i64 tp, .int .i64 th, .int .i64 tpe, .int .i64 tde, .int .i64 tfr, .int .i64 tfl, .slice oA on oc]) y (i := 3) rfl, row_cell (L := [.int .i64 tp, .int .i64 th, .int .i64 tpe, .int .i64 tde, .int .i64 tfr, .int .i64 tfl, .slice oA on oc]) y (i := 4) rfl, row_cell (L := [.int .i64 tp, .int .i64 th, .int .i64 tpe, .int .i64 tde, .int .i64 tfr, .int .i64 tfl, .slice oA on oc]) y (i := 5) rfl, row_cell (L := [.int .i64 tp, .int .i64 th, .int .i64 tpe, .int .i64 tde, .int .i64 tfr, .int .i64 tfl, .slice oA on oc]) y (i := 6) rfl, row_lt y⟩)
  have hcall := Lib.hid (fun W (h0 : Only (fun _ => False) w4 W) (k : Nat) (hk : k ≤ on) => hlv.out W (hO4'.out.trans' h0) k hk)
  clear hw4 hY hO14 e0 e1 e2 e3 e4 e5 e6 e7 e8 e9 hqlt c0 c1 c2 c3 c4 c5 c6 htb hB4 hy4 hB' hO' hW1' hlv
  obtain ⟨-, -, -, -, -, -, -, -, -, -, -, -, y1, -, -, -, -, -, hyl⟩ := hkeep.out _ (Only.refl _ _)
  go_wp2
  clear y1 hyl
  go_loopw [6, 7] (fun o v wr => ∃ (j y : Nat) (p : Option Addr) (cp : Nat) (hh : Option Nat), j ≤ J ∧ y ≤ j ∧ v = .int .i64 (th + 1 + (j : Int)) ∧ o = .slice p y cp ∧ y = (rrU th LV on j).length ∧ Win wr 3 1 (.slice p y cp) hh y (ints (rrU th LV on j)) ∧ (∀ b, hh = some b → w4.heap.size ≤ b) ∧ Only (fun _ => False) w4 wr) (fun _ v _ => (65 - intOf v).toNat)
  case atStart => exact ⟨0, 0, none, 0, none, Nat.zero_le _, Nat.le_refl _, by simp, rfl, rfl, Win.nil _ _ _, (fun b hb => by cases hb), Only.refl _ _⟩
  case round =>
    obtain ⟨j, y, p, cp, hh, hj, hyj, rfl, rfl, hyl, hW, hf, hO⟩ := hrel
    obtain ⟨ws, hws⟩ : ∃ ws : World, ws = wr := ⟨_, rfl⟩
    subst hws
    have hW' := Lib.hid hW
    have hf' := Lib.hid hf
    have hOs := Lib.hid hO
    have hyl' := Lib.hid hyl
    clear hO hW hf hyl
    by_cases hjJ : j < J
    · have hv64 : th + 1 + (j : Int) ≤ 64 := by omega
      have hsu := Lib.hid (show rrU th LV on (j + 1) = rrU th LV on j ++ (if hitB LV on (th + 1 + j) = true then [th + 1 + (j : Int)] else []) from rfl)
      obtain ⟨v, hv⟩ : ∃ v, v = th + 1 + (j : Int) := ⟨_, rfl⟩
      rw [← hv] at hsu hv64 ⊢
      have hv1 : -1000 ≤ v := by omega
      have hv' := Lib.hid hv
      clear hv
      obtain ⟨-, -, -, -, -, -, -, -, -, -, -, -, -, -, -, -, -, y6, hyl⟩ := hkeep.out _ hOs.out
      go_wp2
      clear y6 hyl
      go_loopw [6, 25] (fun o a wr => ∃ k : Nat, k ≤ on + 1 ∧ o = .slice p y cp ∧ a = .int .i64 k ∧ (∀ x, x < k → LV x ≠ v) ∧ Only (fun _ => False) ws wr) (fun _ a _ => on + 1 - (intOf a).toNat)
      case atStart => exact ⟨0, Nat.zero_le _, rfl, rfl, (fun x hx => by omega), Only.refl _ _⟩
      case round =>
        obtain ⟨k, hk, rfl, rfl, hno, hO⟩ := hrel
        obtain ⟨wt, hwt⟩ : ∃ wt : World, wt = wr := ⟨_, rfl⟩
        subst hwt
        have hno' := Lib.hid hno
        have hOt := Lib.hid hO
        have hOw := Lib.hid (hOs.out.trans' hO)
        have hWt := Lib.hid (hW'.out.kept hO (fun _ _ h => h))
        clear hno hO
        by_cases hkm : k < on + 1
        · have hkm' : (k : Int) < (on : Int) + 1 := by omega
          have hkc : k ≤ oc := by omega
          have hcl := Lib.hid (fun W (h0 : Only (fun _ => False) wt W) => hcall.out W (hOw.out.trans' h0) k (by omega))
          obtain ⟨L, hL⟩ : ∃ L, L = LV k := ⟨_, rfl⟩
          have hL' := Lib.hid hL
          rw [← hL] at hcl
          clear hL
          have hkeep2 := Lib.hid (fun W0 (h0 : Only (fun _ => False) wt W0) => hkeep.out W0 (hOw.out.trans' h0))
          obtain ⟨f0, f1, f2, f3, f4, f5, f6, f7, f8, f9, fq, y0, y1, y2, y3, y4, y5, y6, fy⟩ := hkeep2.out _ (Only.refl _ _)
          go_upto_region 9 with fail
          have htt : ∀ b : Bool, b = true ∨ b = false := by decide
          go_region_held3 (fun W0 => W0.cell? ⟨q, 0, none⟩ = some (.int .i64 s) ∧ W0.cell? ⟨q, 1, none⟩ = some (.int .i64 wy) ∧ W0.cell? ⟨q, 2, none⟩ = some (.int .i64 h) ∧ W0.cell? ⟨q, 3, none⟩ = some (.int .i64 mi) ∧ W0.cell? ⟨q, 4, none⟩ = some (.slice mA mn mc) ∧ W0.cell? ⟨q, 5, none⟩ = some (.int .i64 g) ∧ W0.cell? ⟨q, 6, none⟩ = some (.slice cA cn cc) ∧ W0.cell? ⟨q, 7, none⟩ = some (.slice eA en ec) ∧ W0.cell? ⟨q, 8, none⟩ = some (.slice (some ⟨tb, toff, none⟩) tn tc) ∧ W0.cell? ⟨q, 9, none⟩ = some (.slice lA ln lc) ∧ q < W0.heap.size ∧ W0.cell? ⟨Y, 0, none⟩ = some (.int .i64 tp) ∧ W0.cell? ⟨Y, 1, none⟩ = some (.int .i64 th) ∧ W0.cell? ⟨Y, 2, none⟩ = some (.int .i64 tpe) ∧ W0.cell? ⟨Y, 3, none⟩ = some (.int .i64 tde) ∧ W0.cell? ⟨Y, 4, none⟩ = some (.int .i64 tfr) ∧ W0.cell? ⟨Y, 5, none⟩ = some (.int .i64 tfl) ∧ W0.cell? ⟨Y, 6, none⟩ = some (.slice oA on oc) ∧ Y < W0.heap.size)
            (exact hkeep2.out _ (by repeat (first | assumption | exact Only.refl _ _ | apply Only.drew)))
            (first
              | (go_at_call 20; (with_reducible refine (hcl.out _ (by repeat (first | assumption | exact Only.refl _ _ | apply Only.drew))).mono ?_); rintro _ w5 ⟨rfl, ho5⟩; have hO5 : Only (fun _ => False) wt w5 := Only.trans' (by repeat (first | assumption | exact Only.refl _ _ | apply Only.drew)) ho5; clear ho5))
          all_goals
            have hO5' := Lib.hid hO5
            have hO4w := Lib.hid (hOw.out.trans' hO5)
            have hW5 := Lib.hid (hWt.out.kept hO5 (fun _ _ h => h))
            clear f0 f1 f2 f3 f4 f5 f6 f7 f8 f9 fq y0 y1 y2 y3 y4 y5 y6 fy hO5
            by_cases hLv : L = v
            · have hb : (L == v) = true := by simp [hLv]
              have hs2 := Lib.hid (show rrU th LV on (j + 1) = rrU th LV on j ++ [v] from by rw [hsu.out, if_pos (hitB_iff.2 ⟨k, by omega, by rw [← hL'.out, hLv]⟩)])
              go_wp2_with (at_builtin; go_loud (refine wpList_append_win rfl _ _ 24 rfl 3 (Value.int .i64 0) 1 8 Try.underlying24 info3 rfl (by decide) rfl (hW5.out.kept ((Only.refl (fun _ => False) _).alloc _) (fun _ _ h => h)) _ 1 1 rfl [.int .i64 v] rfl (fun _ => ⟨_, rfl, row_one (heap_new_at _ _ rfl)⟩) (by simp [Value.oneCell']) (by unfold maxLen; omega) (by have := hv'.out; omega) ?_; intro v4 w6 h4 hW4 hO4q hh4; obtain ⟨p4, c4', rfl, _, _⟩ := hW4.out.form))
              go_roundw
              case rel =>
                refine ⟨j + 1, y + 1, p4, c4', h4, by omega, by omega, by have := hv'.out; congr 1; push_cast; omega, rfl, ?_, ?_, fun x hx => ?_, ?_⟩
                · rw [hs2.out, List.length_append, ← hyl'.out]; rfl
                · rw [hs2.out]
                  have := hW4.out
                  rw [show ints (rrU th LV on j) ++ [Value.int .i64 v] = ints (rrU th LV on j ++ [v]) by simp [ints]] at this
                  exact this
                · rcases hh4.out with rfl | ⟨g5, hg5, hge5⟩
                  · exact hf'.out x hx
                  · rw [hg5] at hx
                    cases hx
                    have h7 := hO4w.out.size
                    simp at hge5
                    omega
                · exact (hO4w.out.alloc _).trans hO4q.out (fun x hx e => by
                    have h7 := hf'.out x e.symm
                    omega)
              case measure => simp [intOf]; omega
            · have hb : (L == v) = false := by simp [hLv]
              go_wp2
              go_roundw
              case rel =>
                refine ⟨k + 1, by omega, rfl, by go_num, fun x hx => ?_, hOt.out.trans' hO5'.out⟩
                by_cases hxk : x = k
                · subst hxk; rw [← hL'.out]; exact hLv
                · exact hno'.out x (by omega)
              case measure => simp [intOf]; omega
        · obtain rfl : k = on + 1 := by omega
          have hkm' : ¬ ((on + 1 : Nat) : Int) < (on : Int) + 1 := by omega
          have hs2 := Lib.hid (show rrU th LV on (j + 1) = rrU th LV on j from by
            rw [hsu.out, if_neg (fun h => by
              obtain ⟨x, hx, e⟩ := hitB_iff.1 h
              exact hno'.out x (by omega) (by rw [e])), List.append_nil])
          go_wp2
          go_roundw
          case rel =>
            refine ⟨j + 1, y, p, cp, hh, by omega, by omega, by have := hv'.out; congr 1; push_cast; omega, rfl, by rw [hs2.out]; exact hyl'.out, ?_, hf'.out, hOw.out⟩
            rw [hs2.out]
            exact hWt.out
          case measure => simp [intOf]; omega
    · obtain rfl : j = J := by omega
      have hv65 : ¬ th + 1 + (j : Int) ≤ 64 := by omega
      have hend := Lib.hid (show Z (.returned (.slice p y cp)) ws from by
        rw [hZ'.out]
        refine ⟨p, cp, hh, by rw [hyl'.out], ?_, fun b hb => Nat.le_trans hO4'.out.size (hf'.out b hb), hO4'.out.trans' hOs.out⟩
        have := hW'.out
        rwa [← hyl'.out])
      go_wp2
      exact hend.out
end Sct
end Go.Proofs.Yteeleelkepjoaaa
/- What the program's and the reference's Longest have in common. -/
namespace Go.Proofs.Yteeleelkepjoaaa
namespace Sct
open Go Go.RowKit Lin Lck Cst

/-- Operation k is below the level, ahead and behind. -/
def blw (LV : Nat → Int) (lev : Int) (k : Nat) : Prop := LV k < lev ∧ LV (k + 1) < lev
/-- The operations from i on, below k, are a stretch. -/
def str (LV : Nat → Int) (lev : Int) (i k : Nat) : Prop := i ≤ k ∧ ∀ x, i ≤ x → x < k → ¬ blw LV lev x
theorem str_self (LV : Nat → Int) (lev : Int) (i : Nat) : str LV lev i i := ⟨Nat.le_refl _, fun x h1 h2 => by omega⟩
theorem str_succ {LV : Nat → Int} {lev : Int} {i k : Nat} (h : str LV lev i k) (hk : ¬ blw LV lev k) : str LV lev i (k + 1) :=
  ⟨by have := h.1; omega, fun x h1 h2 => by
    by_cases hx : x = k
    · subst hx; exact hk
    · exact h.2 x h1 (by omega)⟩
theorem str_pre {LV : Nat → Int} {lev : Int} {i k : Nat} (h : str LV lev i (k + 1)) (hi : i ≤ k) : str LV lev i k := ⟨hi, fun x h1 h2 => h.2 x h1 (by omega)⟩
/-- v is what the longest of some stretches takes. -/
def Best (LV co : Nat → Int) (lev : Int) (A : Nat → Nat → Prop) (m : Nat) (v : Int) : Prop :=
  0 ≤ v ∧ (∀ i k, A i k → k ≤ m → str LV lev i k → sumU co k - sumU co i ≤ v) ∧ (v = 0 ∨ ∃ i k, k ≤ m ∧ str LV lev i k ∧ sumU co k - sumU co i = v)
theorem Best.uniq {LV co : Nat → Int} {lev : Int} {m : Nat} {u v : Int} (hu : Best LV co lev (fun _ _ => True) m u) (hv : Best LV co lev (fun _ _ => True) m v) : u = v := by
  obtain ⟨u0, u1, u2⟩ := hu
  obtain ⟨v0, v1, v2⟩ := hv
  apply Int.le_antisymm
  · rcases u2 with rfl | ⟨i, k, hk, hs, rfl⟩
    · exact v0
    · exact v1 i k trivial hk hs
  · rcases v2 with rfl | ⟨i, k, hk, hs, rfl⟩
    · exact u0
    · exact u1 i k trivial hk hs
theorem sumU_mono {co : Nat → Int} (h0 : ∀ k, 0 ≤ co k) {i k : Nat} (h : i ≤ k) : sumU co i ≤ sumU co k := by
  induction k with
  | zero => obtain rfl : i = 0 := by omega
            exact Int.le_refl _
  | succ k ih =>
    by_cases hi : i = k + 1
    · subst hi; exact Int.le_refl _
    · have := ih (by omega)
      have := h0 k
      have e : sumU co (k + 1) = sumU co k + co k := rfl
      omega
theorem lonU_best {LV co : Nat → Int} {lev : Int} (h0 : ∀ k, 0 ≤ co k) : ∀ m, Best LV co lev (fun _ _ => True) m (lonU LV co lev m).1 ∧ (∀ i, str LV lev i m → sumU co m - sumU co i ≤ (lonU LV co lev m).2) ∧ (∃ i, str LV lev i m ∧ sumU co m - sumU co i = (lonU LV co lev m).2)
  | 0 => by
    refine ⟨⟨Int.le_refl _, fun i k _ hk hs => ?_, .inl rfl⟩, fun i hs => ?_, 0, str_self _ _ _, by simp [lonU]⟩
    · obtain rfl : k = 0 := by omega
      obtain rfl : i = 0 := by have := hs.1; omega
      simp [lonU]
    · obtain rfl : i = 0 := by have := hs.1; omega
      simp [lonU]
  | m + 1 => by
    obtain ⟨⟨b0, b1, b2⟩, r1, ⟨s, r2, r3⟩⟩ := lonU_best h0 (lev := lev) (LV := LV) m
    have e : sumU co (m + 1) = sumU co m + co m := rfl
    have hm0 := h0 m
    unfold lonU
    split
    · rename_i hb
      have hb' : blw LV lev m := by unfold blw; omega
      have hno : ∀ i, str LV lev i (m + 1) → i = m + 1 := fun i hs => by
        by_cases hi : i = m + 1
        · exact hi
        · exact absurd hb' (hs.2 m (by have := hs.1; omega) (by omega))
      refine ⟨⟨b0, fun i k _ hk hs => ?_, ?_⟩, fun i hs => ?_, m + 1, str_self _ _ _, by simp⟩
      · by_cases hkm : k = m + 1
        · subst hkm
          obtain rfl := hno i hs
          simpa using b0
        · exact b1 i k trivial (by omega) hs
      · rcases b2 with h | ⟨i, k, h1, h2, h3⟩
        · exact .inl h
        · exact .inr ⟨i, k, by omega, h2, h3⟩
      · obtain rfl := hno i hs
        simp
    · rename_i hb
      have hb' : ¬ blw LV lev m := by unfold blw; omega
      have hsm : ∀ i, str LV lev i (m + 1) → sumU co (m + 1) - sumU co i ≤ (lonU LV co lev m).2 + co m := fun i hs => by
        by_cases hi : i = m + 1
        · subst hi
          have h1 := r1 m (str_self _ _ _)
          simp at h1 ⊢
          omega
        · have := r1 i (str_pre hs (by have := hs.1; omega))
          omega
      have hrun0 : 0 ≤ (lonU LV co lev m).2 := by have h1 := r1 m (str_self _ _ _); simpa using h1
      refine ⟨⟨?_, fun i k _ hk hs => ?_, ?_⟩, hsm, s, str_succ r2 hb', ?_⟩
      · dsimp only; omega
      · dsimp only
        by_cases hkm : k = m + 1
        · subst hkm
          have := hsm i hs
          omega
        · have := b1 i k trivial (by omega) hs
          omega
      · dsimp only
        by_cases hx : (lonU LV co lev m).1 ≤ (lonU LV co lev m).2 + co m
        · refine .inr ⟨s, m + 1, Nat.le_refl _, str_succ r2 hb', ?_⟩
          omega
        · rcases b2 with h | ⟨i, k, h1, h2, h3⟩
          · omega
          · refine .inr ⟨i, k, by omega, h2, ?_⟩
            omega
      · dsimp only; omega
/-- What the reference knows ahead of operation k of the stretch that begins at i. -/
def Inr (LV co : Nat → Int) (lev : Int) (m i k : Nat) (v : Int) : Prop := Best LV co lev (fun a b => a < i ∨ a = i ∧ b ≤ k) m v ∧ str LV lev i k
theorem best_zero (LV co : Nat → Int) (lev : Int) (m : Nat) : Best LV co lev (fun a _ => a < 0) m 0 := ⟨Int.le_refl _, fun i k h _ _ => by omega, .inl rfl⟩
theorem inr_start {LV co : Nat → Int} {lev : Int} {m i : Nat} {v : Int} (h : Best LV co lev (fun a _ => a < i) m v) : Inr LV co lev m i i v := by
  obtain ⟨h0, h1, h2⟩ := h
  refine ⟨⟨h0, fun a b hab hb hs => ?_, h2⟩, str_self _ _ _⟩
  rcases hab with h | ⟨rfl, h⟩
  · exact h1 a b h hb hs
  · obtain rfl : b = a := by have := hs.1; omega
    simpa using h0
theorem inr_step {LV co : Nat → Int} {lev : Int} {m i k : Nat} {v : Int} (h : Inr LV co lev m i k v) (hk : k < m) (hb : ¬ blw LV lev k) : Inr LV co lev m i (k + 1) (max v (sumU co k - sumU co i + co k)) := by
  obtain ⟨⟨h0, h1, h2⟩, h3⟩ := h
  have e : sumU co (k + 1) = sumU co k + co k := rfl
  have h4 := str_succ h3 hb
  refine ⟨⟨by omega, fun a b hab hbm hs => ?_, ?_⟩, h4⟩
  · by_cases hx : a = i ∧ b = k + 1
    · obtain ⟨rfl, rfl⟩ := hx
      omega
    · have := h1 a b (by omega) hbm hs
      omega
  · by_cases hx : v ≤ sumU co k - sumU co i + co k
    · exact .inr ⟨i, k + 1, by omega, h4, by omega⟩
    · rcases h2 with h | ⟨a, b, x1, x2, x3⟩
      · left; omega
      · exact .inr ⟨a, b, x1, x2, by omega⟩
theorem inr_break {LV co : Nat → Int} {lev : Int} {m i k : Nat} {v : Int} (h : Inr LV co lev m i k v) (hb : blw LV lev k ∨ k = m) : Best LV co lev (fun a _ => a < i + 1) m v := by
  obtain ⟨⟨h0, h1, h2⟩, h3⟩ := h
  refine ⟨h0, fun a b ha hbm hs => ?_, h2⟩
  refine h1 a b ?_ hbm hs
  by_cases hx : a < i
  · exact .inl hx
  · obtain rfl : a = i := by omega
    refine .inr ⟨rfl, ?_⟩
    rcases hb with hb | rfl
    · apply Nat.le_of_not_lt
      intro hlt
      exact hs.2 k h3.1 hlt hb
    · exact hbm
theorem best_all {LV co : Nat → Int} {lev : Int} {m : Nat} {v : Int} (h : Best LV co lev (fun a _ => a < m) m v) : Best LV co lev (fun _ _ => True) m v := by
  obtain ⟨h0, h1, h2⟩ := h
  refine ⟨h0, fun a b _ hb hs => ?_, h2⟩
  by_cases ha : a < m
  · exact h1 a b ha hb hs
  · obtain rfl : b = m := by have := hs.1; omega
    obtain rfl : a = b := by have := hs.1; omega
    simpa using h0
theorem best_lon {LV co : Nat → Int} {lev : Int} (h0 : ∀ k, 0 ≤ co k) {m : Nat} {v : Int} (h : Best LV co lev (fun a _ => a < m) m v) : v = (lonU LV co lev m).1 := (best_all h).uniq (lonU_best h0 m).1
end Sct
end Go.Proofs.Yteeleelkepjoaaa
/- The reference's Longest. -/
namespace Go.Proofs.Yteeleelkepjoaaa
namespace Sct
open Go Go.RowKit Lin Lck Cst Srt

set_option maxRecDepth 100000 in
set_option maxHeartbeats 4000000 in
theorem rlong_any {w : World} {c : ConfV} {d : ConfL} {pl : Tks} (hC : ConfIn w c d pl) (hen : c.ce.n ≤ 4096) (hce : ∀ W, Only (fun _ => False) w W → IntsAt W c.ce d.ce) {i : Nat} {t : TaskV} {l : List Opn} (hi : pl[i]? = some (t, l)) (hl9 : l.length ≤ 1000) (lev : Int) :
    Calls Try.prog 22 #[c.val, .int .i64 (i : Int), .int .i64 lev] w (GrowI (lonZ t.th (ceZ d.ce) c.ce.n l c.h c.mi lev) w) := by
  have hlv := Lib.hid (fun W (h : Only (fun _ => False) w W) (k : Nat) (hk : k ≤ l.length) => show Calls Try.prog 20 #[c.val, t.val, .slice t.o.A k t.o.cap] W (GrowI (levK t.th (ceZ d.ce) c.ce.n l k) W) from by
    have := rlevel_any (w := W) (c := c) (d := d) (fun W' h' => hce W' (h.trans' h')) hen t (cap := t.o.cap) (opnrow_take ((hC.p i t l hi).1.new h) k) (n := k) (by rw [List.length_take]; omega) (by omega)
    exact this)
  obtain ⟨V, hV⟩ : ∃ V, V = lonZ t.th (ceZ d.ce) c.ce.n l c.h c.mi lev := ⟨_, rfl⟩
  rw [← hV]
  have hbest := fun v (h : Best (levK t.th (ceZ d.ce) c.ce.n l) (costK l c.h c.mi) lev (fun a _ => a < l.length) l.length v) => show v = V from by
    rw [hV]
    exact best_lon (fun k => (costK_le l c.h c.mi k).1) h
  clear hV
  have hrow := Lib.hid (fun W (h : Only (fun _ => False) w W) => ((hC.new h).p i t l hi).1)
  obtain ⟨hpA, hpn, hpc⟩ := hC.p i t l hi
  obtain ⟨m, hm⟩ : ∃ m, m = l.length := ⟨_, rfl⟩
  obtain ⟨LV, hLV⟩ : ∃ LV, LV = levK t.th (ceZ d.ce) c.ce.n l := ⟨_, rfl⟩
  rw [← hm, ← hLV] at hlv hbest
  obtain ⟨co, hco⟩ : ∃ co, co = costK l c.h c.mi := ⟨_, rfl⟩
  rw [← hco] at hbest
  have hcb := Lib.hid (fun k => show 0 ≤ co k ∧ co k ≤ 1073741824 from by rw [hco]; exact costK_le _ _ _ _)
  have hca := Lib.hid (fun k o (ho : l[k]? = some o) => show co k = ofZ o c.h c.mi false from by rw [hco]; exact costK_at ho)
  have hlm := Lib.hid hm
  have hbest' := Lib.hid hbest
  clear hbest hco
  have hmn : t.o.n = m := by omega
  have hm9 : m ≤ 1000 := by omega
  obtain ⟨th, hth⟩ : ∃ th, th = t.th := ⟨_, rfl⟩
  obtain ⟨Z, hZ⟩ : ∃ Z, Z = GrowI V w := ⟨_, rfl⟩
  rw [← hZ]
  have hZ' := Lib.hid hZ
  clear hZ
  have hO := (Only.refl (fun _ => False) w).alloc (.cells c.cells.toArray 27)
  have hB := heap_new_at w (.cells c.cells.toArray 27) rfl
  obtain ⟨W1, hW1⟩ : ∃ W1, W1 = w.alloc (.cells c.cells.toArray 27) := ⟨_, rfl⟩
  rw [← hW1] at hB hO
  have hB' := Lib.hid hB
  have hO' := Lib.hid hO
  have hitn : i < c.ta.n := by
    have h1 := hC.t.len
    unfold Tks.ts at h1
    rw [List.length_map] at h1
    have := (List.getElem?_eq_some_iff.1 hi).1
    omega
  have hta := Lib.hid (fun W (h : Only (fun _ => False) w W) => (hC.new h).t.at_ i t (ts_some hi))
  obtain ⟨q, hqq⟩ : ∃ q, q = w.heap.size := ⟨_, rfl⟩
  have hqq' := Lib.hid hqq
  rw [← hqq] at hB'
  have hAn : t.o.A = none → m = 0 := by
    intro h0
    rcases Nat.eq_zero_or_pos m with h | h
    · exact h
    · obtain ⟨o, ho⟩ : ∃ o, l[0]? = some o := ⟨_, List.getElem?_eq_getElem (by omega)⟩
      obtain ⟨b, off, e, _⟩ := hpA 0 o ho
      rw [h0] at e
      cases e
  clear hO hB hqq hC hi hm hLV hpA hpn hce
  rw [show c.val = .agg #[.int .i64 c.s, .int .i64 c.wy, .int .i64 c.h, .int .i64 c.mi, .slice c.mb.A c.mb.n c.mb.cap, .int .i64 c.g, .slice c.cn.A c.cn.n c.cn.cap, .slice c.ce.A c.ce.n c.ce.cap, .slice c.ta.A c.ta.n c.ta.cap, .slice c.li.A c.li.n c.li.cap] from rfl] at hlv ⊢
  rw [show t.val = .agg #[.int .i64 t.p, .int .i64 t.th, .int .i64 t.pe, .int .i64 t.de, .int .i64 t.fr, .int .i64 t.fl, .slice t.o.A t.o.n t.o.cap] from rfl] at hlv
  unfold ConfV.cells at hW1 hB'
  obtain ⟨s, wy, h, mi, ⟨mA, mn, mc⟩, g, ⟨cA, cn, cc⟩, ⟨eA, en, ec⟩, ⟨tA, tn, tc⟩, ⟨lA, ln, lc⟩⟩ := c
  dsimp only at *
  have hW1' := Lib.hid hW1
  clear hW1
  have e0 := row_cell hB'.out (i := 0) rfl
  have e1 := row_cell hB'.out (i := 1) rfl
  have e2 := row_cell hB'.out (i := 2) rfl
  have e3 := row_cell hB'.out (i := 3) rfl
  have e4 := row_cell hB'.out (i := 4) rfl
  have e5 := row_cell hB'.out (i := 5) rfl
  have e6 := row_cell hB'.out (i := 6) rfl
  have e7 := row_cell hB'.out (i := 7) rfl
  have e8 := row_cell hB'.out (i := 8) rfl
  have e9 := row_cell hB'.out (i := 9) rfl
  have hqlt := row_lt hB'.out
  have hi2 : (i : Int) < (tn : Int) := by omega
  obtain ⟨tb, toff, htA, htb, htC⟩ := hta.out _ hO'.out
  subst htA
  obtain ⟨c0, c1, c2, c3, c4, c5, c6⟩ := htC
  obtain ⟨tp, th', tpe, tde, tfr, tfl, ⟨oA, on, oc⟩⟩ := t
  dsimp only at *
  subst hth
  subst hmn
  clear hta
  go_enter Try.func22, Try.ntmps22
  go_upto_region 1 with fail
  rw [← hqq'.out, ← hW1'.out]
  go_upto_region 2 with fail
  generalize hw4 : W1.alloc (.cells #[.int .i64 tp, .int .i64 th, .int .i64 tpe, .int .i64 tde, .int .i64 tfr, .int .i64 tfl, .slice oA on oc] 36) = w4
  have hO14 : Only (fun _ => False) W1 w4 := by rw [← hw4]; exact (Only.refl _ _).alloc _
  obtain ⟨Y, hY⟩ : ∃ Y, Y = W1.heap.size := ⟨_, rfl⟩
  have hy4 := Lib.hid (show w4.heap[Y]? = some (.cells #[.int .i64 tp, .int .i64 th, .int .i64 tpe, .int .i64 tde, .int .i64 tfr, .int .i64 tfl, .slice oA on oc] 36 (0, 0)) by rw [← hw4]; exact heap_new_at _ _ hY.symm)
  rw [← hY]
  have hO4' := Lib.hid (hO'.out.trans' hO14)
  have hB4 := Lib.hid (hO14.heap hB'.out (fun h => h))
  have hkeep := Lib.hid (fun W0 (h0 : Only (fun _ => False) w4 W0) => show W0.cell? ⟨q, 0, none⟩ = some (.int .i64 s) ∧ W0.cell? ⟨q, 1, none⟩ = some (.int .i64 wy) ∧ W0.cell? ⟨q, 2, none⟩ = some (.int .i64 h) ∧ W0.cell? ⟨q, 3, none⟩ = some (.int .i64 mi) ∧ W0.cell? ⟨q, 4, none⟩ = some (.slice mA mn mc) ∧ W0.cell? ⟨q, 5, none⟩ = some (.int .i64 g) ∧ W0.cell? ⟨q, 6, none⟩ = some (.slice cA cn cc) ∧ W0.cell? ⟨q, 7, none⟩ = some (.slice eA en ec) ∧ W0.cell? ⟨q, 8, none⟩ = some (.slice (some ⟨tb, toff, none⟩) tn tc) ∧ W0.cell? ⟨q, 9, none⟩ = some (.slice lA ln lc) ∧ q < W0.heap.size ∧ W0.cell? ⟨Y, 0, none⟩ = some (.int .i64 tp) ∧ W0.cell? ⟨Y, 1, none⟩ = some (.int .i64 th) ∧ W0.cell? ⟨Y, 2, none⟩ = some (.int .i64 tpe) ∧ W0.cell? ⟨Y, 3, none⟩ = some (.int .i64 tde) ∧ W0.cell? ⟨Y, 4, none⟩ = some (.int .i64 tfr) ∧ W0.cell? ⟨Y, 5, none⟩ = some (.int .i64 tfl) ∧ W0.cell? ⟨Y, 6, none⟩ = some (.slice oA on oc) ∧ Y < W0.heap.size from by
    have z := h0.heap hB4.out (fun h => h)
    have y := h0.heap hy4.out (fun h => h)
    exact ⟨row_cell z (i := 0) rfl, row_cell z (i := 1) rfl, row_cell z (i := 2) rfl, row_cell z (i := 3) rfl, row_cell z (i := 4) rfl, row_cell z (i := 5) rfl, row_cell z (i := 6) rfl, row_cell z (i := 7) rfl, row_cell z (i := 8) rfl, row_cell z (i := 9) rfl, row_lt z,
      row_cell (L := [.int .i64 tp, .int .i64 th, .int .i64 tpe, .int .i64 tde, .int .i64 tfr, .int .i64 tfl, .slice oA on oc]) y (i := 0) rfl, row_cell (L := [.int .i64 tp, .int .i64 th, .int .i64 tpe, .int .i64 tde, .int .i64 tfr, .int .i64 tfl, .slice oA on oc]) y (i := 1) rfl, row_cell (L := [.int .i64 tp, .int .i64 th, .int .i64 tpe, .int .i64 tde, .int .i64 tfr, .int .i64 tfl, .slice oA on oc]) y (i := 2) rfl, row_cell (L := [.int .i64 tp, .int .i64 th, .int .i64 tpe, .int .i64 tde, .int .i64 tfr, .int .i64 tfl, .slice oA on oc]) y (i := 3) rfl, row_cell (L := [.int .i64 tp, .int .i64 th, .int .i64 tpe, .int .i64 tde, .int .i64 tfr, .int .i64 tfl, .slice oA on oc]) y (i := 4) rfl, row_cell (L := [.int .i64 tp, .int .i64 th, .int .i64 tpe, .int .i64 tde, .int .i64 tfr, .int .i64 tfl, .slice oA on oc]) y (i := 5) rfl, row_cell (L := [.int .i64 tp, .int .i64 th, .int .i64 tpe, .int .i64 tde, .int .i64 tfr, .int .i64 tfl, .slice oA on oc]) y (i := 6) rfl, row_lt y⟩)
  have hcall := Lib.hid (fun W (h0 : Only (fun _ => False) w4 W) (k : Nat) (hk : k ≤ on) => hlv.out W (hO4'.out.trans' h0) k hk)
  clear hw4 hY hO14 e0 e1 e2 e3 e4 e5 e6 e7 e8 e9 hqlt c0 c1 c2 c3 c4 c5 c6 htb hB4 hy4 hB' hO' hW1' hlv
  obtain ⟨-, -, -, -, -, -, -, -, -, -, -, -, -, -, -, -, -, y6, hyl⟩ := hkeep.out _ (Only.refl _ _)
  go_wp2
  clear y6 hyl
  go_loopw [8, 20] (fun b i' wr => ∃ (j : Nat) (v : Int), j ≤ on ∧ i' = .int .i64 j ∧ b = .int .i64 v ∧ v ≤ 1073741824 * (on : Int) ∧ Best LV co lev (fun a _ => a < j) on v ∧ Only (fun _ => False) w4 wr) (fun _ i' _ => on - (intOf i').toNat)
  case atStart => exact ⟨0, 0, Nat.zero_le _, rfl, rfl, by omega, ⟨Int.le_refl _, fun i k h _ _ => by omega, .inl rfl⟩, Only.refl _ _⟩
  case round =>
    obtain ⟨j, v, hj, rfl, rfl, hv9, hbe, hO⟩ := hrel
    obtain ⟨ws, hws⟩ : ∃ ws : World, ws = wr := ⟨_, rfl⟩
    subst hws
    have hbe' := Lib.hid hbe
    have hOs := Lib.hid hO
    have hv0 := hbe.1
    clear hO hbe
    by_cases hjn : j < on
    · have hjn' : (j : Int) < (on : Int) := by omega
      obtain ⟨-, -, -, -, -, -, -, -, -, -, -, -, -, -, -, -, -, y6, hyl⟩ := hkeep.out _ hOs.out
      go_wp2
      clear y6 hyl
      go_loopw [8, 10, 11] (fun b sm a wr => ∃ (k : Nat) (u : Int), j ≤ k ∧ k ≤ on ∧ a = .int .i64 k ∧ b = .int .i64 u ∧ u ≤ 1073741824 * (on : Int) ∧ sm = .int .i64 (sumU co k - sumU co j) ∧ Inr LV co lev on j k u ∧ Only (fun _ => False) ws wr) (fun _ _ a _ => on - (intOf a).toNat)
      case atStart => exact ⟨j, v, Nat.le_refl _, by omega, rfl, rfl, hv9, by simp, inr_start hbe'.out, Only.refl _ _⟩
      case round =>
        obtain ⟨k, u, hjk, hk, rfl, rfl, hu9, rfl, hin, hO⟩ := hrel
        obtain ⟨wt, hwt⟩ : ∃ wt : World, wt = wr := ⟨_, rfl⟩
        subst hwt
        have hin' := Lib.hid hin
        have hu0 := hin.1.1
        have hOt := Lib.hid hO
        have hOw := Lib.hid (hOs.out.trans' hO)
        clear hO hin
        have hkeep2 := Lib.hid (fun W0 (h0 : Only (fun _ => False) wt W0) => hkeep.out W0 (hOw.out.trans' h0))
        by_cases hkm : k < on
        · have hkm' : (k : Int) < (on : Int) := by omega
          have hkc : k ≤ oc := by omega
          have hkc1 : k + 1 ≤ oc := by omega
          have hk1 : ((k : Int) + 1).toNat = k + 1 := by omega
          have hwk : IntKind.i64.wrap ((k : Int) + 1) = (k : Int) + 1 := IntWalk.i64_in _ (by omega)
          have hk2 : (0 : Int) ≤ (k : Int) + 1 := by omega
          have hk3 : (k : Int) + 1 ≤ (oc : Int) := by omega
          have hcl := Lib.hid (fun W (h0 : Only (fun _ => False) wt W) => hcall.out W (hOw.out.trans' h0) k (by omega))
          have hcl1 := Lib.hid (fun W (h0 : Only (fun _ => False) wt W) => hcall.out W (hOw.out.trans' h0) (k + 1) (by omega))
          obtain ⟨L, hL⟩ : ∃ L, L = LV k := ⟨_, rfl⟩
          have hL' := Lib.hid hL
          rw [← hL] at hcl
          obtain ⟨L1, hL1⟩ : ∃ L1, L1 = LV (k + 1) := ⟨_, rfl⟩
          have hL1' := Lib.hid hL1
          rw [← hL1] at hcl1
          obtain ⟨sm, hsm⟩ : ∃ sm, sm = sumU co k - sumU co j := ⟨_, rfl⟩
          have hsm' := Lib.hid hsm
          rw [← hsm]
          clear hL hL1 hsm
          obtain ⟨f0, f1, f2, f3, f4, f5, f6, f7, f8, f9, fq, y0, y1, y2, y3, y4, y5, y6, fy⟩ := hkeep2.out _ (Only.refl _ _)
          by_cases hlt : L < lev
          · go_upto_region 10 with fail
            go_region_held3 (fun W0 => W0.cell? ⟨q, 0, none⟩ = some (.int .i64 s) ∧ W0.cell? ⟨q, 1, none⟩ = some (.int .i64 wy) ∧ W0.cell? ⟨q, 2, none⟩ = some (.int .i64 h) ∧ W0.cell? ⟨q, 3, none⟩ = some (.int .i64 mi) ∧ W0.cell? ⟨q, 4, none⟩ = some (.slice mA mn mc) ∧ W0.cell? ⟨q, 5, none⟩ = some (.int .i64 g) ∧ W0.cell? ⟨q, 6, none⟩ = some (.slice cA cn cc) ∧ W0.cell? ⟨q, 7, none⟩ = some (.slice eA en ec) ∧ W0.cell? ⟨q, 8, none⟩ = some (.slice (some ⟨tb, toff, none⟩) tn tc) ∧ W0.cell? ⟨q, 9, none⟩ = some (.slice lA ln lc) ∧ q < W0.heap.size ∧ W0.cell? ⟨Y, 0, none⟩ = some (.int .i64 tp) ∧ W0.cell? ⟨Y, 1, none⟩ = some (.int .i64 th) ∧ W0.cell? ⟨Y, 2, none⟩ = some (.int .i64 tpe) ∧ W0.cell? ⟨Y, 3, none⟩ = some (.int .i64 tde) ∧ W0.cell? ⟨Y, 4, none⟩ = some (.int .i64 tfr) ∧ W0.cell? ⟨Y, 5, none⟩ = some (.int .i64 tfl) ∧ W0.cell? ⟨Y, 6, none⟩ = some (.slice oA on oc) ∧ Y < W0.heap.size)
              (exact hkeep2.out _ (by repeat (first | assumption | exact Only.refl _ _ | apply Only.drew)))
              (first
                | (go_at_call 20; (with_reducible refine (hcl.out _ (by repeat (first | assumption | exact Only.refl _ _ | apply Only.drew))).mono ?_); rintro _ w5 ⟨rfl, ho5⟩; have hO5 : Only (fun _ => False) wt w5 := Only.trans' (by repeat (first | assumption | exact Only.refl _ _ | apply Only.drew)) ho5; clear ho5)
                | (go_at_call 20; (with_reducible refine (hcl1.out _ (by repeat (first | assumption | exact Only.refl _ _ | apply Only.drew))).mono ?_); rintro _ w6 ⟨rfl, ho6⟩; have hO6 : Only (fun _ => False) wt w6 := Only.trans' (by repeat (first | assumption | exact Only.refl _ _ | apply Only.drew)) ho6; clear ho6))
-- [T
            all_goals
              by_cases hlt1 : L1 < lev
              · clear f0 f1 f2 f3 f4 f5 f6 f7 f8 f9 fq y0 y1 y2 y3 y4 y5 y6 fy
                have hbr := Lib.hid (inr_break hin'.out (.inl ⟨by rw [← hL'.out]; exact hlt, by rw [← hL1'.out]; exact hlt1⟩))
                go_wp2
                go_roundw
                case rel => exact ⟨j + 1, u, by omega, by go_num, rfl, hu9, hbr.out, hOw.out.trans' hO6⟩
                case measure => simp [intOf]; omega
              · have hnb : ¬ blw LV lev k := by unfold blw; rw [← hL'.out, ← hL1'.out]; omega
                have hOz := Lib.hid hO6
                have hOz4 := Lib.hid (hOw.out.trans' hOz.out)
                clear f0 f1 f2 f3 f4 f5 f6 f7 f8 f9 fq y0 y1 y2 y3 y4 y5 y6 fy
                obtain ⟨o, ho⟩ : ∃ o, l[k]? = some o := ⟨_, List.getElem?_eq_getElem (by have := hlm.out; omega)⟩
                have hck := hca.out k o ho
                obtain ⟨hc0, hc1⟩ := hcb.out k
                obtain ⟨C, hC⟩ : ∃ C, C = co k := ⟨_, rfl⟩
                rw [← hC] at hck hc0 hc1
                have hC' := Lib.hid hC
                have hof := Lib.hid (fun W => rof_any o s wy h mi W)
                rw [← hck] at hof
                unfold Opn.val at hof
                obtain ⟨vb, voff, hvA, hvb, d0, d1, d2⟩ := opn_row (hrow.out _ (hO4'.out.trans' hOz4.out)) ho
                subst hvA
                obtain ⟨ok, oa, ob⟩ := o
                dsimp only at d0 d1 d2 hof
                obtain ⟨sb1, sb2⟩ := sumU_bound hcb.out k
                obtain ⟨sb3, sb4⟩ := sumU_bound hcb.out j
                have sb5 := sumU_mono (fun x => (hcb.out x).1) hjk
                have hs1 : sumU co (k + 1) = sumU co k + C := by rw [hC'.out]; rfl
                have hs0 : 0 ≤ sm := by have := hsm'.out; omega
                have hs9 : sm + C ≤ 1073741824 * (on : Int) := by have := hsm'.out; omega
                have hs2 := Lib.hid (show sm + C = sumU co (k + 1) - sumU co j from by have := hsm'.out; omega)
                have hst := Lib.hid (inr_step hin'.out hkm hnb)
                rw [← hsm'.out, ← hC'.out] at hst
                have hwr : IntKind.i64.wrap (sm + C) = sm + C := IntWalk.i64_in _ (by omega)
                have hkeep3 := Lib.hid (fun W0 (h0 : Only (fun _ => False) w6 W0) => show W0.cell? ⟨q, 0, none⟩ = some (.int .i64 s) ∧ W0.cell? ⟨q, 1, none⟩ = some (.int .i64 wy) ∧ W0.cell? ⟨q, 2, none⟩ = some (.int .i64 h) ∧ W0.cell? ⟨q, 3, none⟩ = some (.int .i64 mi) ∧ q < W0.heap.size ∧ W0.cell? ⟨Y, 6, none⟩ = some (.slice (some ⟨vb, voff, none⟩) on oc) ∧ Y < W0.heap.size ∧ W0.cell? ⟨vb, voff + k * 3, none⟩ = some (.int .i64 ok) ∧ W0.cell? ⟨vb, voff + k * 3 + 1, none⟩ = some (.int .i64 oa) ∧ W0.cell? ⟨vb, voff + k * 3 + 2, none⟩ = some (.int .i64 ob) ∧ vb < W0.heap.size from by
                  obtain ⟨g0, g1, g2, g3, -, -, -, -, -, -, gq, -, -, -, -, -, -, g6, gy⟩ := hkeep.out _ (hOz4.out.trans' h0)
                  exact ⟨g0, g1, g2, g3, gq, g6, gy, h0.cell d0 (fun h => h), h0.cell d1 (fun h => h), h0.cell d2 (fun h => h), Nat.lt_of_lt_of_le hvb h0.size⟩)
                clear ho hck hC d0 d1 d2 hvb sb1 sb2 sb3 sb4 sb5 hs1 hnb
                obtain ⟨f0, f1, f2, f3, fq, y6, fy, d0, d1, d2, hvb⟩ := hkeep3.out _ (Only.refl _ _)
                go_upto_region 11 with fail
                go_region_held3 (fun W0 => W0.cell? ⟨q, 0, none⟩ = some (.int .i64 s) ∧ W0.cell? ⟨q, 1, none⟩ = some (.int .i64 wy) ∧ W0.cell? ⟨q, 2, none⟩ = some (.int .i64 h) ∧ W0.cell? ⟨q, 3, none⟩ = some (.int .i64 mi) ∧ q < W0.heap.size ∧ W0.cell? ⟨Y, 6, none⟩ = some (.slice (some ⟨vb, voff, none⟩) on oc) ∧ Y < W0.heap.size ∧ W0.cell? ⟨vb, voff + k * 3, none⟩ = some (.int .i64 ok) ∧ W0.cell? ⟨vb, voff + k * 3 + 1, none⟩ = some (.int .i64 oa) ∧ W0.cell? ⟨vb, voff + k * 3 + 2, none⟩ = some (.int .i64 ob) ∧ vb < W0.heap.size)
                  (exact hkeep3.out _ (by repeat (first | assumption | exact Only.refl _ _ | apply Only.drew)))
                  (first
                    | (go_at_call 41; (with_reducible refine (hof.out _).mono ?_); rintro _ w7 ⟨rfl, ho7⟩; have hO7 : Only (fun _ => False) w6 w7 := Only.trans' (by repeat (first | assumption | exact Only.refl _ _ | apply Only.drew)) ho7; clear ho7))
                all_goals
                  go_wp2
                  go_roundw
                  case rel => exact ⟨k + 1, max u (sm + C), by omega, by omega, by go_num, by first | rfl | (congr 1; omega) | (congr 1; split <;> omega), by omega, by rw [hs2.out], hst.out, hOt.out.trans' (hOz.out.trans' hO7)⟩
                  case measure => simp [intOf]; omega

          · have hex := wd_ex wt
            have hdec : decide (L < lev) = false := by simp; omega
            have p1 := Lib.hid (fun (x : Wd wt) => Calls.wd (x := x) (v := .int .i64 L) (hcl.out x.W x.ok))
            go_upto_region 10 with fail
            replace f0 := wd_cell f0
            replace f1 := wd_cell f1
            replace f2 := wd_cell f2
            replace f3 := wd_cell f3
            replace f4 := wd_cell f4
            replace f5 := wd_cell f5
            replace f6 := wd_cell f6
            replace f7 := wd_cell f7
            replace f8 := wd_cell f8
            replace f9 := wd_cell f9
            replace y0 := wd_cell y0
            replace y1 := wd_cell y1
            replace y2 := wd_cell y2
            replace y3 := wd_cell y3
            replace y4 := wd_cell y4
            replace y5 := wd_cell y5
            replace y6 := wd_cell y6
            refine wp_region_wd (by kernel_rfl) (by kernel_rfl) ?_
            repeat (go_big_quiet_step (first | (go_at_call 20; (with_reducible exact p1.out _))))
            refine wpQuiet_nil ?_
            rintro _ ⟨x, rfl⟩
            have hO5 := x.ok
            obtain ⟨w5, hw5⟩ : ∃ w5, w5 = x.W := ⟨_, rfl⟩
            rw [← hw5] at hO5 ⊢
            clear hw5 p1 hex
            all_goals
              have hnb : ¬ blw LV lev k := by unfold blw; rw [← hL'.out, ← hL1'.out]; omega
              have hOz := Lib.hid hO5
              have hOz4 := Lib.hid (hOw.out.trans' hOz.out)
              clear f0 f1 f2 f3 f4 f5 f6 f7 f8 f9 fq y0 y1 y2 y3 y4 y5 y6 fy
              obtain ⟨o, ho⟩ : ∃ o, l[k]? = some o := ⟨_, List.getElem?_eq_getElem (by have := hlm.out; omega)⟩
              have hck := hca.out k o ho
              obtain ⟨hc0, hc1⟩ := hcb.out k
              obtain ⟨C, hC⟩ : ∃ C, C = co k := ⟨_, rfl⟩
              rw [← hC] at hck hc0 hc1
              have hC' := Lib.hid hC
              have hof := Lib.hid (fun W => rof_any o s wy h mi W)
              rw [← hck] at hof
              unfold Opn.val at hof
              obtain ⟨vb, voff, hvA, hvb, d0, d1, d2⟩ := opn_row (hrow.out _ (hO4'.out.trans' hOz4.out)) ho
              subst hvA
              obtain ⟨ok, oa, ob⟩ := o
              dsimp only at d0 d1 d2 hof
              obtain ⟨sb1, sb2⟩ := sumU_bound hcb.out k
              obtain ⟨sb3, sb4⟩ := sumU_bound hcb.out j
              have sb5 := sumU_mono (fun x => (hcb.out x).1) hjk
              have hs1 : sumU co (k + 1) = sumU co k + C := by rw [hC'.out]; rfl
              have hs0 : 0 ≤ sm := by have := hsm'.out; omega
              have hs9 : sm + C ≤ 1073741824 * (on : Int) := by have := hsm'.out; omega
              have hs2 := Lib.hid (show sm + C = sumU co (k + 1) - sumU co j from by have := hsm'.out; omega)
              have hst := Lib.hid (inr_step hin'.out hkm hnb)
              rw [← hsm'.out, ← hC'.out] at hst
              have hwr : IntKind.i64.wrap (sm + C) = sm + C := IntWalk.i64_in _ (by omega)
              have hkeep3 := Lib.hid (fun W0 (h0 : Only (fun _ => False) w5 W0) => show W0.cell? ⟨q, 0, none⟩ = some (.int .i64 s) ∧ W0.cell? ⟨q, 1, none⟩ = some (.int .i64 wy) ∧ W0.cell? ⟨q, 2, none⟩ = some (.int .i64 h) ∧ W0.cell? ⟨q, 3, none⟩ = some (.int .i64 mi) ∧ q < W0.heap.size ∧ W0.cell? ⟨Y, 6, none⟩ = some (.slice (some ⟨vb, voff, none⟩) on oc) ∧ Y < W0.heap.size ∧ W0.cell? ⟨vb, voff + k * 3, none⟩ = some (.int .i64 ok) ∧ W0.cell? ⟨vb, voff + k * 3 + 1, none⟩ = some (.int .i64 oa) ∧ W0.cell? ⟨vb, voff + k * 3 + 2, none⟩ = some (.int .i64 ob) ∧ vb < W0.heap.size from by
                obtain ⟨g0, g1, g2, g3, -, -, -, -, -, -, gq, -, -, -, -, -, -, g6, gy⟩ := hkeep.out _ (hOz4.out.trans' h0)
                exact ⟨g0, g1, g2, g3, gq, g6, gy, h0.cell d0 (fun h => h), h0.cell d1 (fun h => h), h0.cell d2 (fun h => h), Nat.lt_of_lt_of_le hvb h0.size⟩)
              clear ho hck hC d0 d1 d2 hvb sb1 sb2 sb3 sb4 sb5 hs1 hnb
              obtain ⟨f0, f1, f2, f3, fq, y6, fy, d0, d1, d2, hvb⟩ := hkeep3.out _ (Only.refl _ _)
              go_upto_region 11 with fail
              go_region_held3 (fun W0 => W0.cell? ⟨q, 0, none⟩ = some (.int .i64 s) ∧ W0.cell? ⟨q, 1, none⟩ = some (.int .i64 wy) ∧ W0.cell? ⟨q, 2, none⟩ = some (.int .i64 h) ∧ W0.cell? ⟨q, 3, none⟩ = some (.int .i64 mi) ∧ q < W0.heap.size ∧ W0.cell? ⟨Y, 6, none⟩ = some (.slice (some ⟨vb, voff, none⟩) on oc) ∧ Y < W0.heap.size ∧ W0.cell? ⟨vb, voff + k * 3, none⟩ = some (.int .i64 ok) ∧ W0.cell? ⟨vb, voff + k * 3 + 1, none⟩ = some (.int .i64 oa) ∧ W0.cell? ⟨vb, voff + k * 3 + 2, none⟩ = some (.int .i64 ob) ∧ vb < W0.heap.size)
                (exact hkeep3.out _ (by repeat (first | assumption | exact Only.refl _ _ | apply Only.drew)))
                (first
                  | (go_at_call 41; (with_reducible refine (hof.out _).mono ?_); rintro _ w7 ⟨rfl, ho7⟩; have hO7 : Only (fun _ => False) w5 w7 := Only.trans' (by repeat (first | assumption | exact Only.refl _ _ | apply Only.drew)) ho7; clear ho7))
              all_goals
                go_wp2
                go_roundw
                case rel => exact ⟨k + 1, max u (sm + C), by omega, by omega, by go_num, by first | rfl | (congr 1; omega) | (congr 1; split <;> omega), by omega, by rw [hs2.out], hst.out, hOt.out.trans' (hOz.out.trans' hO7)⟩
                case measure => simp [intOf]; omega

        · obtain rfl : k = on := by omega
          have hkm' : ¬ (k : Int) < (k : Int) := by omega
          have hbr := Lib.hid (inr_break hin'.out (.inr rfl))
          obtain ⟨-, -, -, -, -, -, -, -, -, -, -, -, -, -, -, -, -, y6, fy⟩ := hkeep2.out _ (Only.refl _ _)
          go_wp2
          go_roundw
          case rel => exact ⟨j + 1, u, by omega, by go_num, rfl, hu9, hbr.out, hOw.out⟩
          case measure => simp [intOf]; omega
    · obtain rfl : j = on := by omega
      have hjn' : ¬ (j : Int) < (j : Int) := by omega
      have hend := Lib.hid (show Z (.returned (.int .i64 v)) ws from by
        rw [hZ'.out, hbest'.out v hbe'.out]
        exact ⟨rfl, hO4'.out.trans' hOs.out⟩)
      go_wp2
      exact hend.out
end Sct
end Go.Proofs.Yteeleelkepjoaaa
/- nested: it answers some bool. -/
namespace Go.Proofs.Yteeleelkepjoaaa
namespace Sct
open Go Go.RowKit Lin Lck Cst Go.Maps

theorem nkeyed : Keyed Try.prog 3 := int_keyed Try.underlying3
theorem nwf {x : Int} (h1 : -9223372036854775808 ≤ x) (h2 : x ≤ 9223372036854775807) : (Lit.int .i64 x).wf = true := by
  have e1 : IntKind.i64.min = -9223372036854775808 := by decide
  have e2 : IntKind.i64.max = 9223372036854775807 := by decide
  simp [Lit.wf, e1, e2]
  omega
theorem bool_inv {P : Program} {e : TypeId} (he : P.underlying e = some .bool) {v : Value} {z : DataW Unit × List MemPlace} (h : plainElem P e v = some z) : ∃ b, v = .bool b := by
  cases v
  case bool b => exact ⟨b, rfl⟩
  all_goals simp [plainElem, he] at h
/-- A map of numbers to bools, of at most n. -/
def MapB (w : World) (bm n : Nat) : Prop := ∃ D : DataW Unit, w.ownsMap Try.prog 3 (plainElem Try.prog 4) bm n D
theorem MapB.kept {A : Nat → Prop} {w w' : World} {bm n : Nat} (h : MapB w bm n) (ho : Only A w w') (hA : ¬ A bm) : MapB w' bm n := by
  obtain ⟨D, es, clock, hb, hr⟩ := h
  exact ⟨D, es, clock, ho.heap hb hA, hr⟩
theorem MapB.look {w : World} {bm n : Nat} (h : MapB w bm n) {x : Int} (h1 : -9223372036854775808 ≤ x) (h2 : x ≤ 9223372036854775807) : ∃ b, (Instr.lookup 67 (.map (some bm)) (.int .i64 x) false).run Try.prog w = .ok (.bool b) w := by
  obtain ⟨D, hD⟩ := h
  obtain ⟨v, ps, hrun, hv⟩ := hD.lookup nkeyed Try.underlying67 (z := .bool false) (by kernel_rfl) (plainElem_bool Try.underlying4 false) (keyOf_int_mk Try.underlying3 (nwf h1 h2))
  obtain ⟨b, rfl⟩ := bool_inv Try.underlying4 hv
  exact ⟨b, hrun⟩
theorem MapB.put {w : World} {bm n : Nat} (h : MapB w bm n) {x : Int} (h1 : -9223372036854775808 ≤ x) (h2 : x ≤ 9223372036854775807) (hn : n < maxLen) (b : Bool) : ∃ w', (Instr.mapUpdate 67 (.map (some bm)) (.int .i64 x) (.bool b)).run Try.prog w = .ok () w' ∧ MapB w' bm (n + 1) ∧ Only (fun k => k = bm) w w' := by
  obtain ⟨D, hD⟩ := h
  obtain ⟨w', hrun, ho, hg⟩ := hD.update nkeyed Try.underlying67 hn (keyOf_int_mk Try.underlying3 (nwf h1 h2)) (plainElem_bool Try.underlying4 b)
  exact ⟨w', hrun, ⟨_, ho⟩, (Only.refl _ w).grown hg (fun x hx _ => by simpa using hx.symm)⟩

def SomeB (w : World) (e : Ending) (w' : World) : Prop := ∃ b, e = .returned (.bool b) ∧ Only (fun _ => False) w w'

set_option maxRecDepth 100000 in
set_option maxHeartbeats 4000000 in
theorem nested_any {w : World} {c : ConfV} {d : ConfL} {pl : Tks} (hC : ConfIn w c d pl) (hok : FewOk c d pl) (hop : ∀ (i : Nat) t l, pl[i]? = some (t, l) → ∀ (j : Nat) o, l[j]? = some o → -9223372036854775808 ≤ o.a ∧ o.a ≤ 9223372036854775807) : Calls Try.prog 16 #[c.val] w (SomeB w) := by
  have hO := (Only.refl (fun _ => False) w).alloc (.cells c.cells.toArray 27)
  have hB := heap_new_at w (.cells c.cells.toArray 27) rfl
  obtain ⟨W1, hW1⟩ : ∃ W1, W1 = w.alloc (.cells c.cells.toArray 27) := ⟨_, rfl⟩
  rw [← hW1] at hB hO
  have hB' := Lib.hid hB
  have hO' := Lib.hid hO
  have hCi := Lib.hid (fun W (h : Only (fun _ => False) w W) => hC.new h)
  have htl := Lib.hid (show pl.length = c.ta.n by have := hC.t.len; unfold Tks.ts at this; simpa using this)
  have htn := hC.n
  have h40 := Lib.hid (fun i t l (h : pl[i]? = some (t, l)) => (hok.ta i t (ts_some h)).2)
  have hop' := Lib.hid hop
  obtain ⟨q, hqq⟩ : ∃ q, q = w.heap.size := ⟨_, rfl⟩
  have hqq' := Lib.hid hqq
  rw [← hqq] at hB'
  clear hO hB hqq hC hok hop
  rw [show c.val = .agg #[.int .i64 c.s, .int .i64 c.wy, .int .i64 c.h, .int .i64 c.mi, .slice c.mb.A c.mb.n c.mb.cap, .int .i64 c.g, .slice c.cn.A c.cn.n c.cn.cap, .slice c.ce.A c.ce.n c.ce.cap, .slice c.ta.A c.ta.n c.ta.cap, .slice c.li.A c.li.n c.li.cap] from rfl]
  unfold ConfV.cells at hW1 hB'
  obtain ⟨s, wy, h, mi, ⟨mA, mn, mc⟩, g, ⟨cA, cn, cc⟩, ⟨eA, en, ec⟩, ⟨tA, tn, tc⟩, ⟨lA, ln, lc⟩⟩ := c
  dsimp only at *
  have hW1' := Lib.hid hW1
  clear hW1
  have e8 := row_cell hB'.out (i := 8) rfl
  have hqlt := row_lt hB'.out
  go_enter Try.func16, Try.ntmps16
  go_upto_region 1 with fail
  rw [← hqq'.out, ← hW1'.out]
  go_wp2
  clear e8 hqlt
  go_loopw [11] (fun i' wr => ∃ k : Nat, k ≤ tn ∧ i' = .int .i64 k ∧ Only (fun _ => False) W1 wr) (fun i' _ => tn - (intOf i').toNat)
  case atStart => exact ⟨0, Nat.zero_le _, rfl, Only.refl _ _⟩
  case round =>
    obtain ⟨k, hk, rfl, hO⟩ := hrel
    obtain ⟨ws, hws⟩ : ∃ ws : World, ws = wr := ⟨_, rfl⟩
    subst hws
    have hOs := Lib.hid hO
    have hOw := Lib.hid (hO'.out.trans' hO)
    clear hO
    by_cases hkn : k < tn
    · have hkn' : (k : Int) < (tn : Int) := by omega
      obtain ⟨⟨t, l⟩, hpi⟩ : ∃ x, pl[k]? = some x := ⟨_, List.getElem?_eq_getElem (by have := htl.out; omega)⟩
      have hon := h40.out k t l hpi
      have hpo := Lib.hid (hop'.out k t l hpi)
      have hrow := Lib.hid (fun W (h : Only (fun _ => False) w W) => ((hCi.out W h).p k t l hpi).1)
      have hln := Lib.hid ((hCi.out _ hOw.out).p k t l hpi).2.1
      obtain ⟨tb, toff, htA, htb, htC⟩ := (hCi.out _ hOw.out).t.at_ k t (ts_some hpi)
      cases htA
      obtain ⟨c0, c1, c2, c3, c4, c5, c6⟩ := htC
      obtain ⟨tp, th, tpe, tde, tfr, tfl, ⟨oA, on, oc⟩⟩ := t
      dsimp only at c0 c1 c2 c3 c4 c5 c6 hon hrow hln
      clear hpi
      have hmk := @run_makeMap Try.prog
      go_upto_region 4 with fail
      generalize hw4 : ws.alloc (.cells #[.int .i64 tp, .int .i64 th, .int .i64 tpe, .int .i64 tde, .int .i64 tfr, .int .i64 tfl, .slice oA on oc] 36) = w4
      have hO4 : Only (fun _ => False) ws w4 := by rw [← hw4]; exact (Only.refl _ _).alloc _
      obtain ⟨Y, hY⟩ : ∃ Y, Y = ws.heap.size := ⟨_, rfl⟩
      have hy4 : w4.heap[Y]? = some (.cells #[.int .i64 tp, .int .i64 th, .int .i64 tpe, .int .i64 tde, .int .i64 tfr, .int .i64 tfl, .slice oA on oc] 36 (0, 0)) := by rw [← hw4]; exact heap_new_at _ _ hY.symm
      rw [← hY]
      clear c0 c1 c2 c3 c4 c5 c6 htb hw4
      go_upto_region 5 with fail
      obtain ⟨bm, hbm⟩ : ∃ bm, bm = w4.heap.size := ⟨_, rfl⟩
      generalize hw5 : w4.alloc (.map #[] 0) = w5
      have hO45 : Only (fun _ => False) w4 w5 := by rw [← hw5]; exact (Only.refl _ _).alloc _
      have hm5 := Lib.hid (show MapB w5 bm 0 from by rw [← hw5, hbm]; exact ⟨_, World.ownsMap_made _ _ _ _⟩)
      rw [← hbm]
      have hbw := Lib.hid (show ws.heap.size ≤ bm from by rw [hbm]; exact hO4.size)
      have hO5 := Lib.hid (hO4.trans' hO45)
      have hy5 := hO45.heap hy4 (fun h => h)
      have y6 := row_cell (L := [.int .i64 tp, .int .i64 th, .int .i64 tpe, .int .i64 tde, .int .i64 tfr, .int .i64 tfl, .slice oA on oc]) hy5 (i := 6) rfl
      have hyl := row_lt hy5
      clear hw5 hbm hO4 hO45 hy4 hY hy5 hmk
      go_wp2
      clear y6 hyl
      go_loopw [19] (fun i' wr => ∃ j n : Nat, j ≤ on ∧ n ≤ j ∧ i' = .int .i64 j ∧ MapB wr bm n ∧ Only (fun _ => False) ws wr) (fun i' _ => on - (intOf i').toNat)
      case atStart => exact ⟨0, 0, Nat.zero_le _, Nat.le_refl _, rfl, hm5.out, hO5.out⟩
      case round =>
        obtain ⟨j, n, hj, hnj, rfl, hM, hO⟩ := hrel
        obtain ⟨wl, hwl⟩ : ∃ wl : World, wl = wr := ⟨_, rfl⟩
        subst hwl
        have hM' := Lib.hid hM
        have hOl := Lib.hid hO
        clear hM hO
        by_cases hjn : j < on
        · have hjn' : (j : Int) < (on : Int) := by omega
          obtain ⟨o, ho⟩ : ∃ o, l[j]? = some o := ⟨_, List.getElem?_eq_getElem (by have := hln.out; omega)⟩
          obtain ⟨hA1, hA2⟩ := hpo.out j o ho
          obtain ⟨vb, voff, hvA, hvb, d0, d1, d2⟩ := opn_row (hrow.out _ (hOw.out.trans' hOl.out)) ho
          subst hvA
          obtain ⟨K, A, B⟩ := o
          dsimp only at hA1 hA2 d0 d1 d2
          clear ho
          have hOa := Lib.hid ((Only.refl (fun _ => False) wl).alloc (.cells #[.int .i64 K, .int .i64 A, .int .i64 B] 39))
          have hMa := Lib.hid (hM'.out.kept hOa.out (fun h => h))
          have hOs2 := Lib.hid (hOl.out.trans' hOa.out)
          have hend := Lib.hid (show SomeB w (.returned (.bool false)) (wl.alloc (.cells #[.int .i64 K, .int .i64 A, .int .i64 B] 39)) from ⟨false, rfl, hOw.out.trans' hOs2.out⟩)
          by_cases h5 : K = 5
          · subst h5
            obtain ⟨b, hlk⟩ := hMa.out.look hA1 hA2
            obtain ⟨w6, hup, hM6, hO6⟩ := hMa.out.put hA1 hA2 (by unfold maxLen; omega) true
            have hM6' := Lib.hid hM6
            have hO6' := Lib.hid (hOs2.out.trans hO6 (fun x hx e => by have := hbw.out; omega))
            clear hM6 hO6
            cases b
            · go_wp2
              go_roundw
              case rel => exact ⟨j + 1, n + 1, by omega, by omega, by go_num, hM6'.out, hO6'.out⟩
              case measure => simp [intOf]; omega
            · go_wp2
              go_ret
              exact hend.out
          by_cases h6 : K = 6
          · subst h6
            obtain ⟨w6, hup, hM6, hO6⟩ := hMa.out.put hA1 hA2 (by unfold maxLen; omega) false
            have hM6' := Lib.hid hM6
            have hO6' := Lib.hid (hOs2.out.trans hO6 (fun x hx e => by have := hbw.out; omega))
            clear hM6 hO6
            go_wp2
            go_roundw
            case rel => exact ⟨j + 1, n + 1, by omega, by omega, by go_num, hM6'.out, hO6'.out⟩
            case measure => simp [intOf]; omega
          · have g5 : (K == 5) = false := beq_eq_false_iff_ne.2 h5
            have g6 : (K == 6) = false := beq_eq_false_iff_ne.2 h6
            clear h5 h6
            go_wp2
            go_roundw
            case rel => exact ⟨j + 1, n, by omega, by omega, by go_num, hMa.out, hOs2.out⟩
            case measure => simp [intOf]; omega
        · obtain rfl : j = on := by omega
          have hjn' : ¬ (j : Int) < (j : Int) := by omega
          go_wp2
          go_roundw
          case rel => exact ⟨k + 1, by omega, by go_num, hOs.out.trans' hOl.out⟩
          case measure => simp [intOf]; omega
    · obtain rfl : k = tn := by omega
      have hkn' : ¬ (k : Int) < (k : Int) := by omega
      have hend := Lib.hid (show SomeB w (.returned (.bool true)) ws from ⟨true, rfl, hOw.out⟩)
      go_wp2
      go_ret
      exact hend.out
end Sct
end Go.Proofs.Yteeleelkepjoaaa
/- section's calls of no task. -/
namespace Go.Proofs.Yteeleelkepjoaaa
namespace Sct
open Go Go.RowKit Lin Lck Cst Srt

structure CfC (w W : World) (c : ConfV) (q : Nat) : Prop where
  hq : q = w.heap.size
  hW : W = w.alloc (.cells c.cells.toArray 27)
  o : Only (fun _ => False) w W
  b : W.heap[q]? = some (.cells c.cells.toArray 27 (0, 0))
theorem CfC.mk' (w : World) (c : ConfV) : CfC w (w.alloc (.cells c.cells.toArray 27)) c w.heap.size :=
  ⟨rfl, rfl, (Only.refl (fun _ => False) w).alloc _, heap_new_at _ _ rfl⟩
def NilEnd (w : World) (e : Ending) (w' : World) : Prop := e = .returned (.slice none 0 0) ∧ Only (fun _ => False) w w'

set_option maxRecDepth 100000 in
theorem levels_none {w : World} {c : ConfV} {z : Int} (hz : z < 0 ∨ (c.ta.n : Int) ≤ z) : Calls Try.prog 17 #[c.val, .int .i64 z] w (NilEnd w) := by
  obtain ⟨q, W1, P⟩ : ∃ q W1, CfC w W1 c q := ⟨_, _, CfC.mk' w c⟩
  have hq := Lib.hid P.hq
  have hW := Lib.hid P.hW
  have hO := Lib.hid P.o
  have hB := Lib.hid P.b
  clear P
  rw [show c.val = .agg #[.int .i64 c.s, .int .i64 c.wy, .int .i64 c.h, .int .i64 c.mi, .slice c.mb.A c.mb.n c.mb.cap, .int .i64 c.g, .slice c.cn.A c.cn.n c.cn.cap, .slice c.ce.A c.ce.n c.ce.cap, .slice c.ta.A c.ta.n c.ta.cap, .slice c.li.A c.li.n c.li.cap] from rfl]
  unfold ConfV.cells at hW hB
  obtain ⟨s, wy, h, mi, ⟨mA, mn, mc⟩, g, ⟨cA, cn, cc⟩, ⟨eA, en, ec⟩, ⟨tA, tn, tc⟩, ⟨lA, ln, lc⟩⟩ := c
  dsimp only at *
  have e8 := row_cell hB.out (i := 8) rfl
  have hqlt := row_lt hB.out
  go_enter Try.func17, Try.ntmps17
  go_upto_region 1 with fail
  rw [← hq.out, ← hW.out]
  by_cases h0 : z < 0
  · go_wp2
    go_ret
    exact ⟨rfl, hO.out⟩
  · have h1 : (tn : Int) ≤ z := by omega
    clear hz
    go_wp2
    go_ret
    exact ⟨rfl, hO.out⟩
set_option maxRecDepth 100000 in
theorem longest_none {w : World} {c : ConfV} {z : Int} (hz : z < 0 ∨ (c.ta.n : Int) ≤ z) (lev : Int) : Calls Try.prog 19 #[c.val, .int .i64 z, .int .i64 lev] w (GrowI 0 w) := by
  obtain ⟨q, W1, P⟩ : ∃ q W1, CfC w W1 c q := ⟨_, _, CfC.mk' w c⟩
  have hq := Lib.hid P.hq
  have hW := Lib.hid P.hW
  have hO := Lib.hid P.o
  have hB := Lib.hid P.b
  have hl := Lib.hid (fun W => levels_none (w := W) hz)
  clear P hz
  rw [show c.val = .agg #[.int .i64 c.s, .int .i64 c.wy, .int .i64 c.h, .int .i64 c.mi, .slice c.mb.A c.mb.n c.mb.cap, .int .i64 c.g, .slice c.cn.A c.cn.n c.cn.cap, .slice c.ce.A c.ce.n c.ce.cap, .slice c.ta.A c.ta.n c.ta.cap, .slice c.li.A c.li.n c.li.cap] from rfl] at hl ⊢
  unfold ConfV.cells at hW hB
  obtain ⟨s, wy, h, mi, ⟨mA, mn, mc⟩, g, ⟨cA, cn, cc⟩, ⟨eA, en, ec⟩, ⟨tA, tn, tc⟩, ⟨lA, ln, lc⟩⟩ := c
  dsimp only at *
  have e0 := row_cell hB.out (i := 0) rfl
  have e1 := row_cell hB.out (i := 1) rfl
  have e2 := row_cell hB.out (i := 2) rfl
  have e3 := row_cell hB.out (i := 3) rfl
  have e4 := row_cell hB.out (i := 4) rfl
  have e5 := row_cell hB.out (i := 5) rfl
  have e6 := row_cell hB.out (i := 6) rfl
  have e7 := row_cell hB.out (i := 7) rfl
  have e8 := row_cell hB.out (i := 8) rfl
  have e9 := row_cell hB.out (i := 9) rfl
  have hqlt := row_lt hB.out
  go_enter Try.func19, Try.ntmps19
  go_upto_region 1 with fail
  rw [← hq.out, ← hW.out]
  go_wp2_with fail
  refine (hl.out _).mono ?_
  rintro e w2 ⟨rfl, hO2⟩
  have hO2' := Lib.hid (hO.out.trans' hO2)
  clear e0 e1 e2 e3 e4 e5 e6 e7 e8 e9 hqlt hO2
  go_wp2
  go_loopw [7, 8, 15] (fun a b i' wr => i' = .int .i64 0 ∧ a = .int .i64 0 ∧ b = .int .i64 0 ∧ w2 = wr) (fun _ _ _ _ => 0)
  case atStart => exact ⟨rfl, rfl, rfl, rfl⟩
  case round =>
    obtain ⟨rfl, rfl, rfl, rfl⟩ := hrel
    go_wp2
    go_ret
    exact ⟨rfl, hO2'.out⟩
set_option maxRecDepth 100000 in
theorem reach_none {w : World} {c : ConfV} {z : Int} (hz : z < 0 ∨ (c.ta.n : Int) ≤ z) : Calls Try.prog 18 #[c.val, .int .i64 z] w (NilEnd w) := by
  obtain ⟨q, W1, P⟩ : ∃ q W1, CfC w W1 c q := ⟨_, _, CfC.mk' w c⟩
  have hq := Lib.hid P.hq
  have hW := Lib.hid P.hW
  have hO := Lib.hid P.o
  have hB := Lib.hid P.b
  have hl := Lib.hid (fun W => levels_none (w := W) hz)
  clear P hz
  rw [show c.val = .agg #[.int .i64 c.s, .int .i64 c.wy, .int .i64 c.h, .int .i64 c.mi, .slice c.mb.A c.mb.n c.mb.cap, .int .i64 c.g, .slice c.cn.A c.cn.n c.cn.cap, .slice c.ce.A c.ce.n c.ce.cap, .slice c.ta.A c.ta.n c.ta.cap, .slice c.li.A c.li.n c.li.cap] from rfl] at hl ⊢
  unfold ConfV.cells at hW hB
  obtain ⟨s, wy, h, mi, ⟨mA, mn, mc⟩, g, ⟨cA, cn, cc⟩, ⟨eA, en, ec⟩, ⟨tA, tn, tc⟩, ⟨lA, ln, lc⟩⟩ := c
  dsimp only at *
  have e0 := row_cell hB.out (i := 0) rfl
  have e1 := row_cell hB.out (i := 1) rfl
  have e2 := row_cell hB.out (i := 2) rfl
  have e3 := row_cell hB.out (i := 3) rfl
  have e4 := row_cell hB.out (i := 4) rfl
  have e5 := row_cell hB.out (i := 5) rfl
  have e6 := row_cell hB.out (i := 6) rfl
  have e7 := row_cell hB.out (i := 7) rfl
  have e8 := row_cell hB.out (i := 8) rfl
  have e9 := row_cell hB.out (i := 9) rfl
  have hqlt := row_lt hB.out
  go_enter Try.func18, Try.ntmps18
  go_upto_region 1 with fail
  rw [← hq.out, ← hW.out]
  go_wp2_with fail
  refine (hl.out _).mono ?_
  rintro e w2 ⟨rfl, hO2⟩
  have hO2' := Lib.hid (hO.out.trans' hO2)
  clear e0 e1 e2 e3 e4 e5 e6 e7 e8 e9 hqlt hO2
  go_wp2
  go_loopw [5, 12] (fun a i' wr => i' = .int .i64 0 ∧ a = .slice none 0 0 ∧ w2 = wr) (fun _ _ _ => 0)
  case atStart => exact ⟨rfl, rfl, rfl⟩
  case round =>
    obtain ⟨rfl, rfl, rfl⟩ := hrel
    go_wp2_with fail
    refine (sort_any (zs := []) (Win.nil _ 3 1) (by omega)).mono ?_
    rintro e w3 ⟨rfl, _, hO3⟩
    have hO3' := Lib.hid (hO2'.out.trans hO3 (fun _ _ h => by cases h))
    clear hO3
    go_wp2_with fail
    refine (compact_any (zs := []) (Win.nil _ 3 1) (by omega)).mono ?_
    rintro e w4 ⟨rfl, _, hO4⟩
    have hO4' := Lib.hid (hO3'.out.trans hO4 (fun _ _ h => by cases h))
    rw [show (Lib.compact ([] : List Int)).length = 0 from rfl]
    clear hO4
    go_wp2
    go_ret
    exact ⟨rfl, hO4'.out⟩
end Sct
end Go.Proofs.Yteeleelkepjoaaa
