/- The reference's Level. -/
import Derived.Test.YtlbinlhaejhobaaGreatDoorPH
import Derived.Test.YtlbinlhaejhobaaGreatDoorPI
namespace Go.Proofs.YtlbinlhaejhobaaGreatDoor
namespace Sct
open Go Go.RowKit Lin Lck Cst

def hrow (n : Nat) (d : Nat → Bool) : List Value := (List.range n).map (fun i => Value.int .i64 (if d i then 1 else 0))
theorem hrow_len (n : Nat) (d : Nat → Bool) : (hrow n d).length = n := by simp [hrow]
theorem hrow_at {n i : Nat} {d : Nat → Bool} (hi : i < n) : (hrow n d)[i]? = some (.int .i64 (if d i then 1 else 0)) := by
  unfold hrow
  rw [List.getElem?_map, List.getElem?_range hi]
  rfl
theorem hrow_set {n i : Nat} {d : Nat → Bool} (_hi : i < n) (v : Bool) : (hrow n d).set i (.int .i64 (if v then 1 else 0)) = hrow n (setD d (i : Int) v) := by
  apply List.ext_getElem?
  intro j
  by_cases hj : j < n
  · rw [List.getElem?_set, hrow_at (d := setD d (i : Int) v) hj]
    unfold setD
    by_cases he : i = j
    · subst he
      rw [if_pos rfl, if_pos (by rw [hrow_len]; exact hj), if_pos rfl]
    · rw [if_neg he, hrow_at hj, if_neg (show ¬ (j : Int) = (i : Int) by omega)]
  · rw [List.getElem?_eq_none (by simp [hrow_len]; omega), List.getElem?_eq_none (by rw [hrow_len]; omega)]
theorem hrow_out {n : Nat} {d : Nat → Bool} {a : Int} {v : Bool} (h : a < 0 ∨ (n : Int) ≤ a) : hrow n (setD d a v) = hrow n d := by
  unfold hrow
  refine List.map_congr_left fun i hi => ?_
  rw [setD_out h (List.mem_range.1 hi)]
theorem hrow_zero (n : Nat) : hrow n (fun _ => false) = List.replicate n (.int .i64 0) := by
  unfold hrow
  rw [List.map_const']
  simp

set_option maxRecDepth 100000 in
set_option maxHeartbeats 8000000 in
theorem rlevel_any {w : World} {c : ConfV} {d : ConfL} (hce : ∀ W, Only (fun _ => False) w W → IntsAt W c.ce d.ce) (hen : c.ce.n ≤ 4096) (t : TaskV) {A : Option Addr} {n cap : Nat} {l : List Opn} (hl : OpnRow w A l) (hn : l.length = n) (h9 : n ≤ 1000) :
    Calls Tryz.prog 68 #[c.val, t.val, .slice A n cap] w (GrowI (levS t.th (ceZ d.ce) c.ce.n (stS l)) w) := by
  obtain ⟨V, hV⟩ : ∃ V, V = levS t.th (ceZ d.ce) c.ce.n (stS l) := ⟨_, rfl⟩
  rw [← hV]
  have hV' := Lib.hid hV
  obtain ⟨Z, hZ⟩ : ∃ Z, Z = GrowI V w := ⟨_, rfl⟩
  rw [← hZ]
  have hZ' := Lib.hid hZ
  have hl' := Lib.hid (fun W (h : Only (fun _ => False) w W) => hl.new h)
  have hn' := Lib.hid hn
  have hce' := Lib.hid hce
  obtain ⟨W1, hW1⟩ : ∃ W1, W1 = (w.alloc (.cells c.cells.toArray 27)).alloc (.cells t.cells.toArray 49) := ⟨_, rfl⟩
  have hO : Only (fun _ => False) w W1 := by rw [hW1]; exact ((Only.refl (fun _ => False) w).alloc _).alloc _
  obtain ⟨q, hqq⟩ : ∃ q, q = w.heap.size := ⟨_, rfl⟩
  have hB : W1.heap[q]? = some (.cells c.cells.toArray 27 (0, 0)) := by rw [hW1]; exact heap_kept_alloc (heap_new_at _ _ hqq.symm) _
  have hT : W1.heap[q + 1]? = some (.cells t.cells.toArray 49 (0, 0)) := by rw [hW1]; exact heap_new_at _ _ (by simp [hqq])
  have hqq' := Lib.hid hqq
  have hB' := Lib.hid hB
  have hT' := Lib.hid hT
  have hO' := Lib.hid hO
  have hcl := Lib.hid ((hce w (Only.refl _ _)).len)
  clear hl hn hce hO hB hT hqq hV hZ
  rw [show c.val = .agg #[.int .i64 c.s, .int .i64 c.wy, .int .i64 c.h, .int .i64 c.mi, .slice c.mb.A c.mb.n c.mb.cap, .int .i64 c.g, .slice c.cn.A c.cn.n c.cn.cap, .slice c.ce.A c.ce.n c.ce.cap, .slice c.ta.A c.ta.n c.ta.cap, .slice c.li.A c.li.n c.li.cap] from rfl]
  rw [show t.val = .agg #[.int .i64 t.p, .int .i64 t.th, .int .i64 t.pe, .int .i64 t.de, .int .i64 t.fr, .int .i64 t.fl, .slice t.o.A t.o.n t.o.cap] from rfl]
  unfold ConfV.cells at hW1 hB'
  unfold TaskV.cells at hW1 hT'
  obtain ⟨s, wy, h, mi, ⟨mA, mn, mc⟩, g, ⟨cA, cn, cc⟩, ⟨eA, en, ec⟩, ⟨tA, tn, tc⟩, ⟨lA, ln, lc⟩⟩ := c
  obtain ⟨tp, th, tpe, tde, tfr, tfl, ⟨oA, on, oc⟩⟩ := t
  dsimp only at *
  have hW1' := Lib.hid hW1
  clear hW1
  obtain ⟨zz, hzz⟩ : ∃ zz, zz = ceZ d.ce := ⟨_, rfl⟩
  have hzz' := Lib.hid hzz
  rw [← hzz] at hV'
  clear hzz
  have e7 := row_cell hB'.out (i := 7) rfl
  have t1 := row_cell hT'.out (i := 1) rfl
  have hql := row_lt hB'.out
  have htl := row_lt hT'.out
  have mk := fun W0 : World => run_make_list (P := Tryz.prog) W0 24 3 (.int .i64 0) 8 Tryz.underlying24 (by kernel_rfl) rfl en (by omega) (by omega)
  obtain ⟨G, hG⟩ : ∃ G, G = W1.heap.size := ⟨_, rfl⟩
  have hG' := Lib.hid hG
  clear hG
  go_enter Tryz.func68, Tryz.ntmps68
  go_upto_region 1 with fail
  rw [← hqq'.out, ← hW1'.out]
  go_upto_region 4 with fail
  rw [← hG'.out]
  obtain ⟨w3, hw3⟩ : ∃ w3, w3 = W1.alloc (.cells (Array.replicate en (Value.int .i64 0)) 3) := ⟨_, rfl⟩
  rw [← hw3]
  have hr3 := Lib.hid (show w3.heap[G]? = some (.cells (hrow en (fun _ => false)).toArray 3 (0, 0)) by rw [hw3, hrow_zero, List.toArray_replicate]; exact heap_new_at _ _ hG'.out.symm)
  have hO13 : Only (fun _ => False) W1 w3 := by rw [hw3]; exact (Only.refl _ _).alloc _
  have hO3 := Lib.hid (hO'.out.trans' hO13)
  have hB3 := Lib.hid (hO13.heap hB'.out (fun h => h))
  have hqG : q < G ∧ w.heap.size ≤ G := by
    have h1 := row_lt hB'.out
    have h2 := hG'.out
    have h3 := hO'.out.size
    omega
  clear hw3 mk e7 t1 hql htl hB' hT' hO' hW1' hG' hO13
  have hfr := Lib.hid (fun W (h : Only (fun x => x = G) w3 W) => show Only (fun _ => False) w W from hO3.out.trans h (fun x hx e => by omega))
  go_wp2
  go_loopw [7, 22] (fun a i' wr => ∃ k : Nat, k ≤ n ∧ i' = .int .i64 k ∧ a = .int .i64 ((stS (l.take k)).reg : Int) ∧ wr.heap[G]? = some (.cells (hrow en (stS (l.take k)).d).toArray 3 (0, 0)) ∧ Only (fun x => x = G) w3 wr) (fun _ i' _ => n - (intOf i').toNat)
  case atStart => exact ⟨0, Nat.zero_le _, rfl, rfl, hr3.out, Only.refl _ _⟩
  case round =>
    obtain ⟨k, hk, rfl, rfl, hr, hOk⟩ := hrel
    obtain ⟨ws, hws⟩ : ∃ ws : World, ws = wr := ⟨_, rfl⟩
    subst hws
    have hr' := Lib.hid hr
    have hOk' := Lib.hid hOk
    have hGl := row_lt hr
    clear hr hOk
    by_cases hkn : k < n
    · have hkn' : (k : Int) < (n : Int) := by omega
      obtain ⟨o, ho⟩ : ∃ o, l[k]? = some o := ⟨_, List.getElem?_eq_getElem (by have := hn'.out; omega)⟩
      have hst := stS_succ ho
      have hrg := reg_take l k
      obtain ⟨vb, voff, hvA, hvb, c0, c1, c2⟩ := opn_row (hl'.out _ (hfr.out _ hOk'.out)) ho
      subst hvA
      obtain ⟨K, A, B⟩ := o
      dsimp only at c0 c1 c2
      obtain ⟨⟨r, dd⟩, hS⟩ : ∃ S, S = stS (l.take k) := ⟨_, rfl⟩
      rw [← hS] at hst hrg hr' ⊢
      dsimp only at hrg hr' ⊢
      have hOa := Lib.hid ((Only.refl (fun _ => False) ws).alloc (.cells #[.int .i64 K, .int .i64 A, .int .i64 B] 90))
      have hra := Lib.hid (hOa.out.heap hr'.out (fun h => h))
      have hOka := Lib.hid (hOk'.out.trans hOa.out (fun _ _ h => h.elim))
      have hrel1 := Lib.hid (fun (r' : Nat) (hd : doS ⟨r, dd⟩ ⟨K, A, B⟩ = ⟨r', dd⟩) => show (stS (l.take (k + 1))).reg = r' ∧ (ws.alloc (.cells #[.int .i64 K, .int .i64 A, .int .i64 B] 90)).heap[G]? = some (.cells (hrow en (stS (l.take (k + 1))).d).toArray 3 (0, 0)) from by
        rw [hst, hd]
        exact ⟨rfl, hra.out⟩)
      have hst' := Lib.hid hst
      clear ho hS hst
      by_cases h3 : K = 3
      · subst h3
        obtain ⟨z1, z2⟩ := hrel1.out (r + 1) rfl
        have z2' := Lib.hid z2
        have z1' := Lib.hid z1
        clear z1 z2
        go_wp2
        go_roundw
        case rel => exact ⟨k + 1, by omega, by go_num, by rw [z1'.out]; push_cast; rfl, z2'.out, hOka.out⟩
        case measure => simp [intOf]; omega
      by_cases h4 : K = 4
      · subst h4
        obtain ⟨z1, z2⟩ := hrel1.out (r - 1) rfl
        have z2' := Lib.hid z2
        have z1' := Lib.hid z1
        clear z1 z2 h3
        go_wp2
        go_roundw
        case rel => exact ⟨k + 1, by omega, by go_num, by rw [z1'.out]; congr 1; omega, z2'.out, hOka.out⟩
        case measure => simp [intOf]; omega
      by_cases h56 : K = 5 ∨ K = 6
      · obtain ⟨v, hv, hvK⟩ : ∃ v : Bool, doS ⟨r, dd⟩ ⟨K, A, B⟩ = ⟨r, setD dd A v⟩ ∧ (v = true ↔ K = 5) := by
          rcases h56 with rfl | rfl
          · exact ⟨true, rfl, by simp⟩
          · exact ⟨false, rfl, by simp⟩
        have hst2 := Lib.hid (show stS (l.take (k + 1)) = ⟨r, setD dd A v⟩ from by rw [hst'.out]; exact hv)
        clear hv hrel1
        by_cases hout : A < 0 ∨ (en : Int) ≤ A
        · have z2' := Lib.hid (show (ws.alloc (.cells #[.int .i64 K, .int .i64 A, .int .i64 B] 90)).heap[G]? = some (.cells (hrow en (stS (l.take (k + 1))).d).toArray 3 (0, 0)) from by
            rw [hst2.out]
            dsimp only
            rw [hrow_out hout]
            exact hra.out)
          have z1' := Lib.hid (show (stS (l.take (k + 1))).reg = r from by rw [hst2.out])
          clear h3 h4 hvK
          by_cases hA0 : A < 0
          · clear hout
            rcases h56 with rfl | rfl
            · go_wp2
              go_roundw
              case rel => exact ⟨k + 1, by omega, by go_num, by rw [z1'.out], z2'.out, hOka.out⟩
              case measure => simp [intOf]; omega
            · go_wp2
              go_roundw
              case rel => exact ⟨k + 1, by omega, by go_num, by rw [z1'.out], z2'.out, hOka.out⟩
              case measure => simp [intOf]; omega
          · have hA1 : (en : Int) ≤ A := by omega
            clear hout
            rcases h56 with rfl | rfl
            · go_wp2
              go_roundw
              case rel => exact ⟨k + 1, by omega, by go_num, by rw [z1'.out], z2'.out, hOka.out⟩
              case measure => simp [intOf]; omega
            · go_wp2
              go_roundw
              case rel => exact ⟨k + 1, by omega, by go_num, by rw [z1'.out], z2'.out, hOka.out⟩
              case measure => simp [intOf]; omega
        · obtain ⟨a, ha⟩ : ∃ a : Nat, A = (a : Int) := ⟨A.toNat, by omega⟩
          subst ha
          have hae : a < en := by omega
          have hae' : (a : Int) < (en : Int) := by omega
          have f0 := row_free hr'.out a
          have g0 := row_cell hr'.out (hrow_at (d := dd) hae)
          have z1' := Lib.hid (show (stS (l.take (k + 1))).reg = r from by rw [hst2.out])
          have hs5 := Lib.hid (hrow_set (d := dd) hae v)
          have hfin2 := Lib.hid (fun (x : Value) (K9 : Int) (hx : x = .int .i64 (if v then 1 else 0)) => show ((ws.setCell ⟨G, a, none⟩ x).alloc (.cells #[.int .i64 K9, .int .i64 (a : Int), .int .i64 B] 90)).heap[G]? = some (.cells (hrow en (stS (l.take (k + 1))).d).toArray 3 (0, 0)) ∧ Only (fun x => x = G) w3 ((ws.setCell ⟨G, a, none⟩ x).alloc (.cells #[.int .i64 K9, .int .i64 (a : Int), .int .i64 B] 90)) from by
            subst hx
            refine ⟨heap_kept_alloc ?_ _, (hOk'.out.trans' ((Only.refl (fun x => x = G) _).setCell (p := ⟨G, a, none⟩) (fun _ => rfl) _)).alloc _⟩
            rw [hst2.out]
            dsimp only
            rw [← hs5.out]
            exact row_set hr'.out a _)
          obtain ⟨u0, hu0⟩ : ∃ u0 : Int, u0 = (if dd a then 1 else 0) := ⟨_, rfl⟩
          rw [← hu0] at g0
          clear h3 h4 hu0 hout
          rcases h56 with rfl | rfl
          · obtain rfl : v = true := hvK.2 rfl
            clear hvK
            obtain ⟨y1, y2⟩ := hfin2.out (.int .i64 1) 5 rfl
            have y1' := Lib.hid y1
            have y2' := Lib.hid y2
            clear y1 y2
            go_wp2
            go_roundw
            case rel => exact ⟨k + 1, by omega, by go_num, by rw [z1'.out], y1'.out, y2'.out⟩
            case measure => simp [intOf]; omega
          · obtain rfl : v = false := by cases v <;> simp_all
            clear hvK
            obtain ⟨y1, y2⟩ := hfin2.out (.int .i64 0) 6 rfl
            have y1' := Lib.hid y1
            have y2' := Lib.hid y2
            clear y1 y2
            go_wp2
            go_roundw
            case rel => exact ⟨k + 1, by omega, by go_num, by rw [z1'.out], y1'.out, y2'.out⟩
            case measure => simp [intOf]; omega
      · have hd : doS ⟨r, dd⟩ ⟨K, A, B⟩ = ⟨r, dd⟩ := by unfold doS; simp [h3, h4]; rw [if_neg (fun e => h56 (.inl e)), if_neg (fun e => h56 (.inr e))]
        obtain ⟨z1, z2⟩ := hrel1.out r hd
        have z2' := Lib.hid z2
        have z1' := Lib.hid z1
        have g3 : (K == 3) = false := beq_eq_false_iff_ne.2 h3
        have g4 : (K == 4) = false := beq_eq_false_iff_ne.2 h4
        have g5 : (K == 5) = false := beq_eq_false_iff_ne.2 (fun e => h56 (.inl e))
        have g6 : (K == 6) = false := beq_eq_false_iff_ne.2 (fun e => h56 (.inr e))
        clear z1 z2 h3 h4 h56 hd
        go_wp2
        go_roundw
        case rel => exact ⟨k + 1, by omega, by go_num, by rw [z1'.out], z2'.out, hOka.out⟩
        case measure => simp [intOf]; omega
    · obtain rfl : k = n := by omega
      have hkn' : ¬ (k : Int) < (k : Int) := by omega
      have hall : l.take k = l := by rw [← hn'.out, List.take_length]
      rw [hall] at hr' ⊢
      obtain ⟨⟨r, dd⟩, hS⟩ : ∃ S, S = stS l := ⟨_, rfl⟩
      rw [← hS] at hr' hV' ⊢
      dsimp only at hr' ⊢
      have hBs := Lib.hid (hOk'.out.heap hB3.out (by omega))
      have hOw := Lib.hid (hfr.out _ hOk'.out)
      clear hS hfr
      go_wp2
      go_loopw [8, 64] (fun a i' wr => ∃ y : Nat, y ≤ en ∧ i' = .int .i64 y ∧ a = .int .i64 (lev th zz dd y) ∧ ws = wr) (fun _ i' _ => en - (intOf i').toNat)
      case atStart => exact ⟨0, Nat.zero_le _, rfl, rfl, rfl⟩
      case round =>
        obtain ⟨y, hy, rfl, rfl, rfl⟩ := hrel
        by_cases hyn : y < en
        · have hyn' : (y : Int) < (en : Int) := by omega
          have g0 := row_cell hr'.out (hrow_at (d := dd) hyn)
          have e7 := row_cell hBs.out (i := 7) rfl
          have hql := row_lt hBs.out
          obtain ⟨zv, hz⟩ : ∃ zv, d.ce[y]? = some zv := ⟨_, List.getElem?_eq_getElem (by have := hcl.out; omega)⟩
          obtain ⟨ub, uoff, huA, hub, huc⟩ := (hce'.out _ hOw.out).at_ y zv hz
          cases huA
          have hzy : zz y = zv := by rw [hzz'.out]; unfold ceZ; rw [List.getD_eq_getElem?_getD, hz]; rfl
          have hl1 : lev th zz dd (y + 1) = if dd y = true then max (lev th zz dd y) (zz y) else lev th zz dd y := rfl
          rw [hzy] at hl1
          obtain ⟨L, hL⟩ : ∃ L, L = lev th zz dd y := ⟨_, rfl⟩
          rw [← hL] at hl1 ⊢
          obtain ⟨bb, hbb⟩ : ∃ bb, bb = dd y := ⟨_, rfl⟩
          rw [← hbb] at hl1 g0
          clear hz hzy hL hbb
          cases bb
          · have hl2 := Lib.hid (show lev th zz dd (y + 1) = L by rw [hl1]; simp)
            simp only [Bool.false_eq_true, if_false] at g0
            clear hl1
            go_wp2
            go_roundw
            case rel => exact ⟨y + 1, by omega, by go_num, by rw [hl2.out], by simp⟩
            case measure => simp [intOf]; omega
          · simp only [if_true] at g0 hl1
            by_cases hlt : L < zv
            · have hl2 := Lib.hid (show lev th zz dd (y + 1) = zv by rw [hl1]; omega)
              clear hl1
              go_wp2
              go_roundw
              case rel => exact ⟨y + 1, by omega, by go_num, by rw [hl2.out], by simp⟩
              case measure => simp [intOf]; omega
            · have hl2 := Lib.hid (show lev th zz dd (y + 1) = L by rw [hl1]; omega)
              clear hl1
              go_wp2
              go_roundw
              case rel => exact ⟨y + 1, by omega, by go_num, by rw [hl2.out], by simp⟩
              case measure => simp [intOf]; omega
        · obtain rfl : y = en := by omega
          have hyn' : ¬ (y : Int) < (y : Int) := by omega
          have hreg9 : r ≤ 1000000000 ∨ True := .inr trivial
          by_cases h0 : 0 < r
          · have h0' : (0 : Int) < (r : Int) := by omega
            have hVe : V = 64 := by rw [hV'.out]; unfold levS; rw [if_pos h0]
            have hend := Lib.hid (show Z (.returned (.int .i64 64)) ws from by rw [hZ'.out, hVe]; exact ⟨rfl, hOw.out⟩)
            clear hVe hreg9
            go_wp2
            exact hend.out
          · have h0' : ¬ (0 : Int) < (r : Int) := by omega
            have hVe : V = lev th zz dd y := by rw [hV'.out]; unfold levS; rw [if_neg h0]
            have hend := Lib.hid (show Z (.returned (.int .i64 (lev th zz dd y))) ws from by rw [hZ'.out, hVe]; exact ⟨rfl, hOw.out⟩)
            clear hVe hreg9
            go_wp2
            exact hend.out
end Sct
end Go.Proofs.YtlbinlhaejhobaaGreatDoor
