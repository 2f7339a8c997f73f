/- The document's layer 23: Touched. -/
import Derived.Test.YtlbinlhaejhobaaGreatDoorRef5
import Derived.Test.YtlbinlhaejhobaaGreatDoorPK
namespace Go.Proofs.YtlbinlhaejhobaaGreatDoor
namespace Rld
open Go Go.RowKit Rca Srt
set_option maxRecDepth 100000 in
set_option maxHeartbeats 4000000 in
theorem rtouched_any {w : World} {c : ConfV} {pl : Tks} {S : Nat} (hc : CfOk w c pl S) {A : Option Addr} {n cap : Nat} {hT : Option Nat} {T : List Nat} (hW : Win w 3 1 (.slice A n cap) hT n (dat T)) (hTn : ∀ i ∈ T, i < pl.length) (hn9 : n ≤ 1000000) :
    Calls Tryz.prog 86 #[c.val, .slice A n cap] w (TouEnd S pl T w) := by
  obtain ⟨Z, hZ⟩ : ∃ Z, Z = TouEnd S pl T w := ⟨_, rfl⟩
  rw [← hZ]
  have hZ' := Lib.hid hZ
  clear hZ
  have hO := (Only.refl (fun _ => False) w).alloc (.cells c.cells.toArray 27)
  have hB := heap_new_at w (.cells c.cells.toArray 27) rfl
  obtain ⟨W1, hW1⟩ : ∃ W1, W1 = w.alloc (.cells c.cells.toArray 27) := ⟨_, rfl⟩
  rw [← hW1] at hB hO
  have hB' := Lib.hid hB
  have hO' := Lib.hid hO
  have hlen' := Lib.hid (show pl.length = c.ta.n by have := hc.t.len; unfold Tks.ts at this; simpa using this)
  have hTl : n = T.length := by have := hW.1; rw [dat_length] at this; omega
  have hTl' := Lib.hid hTl
  have hTn' := Lib.hid hTn
  have hWT := Lib.hid (fun W (h : Only (fun _ => False) w W) => hW.kept h (fun _ _ h => h))
  have hs := Lib.hid (fun W => rloads_any (w := W) (A := none) (n := 0) (cap := 0) (l := []) (fun k y hy => by simp at hy) rfl (by omega) (fun o ho => by simp at ho) S c.wy c.h c.mi hc.s1 hc.s2)
  have hld := Lib.hid (fun W (h : Only (fun _ => False) w W) (i : Nat) t l (hi : pl[i]? = some (t, l)) => rloads_any (cap := t.o.cap) ((hc.p.row i t l hi).1.new h) (hc.p.row i t l hi).2.1 (hc.p.row i t l hi).2.2.1 (hc.ok i t l hi) S c.wy c.h c.mi hc.s1 hc.s2)
  have hta := Lib.hid (fun W (h : Only (fun _ => False) w W) => hc.t.new h)
  have hss := hc.s
  have hs1 := hc.s1
  have hs2 := hc.s2
  have hnn := hc.n
  obtain ⟨q, hqq⟩ : ∃ q, q = w.heap.size := ⟨_, rfl⟩
  have hqq' := Lib.hid hqq
  rw [← hqq] at hB'
  clear hO hB hTl hTn hW hqq hc
  rw [show c.val = .agg #[.int .i64 c.s, .int .i64 c.wy, .int .i64 c.h, .int .i64 c.mi, .slice c.mb.A c.mb.n c.mb.cap, .int .i64 c.g, .slice c.cn.A c.cn.n c.cn.cap, .slice c.ce.A c.ce.n c.ce.cap, .slice c.ta.A c.ta.n c.ta.cap, .slice c.li.A c.li.n c.li.cap] from rfl]
  unfold ConfV.cells at hW1 hB'
  obtain ⟨s, wy, h, mi, ⟨mA, mn, mc⟩, g, ⟨cA, cn, cc⟩, ⟨eA, en, ec⟩, ⟨tA, tn, tc⟩, ⟨lA, ln, lc⟩⟩ := c
  dsimp only at *
  subst hss
  have hW1' := Lib.hid hW1
  clear hW1
  have mk := fun W0 : World => run_make_list (P := Tryz.prog) W0 110 4 (.bool false) 1 Tryz.underlying110 (by kernel_rfl) rfl S (by omega) (by omega)
  have e0 := row_cell hB'.out (i := 0) rfl
  have e1 := row_cell hB'.out (i := 1) rfl
  have e2 := row_cell hB'.out (i := 2) rfl
  have e3 := row_cell hB'.out (i := 3) rfl
  have hqlt := row_lt hB'.out
  go_enter Tryz.func86, Tryz.ntmps86
  go_wp2_with fail
  rw [← hqq'.out, ← hW1'.out]
  go_wp2_with fail
  refine (hs.out _).mono ?_
  rintro e w2 ⟨g0, rfl, -, -, hO2⟩
  have hO2' := Lib.hid (hO'.out.trans' hO2)
  have hB2 := Lib.hid (hO2.heap hB'.out (fun h => h))
  clear e0 e1 e2 e3 hqlt hO2
  obtain ⟨G, hG⟩ : ∃ G, G = w2.heap.size := ⟨_, rfl⟩
  have hG' := Lib.hid hG
  clear hG
  go_wp2_with fail
  rw [← hG'.out]
  clear mk
  obtain ⟨w3, hw3⟩ : ∃ w3, w3 = w2.alloc (.cells (Array.replicate S (Value.bool false)) 4) := ⟨_, rfl⟩
  rw [← hw3]
  have hr3 := Lib.hid (show w3.heap[G]? = some (.cells (brow S (fun _ => false)).toArray 4 (0, 0)) by rw [hw3, brow_zero, List.toArray_replicate]; exact heap_new_at _ _ hG'.out.symm)
  have hO3 := Lib.hid (show Only (fun _ => False) w w3 by rw [hw3]; exact hO2'.out.alloc _)
  have hB3 := Lib.hid (((Only.refl (fun _ => False) w2).alloc (.cells (Array.replicate S (Value.bool false)) 4)).heap hB2.out (fun h => h))
  rw [← hw3] at hB3
  have hGq : q < G := by
    have h3 := row_lt hB2.out
    have h5 := hG'.out
    omega
  have hGw : w.heap.size ≤ G := by rw [← hqq'.out]; omega
  clear hw3 hB2 hO2' hB' hs hO' hW1' hG'
  have hfirst := Lib.hid (fun W (hW : Only (fun k => k = G) w3 W) => show Only (fun _ => False) w W from hO3.out.trans hW (fun x hx e => by omega))
  go_loopw [17] (fun i wr => ∃ k : Nat, k ≤ n ∧ i = .int .i64 k ∧ wr.heap[G]? = some (.cells (brow S (touB S pl (T.take k))).toArray 4 (0, 0)) ∧ Only (fun k => k = G) w3 wr) (fun i _ => n - (intOf i).toNat)
  case atStart => exact ⟨0, Nat.zero_le _, rfl, by rw [List.take_zero]; exact hr3.out, Only.refl _ _⟩
  case round =>
    obtain ⟨k, hk, rfl, hr, hO⟩ := hrel
    obtain ⟨ws, hws⟩ : ∃ ws : World, ws = wr := ⟨_, rfl⟩
    subst hws
    have hr' := Lib.hid hr
    have hO' := Lib.hid hO
    have hOw := Lib.hid (hfirst.out _ hO)
    have hBs := Lib.hid (hO.heap hB3.out (fun e => by omega))
    clear hr hO
    by_cases hkn : k < n
    · have hkn' : (k : Int) < (n : Int) := by omega
      obtain ⟨i, hi⟩ : ∃ i, T[k]? = some i := ⟨_, List.getElem?_eq_getElem (by have := hTl'.out; omega)⟩
      have hip := hTn'.out i (List.mem_of_getElem? hi)
      obtain ⟨⟨t, l⟩, hpi⟩ : ∃ x, pl[i]? = some x := ⟨_, List.getElem?_eq_getElem hip⟩
      obtain ⟨g2, goff2, capp2, _, hv2, _, _, hgl2, hgc2, _⟩ := (hWT.out ws hOw.out).at_ (by omega)
      cases hv2
      have g1 := hgc2 k _ (dat_at hi)
      have e0 := row_cell hBs.out (i := 0) rfl
      have e1 := row_cell hBs.out (i := 1) rfl
      have e2 := row_cell hBs.out (i := 2) rfl
      have e3 := row_cell hBs.out (i := 3) rfl
      have e4 := row_cell hBs.out (i := 4) rfl
      have e5 := row_cell hBs.out (i := 5) rfl
      have e6 := row_cell hBs.out (i := 6) rfl
      have e7 := row_cell hBs.out (i := 7) rfl
      have e8 := row_cell hBs.out (i := 8) rfl
      have e9 := row_cell hBs.out (i := 9) rfl
      have hqlt := row_lt hBs.out
      have htou := Lib.hid (touB_succ (S := S) hi hpi)
      have hpi' := Lib.hid hpi
      clear hgc2 hi hpi
      have hO4' := hOw
      have hB4 := hBs
      have hr4 := hr'
      have hO4g := hO'
      clear e0 e1 e2 e3 e4 e5 e6 e7 e8 e9 hqlt
      obtain ⟨b, off, hA, hb, hC⟩ := (hta.out _ hO4'.out).at_ i t (ts_some hpi'.out)
      dsimp only at hA
      subst hA
      have htn : i < tn := by rw [← hlen'.out]; exact hip
      have htn' : (i : Int) < (tn : Int) := by omega
      have hi0 : ¬ (i : Int) < 0 := by omega
      have hti : ¬ (tn : Int) ≤ (i : Int) := by omega
      have hkeep := Lib.hid (fun W0 (h0 : Only (fun _ => False) ws W0) => show W0.cell? ⟨q, 8, none⟩ = some (.slice (some ⟨b, off, none⟩) tn tc) ∧ W0.cell? ⟨b, off + i * 7 + 6, none⟩ = some (.slice t.o.A t.o.n t.o.cap) ∧ W0.cell? ⟨q, 0, none⟩ = some (.int .i64 (S : Int)) ∧ W0.cell? ⟨q, 1, none⟩ = some (.int .i64 wy) ∧ W0.cell? ⟨q, 2, none⟩ = some (.int .i64 h) ∧ W0.cell? ⟨q, 3, none⟩ = some (.int .i64 mi) ∧ q < W0.heap.size ∧ b < W0.heap.size from by
        have z := h0.heap hB4.out (fun h => h)
        exact ⟨row_cell z (i := 8) rfl, h0.cell hC.c6 (fun h => h), row_cell z (i := 0) rfl, row_cell z (i := 1) rfl, row_cell z (i := 2) rfl, row_cell z (i := 3) rfl, row_lt z, Nat.lt_of_lt_of_le hb h0.size⟩)
      have hld2 := Lib.hid (fun W (h : Only (fun _ => False) ws W) => hld.out W (hO4'.out.trans' h) i t l hpi'.out)
      obtain ⟨f8, f6, f0, f1, f2, f3, fq, fb⟩ := hkeep.out _ (Only.refl _ _)
      clear hC hb
      go_wp2_with fail
      go_region_held3 (fun W' => W'.cell? ⟨q, 8, none⟩ = some (.slice (some ⟨b, off, none⟩) tn tc) ∧ W'.cell? ⟨b, off + i * 7 + 6, none⟩ = some (.slice t.o.A t.o.n t.o.cap) ∧ W'.cell? ⟨q, 0, none⟩ = some (.int .i64 (S : Int)) ∧ W'.cell? ⟨q, 1, none⟩ = some (.int .i64 wy) ∧ W'.cell? ⟨q, 2, none⟩ = some (.int .i64 h) ∧ W'.cell? ⟨q, 3, none⟩ = some (.int .i64 mi) ∧ q < W'.heap.size ∧ b < W'.heap.size)
        (exact hkeep.out _ (by repeat (first | assumption | exact Only.refl _ _ | apply Only.drew)))
        (first
          | (go_at_call 85; (with_reducible refine (hld2.out _ (by repeat (first | assumption | exact Only.refl _ _ | apply Only.drew))).mono ?_); rintro _ w5 ⟨g3, rfl, hge3, hrow3, ho5⟩; have hO5 : Only (fun _ => False) ws w5 := Only.trans' (by repeat (first | assumption | exact Only.refl _ _ | apply Only.drew)) ho5; have hge3' := Lib.hid (show ws.heap.size ≤ g3 from hge3); have hrow3' := Lib.hid hrow3; clear hrow3 hge3 ho5))
      have hr5 := Lib.hid (hO5.heap hr4.out (fun h => h))
      have hO5' := Lib.hid (hO4g.out.trans hO5 (fun _ _ h => h.elim))
      have hO5w := Lib.hid (hO4'.out.trans' hO5)
      have hGl5 := row_lt hr5.out
      have hg3G : g3 ≠ G := by
        have h1 := row_lt hr4.out
        have h2 := hge3'.out
        omega
      clear f8 f6 f0 f1 f2 f3 fq fb hO5 hr4 hB4 hBs hkeep hld2 hO4g hO4' hr'
      have hSi : (S : Int) < 9223372036854775807 := by omega
      go_wp2
      go_loopw [40] (fun i' wq => ∃ j : Nat, j ≤ S ∧ i' = .int .i64 j ∧ wq.heap[G]? = some (.cells (brow S (midB S pl (T.take k) l j)).toArray 4 (0, 0)) ∧ Only (fun k => k = G) w5 wq) (fun i' _ => S - (intOf i').toNat)
      case atStart => exact ⟨0, Nat.zero_le _, rfl, by rw [brow_congr (g := touB S pl (T.take k)) (fun j hj => by simp [midB])]; exact hr5.out, Only.refl _ _⟩
      case round =>
        obtain ⟨j, hj, rfl, hrj, hOj⟩ := hrel
        obtain ⟨wo, hwo⟩ : ∃ wo : World, wo = wr := ⟨_, rfl⟩
        subst hwo
        have hrj' := Lib.hid hrj
        have hOj' := Lib.hid hOj
        have h3 := hOj.heap hrow3'.out hg3G
        replace hGl5 := row_lt hrj
        clear hrj hOj
        by_cases hjS : j < S
        · have hjS' : (j : Int) < (S : Int) := by omega
          have c3 := row_cell h3 (show (loadsL S l)[j]? = some (.int .i64 (loadS S l j : Int)) by unfold loadsL; rw [List.getElem?_map, List.getElem?_range hjS]; rfl)
          have hl3 := row_lt h3
          obtain ⟨x, hx⟩ : ∃ x, x = loadS S l j := ⟨_, rfl⟩
          rw [← hx] at c3
          obtain ⟨B, hBB⟩ : ∃ B, B = midB S pl (T.take k) l j j := ⟨_, rfl⟩
          have cj := row_cell hrj'.out (brow_at (f := midB S pl (T.take k) l j) hjS)
          have fj := row_free hrj'.out j
          rw [← hBB] at cj
          have hB2 : B = touB S pl (T.take k) j := by rw [hBB]; simp [midB]
          have hset : ∀ V : Bool, V = (B || decide (0 < x)) → (brow S (midB S pl (T.take k) l j)).set j (.bool V) = brow S (midB S pl (T.take k) l (j + 1)) := by
            intro V hV
            refine brow_set ?_ (fun y hy => ?_)
            · rw [hV, hB2, hx]
              unfold midB
              simp
            · unfold midB
              congr 2
              have : (y < j) = (y < j + 1) := by
                apply propext
                omega
              simp only [this]
          have hset' := Lib.hid hset
          clear hset hBB hB2 hx h3
          have hstep := Lib.hid (fun (V : Bool) (hV : V = (B || decide (0 < x))) => show (wo.setCell ⟨G, j, none⟩ (.bool V)).heap[G]? = some (.cells (brow S (midB S pl (T.take k) l (j + 1))).toArray 4 (0, 0)) from by
            rw [← hset'.out V hV]
            exact row_set hrj'.out j _)
          by_cases hx0 : 0 < x
          · have hx1 : (0 : Int) < (x : Int) := by omega
            have hd : decide (0 < x) = true := by simpa using hx0
            clear hset' hx0
            cases B
            · go_wp2
              go_roundw
              case rel => exact ⟨j + 1, by omega, by go_num, hstep.out true (by rw [hd]; rfl), hOj'.out.setCell (p := ⟨G, j, none⟩) (fun _ => rfl) _⟩
              case measure => simp [intOf]; omega
            · go_wp2
              go_roundw
              case rel => exact ⟨j + 1, by omega, by go_num, hstep.out true (by rfl), hOj'.out.setCell (p := ⟨G, j, none⟩) (fun _ => rfl) _⟩
              case measure => simp [intOf]; omega
          · have hx1 : ¬ (0 : Int) < (x : Int) := by omega
            have hd : decide (0 < x) = false := by simpa using hx0
            clear hset' hx0
            cases B
            · go_wp2
              go_roundw
              case rel => exact ⟨j + 1, by omega, by go_num, hstep.out false (by rw [hd]; rfl), hOj'.out.setCell (p := ⟨G, j, none⟩) (fun _ => rfl) _⟩
              case measure => simp [intOf]; omega
            · go_wp2
              go_roundw
              case rel => exact ⟨j + 1, by omega, by go_num, hstep.out true (by rfl), hOj'.out.setCell (p := ⟨G, j, none⟩) (fun _ => rfl) _⟩
              case measure => simp [intOf]; omega
        · obtain rfl : j = S := by omega
          have hjS' : ¬ (j : Int) < (j : Int) := by omega
          have hend := Lib.hid (show wo.heap[G]? = some (.cells (brow j (touB j pl (T.take (k + 1)))).toArray 4 (0, 0)) from by
            rw [brow_congr (g := midB j pl (T.take k) l j) (fun y hy => by rw [htou.out]; simp [midB, hy])]
            exact hrj'.out)
          clear h3
          go_wp2
          go_roundw
          case rel => exact ⟨k + 1, by omega, by go_num, hend.out, hO5'.out.trans' hOj'.out⟩
          case measure => simp [intOf]; omega
    · obtain rfl : k = n := by omega
      have hkn' : ¬ (k : Int) < (k : Int) := by omega
      have hfin : Z (.returned (.slice (some ⟨G, 0, none⟩) S S)) ws := by
        rw [hZ'.out]
        refine ⟨G, rfl, hGw, ?_, hOw.out⟩
        have := hr'.out
        rw [hTl'.out, List.take_length] at this
        exact this
      have hfin' := Lib.hid hfin
      clear hfin
      go_wp2
      exact hfin'.out
end Rld
end Go.Proofs.YtlbinlhaejhobaaGreatDoor
