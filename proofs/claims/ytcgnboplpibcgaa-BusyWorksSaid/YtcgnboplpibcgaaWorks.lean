/- BusyWorks: the walk. -/
import Derived.Test.YtcgnboplpibcgaaWrk2
import Derived.Test.YtcgnboplpibcgaaTail
import Derived.Deep.CutRange
import Derived.Deep.DeepCutAuto
namespace Go.Proofs.Ytcgnboplpibcgaa
open Go Go.RowKit
/-- Loads whose costs and periods are from 1 to 1000. -/
def Mild (l : List Ld) : Prop := ∀ i, i < l.length → 1 ≤ cst l i ∧ cst l i ≤ 1000 ∧ 1 ≤ prd l i ∧ prd l i ≤ 1000
def MildTo (l : List Ld) (k : Nat) : Prop := ∀ i, i < k → 1 ≤ cst l i ∧ cst l i ≤ 1000 ∧ 1 ≤ prd l i ∧ prd l i ≤ 1000
def mildB (c p : Nat) : Bool := decide (1 ≤ c ∧ c ≤ 1000 ∧ 1 ≤ p ∧ p ≤ 1000)
set_option maxRecDepth 100000 in
set_option maxHeartbeats 8000000 in
theorem works_any {w : World} {A GA : Option Addr} {n cap gn gc d : Nat} {l : List Ld} {R : Nat → Option Addr} {L C : Nat → Nat} {B : Nat → Nat → Nat} (h : LoadsIn w A n l) (hg : GapsIn w GA gn R L C B) (hd : d ≤ 255) (h8 : n ≤ 8) (h0 : 0 < n) (hg8 : gn ≤ 8) :
    Calls Try.prog 6 #[.int .u8 d, .slice A n cap, .slice GA gn gc] w (AnsB true w) := by
  have hI := Lib.hid h
  have hG := Lib.hid hg
  obtain ⟨Z, hZ⟩ : ∃ Z, Z = AnsB true w := ⟨_, rfl⟩
  rw [← hZ]
  have hZ' := Lib.hid hZ
  have h8' : ¬ (8 : Int) < n := by omega
  have hg8' : ¬ (8 : Int) < gn := by omega
  have h0' : ((n : Int) == 0) = false := by simp; omega
  have hdI := Lib.hid hd
  clear h hg hZ
  go_enter Try.func6, Try.ntmps6
  go_wp2_with fail
  refine (fixed25_any _).mono ?_
  rintro e w2 ⟨rfl, ho⟩
  have hO2 := Lib.hid ho
  clear ho
  go_wp2
  go_loopw [8, 35] (fun _ i wr => ∃ k : Nat, i = .int .i64 k ∧ k ≤ n ∧ Hid (Only (fun _ => False) w wr) ∧ Hid (MildTo l k)) (fun _ i _ => (n - intOf i).toNat)
  case atStart => exact ⟨0, rfl, Nat.zero_le _, hO2, Lib.hid (fun i hi => by omega)⟩
  case round =>
    obtain ⟨k, rfl, hk, hO, hM⟩ := hrel
    by_cases hkn : k < n
    · have hkn' : (k : Int) < n := by omega
      obtain ⟨⟨c, p⟩, hcp⟩ : ∃ y, l[k]? = some y := ⟨_, List.getElem?_eq_getElem (by have := hI.out.len; omega)⟩
      obtain ⟨b, off, rfl, c0, c1, hbl⟩ := (hI.out.new hO.out).row k c p hcp
      have hcp' := Lib.hid hcp
      clear hcp
      by_cases hm : 1 ≤ c ∧ c ≤ 1000 ∧ 1 ≤ p ∧ p ≤ 1000
      · have m1 : ((c : Int) == 0) = false := by simp; omega
        have m2 : ((p : Int) == 0) = false := by simp; omega
        have m3 : ¬ (1000 : Int) < c := by omega
        have m4 : ¬ (1000 : Int) < p := by omega
        have hm' := Lib.hid hm
        clear hm
        go_wp2
        go_roundw
        case rel => exact ⟨k + 1, by go_num, by omega, Lib.hid (hO.out.alloc _), Lib.hid (fun i hi => by
          by_cases e : i = k
          · subst e
            obtain ⟨e1, e2⟩ := cst_at hcp'.out
            rw [e1, e2]
            exact hm'.out
          · exact hM.out i (by omega))⟩
        case measure => simp [intOf]; omega
      · by_cases z1 : c = 0
        · have m1 : ((c : Int) == 0) = true := by simp [z1]
          clear z1 hm
          go_wp2
          rw [hZ'.out]
          exact ⟨rfl, hO.out.alloc _⟩
        have m1 : ((c : Int) == 0) = false := by simpa using z1
        by_cases z2 : p = 0
        · have m2 : ((p : Int) == 0) = true := by simp [z2]
          clear z1 z2 hm
          go_wp2
          rw [hZ'.out]
          exact ⟨rfl, hO.out.alloc _⟩
        have m2 : ((p : Int) == 0) = false := by simpa using z2
        by_cases z3 : 1000 < c
        · have m3 : (1000 : Int) < c := by omega
          clear z1 z2 z3 hm
          go_wp2
          rw [hZ'.out]
          exact ⟨rfl, hO.out.alloc _⟩
        have m3 : ¬ (1000 : Int) < c := by omega
        have m4 : (1000 : Int) < p := by omega
        clear z1 z2 z3 hm
        go_wp2
        rw [hZ'.out]
        exact ⟨rfl, hO.out.alloc _⟩
    · obtain rfl : k = n := by omega
      have hMl := Lib.hid (show Mild l from fun i hi => hM.out i (by have := hI.out.len; omega))
      clear hM
      go_wp2_with fail
      refine (window_any (most := 800) (d := d) (hI.out.new hO.out).row hI.out.len (by omega) hI.out.lb (by omega) (by omega)).mono ?_
      rintro e w3 ⟨rfl, ho⟩
      have hO3 := Lib.hid (hO.out.trans' ho)
      clear ho
      rw [show min 800 16777216 = 800 by decide]
      obtain ⟨r, hr⟩ : ∃ r, r = win (dem d l) 800 := ⟨_, rfl⟩
      rw [← hr]
      by_cases hr0 : r = 0
      · subst hr0
        clear hr
        go_wp2
        rw [hZ'.out]
        exact ⟨rfl, hO3.out⟩
      have hwin := Lib.hid (show 1 ≤ r ∧ r ≤ 800 ∧ dem d l r ≤ r by
        have := win_is (dem d l) 800
        rw [← hr] at this
        rcases this with ⟨h, _⟩ | ⟨h1, h2, h3, _⟩
        · omega
        · exact ⟨h1, h2, h3⟩)
      rw [show orU r = r from if_neg hr0, show decide (0 < r) = true from decide_eq_true (by omega)]
      have hr800 : r ≤ 800 := hwin.out.2.1
      clear hr hr0
      have mk1 := fun (W : World) => run_make_list (P := Try.prog) W 25 22 (.int .u64 0) 8 Try.underlying25 info22 rfl k (by omega) (by omega)
      have mk2 := fun (W : World) => run_make_list (P := Try.prog) W 40 3 (.int .i64 0) 8 Try.underlying40 (by kernel_rfl) rfl k (by omega) (by omega)
      go_wp2_with fail
      obtain ⟨nb, hnb⟩ : ∃ nb, nb = w3.heap.size := ⟨_, rfl⟩
      have hM0 := Lib.hid (show WMem w ((w3.alloc (Obj.cells (Array.replicate k (Value.int IntKind.u64 0)) 22)).alloc (Obj.cells (Array.replicate k (Value.int IntKind.i64 0)) 3)) nb (nb + 1) k (fun _ => 0) (fun _ => 0) from
        ⟨heap_kept_alloc (by rw [hnb, heap_new_at _ _ rfl, ← rowV_rep]; simp) _, by rw [heap_new_at _ _ (by simp [hnb]), ← rowV_rep]; simp, (hO3.out.alloc _).alloc _, by omega, by rw [hnb]; exact hO3.out.size, by rw [hnb]; have := hO3.out.size; omega⟩)
      rw [← hnb]
      generalize ((w3.alloc (Obj.cells (Array.replicate k (Value.int IntKind.u64 0)) 22)).alloc (Obj.cells (Array.replicate k (Value.int IntKind.i64 0)) 3)) = w4 at hM0 ⊢
      clear mk1 mk2 hnb hO hO2
      obtain ⟨ab, hab⟩ : ∃ ab, ab = nb + 1 := ⟨_, rfl⟩
      rw [← hab] at hM0 ⊢
      clear hab
      go_loopw [14, 77] (fun _ u77 wr => ∃ (j : Nat) (N T : Nat → Nat), u77 = .int .i64 j ∧ j ≤ k ∧ Hid (WMem w wr nb ab k N T) ∧ Hid (∀ i, i < k → N i ≤ 255 ∧ T i ≤ 1)) (fun _ i _ => (k - intOf i).toNat)
      case atStart => exact ⟨0, fun _ => 0, fun _ => 0, rfl, Nat.zero_le _, hM0, Lib.hid (fun i hi => ⟨Nat.zero_le _, Nat.zero_le _⟩)⟩
      case round =>
        obtain ⟨j, N, T, rfl, hj, hM, hB⟩ := hrel
        by_cases hjk : j < k
        · have hjk' : (j : Int) < k := by omega
          obtain ⟨n0, n1, n2⟩ := hM.out.cellN hjk
          obtain ⟨t0, t1, t2⟩ := hM.out.cellT hjk
          by_cases hjg : j < gn
          · have hjg' : (j : Int) < gn := by omega
            obtain ⟨gb, goff, rfl, g0, g1⟩ := (hG.out.new hM.out.only).at_ j hjg
            by_cases hL : 0 < L j
            · have hL' : (0 : Int) < L j := by omega
              obtain ⟨rb, roff, hR, g2, g3, g4⟩ := (hG.out.new hM.out.only).in_ j hjg 0 hL
              rw [hR] at g0
              rw [Nat.add_zero] at g2
              obtain ⟨gv, hgv⟩ : ∃ gv, gv = B j 0 := ⟨_, rfl⟩
              rw [← hgv] at g2 g4
              have hN1 := Lib.hid ((hM.out.setN hjk gv))
              have hT1 := Lib.hid (hN1.out.setT hjk 1)
              have hap := hM.out.ne
              clear hR hgv
              go_wp2
              go_roundw
              case rel => exact ⟨j + 1, _, _, by go_num, by omega, hT1, Lib.hid (fun i hi => by
                have := hB.out i hi
                unfold updN
                constructor <;> split <;> omega)⟩
              case measure => simp [intOf]; omega
            · have hL' : ¬ (0 : Int) < L j := by omega
              go_wp2
              go_roundw
              case rel => exact ⟨j + 1, N, T, by go_num, by omega, hM, hB⟩
              case measure => simp [intOf]; omega
          · have hjg' : ¬ (j : Int) < gn := by omega
            go_wp2
            go_roundw
            case rel => exact ⟨j + 1, N, T, by go_num, by omega, hM, hB⟩
            case measure => simp [intOf]; omega
        · obtain rfl : j = k := by omega
          obtain ⟨z, hz⟩ : ∃ z, z = ((d : Int) == 0) := ⟨_, rfl⟩
          have hz' := Lib.hid hz
          go_upto_if 107 with fail
          rw [← hz]
          clear hz
          go_cut [107] from 106 to 109 (fun _ wc => Hid (∃ N T, WMem w wc nb ab j N T ∧ ∀ i, i < j → N i ≤ 255 ∧ T i ≤ 1))
          case first =>
            obtain ⟨n0, n1, n2⟩ := hM.out.cellN (i := 0) h0
            cases z
            · go_wp2
              go_meet
              case rel => exact Lib.hid ⟨N, T, hM.out, hB.out⟩
            · go_wp2
              go_meet
              case rel => exact Lib.hid ⟨_, T, hM.out.setN h0 0, fun i hi => by
                have := hB.out i hi
                unfold updN
                constructor
                · split <;> omega
                · omega⟩
          have hp1 := Lib.hid (show ∀ i, i < j → 1 ≤ prd l i from fun i hi => (hMl.out i (by have := hI.out.len; omega)).2.2.1)
          have hc1 := Lib.hid (show ∀ i, i < j → cst l i ≤ 1000 from fun i hi => (hMl.out i (by have := hI.out.len; omega)).2.1)
          obtain ⟨ln, hln⟩ : ∃ ln, ln = l.length := ⟨_, rfl⟩
          have hjl := Lib.hid (show j = l.length from hI.out.len.symm)
          clear hM hB hM0 hln
          go_wp2
          go_loopw [11, 15, 16, 17] (fun u11 u15 _ _ wr => ∃ (left t : Nat) (N T K : Nat → Nat), u11 = U left ∧ u15 = U t ∧ t ≤ r ∧ Hid (t = 0 ∨ 0 < left) ∧ Hid (WMem w wr nb ab j N T) ∧ Hid (WInv j (cst l) (prd l) d left t (fun _ => t) N T K)) (fun _ i _ _ _ => (r - intOf i).toNat)
          case atStart =>
            obtain ⟨N, T, h1, h2⟩ := hcut.out
            refine ⟨d, 0, N, T, fun _ => 0, rfl, rfl, Nat.zero_le _, Lib.hid (.inl rfl), Lib.hid h1, Lib.hid ⟨?_, fun i hi => Nat.zero_le _, fun i hi => by rw [Nat.zero_mul]; exact Nat.zero_le _, fun i hi => .inl rfl, fun i hi => by have := h2 i hi; omega, fun i hi => by have := h2 i hi; omega⟩⟩
            have := sm_const (f := fun i => cst l i * 0) (B := 0) j (fun i hi => by simp)
            omega
          case round =>
            obtain ⟨left, t, N, T, K, rfl, rfl, ht, hl0, hM, hV⟩ := hrel
            by_cases htr : t < r
            · have htr' : (t : Int) < r := by omega
              go_wp2
              go_loopw [11, 16, 17, 117] (fun u11 _ _ u117 wr => ∃ (left i : Nat) (N T K : Nat → Nat), u11 = U left ∧ u117 = .int .i64 i ∧ i ≤ j ∧ Hid (WMem w wr nb ab j N T) ∧ Hid (WInv j (cst l) (prd l) d left t (fun x => if x < i then t + 1 else t) N T K)) (fun _ _ _ i _ => (j - intOf i).toNat)
              case atStart => exact ⟨left, 0, N, T, K, rfl, rfl, Nat.zero_le _, hM, Lib.hid (hV.out.tt_congr (fun i hi => by rw [if_neg (by omega)]))⟩
              case round =>
                obtain ⟨left, i, N, T, K, rfl, rfl, hi, hM, hV⟩ := hrel
                by_cases hij : i < j
                · have hij' : (i : Int) < j := by omega
                  have hpas := Lib.hid (fun (v : Nat) (N' T' K' : Nat → Nat) (h : WInv j (cst l) (prd l) d v t (updN (fun x => if x < i then t + 1 else t) i (t + 1)) N' T' K') => show WInv j (cst l) (prd l) d v t (fun x => if x < i + 1 then t + 1 else t) N' T' K' from h.tt_congr (fun x hx => by
                    unfold updN
                    by_cases e : x = i
                    · rw [if_pos e, if_pos (by omega)]
                    · rw [if_neg e]
                      show (if x < i then t + 1 else t) = if x < i + 1 then t + 1 else t
                      by_cases e2 : x < i
                      · rw [if_pos e2, if_pos (by omega)]
                      · rw [if_neg e2, if_neg (by omega)]))
                  obtain ⟨⟨c, p⟩, hcp⟩ : ∃ y, l[i]? = some y := ⟨_, List.getElem?_eq_getElem (by have := hjl.out; omega)⟩
                  obtain ⟨b, off, rfl, c0, c1, hbl⟩ := (hI.out.new hM.out.only).row i c p hcp
                  obtain ⟨ec, ep⟩ := cst_at hcp
                  obtain ⟨n0, n1, n2⟩ := hM.out.cellN hij
                  obtain ⟨Ni, hNi⟩ : ∃ Ni, Ni = N i := ⟨_, rfl⟩
                  rw [← hNi] at n0
                  have hmi := hMl.out i (by have := hjl.out; omega)
                  rw [ec, ep] at hmi
                  obtain ⟨m1, m2, m3, m4⟩ := hmi
                  by_cases hNt : Ni = t
                  · subst hNt
                    have hNt' : ((Ni : Int) != Ni) = false := by simp
                    have hlt := hV.out.left_le hp1.out hc1.out (fun x hx => by show (if x < i then Ni + 1 else Ni) ≤ 1000; split <;> omega) h8 hdI.out
                    have hcome := Lib.hid (fun g T' (hg : g ≤ 255) (hT : T' ≤ T i + 1) => hpas.out _ _ _ _ (hV.out.come (g := g) (T' := T') hij (by rw [if_neg (by omega)]) hNi.symm hg (by rw [ep]; exact m3) (by rw [ep]; exact m4) hT))
                    rw [ec, ep] at hcome
                    obtain ⟨t0, t1, t2⟩ := hM.out.cellT hij
                    have htb := hV.out.tb i hij
                    rw [if_neg (by omega)] at htb
                    obtain ⟨Ti, hTi⟩ : ∃ Ti, Ti = T i := ⟨_, rfl⟩
                    rw [← hTi] at t0 htb hcome
                    have hm1 := Lib.hid (fun W (ho : Only (fun _ => False) wr W) => ((hM.out.new ho).setN hij (Ni + p)))
                    have hap := hM.out.ne
                    have hap2 := hap.symm
                    have hTi' := Lib.hid hTi
                    clear hNi ec ep hcp hTi
                    by_cases hig : i < gn
                    · have hig' : (i : Int) < gn := by omega
                      obtain ⟨gb, goff, rfl, g0, g1⟩ := (hG.out.new hM.out.only).at_ i hig
                      by_cases hTL : Ti < L i
                      · have hTL' : (Ti : Int) < L i := by omega
                        go_wp2_with fail
                        refine wp_region_quiet_tail_lit 8 (by kernel_rfl) (by kernel_rfl) ?_
                        simp only [List.take_succ_cons, List.take_zero, List.drop_succ_cons, List.drop_zero]
                        repeat (go_big_quiet_step (fail))
                        refine wpQuiet_nil ?_
                        rintro _ ⟨nq, rfl⟩
                        go_wp2_with fail
                        obtain ⟨W5, hW5⟩ : ∃ W5, W5 = (((wr.alloc (Obj.cells #[Value.int IntKind.u64 (c : Int), Value.int IntKind.u64 (p : Int)] 37)).drewN nq).setCell ⟨nb, i, none⟩ (Value.int IntKind.u64 ((Ni : Int) + (p : Int)))) := ⟨_, rfl⟩
                        rw [← hW5]
                        have hM5 := Lib.hid (show WMem w W5 nb ab j (updN N i (Ni + p)) T by rw [hW5]; exact hm1.out _ (((Only.refl _ _).alloc _).drewN _))
                        clear hW5 n0 n1 n2 t0 t1 t2 c0 c1 hbl g0 g1
                        obtain ⟨n0, n1, n2⟩ := hM5.out.cellN hij
                        obtain ⟨t0, t1, t2⟩ := hM5.out.cellT hij
                        rw [updN_at] at n0
                        rw [← hTi'.out] at t0
                        obtain ⟨gb', goff', hgA, g0, g1⟩ := (hG.out.new hM5.out.only).at_ i hig
                        cases hgA
                        obtain ⟨rb, roff, hR, g2, g3, g4⟩ := (hG.out.new hM5.out.only).in_ i hig Ti hTL
                        rw [hR] at g0
                        obtain ⟨gv, hgv⟩ : ∃ gv, gv = B i Ti := ⟨_, rfl⟩
                        rw [← hgv] at g2 g4
                        clear hR hgv
                        go_quiet (fail)
                        go_wp2_with fail
                        refine wp_region_quiet_tail_lit 17 (by kernel_rfl) (by kernel_rfl) ?_
                        simp only [List.take_succ_cons, List.take_zero, List.drop_succ_cons, List.drop_zero]
                        repeat (go_big_quiet_step (fail))
                        refine wpQuiet_nil ?_
                        rintro _ ⟨nq2, rfl⟩
                        go_wp2
                        go_roundw
                        case rel => exact ⟨left + c, i + 1, _, _, _, rfl, by go_num, by omega, Lib.hid (((hM5.out.new ((Only.refl _ _).drewN (nq + nq2))).setN hij (Ni + p + gv)).setT hij (Ti + 1)), Lib.hid (by
                          have := hcome.out gv (Ti + 1) g4 (by omega)
                          rw [updN_twice]
                          exact this)⟩
                        case measure => simp [intOf]; omega
                      · have hTL' : ¬ (Ti : Int) < L i := by omega
                        go_wp2_with fail
                        refine wp_region_quiet_tail_lit 8 (by kernel_rfl) (by kernel_rfl) ?_
                        simp only [List.take_succ_cons, List.take_zero, List.drop_succ_cons, List.drop_zero]
                        repeat (go_big_quiet_step (fail))
                        refine wpQuiet_nil ?_
                        rintro _ ⟨nq, rfl⟩
                        go_wp2_with fail
                        obtain ⟨W5, hW5⟩ : ∃ W5, W5 = (((wr.alloc (Obj.cells #[Value.int IntKind.u64 (c : Int), Value.int IntKind.u64 (p : Int)] 37)).drewN nq).setCell ⟨nb, i, none⟩ (Value.int IntKind.u64 ((Ni : Int) + (p : Int)))) := ⟨_, rfl⟩
                        rw [← hW5]
                        have hM5 := Lib.hid (show WMem w W5 nb ab j (updN N i (Ni + p)) T by rw [hW5]; exact hm1.out _ (((Only.refl _ _).alloc _).drewN _))
                        clear hW5 n0 n1 n2 t0 t1 t2 c0 c1 hbl g0 g1
                        obtain ⟨n0, n1, n2⟩ := hM5.out.cellN hij
                        obtain ⟨t0, t1, t2⟩ := hM5.out.cellT hij
                        rw [updN_at] at n0
                        rw [← hTi'.out] at t0
                        obtain ⟨gb', goff', hgA, g0, g1⟩ := (hG.out.new hM5.out.only).at_ i hig
                        cases hgA
                        go_quiet (fail)
                        go_wp2
                        go_roundw
                        case rel => exact ⟨left + c, i + 1, _, _, _, rfl, by go_num, by omega, Lib.hid (hM5.out.new ((Only.refl _ _).drewN _)), Lib.hid (by
                          have := hcome.out 0 Ti (by omega) (by omega)
                          rw [updN_self hTi'.out] at this
                          exact this)⟩
                        case measure => simp [intOf]; omega
                    · have hig' : ¬ (i : Int) < gn := by omega
                      go_wp2_with fail
                      refine wp_region_quiet_tail_lit 8 (by kernel_rfl) (by kernel_rfl) ?_
                      simp only [List.take_succ_cons, List.take_zero, List.drop_succ_cons, List.drop_zero]
                      repeat (go_big_quiet_step (fail))
                      refine wpQuiet_nil ?_
                      rintro _ ⟨nq, rfl⟩
                      go_wp2_with fail
                      obtain ⟨W5, hW5⟩ : ∃ W5, W5 = (((wr.alloc (Obj.cells #[Value.int IntKind.u64 (c : Int), Value.int IntKind.u64 (p : Int)] 37)).drewN nq).setCell ⟨nb, i, none⟩ (Value.int IntKind.u64 ((Ni : Int) + (p : Int)))) := ⟨_, rfl⟩
                      rw [← hW5]
                      have hM5 := Lib.hid (show WMem w W5 nb ab j (updN N i (Ni + p)) T by rw [hW5]; exact hm1.out _ (((Only.refl _ _).alloc _).drewN _))
                      clear hW5 n0 n1 n2 t0 t1 t2 c0 c1 hbl
                      obtain ⟨n0, n1, n2⟩ := hM5.out.cellN hij
                      obtain ⟨t0, t1, t2⟩ := hM5.out.cellT hij
                      rw [updN_at] at n0
                      rw [← hTi'.out] at t0
                      go_quiet (fail)
                      go_wp2
                      go_roundw
                      case rel => exact ⟨left + c, i + 1, _, _, _, rfl, by go_num, by omega, Lib.hid (hM5.out.new ((Only.refl _ _).drewN _)), Lib.hid (by
                        have := hcome.out 0 Ti (by omega) (by omega)
                        rw [updN_self hTi'.out] at this
                        exact this)⟩
                      case measure => simp [intOf]; omega
                  · have hNt' : ((Ni : Int) != t) = true := by simp; omega
                    have hV2 := Lib.hid (hpas.out _ _ _ _ (hV.out.pass hij (by rw [if_neg (by omega)]) (by rw [← hNi]; exact hNt)))
                    clear hNi ec ep hcp
                    go_wp2
                    go_roundw
                    case rel => exact ⟨left, i + 1, N, T, K, rfl, by go_num, by omega, Lib.hid (hM.out.new ((Only.refl _ _).alloc _)), hV2⟩
                    case measure => simp [intOf]; omega
                · obtain rfl : i = j := by omega
                  have hle := hV.out.left_le hp1.out hc1.out (fun x hx => by show (if x < i then t + 1 else t) ≤ 1000; split <;> omega) h8 hdI.out
                  by_cases l0 : left = 0
                  · have l0' : ((left : Int) == 0) = true := by simp [l0]
                    clear l0
                    go_wp2
                    rw [hZ'.out]
                    exact ⟨rfl, hM.out.only⟩
                  have l0' : ((left : Int) == 0) = false := by simpa using l0
                  obtain ⟨lm, hlm⟩ : ∃ lm, left = lm + 1 := ⟨left - 1, by omega⟩
                  have he : (left : Int) - 1 = (lm : Int) := by omega
                  have hlm' := Lib.hid hlm
                  clear hlm
                  by_cases l1 : lm = 0
                  · have l1' : ((lm : Int) == 0) = true := by simp [l1]
                    clear l1
                    go_wp2
                    rw [hZ'.out]
                    exact ⟨rfl, hM.out.only⟩
                  have l1' : ((lm : Int) == 0) = false := by simpa using l1
                  go_wp2
                  go_roundw
                  case rel => exact ⟨lm, t + 1, N, T, K, rfl, by go_num, by omega, Lib.hid (.inr (by omega)), hM, Lib.hid (by
                    have := hV.out
                    rw [hlm'.out] at this
                    exact this.next (fun x hx => by rw [if_pos hx]))⟩
                  case measure => simp [intOf]; omega
            · obtain rfl : t = r := by omega
              have hz2 : left = 0 := by
                have e := hjl.out
                have hV2 := hV.out
                rw [e] at hV2
                exact hV2.over (fun i hi => hp1.out i (by omega)) hwin.out.1 hwin.out.2.1 hdI.out hwin.out.2.2
              have := hl0.out
              have := hwin.out
              exfalso
              omega
set_option maxRecDepth 100000 in
set_option maxHeartbeats 4000000 in
theorem works_out {w : World} {A GA : Option Addr} {n cap gn gc d : Nat} (h : 8 < n ∨ 8 < gn ∨ n = 0) :
    Calls Try.prog 6 #[.int .u8 d, .slice A n cap, .slice GA gn gc] w (AnsB true w) := by
  obtain ⟨Z, hZ⟩ : ∃ Z, Z = AnsB true w := ⟨_, rfl⟩
  rw [← hZ]
  have hZ' := Lib.hid hZ
  clear hZ
  by_cases h1 : 8 < n
  · have h1' : (8 : Int) < n := by omega
    clear h
    go_enter Try.func6, Try.ntmps6
    go_wp2_with fail
    refine (fixed25_any _).mono ?_
    rintro e w2 ⟨rfl, ho⟩
    have hO2 := Lib.hid ho
    clear ho
    go_wp2
    rw [hZ'.out]
    exact ⟨rfl, hO2.out⟩
  have h1' : ¬ (8 : Int) < n := by omega
  by_cases h2 : 8 < gn
  · have h2' : (8 : Int) < gn := by omega
    clear h
    go_enter Try.func6, Try.ntmps6
    go_wp2_with fail
    refine (fixed25_any _).mono ?_
    rintro e w2 ⟨rfl, ho⟩
    have hO2 := Lib.hid ho
    clear ho
    go_wp2
    rw [hZ'.out]
    exact ⟨rfl, hO2.out⟩
  have h2' : ¬ (8 : Int) < gn := by omega
  have h3' : ((n : Int) == 0) = true := by simp; omega
  clear h
  go_enter Try.func6, Try.ntmps6
  go_wp2_with fail
  refine (fixed25_any _).mono ?_
  rintro e w2 ⟨rfl, ho⟩
  have hO2 := Lib.hid ho
  clear ho
  go_wp2
  rw [hZ'.out]
  exact ⟨rfl, hO2.out⟩
/-- What gaps that came in are read as. -/
structure GapV where
  R : Nat → Option Addr
  L : Nat → Nat
  C : Nat → Nat
  B : Nat → Nat → Nat
def GapV.In (w : World) (A : Option Addr) (n : Nat) (g : GapV) : Prop := GapsIn w A n g.R g.L g.C g.B
open Go.ChangeShapes Go.WideShapes Go.Deep in
theorem gapv_in {H : Type} {enc : TypeId × Value → H} {w : World} {A : Option Addr} {len cap : Nat} {d : DataW H} {ps : List MemPlace} (h : DataW.Trod enc Try.prog w 0 (fun _ => true) true 39 (.slice A len cap) d ps) : ∃ g : GapV, g.In w A len := by
  obtain ⟨R, L, C, B, hg⟩ := gaps_in h
  exact ⟨⟨R, L, C, B⟩, hg⟩
theorem works_law (a0 : Int) (A : Option Addr) (n cap : Nat) (l : List Ld) (GA : Option Addr) (gn gc : Nat) (g : GapV) (W : World) (w0 : (Lit.int .u8 a0).wf = true) (h : LoadsIn W A n l) (hg : g.In W GA gn) :
    Calls Try.prog 6 #[.int .u8 a0, .slice A n cap, .slice GA gn gc] W fun e w' => e = .returned (.bool true) ∧ Below W.heap.size W w' := by
  obtain ⟨d, rfl, hd⟩ := u8_of w0
  by_cases hh : 8 < n ∨ 8 < gn ∨ n = 0
  · exact (works_out hh).mono fun e w' ⟨he, hO⟩ => ⟨he, hO.below (Nat.le_refl _) (fun _ h => h.elim)⟩
  · exact (works_any h hg hd (by omega) (by omega) (by omega)).mono fun e w' ⟨he, hO⟩ => ⟨he, hO.below (Nat.le_refl _) (fun _ h => h.elim)⟩
end Go.Proofs.Ytcgnboplpibcgaa
