/- chain: the reference's Deepest. -/
import Derived.Test.YtlbinlhaejhobaaGreatDoorBcRah
namespace Go.Proofs.YtlbinlhaejhobaaGreatDoor
namespace Bch
open Go Go.RowKit Go.Maps Go.Shelf
def bst (P F : Nat → Int) (b : Option (List Nat)) (l : List Nat) : Option (List Nat) :=
  match b with
  | none => some l
  | some b => some (if Chn.better P F l b then l else b)
theorem bestF_snoc {P F : Nat → Int} : ∀ (r : List (List Nat)) (l : List Nat) (b : Option (List Nat)), Chn.bestF P F (r ++ [l]) b = bst P F (Chn.bestF P F r b) l
  | [], _, none => rfl
  | [], _, some _ => rfl
  | x :: r, l, none => bestF_snoc r l (some x)
  | x :: r, l, some b => bestF_snoc r l (some (if Chn.better P F x b then x else b))
/-- All chains that begin with one of the first k tasks. -/
def doneC (ts : List TaskV) (k : Nat) : List (List Nat) := (List.range k).flatMap fun i => Chn.chains ts.length (prio ts) (thr ts) 9 i
theorem doneC_succ (ts : List TaskV) (k : Nat) : doneC ts (k + 1) = doneC ts k ++ Chn.chains ts.length (prio ts) (thr ts) 9 k := by
  unfold doneC
  rw [List.range_succ, List.flatMap_append]
  simp
def BestAt (W : World) (n : Nat) (u : Value) : Option (List Nat) → Prop
  | none => u = .slice none 0 0
  | some L => ∃ (A : Addr) (cap : Nat) (h : Option Nat), u = .slice (some A) L.length cap ∧ Win W 3 1 (.slice (some A) L.length cap) h L.length (dat L) ∧ L.length ≤ 10 ∧ L ≠ [] ∧ ∀ x ∈ L, x < n
theorem BestAt.new {W W' : World} {n : Nat} {u : Value} : ∀ {o : Option (List Nat)}, BestAt W n u o → Only (fun _ => False) W W' → BestAt W' n u o
  | none, h, _ => h
  | some _, ⟨A, cap, h, e, hW, h1⟩, ho => ⟨A, cap, h, e, hW.kept ho (fun _ _ h => h), h1⟩
def BestEnd (w : World) (n : Nat) (o : Option (List Nat)) (e : Ending) (w' : World) : Prop := ∃ u, e = .returned u ∧ BestAt w' n u o ∧ Only (fun _ => False) w w'
theorem row_best {W : World} {base : Nat} {p : Option Addr} {cap : Nat} {ho : Option Nat} {V : List Value} {H : Nat → Option Nat} {gs : List (List Nat)} (h : GrpAt W base p cap ho V H gs) {r n : Nat} {M : List Nat} (hM : gs[r]? = some M) (h1 : M ≠ []) (h2 : M.length ≤ 10) (h3 : ∀ x ∈ M, x < n) :
    ∃ A c, V[r]? = some (.slice (some A) M.length c) ∧ BestAt W n (.slice (some A) M.length c) (some M) := by
  obtain ⟨A, c, hV, hW⟩ := h.row r M hM
  obtain ⟨x, hx⟩ : ∃ x, M[0]? = some x := by
    cases M with
    | nil => exact absurd rfl h1
    | cons a r => exact ⟨a, rfl⟩
  obtain ⟨g, off, rfl, -, -⟩ := cell_at hW (dat_at hx)
  exact ⟨_, c, hV, _, c, _, rfl, hW, h2, h1, h3⟩
set_option maxRecDepth 100000 in
set_option maxHeartbeats 4000000 in
theorem rdeepest_any {w : World} {c : ConfV} {ts : List TaskV} (hT : TasksAt w c.ta ts) (hn : c.ta.n ≤ 9) (hTH : ∀ i, i < ts.length → prio ts i ≤ thr ts i) (hF : ∀ i, i < ts.length → 0 ≤ frm ts i ∧ frm ts i ≤ 1048576) :
    Calls Tryz.prog 19 #[c.val] w (BestEnd w ts.length (Chn.bestF (prio ts) (frm ts) (doneC ts ts.length) none)) := by
  have hO := (Only.refl (fun _ => False) w).alloc (.cells c.cells.toArray 27)
  have hB := heap_new_at w (.cells c.cells.toArray 27) rfl
  obtain ⟨W1, hW1⟩ : ∃ W1, W1 = w.alloc (.cells c.cells.toArray 27) := ⟨_, rfl⟩
  rw [← hW1] at hB hO
  obtain ⟨q, hq⟩ : ∃ q, q = w.heap.size := ⟨_, rfl⟩
  rw [← hq] at hB
  have hcy := Lib.hid (fun W (ho : Only (fun _ => False) W1 W) => cy_of (ho.heap hB (fun h => h)))
  have hlen := Lib.hid hT.len
  have hTW := Lib.hid (fun W (ho : Only (fun _ => False) W1 W) => hT.new (hO.trans' ho))
  obtain ⟨n, hnn⟩ : ∃ n, n = ts.length := ⟨_, rfl⟩
  obtain ⟨P, hP⟩ : ∃ P, P = prio ts := ⟨_, rfl⟩
  obtain ⟨F, hFF⟩ : ∃ F, F = frm ts := ⟨_, rfl⟩
  obtain ⟨C, hCC⟩ : ∃ C : Nat → List (List Nat), C = Chn.chains ts.length (prio ts) (thr ts) 9 := ⟨_, rfl⟩
  have hCs := Lib.hid (fun k => show doneC ts (k + 1) = doneC ts k ++ C k by rw [hCC]; exact doneC_succ ts k)
  have hCl := Lib.hid (fun k => show (C k).length ≤ 1000000000 by rw [hCC]; exact Nat.le_trans (chains_count _ _ _ _ k) (pow_small (by have := hT.len; omega) (by omega)))
  have hCm := Lib.hid (fun k (hk : k < n) M (hM : M ∈ C k) => show M ≠ [] ∧ M.length ≤ 10 ∧ ∀ x ∈ M, x < n by
    rw [hCC] at hM
    rw [hnn] at hk ⊢
    obtain ⟨h1, r, h2⟩ := Chn.chains_chain 9 k hk M hM
    exact ⟨by rw [h2]; simp, chains_mlen _ _ _ 9 k M hM, h1.lt⟩)
  obtain ⟨cv, hcv⟩ : ∃ cv, cv = c.val := ⟨_, rfl⟩
  have hch := Lib.hid (fun W (ho : Only (fun _ => False) W1 W) k (hk : k < n) => show Calls Tryz.prog 54 #[cv, .int .i64 (k : Int)] W (GrpEnd W (C k)) from by
    rw [hcv, hCC]
    rw [hnn] at hk
    exact chains_any hn hT.len hTH 9 k W (by omega) (hTW.out W ho) hk (by have := Chn.rank_le (P := prio ts) hk; have := hT.len; omega))
  have hdp := Lib.hid (fun W (ho : Only (fun _ => False) W1 W) (A : Option Addr) (cap : Nat) (hh : Option Nat) (L : List Nat) (hW : Win W 3 1 (.slice A L.length cap) hh L.length (dat L)) (h10 : L.length ≤ 10) (hL : ∀ x ∈ L, x < n) => show Calls Tryz.prog 18 #[cv, .slice A L.length cap] W (GrowI (Chn.depth F L) W) from by
    rw [hcv, hFF]
    rw [hnn] at hL
    exact depth_any (hTW.out W ho) (by omega) hW rfl (by omega) hL hF)
  have hah := Lib.hid (fun W (ho : Only (fun _ => False) W1 W) (A A2 : Option Addr) (cap cap2 : Nat) (hh hh2 : Option Nat) (L M : List Nat) (hW : Win W 3 1 (.slice A L.length cap) hh L.length (dat L)) (hW2 : Win W 3 1 (.slice A2 M.length cap2) hh2 M.length (dat M)) (h10 : L.length ≤ 10) (h11 : M.length ≤ 10) (hL : ∀ x ∈ L, x < n) (hM : ∀ x ∈ M, x < n) => show Calls Tryz.prog 55 #[cv, .slice A L.length cap, .slice A2 M.length cap2] W (GrowB (Chn.ahead P L M) W) from by
    rw [hcv, hP]
    rw [hnn] at hL hM
    exact ahead_any (hTW.out W ho) (by omega) hW hW2 rfl rfl (by omega) (by omega) hL hM)
  obtain ⟨Z, hZ⟩ : ∃ Z, Z = BestEnd w ts.length (Chn.bestF (prio ts) (frm ts) (doneC ts ts.length) none) := ⟨_, rfl⟩
  rw [← hZ]
  rw [← hnn, ← hP, ← hFF] at hZ
  have hZ' := Lib.hid hZ
  have hO' := Lib.hid hO
  have hlen2 := hT.len
  rw [← hnn] at hlen2
  have hq' := Lib.hid hq
  rw [← hcv]
  unfold ConfV.val at hcv
  subst hcv
  unfold CY at hcy
  unfold ConfV.cells at hW1
  have hW1' := Lib.hid hW1
  clear hT hTH hF hB hO hW1 hZ hq hCC hnn hP hFF hlen
  obtain ⟨s0, wy0, h0, mi0, ⟨mA, mn, mc⟩, g0, ⟨cA, cn, cc⟩, ⟨eA, en, ec⟩, ⟨tA, tn, tc⟩, ⟨lA, ln, lc⟩⟩ := c
  dsimp only at *
  subst hlen2
  go_enter Tryz.func19, Tryz.ntmps19
  go_upto_region 1 with fail
  rw [← hW1'.out]
  rw [← hq'.out]
  obtain ⟨d0, d1, d2, d3, d4, d5, d6, d7, d8, d9, dl⟩ := hcy.out W1 (Only.refl _ _)
  go_wp2
  clear d0 d1 d2 d3 d4 d5 d6 d7 d8 d9 dl
  go_loopw [3, 4, 6, 7, 8, 12] (fun u3 _ _ _ _ i wr => ∃ k : Nat, i = .int .i64 k ∧ k ≤ n ∧ Hid (BestAt wr n u3 (Chn.bestF P F (doneC ts k) none)) ∧ Hid (Only (fun _ => False) W1 wr)) (fun _ _ _ _ _ i _ => n - (intOf i).toNat)
  case atStart => exact ⟨0, rfl, Nat.zero_le _, Lib.hid rfl, Lib.hid (Only.refl _ _)⟩
  case round =>
    obtain ⟨k, rfl, hk, hBt, hOr⟩ := hrel
    obtain ⟨ws, hws⟩ : ∃ ws : World, ws = wr := ⟨_, rfl⟩
    subst hws
    by_cases hkn : k < n
    · have hkn' : (k : Int) < n := by omega
      obtain ⟨d0, d1, d2, d3, d4, d5, d6, d7, d8, d9, dl⟩ := hcy.out ws hOr.out
      go_wp2_with fail
      refine (hch.out ws hOr.out k hkn).mono ?_
      rintro e w7 ⟨p7, c7, h7, V7, H7, rfl, hR, ho7⟩
      clear d0 d1 d2 d3 d4 d5 d6 d7 d8 d9 dl
      have hO7 := Lib.hid (hOr.out.trans' ho7)
      have hR7 := Lib.hid (fun W (ho : Only (fun _ => False) w7 W) => hR.new ho)
      have hB7 := Lib.hid (hBt.out.new ho7)
      obtain ⟨rl, hrl⟩ : ∃ rl, rl = (C k).length := ⟨_, rfl⟩
      rw [← hrl]
      have hrl' := Lib.hid hrl
      have hrl9 : rl ≤ 1000000000 := by rw [hrl]; exact hCl.out k
      clear hR ho7 hrl hBt
      go_wp2
      go_loopw [3, 6, 7, 8, 19] (fun u3 _ _ _ i wr => ∃ r : Nat, i = .int .i64 r ∧ r ≤ rl ∧ Hid (BestAt wr n u3 (Chn.bestF P F (doneC ts k ++ (C k).take r) none)) ∧ Hid (Only (fun _ => False) w7 wr)) (fun _ _ _ _ i _ => rl - (intOf i).toNat)
      case atStart => exact ⟨0, rfl, Nat.zero_le _, Lib.hid (by simpa using hB7.out), Lib.hid (Only.refl _ _)⟩
      case round =>
        obtain ⟨r, rfl, hr, hBt, hOi⟩ := hrel
        obtain ⟨ws, hws⟩ : ∃ ws : World, ws = wr := ⟨_, rfl⟩
        subst hws
        have hOs := Lib.hid (hO7.out.trans' hOi.out)
        by_cases hrr : r < rl
        · have hrr' : (r : Int) < rl := by omega
          obtain ⟨M, hM⟩ : ∃ M, (C k)[r]? = some M := ⟨_, List.getElem?_eq_getElem (by have := hrl'.out; omega)⟩
          obtain ⟨hM1, hM2, hM3⟩ := hCm.out k hkn M (List.mem_of_getElem? hM)
          have hGs := hR7.out ws hOi.out
          obtain ⟨A, cM, hV, hMB⟩ := row_best hGs hM hM1 hM2 hM3
          obtain ⟨go, goff, rfl, cg, cgl⟩ := cell_at hGs.o hV
          have hsn := Lib.hid (show Chn.bestF P F (doneC ts k ++ (C k).take (r + 1)) none = bst P F (Chn.bestF P F (doneC ts k ++ (C k).take r) none) M by rw [take_snoc hM, ← List.append_assoc]; exact bestF_snoc _ _ _)
          obtain ⟨b, hb⟩ : ∃ b, b = Chn.bestF P F (doneC ts k ++ (C k).take r) none := ⟨_, rfl⟩
          rw [← hb] at hBt hsn
          obtain ⟨A', cM', hM', hA', hWM, -⟩ := hMB
          cases hA'
          have hMB' := Lib.hid (fun W (ho : Only (fun _ => False) ws W) => show BestAt W n (.slice (some A) M.length cM) (some M) from ⟨A, cM, hM', rfl, hWM.kept ho (fun _ _ h => h), hM2, hM1, hM3⟩)
          have hWM' := Lib.hid (fun W (ho : Only (fun _ => False) ws W) => hWM.kept ho (fun _ _ h => h))
          have q1 := Lib.hid (fun (x : Wd ws) => Calls.wd (x := x) (hdp.out x.W (hOs.out.trans' x.ok) (some A) cM hM' M (hWM'.out x.W x.ok) hM2 hM3))
          obtain ⟨D1, hD1⟩ : ∃ D1, D1 = Chn.depth F M := ⟨_, rfl⟩
          rw [← hD1] at q1
          obtain ⟨ml, hml⟩ : ∃ ml, ml = M.length := ⟨_, rfl⟩
          rw [← hml] at cg q1
          have hex := wd_ex ws
          obtain ⟨d0, d1, d2, d3, d4, d5, d6, d7, d8, d9, dl⟩ := hcy.out ws hOs.out
          have p0 := wd_cell d0
          have p1 := wd_cell d1
          have p2 := wd_cell d2
          have p3 := wd_cell d3
          have p4 := wd_cell d4
          have p5 := wd_cell d5
          have p6 := wd_cell d6
          have p7 := wd_cell d7
          have p8 := wd_cell d8
          have p9 := wd_cell d9
          have hml' := Lib.hid hml
          have hD1' := Lib.hid hD1
          have hM2' := Lib.hid hM2
          have hM3' := Lib.hid hM3
          clear hM hGs hV hWM hb hml hD1 hM1 hM2 hM3
          cases b with
          | none =>
            obtain rfl : u3 = .slice none 0 0 := hBt.out
            have q2 := Lib.hid (fun (x : Wd ws) => Calls.wd (x := x) (hdp.out x.W (hOs.out.trans' x.ok) none 0 none [] (Win.nil _ _ _) (by simp) (fun x hx => by simp at hx)))
            have hd0 : Chn.depth F [] = 0 := rfl
            rw [hd0] at q2
            rw [show ([] : List Nat).length = 0 from rfl] at q2
            have hnil : ∀ W, Sem.run Tryz.prog (binOp .eql 24 (.slice none 0 0) (.slice none 0 0)) W = .ok (.bool true) W := fun _ => by kernel_rfl
            go_wp2_with fail
            refine wp_region_wd (by kernel_rfl) (by kernel_rfl) ?_
            repeat (go_big_quiet_step (first | (go_at_call 18; first | with_reducible exact q1.out _ | with_reducible exact q2.out _)))
            refine wpQuiet_nil ?_
            rintro _ ⟨v, rfl⟩
            have hO5 := Lib.hid (hOi.out.trans' v.ok)
            have hf := Lib.hid (hMB'.out v.W v.ok)
            rw [← hml'.out] at hf
            obtain ⟨w5, hw5⟩ : ∃ w5, w5 = v.W := ⟨_, rfl⟩
            rw [← hw5] at hO5 hf ⊢
            clear hw5 p0 p1 p2 p3 p4 p5 p6 p7 p8 p9 hex d0 d1 d2 d3 d4 d5 d6 d7 d8 d9 dl q1 q2 cg cgl
            go_wp2
            go_roundw
            case rel => exact ⟨r + 1, by go_num, by omega, by rw [hsn.out]; exact hf, hO5⟩
            case measure => simp [intOf]; omega
          | some L =>
            obtain ⟨B, cB, hB', rfl, hWL, hL10, hL0, hLn⟩ := hBt.out
            have hWL' := Lib.hid (fun W (ho : Only (fun _ => False) ws W) => hWL.kept ho (fun _ _ h => h))
            have q2 := Lib.hid (fun (x : Wd ws) => Calls.wd (x := x) (hdp.out x.W (hOs.out.trans' x.ok) (some B) cB hB' L (hWL'.out x.W x.ok) hL10 hLn))
            obtain ⟨D2, hD2⟩ : ∃ D2, D2 = Chn.depth F L := ⟨_, rfl⟩
            have q3 := Lib.hid (fun W (ho : Only (fun _ => False) ws W) => hah.out W (hOs.out.trans' ho) (some A) (some B) cM cB hM' hB' M L (hWM'.out W ho) (hWL'.out W ho) hM2'.out hL10 hM3'.out hLn)
            rw [← hml'.out] at q3
            obtain ⟨ll, hll⟩ : ∃ ll, ll = L.length := ⟨_, rfl⟩
            rw [← hll] at q2 q3 ⊢
            rw [← hD2] at q2
            have hbet : Chn.better P F M L = (decide (D2 < D1) || (decide (D1 = D2) && Chn.ahead P M L)) := by rw [hD1'.out, hD2]; rfl
            obtain ⟨bh, hbh⟩ : ∃ bh, bh = Chn.ahead P M L := ⟨_, rfl⟩
            rw [← hbh] at hbet q3
            have hLB := Lib.hid (fun W (ho : Only (fun _ => False) ws W) => hBt.out.new ho)
            have hst := Lib.hid (show bst P F (some L) M = some (if Chn.better P F M L = true then M else L) from rfl)
            rw [hbet] at hst
            rw [← hml'.out] at hMB'
            have hnil : ∀ W, Sem.run Tryz.prog (binOp .eql 24 (.slice (some B) ll cB) (.slice none 0 0)) W = .ok (.bool false) W := fun _ => by kernel_rfl
            rw [← hll] at hLB
            clear hWL hD2 hbet hbh hll hBt hL10 hL0 hLn
            go_wp2_with fail
            refine wp_region_wd (by kernel_rfl) (by kernel_rfl) ?_
            repeat (go_big_quiet_step (first | (go_at_call 18; first | with_reducible exact q1.out _ | with_reducible exact q2.out _)))
            refine wpQuiet_nil ?_
            rintro _ ⟨v, rfl⟩
            have hO5 := Lib.hid v.ok
            obtain ⟨w5, hw5⟩ : ∃ w5, w5 = v.W := ⟨_, rfl⟩
            rw [← hw5] at hO5 ⊢
            clear hw5 p0 p1 p2 p3 p4 p5 p6 p7 p8 p9 hex d0 d1 d2 d3 d4 d5 d6 d7 d8 d9 dl q1 q2 cg cgl
            obtain ⟨d0, d1, d2, d3, d4, d5, d6, d7, d8, d9, dl⟩ := hcy.out w5 (hOs.out.trans' hO5.out)
            by_cases hlt : D2 < D1
            · have hf := Lib.hid (hMB'.out w5 hO5.out)
              have hst2 := Lib.hid (hst.out.trans (by rw [if_pos]; simp [hlt]))
              go_wp2
              go_roundw
              case rel => exact ⟨r + 1, by go_num, by omega, by rw [hsn.out, hst2.out]; exact hf, Lib.hid (hOi.out.trans' hO5.out)⟩
              case measure => simp [intOf]; omega
            · by_cases heq : D1 = D2
              · subst heq
                go_wp2_with fail
                refine (q3.out w5 hO5.out).mono ?_
                rintro e w6 ⟨rfl, ho6⟩
                have hO6 := Lib.hid (hO5.out.trans' ho6)
                clear ho6 d0 d1 d2 d3 d4 d5 d6 d7 d8 d9 dl
                cases bh with
                | true =>
                  have hf := Lib.hid (hMB'.out w6 hO6.out)
                  have hst2 := Lib.hid (hst.out.trans (by rw [if_pos]; simp))
                  go_wp2
                  go_roundw
                  case rel => exact ⟨r + 1, by go_num, by omega, by rw [hsn.out, hst2.out]; exact hf, Lib.hid (hOi.out.trans' hO6.out)⟩
                  case measure => simp [intOf]; omega
                | false =>
                  have hf := Lib.hid (hLB.out w6 hO6.out)
                  have hst2 := Lib.hid (hst.out.trans (by rw [if_neg]; simp))
                  go_wp2
                  go_roundw
                  case rel => exact ⟨r + 1, by go_num, by omega, by rw [hsn.out, hst2.out]; exact hf, Lib.hid (hOi.out.trans' hO6.out)⟩
                  case measure => simp [intOf]; omega
              · have hf := Lib.hid (hLB.out w5 hO5.out)
                have hst2 := Lib.hid (hst.out.trans (by rw [if_neg]; simp [hlt, heq]))
                go_wp2
                go_roundw
                case rel => exact ⟨r + 1, by go_num, by omega, by rw [hsn.out, hst2.out]; exact hf, Lib.hid (hOi.out.trans' hO5.out)⟩
                case measure => simp [intOf]; omega
        · obtain rfl : r = rl := by omega
          have hf := hBt.out
          rw [hrl'.out, List.take_length, ← hCs.out k] at hf
          have hf' := Lib.hid hf
          clear hf
          go_wp2
          go_roundw
          case rel => exact ⟨k + 1, by go_num, by omega, hf', hOs⟩
          case measure => simp [intOf]; omega
    · obtain rfl : k = n := by omega
      have hfin := Lib.hid (show Z (.returned u3) ws from by
        rw [hZ'.out]
        exact ⟨u3, rfl, hBt.out, hO'.out.trans' hOr.out⟩)
      go_wp2
      exact hfin.out
end Bch
end Go.Proofs.YtlbinlhaejhobaaGreatDoor
