/- DeltaPlays' walk: whatever is put, dropped, and goes by, each answer, and all that is told, are the document's. -/
import Derived.Test.YtbmegpcdcbfjmaaPlays4b
import Derived.Deep.RegionLaw
import Derived.Deep.CutRange
import Derived.Deep.CutBlock
import Derived.Deep.DeepCutAuto
namespace Go.Proofs.Ytbmegpcdcbfjmaa.Plays4
open Go.RowKit Delta Ref

set_option maxRecDepth 100000 in
theorem plays_long (A : Option Addr) (len cap : Nat) (key : Int) (w : World) (hl : 150 < len) :
    Calls Try.prog 5 #[.slice A len cap, .int .i64 key] w fun e w' => e = .returned (.bool true) ∧ Below w.heap.size w w' := by
  go_enter Try.func5, Try.ntmps5
  go_wp2_with (go_at_call 19; refine (fixed_any _).mono ?_; rintro e w1 ⟨rfl, hb1⟩; have hb1' := Lib.hid hb1; clear hb1)
  go_ret
  exact ⟨rfl, hb1'.out⟩

set_option maxRecDepth 100000 in
set_option maxHeartbeats 4000000 in
theorem plays_some (A : Option Addr) (len cap : Nat) (z : ActV) (key : Int) (w : World) (hl : len ≤ 150) (hA : ActRow w A len z) :
    Calls Try.prog 5 #[.slice A len cap, .int .i64 key] w fun e w' => e = .returned (.bool true) ∧ Below w.heap.size w w' := by
  obtain ⟨B, hB⟩ : ∃ B, B = w.heap.size := ⟨_, rfl⟩
  have hB' := Lib.hid hB
  have hA' := Lib.hid hA
  clear hA hB
  go_enter Try.func5, Try.ntmps5
  go_wp2_with (go_at_call 19; refine (fixed_any _).mono ?_; rintro e w1 ⟨rfl, hb1⟩; have hb1' := Lib.hid hb1; clear hb1)
  refine (new_ok _).mono ?_
  rintro e w2 ⟨rfl, hL2, ho2⟩
  obtain ⟨l, hle⟩ : ∃ l, l = w1.heap.size := ⟨_, rfl⟩
  have hrel : Rel w B l 0 (.slice none 0 0) w2 := by
    have hb := hb1'.out.size
    have hBe := hB'.out
    refine ⟨[], none, 0, 0, none, rfl, hle ▸ hL2, ⟨Win.nil _ _ _, rfl⟩, ⟨by simp [dat], by simp [dat, total]⟩, by simp, ?_, (fun b h => by cases h), (Only.of_new hb1'.out _).trans ho2 (fun _ _ h => h.elim)⟩
    rintro x (rfl | hx)
    · omega
    · simp [blocks] at hx
  rw [← hle]
  have hrel' := Lib.hid hrel
  clear hrel hle hL2 ho2
  go_wp2
  go_loopw [6, 30] (fun v i wr => ∃ k : Nat, k ≤ len ∧ i = .int .i64 k ∧ Rel w B l k v wr) (fun _ i _ => len - (intOf i).toNat)
  case atStart => exact ⟨0, Nat.zero_le _, rfl, hrel'.out⟩
  case round =>
    obtain ⟨k, hk, rfl, hrel⟩ := hrel
    obtain ⟨ws, hws⟩ : ∃ ws : World, ws = wr := ⟨_, rfl⟩
    subst hws
    obtain ⟨ns, p, n, rcap, h, rfl, hL, hR, hf, hn, hf1, hf2, hO⟩ := hrel
    have hArow := hA'.out.only hO (fun x hx => by have := hB'.out; omega)
    have hBs : B ≤ ws.heap.size := by have := hB'.out; have := hO.size; omega
    have hnl : n = ns.length := by have := hR.2; rw [rows_length] at this; simpa [dat] using this.symm
    by_cases hlt : k < len
    · obtain ⟨bb, off, rfl, hbb, c0, c1, c2, ⟨hkd0, hkd1⟩, hk1, ⟨htk0, htk1⟩⟩ := hArow k hlt
      have hlt' : (k : Int) < (len : Int) := by omega
      obtain ⟨kd, hkd⟩ : ∃ x, x = z.kind k := ⟨_, rfl⟩
      obtain ⟨ky, hky⟩ : ∃ x, x = z.key k := ⟨_, rfl⟩
      obtain ⟨tk, htk⟩ : ∃ x, x = z.ticks k := ⟨_, rfl⟩
      rw [← hkd] at c0 hkd0 hkd1
      rw [← hky] at c1
      rw [← htk] at c2 htk0 htk1
      have hS := Lib.hid (And.intro hL (And.intro hR (And.intro hf (And.intro hn (And.intro hf1 (And.intro hf2 (And.intro hO (And.intro hBs hnl))))))))
      clear hL hR hf hn hf1 hf2 hO hBs hArow hkd hky htk hk1 hnl
      obtain ⟨C, hC⟩ : ∃ C, ws.heap.size = C := ⟨_, rfl⟩
      go_upto_block 2 with (go_at_call 21; refine (find_rows (hS.out.2.1.new ((Only.refl _ ws).alloc _)) (by have := hS.out; omega) _).mono ?_; rintro e w3 ⟨at_, rfl, ho3, hfd⟩; obtain ⟨d0, d1, d2⟩ := act_cells hC ho3; have S3 := Lib.hid (And.intro ho3 hfd); clear ho3 hfd; try rw [hC])
      have hT : Hid (Both w B l k ns p n rcap h w3) := by
        obtain ⟨hL, hR, hf, hn, hf1, hf2, hO, hBs, hnl⟩ := hS.out
        have ho := ((Only.refl (fun _ => False) ws).alloc _).trans' S3.out.1
        exact ⟨hL.new ho, hR.new ho, hf, hn, hf1, hf2, hO.trans ho (fun _ _ h => h.elim), Nat.le_trans hBs ho.size, hnl⟩
      have hF := Lib.hid S3.out.2
      obtain ⟨q, hq⟩ : ∃ q, kd % 3 = q := ⟨_, rfl⟩
      have hq3 : q = 0 ∨ q = 1 ∨ q = 2 := by omega
      rw [hq]
      clear hS S3 c0 c1 c2 hbb hC ws hq hkd0 hkd1
      go_cut [6, 30] from 31 to 183 (fun v i wc => i = .int .i64 k ∧ Rel w B l (k + 1) v wc)
      case first =>
        have hl256 := Lib.hid (show ns.length < 256 by have := hT.out.2.2.2.1; omega)
        have hn1000 := Lib.hid (show n ≤ 1000 by have := hT.out.2.2.2.1; have := hT.out.2.2.2.2.2.2.2.2; omega)
        rcases hq3 with rfl | rfl | rfl
        · by_cases hr : tk < 0 ∨ 16777216 < tk
          · have hc := Lib.hid (show putCode (dat ns) ky tk = 5 by rw [putCode, if_pos hr])
            have hp := Lib.hid (show putAll (dat ns) ky tk = dat ns by rw [putAll, if_pos hr])
            go_wp2_with (go_at_call 23; refine (put_to hT.out.1 hT.out.2.2.1 hl256.out hc.out hp.out).mono ?_; rintro e w4 ⟨rfl, hw⟩; have S4 := Lib.hid hw; clear hw)
            all_goals go_meet
            all_goals exact ⟨rfl, hT.out.write S4.out⟩
          · obtain ⟨hr0, hr1⟩ : 0 ≤ tk ∧ tk ≤ 16777216 := by omega
            rcases hF.out with ⟨rfl, hk⟩ | ⟨hk, i, d, rfl, _⟩
            · have hc := Lib.hid (show putCode (dat ns) ky tk = 0 by rw [putCode, if_neg hr, hk, if_neg Bool.false_ne_true])
              have hp := Lib.hid (show putAll (dat ns) ky tk = gput (dat ns) ky tk by rw [putAll, if_neg hr, hk, if_neg Bool.false_ne_true])
              clear hF hk hr
              go_wp2_with fail
              refine (put_rows hT.out.2.1 hn1000.out ky tk).mono ?_
              rintro e w4 ⟨p4, n4, c4, rfl, hN⟩
              obtain ⟨_, _, _, ho4⟩ := id hN
              replace d1 := ho4.cell d1 (fun h => h)
              replace d2 := ho4.cell d2 (fun h => h)
              have S4 := Lib.hid hN
              have L4 := Lib.hid (hT.out.1.new ho4)
              clear hN ho4
              go_wp2_with fail
              refine (put_to L4.out hT.out.2.2.1 hl256.out hc.out hp.out).mono ?_
              rintro e w5 ⟨rfl, hw⟩
              have S5 := Lib.hid hw
              clear hw
              go_wp2
              all_goals go_meet
              all_goals exact ⟨rfl, hT.out.rows_write S4.out S5.out (fine_put hT.out.2.2.1 hr0 hr1) (by rw [gput_length, dat_length]; exact Nat.le_refl _)⟩
            · have hc := Lib.hid (show putCode (dat ns) ky tk = 10 by rw [putCode, if_neg hr, if_pos hk])
              have hp := Lib.hid (show putAll (dat ns) ky tk = dat ns by rw [putAll, if_neg hr, if_pos hk])
              have hi0 : (0 : Int) ≤ (i : Int) := Int.natCast_nonneg i
              clear hF hk hr
              go_wp2_with fail
              refine (put_to hT.out.1 hT.out.2.2.1 hl256.out hc.out hp.out).mono ?_
              rintro e w4 ⟨rfl, hw⟩
              have S4 := Lib.hid hw
              clear hw
              go_wp2
              all_goals go_meet
              all_goals exact ⟨rfl, hT.out.write S4.out⟩
        · rcases hF.out with ⟨rfl, hk⟩ | ⟨hk, i, d, rfl, hi, _, _, hg⟩
          · have hp := Lib.hid (gdrop_none (dat ns) ky (has_not hk))
            have hk' := Lib.hid hk
            clear hF hk
            go_wp2_with fail
            refine (drop_to hT.out.1 hT.out.2.2.1 (Nat.le_of_lt (Nat.lt_trans hl256.out (by decide))) hk'.out hp.out).mono ?_
            rintro e w4 ⟨rfl, hw⟩
            have S4 := Lib.hid hw
            clear hw
            go_wp2
            all_goals go_meet
            all_goals exact ⟨rfl, hT.out.write S4.out⟩
          · have hi0 : (0 : Int) ≤ (i : Int) := Int.natCast_nonneg i
            have hk' := Lib.hid (And.intro hk (And.intro hi hg))
            clear hF hk hi hg
            go_wp2_with fail
            refine (drop_to hT.out.1 hT.out.2.2.1 (Nat.le_of_lt (Nat.lt_trans hl256.out (by decide))) hk'.out.1 rfl).mono ?_
            rintro e w4 ⟨rfl, hw⟩
            have R4 : Hid (RowsAt w4 p n rcap h (rows 0 (dat ns))) := by
              obtain ⟨_, _, _, _, ho⟩ := hw
              exact hT.out.2.1.kept ho (apart hT.out.1 hT.out.2.1.1 (by decide) (by decide))
            have S4 := Lib.hid hw
            clear hw
            go_wp2_with fail
            refine (drop_rows R4.out hn1000.out hk'.out.2.1 hk'.out.2.2).mono ?_
            rintro e w5 ⟨p5, n5, c5, rfl, hN⟩
            have S5 := Lib.hid hN
            clear hN
            go_wp2
            all_goals go_meet
            all_goals exact ⟨rfl, hT.out.write_rows S4.out S5.out (fine_drop hT.out.2.2.1).1 (by have := gdrop_length_le (dat ns) ky; rw [dat_length] at this; omega)⟩
        · by_cases hr : tk < 0
          · have hp := Lib.hid (show advTicks (dat ns) tk = dat ns by rw [advTicks, if_pos hr])
            have hz := Lib.hid (show advDue (dat ns) tk = [] by rw [advDue, if_pos hr])
            go_wp2_with fail
            refine (adv_to hT.out.1 hT.out.2.2.1 (Nat.le_of_lt (Nat.lt_trans hl256.out (by decide))) tk htk1 (q := none) (nq := 0) (qc := 0) (hq := none) (by rw [hz.out]; rfl) (by rw [hz.out]; exact Win.nil _ _ _)).mono ?_
            rintro e w4 ⟨p4, n4, c4, rfl, hw, hs⟩
            rw [hp.out] at hw
            have S4 := Lib.hid hw
            have H4 := Lib.hid hs
            clear hw hs
            go_wp2_with fail
            refine H4.out.mono ?_
            rintro e _ ⟨rfl, m5, rfl⟩
            go_wp2
            all_goals go_meet
            all_goals exact ⟨rfl, (hT.out.write S4.out).drewN⟩
          · have hr0 : 0 ≤ tk := by omega
            go_wp2_with fail
            refine (adv_rows hT.out.2.1 hn1000.out hT.out.2.2.1 tk ⟨hr0, htk1⟩).mono ?_
            rintro e w4 ⟨p4, n4, c4, q4, nq4, qc4, hq4, rfl, hN, hnq, hW⟩
            obtain ⟨_, _, _, ho4⟩ := id hN
            replace d2 := ho4.cell d2 (fun h => h)
            have S4 := Lib.hid hN
            have D4 := Lib.hid (And.intro hnq hW)
            have L4 := Lib.hid (hT.out.1.new ho4)
            clear hN ho4 hnq hW
            go_wp2_with fail
            refine (adv_to L4.out hT.out.2.2.1 (Nat.le_of_lt (Nat.lt_trans hl256.out (by decide))) tk htk1 D4.out.1 D4.out.2).mono ?_
            rintro e w5 ⟨p5, n5, c5, rfl, hw, hs⟩
            have S5 := Lib.hid hw
            have H5 := Lib.hid hs
            clear hw hs
            go_wp2_with fail
            refine H5.out.mono ?_
            rintro e _ ⟨rfl, m6, rfl⟩
            go_wp2
            all_goals go_meet
            all_goals exact ⟨rfl, (hT.out.rows_write S4.out S5.out (fine_adv hT.out.2.2.1 tk) (by have := (adv_length (dat ns) tk).1; rw [dat_length] at this; omega)).drewN⟩
      case rest =>
        clear hT hF hq3 d0 d1 d2 w3
        obtain ⟨rfl, hrel⟩ := hcut
        obtain ⟨wb, hwb⟩ : ∃ wb : World, wb = wc := ⟨_, rfl⟩
        subst hwb
        obtain ⟨ns, p, n, rcap, h, rfl, hL, hR, hf, hn, hf1, hf2, hO⟩ := hrel
        obtain ⟨m, hm⟩ : ∃ m, m = dat ns := ⟨_, rfl⟩
        obtain ⟨X, hX⟩ : ∃ X, X = rows 0 m := ⟨_, rfl⟩
        have hXn : X.length = n := by rw [hX, hm]; exact hR.2
        have hnl : n = ns.length := by have := hR.2; rw [rows_length, dat_length] at this; exact this.symm
        have hBs : B ≤ wb.heap.size := by have := hB'.out; have := hO.size; omega
        have hXb : ∀ x ∈ X, 0 ≤ x.2 ∧ x.2 ≤ 16777216 := fun x hx => by
          have := rows_bound m 0 (by rw [hm]; exact hf.1) x (hX ▸ hx)
          have := hf.2
          rw [← hm] at this
          omega
        rw [← hm, ← hX] at hR
        have hn1000 : n ≤ 1000 := by omega
        have hS := Lib.hid (And.intro hL (And.intro hf (And.intro hn (And.intro hf1 (And.intro hf2 (And.intro hO (And.intro hBs hnl)))))))
        have hR' := Lib.hid hR
        have hX' := Lib.hid (And.intro hm (And.intro hX (And.intro hXn hXb)))
        clear hL hf hn hf1 hf2 hO hBs hnl hR hm hX hXn hXb
        go_wp2
        go_loopw [12, 13, 14, 104] (fun vk vg vw i wr => ∃ (j : Nat) (hk hg : Option Nat), j ≤ n ∧ i = .int .i64 j ∧ vw = .int .i64 (lastAt 0 (X.take j)) ∧ Pair wb wr vk hk j (((X.take j).map (·.1)).map mkI) vg hg j ((gapsOf 0 (X.take j)).map mkI)) (fun _ _ _ i _ => n - (intOf i).toNat)
        case atStart => exact ⟨0, none, none, Nat.zero_le _, rfl, rfl, Win.nil _ _ _, Win.nil _ _ _, (fun _ h => by cases h), (fun _ h => by cases h), (fun _ h => by cases h), Only.refl _ _⟩
        case round =>
          obtain ⟨j, hk1, hg1, hj, rfl, rfl, hP⟩ := hrel
          obtain ⟨ws, hws⟩ : ∃ ws : World, ws = wr := ⟨_, rfl⟩
          subst hws
          by_cases hjn : j < n
          · obtain ⟨g, off2, _, rfl, hcap, hc⟩ := (hR'.out.new hP.only).at_ (by omega)
            obtain ⟨x, hx⟩ : ∃ x, X[j]? = some x := ⟨X[j]'(by have := hX'.out.2.2.1; omega), List.getElem?_eq_getElem _⟩
            obtain ⟨d0, d1⟩ := hc j x hx
            obtain ⟨hx0, hx1⟩ := hX'.out.2.2.2 x (List.mem_of_getElem? hx)
            obtain ⟨la, hla⟩ : ∃ la, la = lastAt 0 (X.take j) := ⟨_, rfl⟩
            have hla0 : 0 ≤ la ∧ la ≤ 16777216 := by
              rcases lastAt_mem (X.take j) 0 with h0 | ⟨y, hy, h0⟩
              · omega
              · have := hX'.out.2.2.2 y (List.mem_of_mem_take hy)
                omega
            have hwr : IntKind.i64.wrap (x.2 - la) = x.2 - la := IntWalk.i64_in _ (by omega)
            have hjn' : (j : Int) < (n : Int) := by omega
            rw [← hla]
            have hE := Lib.hid (And.intro hla hx)
            have hkl := Lib.hid hP.k.lt
            have hgl := Lib.hid hP.g.lt
            have P0 := Lib.hid hP
            have L0 : ∀ Y o, ws.heap.size = Y → Loc (ws.alloc o) Y o hk1 hg1 := fun Y o hY => ⟨heap_new_at ws o hY, fun e => by have := hkl.out _ e; omega, fun e => by have := hgl.out _ e; omega⟩
            have L0' := Lib.hid L0
            clear hla hx hP hc hla0 L0
            go_wp2
            go_region_law (first
              | (refine step_append_win rfl (.tmp 108) (.tmp 111) 22 rfl 3 (Value.int .i64 0) 1 8 Try.underlying22 info3 rfl (by decide) (v := u12) (h := hk1) (by rfl) (by (first | exact ((P0.out.alloc _).drew.alloc _).k | exact (((P0.out.alloc _).drew.alloc _).alloc _).k | exact P6.out.k | exact (P6.out.alloc _).k)) _ 1 1 (by rfl) [Value.int .i64 x.1] rfl (fun _ => ⟨_, rfl, (by (first | exact row_one (heap_new_at _ _ (by simp)) | exact row_one (heap_kept_alloc (heap_new_at _ _ (by simp)) _) | exact row_one (hO6.out.heap (heap_new_at _ _ (by simp)) (fun e => by have := hgl.out _ e.symm; first | omega | (simp at this; omega))) | exact row_one (hO6.out.heap (heap_kept_alloc (heap_new_at _ _ (by simp)) _) (fun e => by have := hgl.out _ e.symm; first | omega | (simp at this; omega)))))⟩) (by simp [Value.oneCell']) (by unfold maxLen; omega) (by omega) ?_; intro v5 w5 h5 hW5 hO5 hh5; have P5 := Lib.hid (Pair.grow_k (by (first | exact ((P0.out.alloc _).drew.alloc _) | exact (((P0.out.alloc _).drew.alloc _).alloc _) | exact P6.out | exact (P6.out.alloc _))) hW5.out hO5.out hh5.out); have L5 := Lib.hid (Loc.grow_k (by (first | exact ((L0'.out _ _ rfl).drew.alloc _) | exact (((L0'.out _ _ rfl).drew.alloc _).alloc _) | exact L6.out | exact (L6.out.alloc _))) hO5.out hh5.out); have e5 := row_cell (L := [_, _]) L5.out.at_ (i := 1) rfl)
              | (refine step_append_win rfl (.tmp 113) (.tmp 118) 22 rfl 3 (Value.int .i64 0) 1 8 Try.underlying22 info3 rfl (by decide) (v := u13) (h := hg1) (by rfl) (by (first | exact ((P0.out.alloc _).drew.alloc _).g | exact (((P0.out.alloc _).drew.alloc _).alloc _).g | exact P5.out.g | exact (P5.out.alloc _).g)) _ 1 1 (by rfl) [Value.int .i64 (x.2 - la)] rfl (fun _ => ⟨_, rfl, (by (first | exact row_one (heap_new_at _ _ (by simp)) | exact row_one (heap_kept_alloc (heap_new_at _ _ (by simp)) _) | exact row_one (hO5.out.heap (heap_new_at _ _ (by simp)) (fun e => by have := hkl.out _ e.symm; first | omega | (simp at this; omega))) | exact row_one (hO5.out.heap (heap_kept_alloc (heap_new_at _ _ (by simp)) _) (fun e => by have := hkl.out _ e.symm; first | omega | (simp at this; omega)))))⟩) (by simp [Value.oneCell']) (by unfold maxLen; omega) (by omega) ?_; intro v6 w6 h6 hW6 hO6 hh6; have P6 := Lib.hid (Pair.grow_g (by (first | exact ((P0.out.alloc _).drew.alloc _) | exact (((P0.out.alloc _).drew.alloc _).alloc _) | exact P5.out | exact (P5.out.alloc _))) hW6.out hO6.out hh6.out); have L6 := Lib.hid (Loc.grow_g (by (first | exact ((L0'.out _ _ rfl).drew.alloc _) | exact (((L0'.out _ _ rfl).drew.alloc _).alloc _) | exact L5.out | exact (L5.out.alloc _))) hO6.out hh6.out); have e6 := row_cell (L := [_, _]) L6.out.at_ (i := 1) rfl))
            all_goals go_wp2
            all_goals go_roundw
            all_goals first
              | (refine ⟨j + 1, h5, h6, by omega, by go_num, ?_, ?_⟩
                 · rw [take_snoc hE.out.2, lastAt_snoc]
                 · rw [take_snoc hE.out.2, gapsOf_snoc, ← hE.out.1]
                   simp only [List.map_append]
                   first
                     | exact P6.out
                     | exact P5.out)
              | (simp [intOf]; omega)
          · obtain rfl : j = n := by omega
            have hall : X.take j = X := List.take_of_length_le (by have := hX'.out.2.2.1; omega)
            rw [hall] at hP
            obtain ⟨m0, m1, m2, m3⟩ := hX'.out
            have hT := hP
            rw [m1, m0] at hT
            obtain ⟨pk, ck, pg, cg, rfl, rfl, hWk, hWg⟩ := hT.told
            have ho := hP.only
            obtain ⟨la, hla⟩ : ∃ la, la = lastAt 0 (X.take j) := ⟨_, rfl⟩
            rw [← hla]
            have hl1000 := Lib.hid (show ns.length ≤ 1000 by have := hS.out; omega)
            have hjl := Lib.hid (show j = ns.length by have := hS.out; omega)
            have L0 := Lib.hid (hS.out.1.new ho)
            have R0 := hR'.out.new ho
            rw [m1, m0] at R0
            have R0' := Lib.hid R0
            have W0 := Lib.hid (And.intro hWk hWg)
            have O0 := Lib.hid ho
            clear hP hT hWk hWg ho hall R0 m0 m1 m2 m3 hla
            go_wp2_with fail
            refine (next_to L0.out).mono ?_
            rintro e w' ⟨N, ok, rfl, hw', hN⟩
            subst w'
            have hN' := Lib.hid hN
            clear hN
            go_wp2_with fail
            refine (keys_to L0.out hl1000.out hjl.out W0.out.1).mono ?_
            rintro e u1 ⟨q1, d1, rfl, o1, s1⟩
            have L1 := Lib.hid (L0.out.new o1)
            have R1 := Lib.hid (R0'.out.new o1)
            have W1 := Lib.hid (W0.out.2.kept o1 (fun _ _ h => h))
            have O1 := Lib.hid o1
            have s1' := Lib.hid s1
            clear o1 s1
            go_wp2_with fail
            refine s1'.out.mono ?_
            rintro e _ ⟨rfl, m1, rfl⟩
            go_wp2_with fail
            refine (gaps_to (L1.out.same (w' := u1.drewN m1) rfl) hl1000.out hjl.out (W1.out.same (w' := u1.drewN m1) rfl)).mono ?_
            rintro e u2 ⟨q2, d2, rfl, o2, s2⟩
            have L2 := Lib.hid ((L1.out.same (w' := u1.drewN m1) rfl).new o2)
            have R2 := R1.out.new (((Only.refl (fun _ => False) u1).drewN m1).trans' o2)
            have R2' := Lib.hid R2
            have O2 := Lib.hid o2
            have s2' := Lib.hid s2
            clear o2 s2 R2
            go_wp2_with fail
            refine s2'.out.mono ?_
            rintro e _ ⟨rfl, m2, rfl⟩
            have R3 := Lib.hid (R2'.out.new ((Only.refl (fun _ => False) u2).drewN m2))
            have L3 := Lib.hid (L2.out.same (w' := u2.drewN m2) rfl)
            rcases hN'.out with ⟨rfl, h0⟩ | ⟨rfl, h0, k0, hx0⟩
            · obtain rfl : j = 0 := by have := hjl.out; omega
              go_wp2_with fail
              refine (due_to L3.out hS.out.2.1 key).mono ?_
              rintro e w' ⟨D, is, rfl, hw', hi1, hi2⟩
              subst w'
              have hI := Lib.hid (And.intro hi1 hi2)
              clear hi1 hi2
              go_wp2_with fail
              refine (find_rows R3.out (by omega) key).mono ?_
              rintro e u3 ⟨a3, rfl, o3, hF3⟩
              rcases hF3 with ⟨rfl, hk3⟩ | ⟨hk3, i, d, rfl, hi, hx3, hd3, _⟩
              · obtain rfl : is = false := hI.out.1.symm.trans hk3
                have O3 := Lib.hid o3
                clear hk3 o3
                go_wp2
                go_roundw
                case rel =>
                  have OO := ((((O0.out.trans' O1.out).drewN m1).trans' O2.out).drewN m2).trans' O3.out
                  exact ⟨k + 1, by omega, by go_num, rel_back hS.out OO (R3.out.new O3.out)⟩
                case measure => simp [intOf]; omega
              · exact absurd hi (by rw [dat_length]; omega)
            · have hj0 : 0 < j := by have := hjl.out; omega
              obtain ⟨g, off2, _, rfl, hcap, hc⟩ := R3.out.at_ hj0
              have d1 := (hc 0 _ hx0).2
              rw [Nat.zero_mul, Nat.add_zero] at d1
              have hc' := Lib.hid hc
              have hj0' : (0 : Int) < (j : Int) := by omega
              clear hc hx0
              go_wp2_with fail
              refine (due_to L3.out hS.out.2.1 key).mono ?_
              rintro e w' ⟨D, is, rfl, hw', hi1, hi2⟩
              subst w'
              have hI := Lib.hid (And.intro hi1 hi2)
              clear hi1 hi2
              go_wp2_with fail
              refine (find_rows R3.out hn1000 key).mono ?_
              rintro e u3 ⟨a3, rfl, o3, hF3⟩
              have O3 := Lib.hid o3
              rcases hF3 with ⟨rfl, hk3⟩ | ⟨hk3, i, d, rfl, hi, hx3, hd3, _⟩
              · obtain rfl : is = false := hI.out.1.symm.trans hk3
                clear hk3 o3
                go_wp2
                go_roundw
                case rel =>
                  have OO := ((((O0.out.trans' O1.out).drewN m1).trans' O2.out).drewN m2).trans' O3.out
                  exact ⟨k + 1, by omega, by go_num, rel_back hS.out OO (R3.out.new O3.out)⟩
                case measure => simp [intOf]; omega
              · obtain rfl : is = true := hI.out.1.symm.trans hk3
                obtain rfl : D = d := hI.out.2.symm.trans hd3
                have c1 := o3.cell (hc'.out i _ hx3).2 (fun h => h)
                have hij : (i : Int) < (j : Int) := by rw [dat_length] at hi; have := hjl.out; omega
                have hi0 : (0 : Int) ≤ (i : Int) := Int.natCast_nonneg i
                have hij' : i < j := by omega
                clear hk3 o3 hx3 hd3 hi
                go_wp2
                go_roundw
                case rel =>
                  have OO := ((((O0.out.trans' O1.out).drewN m1).trans' O2.out).drewN m2).trans' O3.out
                  exact ⟨k + 1, by omega, by go_num, rel_back hS.out OO (R3.out.new O3.out)⟩
                case measure => simp [intOf]; omega
    · have hO' := Lib.hid hO
      clear hL hR hf hn hf1 hf2 hO hArow hBs hnl
      have hlt' : ¬ (k : Int) < (len : Int) := by omega
      go_wp2
      go_ret
      exact ⟨rfl, hO'.out.below (by have := hB'.out; omega) (fun x hx => hB'.out ▸ hx)⟩

theorem plays (A : Option Addr) (len cap : Nat) (z : ActV) (key : Int) (w : World) (hA : ActRow w A len z) (_hk : (Lit.int .i64 key).wf = true) :
    Calls Try.prog 5 #[.slice A len cap, .int .i64 key] w fun e w' => e = .returned (.bool true) ∧ Below w.heap.size w w' := by
  by_cases hl : 150 < len
  · exact plays_long A len cap key w hl
  · exact plays_some A len cap z key w (by omega) hA
end Go.Proofs.Ytbmegpcdcbfjmaa.Plays4
