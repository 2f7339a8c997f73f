/- The reference's Text. -/
import Derived.Test.YtbjpnjgkpkfngaaGreatDoorGC
import Derived.Deep.CutRange
import Derived.Deep.DeepCutAuto
namespace Go.Proofs.YtbjpnjgkpkfngaaGreatDoor
open Go Go.RowKit

theorem line_one (p : List UInt8) (word : List UInt8) (l : List Int) (k : Nat) (z : Int) (h : l[k]? = some z) : ((toBA (p ++ linesL word (l.take k)) ++ toBA word) ++ toBA (numsL [z])) ++ (⟨#[10]⟩ : ByteArray) = toBA (p ++ linesL word (l.take (k + 1))) := by
  rw [show (⟨#[10]⟩ : ByteArray) = toBA [10] from rfl, toBA_app, toBA_app, toBA_app, list_take_snoc h, linesL_snoc]
  unfold headL
  simp
theorem len_lines (p : List UInt8) (word : List UInt8) (l : List Int) (k : Nat) (h : Few9 l) (hl : l.length ≤ 8) (hw : word.length ≤ 10) : (toBA (p ++ linesL word (l.take k))).size ≤ p.length + 200 := by
  have h1 := linesL_len word (l.take k) (h.take k)
  rw [List.length_take] at h1
  have : min k l.length * (word.length + 11) ≤ 8 * 21 := Nat.mul_le_mul (by omega) (by omega)
  rw [toBA_size, List.length_append]
  omega

set_option maxRecDepth 100000 in
set_option maxHeartbeats 8000000 in
theorem rctext_fine {w : World} {c : ConfV} {d : ConfL} {pl : Tks} (hc : ConfAt w c d pl) (hz : confZ c d pl = 0) : Calls Tryz.prog 15 #[c.val] w (GrowS (confT c d pl) w) := by
  have hf := confZ_fine hz
  obtain ⟨s0, s1, s2, s3, s4⟩ := lens hc hf
  have hT := Lib.hid hc.t
  have hlen := Lib.hid (show pl.length = c.ta.n by have := hc.t.len; unfold Tks.ts at this; rwa [List.length_map] at this)
  have hts := Lib.hid hf.ts
  have bn := hf.n.2
  have hR := Lib.hid hc.p
  have hcO := Lib.hid hc.o
  have hfC := Lib.hid hf
  obtain ⟨X, hX⟩ : ∃ X, X = w.heap.size := ⟨_, rfl⟩
  have hO := Lib.hid ((Only.refl (fun _ => False) w).alloc (.cells c.cells.toArray 27))
  have hbx := Lib.hid (hX ▸ box_new w c)
  rw [show c.val = .agg #[.int .i64 c.s, .int .i64 c.wy, .int .i64 c.h, .int .i64 c.mi, .slice c.mb.A c.mb.n c.mb.cap, .int .i64 c.g, .slice c.cn.A c.cn.n c.cn.cap, .slice c.ce.A c.ce.n c.ce.cap, .slice c.ta.A c.ta.n c.ta.cap, .slice c.li.A c.li.n c.li.cap] from rfl]
  unfold ConfV.cells at hO hbx
  obtain ⟨W0, hW0⟩ : ∃ W0, W0 = w.alloc (.cells [.int .i64 c.s, .int .i64 c.wy, .int .i64 c.h, .int .i64 c.mi, .slice c.mb.A c.mb.n c.mb.cap, .int .i64 c.g, .slice c.cn.A c.cn.n c.cn.cap, .slice c.ce.A c.ce.n c.ce.cap, .slice c.ta.A c.ta.n c.ta.cap, .slice c.li.A c.li.n c.li.cap].toArray 27) := ⟨_, rfl⟩
  have q0 := Lib.hid (fun (W : World) (b : Nat) (hh : W.heap[b]? = some (.cells #[.int .i64 c.s, .int .i64 c.wy, .int .i64 c.h, .int .i64 c.mi] 3 (0, 0))) => nums_any (x := ⟨some ⟨b, 0, none⟩, 4, 4⟩) (ints_four hh) hf.m (by show 4 ≤ 100; omega))
  have q1 := Lib.hid (fun (W : World) (b : Nat) (z : Int) (hz : 0 ≤ z ∧ z < 1000000000) (hh : W.heap[b]? = some (.cells #[.int .i64 z] 3 (0, 0))) => nums_any (x := ⟨some ⟨b, 0, none⟩, 1, 1⟩) (ints_one z hh) (fun n hn => by simp at hn; subst hn; exact hz) (by show 1 ≤ 100; omega))
  have q6 := Lib.hid (fun (W : World) (b : Nat) (a1 a2 a3 a4 a5 a6 : Int) (h9 : Few9 [a1, a2, a3, a4, a5, a6]) (hh : W.heap[b]? = some (.cells #[.int .i64 a1, .int .i64 a2, .int .i64 a3, .int .i64 a4, .int .i64 a5, .int .i64 a6] 3 (0, 0))) => nums_any (x := ⟨some ⟨b, 0, none⟩, 6, 6⟩) (ints_six hh) h9 (by show 6 ≤ 100; omega))
  unfold GrowS at q0 q1 q6
  have m0 := numsL_len _ hf.m
  simp only [List.length_cons, List.length_nil] at m0
  have z0 := Lib.hid (show ((⟨#[109, 97, 99, 104, 105, 110, 101]⟩ : ByteArray) ++ toBA (numsL [c.s, c.wy, c.h, c.mi])) ++ (⟨#[10]⟩ : ByteArray) = toBA (txt0 c) by
    rw [show (⟨#[109, 97, 99, 104, 105, 110, 101]⟩ : ByteArray) = toBA wMachine from rfl, show (⟨#[10]⟩ : ByteArray) = toBA [10] from rfl, toBA_app, toBA_app]
    rfl)
  obtain ⟨H, hH⟩ : ∃ H, H = toBA (numsL [c.s, c.wy, c.h, c.mi]) := ⟨_, rfl⟩
  have hHs : H.size ≤ 40 := by rw [hH, toBA_size]; omega
  have hH1 : ((⟨#[109, 97, 99, 104, 105, 110, 101]⟩ : ByteArray) ++ H).size ≤ 60 := by rw [ByteArray.size_append]; show 7 + H.size ≤ 60; omega
  rw [← hH] at q0 z0
  have hX' := Lib.hid (And.intro hX hW0)
  clear hz hc hf hX hH m0 hW0
  go_enter Tryz.func15, Tryz.ntmps15
  go_wp2_with fail
  rw [← hX'.out.1]
  have hb0 := hbx
  have o1 := hO.out.alloc (.cells #[.int .i64 c.s, .int .i64 c.wy, .int .i64 c.h, .int .i64 c.mi] 3)
  refine (q0.out _ (X + 1) (heap_new_at _ _ (by have := hX'.out.1; simp; omega))).mono ?_
  rintro e w2 ⟨rfl, hO2⟩
  have hb2 := Lib.hid (hb0.out.new (((Only.refl (fun _ => False) _).alloc (.cells #[.int .i64 c.s, .int .i64 c.wy, .int .i64 c.h, .int .i64 c.mi] 3)).trans' hO2))
  have hW2 := Lib.hid (o1.trans' hO2)
  clear o1 hO2 hX' hO hbx hb0 q0
  obtain ⟨lX, e0, e1, e2, e3, e4, e5, e6, e7, e8, e9⟩ := hb2.out
  go_wp2
  rw [z0.out]
  go_loopw [3, 35] (fun s i wr => ∃ k : Nat, k ≤ c.mb.n ∧ i = .int .i64 k ∧ s = .string (toBA (txt0 c ++ linesL wMailbox (d.mb.take k))) ∧ Only (fun _ => False) w2 wr) (fun _ i _ => c.mb.n - (intOf i).toNat)
  case atStart => exact ⟨0, Nat.zero_le _, rfl, by simp [linesL], Only.refl _ _⟩
  case round =>
    clear lX e0 e1 e2 e3 e4 e5 e6 e7 e8 e9
    obtain ⟨k, hk, rfl, rfl, hO⟩ := hrel
    obtain ⟨ws, hws⟩ : ∃ ws : World, ws = wr := ⟨_, rfl⟩
    subst hws
    have hOs := Lib.hid hO
    have hWs := Lib.hid (hW2.out.trans' hO)
    clear hO
    have hl8 := Lib.hid (show d.mb.length ≤ 8 by rw [hcO.out.mb.len]; have := hfC.out.mb.2; omega)
    have hn8 : c.mb.n ≤ 8 := by have := hfC.out.mb.2; omega
    have hsz := len_lines (txt0 c) wMailbox d.mb k hfC.out.mb.1 hl8.out (by decide)
    by_cases hkn : k < c.mb.n
    · have hkn' : (k : Int) < (c.mb.n : Int) := by omega
      obtain ⟨z, hz⟩ : ∃ z, d.mb[k]? = some z := ⟨_, List.getElem?_eq_getElem (by have := hcO.out.mb.len; omega)⟩
      obtain ⟨b, off, hA, hbb, c0⟩ := (hcO.out.mb.new hWs.out).at_ k z hz
      have hz9 := hfC.out.mb.1 z (List.mem_of_getElem? hz)
      have hq := Lib.hid (q1.out (ws.alloc (.cells #[.int .i64 z] 3)) ws.heap.size z hz9 (heap_new_at _ _ rfl))
      have hnx := Lib.hid (line_one (txt0 c) wMailbox d.mb k z hz)
      have hns := numsL_len [z] (fun n hn => by simp at hn; subst hn; exact hz9)
      rw [← toBA_size] at hns
      have hns' : (toBA (numsL [z])).size ≤ 10 := by simpa using hns
      obtain ⟨S, hS⟩ : ∃ T, T = toBA (txt0 c ++ linesL wMailbox (d.mb.take k)) := ⟨_, rfl⟩
      obtain ⟨R, hRR⟩ : ∃ T, T = toBA (numsL [z]) := ⟨_, rfl⟩
      rw [← hS] at hnx hsz ⊢
      rw [← hRR] at hnx hns' hq
      rw [show toBA wMailbox = (⟨#[109, 97, 105, 108, 98, 111, 120]⟩ : ByteArray) from rfl] at hnx
      have hS1 : S.size ≤ 70000 := by omega
      have g1 : (S ++ (⟨#[109, 97, 105, 108, 98, 111, 120]⟩ : ByteArray)).size ≤ 70010 := by rw [ByteArray.size_append]; show S.size + 7 ≤ _; omega
      have g2 : ((S ++ (⟨#[109, 97, 105, 108, 98, 111, 120]⟩ : ByteArray)) ++ R).size ≤ 71000 := by rw [ByteArray.size_append]; omega
      rw [hA]
      clear hz hS hRR hA hns hsz
      go_wp2_with fail
      refine hq.out.mono ?_
      rintro e w6 ⟨rfl, hO6⟩
      have hO6' := Lib.hid (((Only.refl (fun _ => False) ws).alloc (.cells #[.int .i64 z] 3)).trans' hO6)
      clear hO6 c0
      go_wp2
      go_roundw
      case rel => exact ⟨k + 1, by omega, by go_num, by rw [hnx.out], hOs.out.trans' hO6'.out⟩
      case measure => simp [intOf]; omega
    · have hall := Lib.hid (show txt0 c ++ linesL wMailbox (d.mb.take k) = txt1 c d from by rw [List.take_of_length_le (by have := hcO.out.mb.len; omega)]; rfl)
      have hkn'' : ¬ (k : Int) < (c.mb.n : Int) := by omega
      obtain ⟨w3, hw3⟩ : ∃ w3 : World, w3 = ws := ⟨_, rfl⟩
      subst hw3
      have hb3 := Lib.hid (hb2.out.new hOs.out)
      have hW3 := hWs
      rw [hall.out]
      obtain ⟨lX, e0, e1, e2, e3, e4, e5, e6, e7, e8, e9⟩ := hb3.out
      clear hkn hsz hOs hWs hl8 hall hk hn8
      go_upto_if 49 with fail
      clear lX e0 e1 e2 e3 e4 e5 e6 e7 e8 e9
      go_cut [3] from 35 to 57 (fun s wc => s = .string (toBA (txt2 c d)) ∧ Only (fun _ => False) w3 wc)
      case first =>
        obtain ⟨lX, e0, e1, e2, e3, e4, e5, e6, e7, e8, e9⟩ := hb3.out
        by_cases hg : c.g = 0
        · have hgb : (c.g != 0) = false := by simpa using hg
          have h12 := Lib.hid (show txt2 c d = txt1 c d by unfold txt2 groupsL; rw [if_pos hg, List.append_nil])
          clear hg
          go_wp2
          go_meet
          case rel => exact ⟨by rw [h12.out], Only.refl _ _⟩
        · have hgb : (c.g != 0) = true := by simpa using hg
          have hg9 : 0 ≤ c.g ∧ c.g < 1000000000 := by have := hfC.out.g; omega
          have hq := Lib.hid (q1.out (w3.alloc (.cells #[.int .i64 c.g] 3)) w3.heap.size c.g hg9 (heap_new_at _ _ rfl))
          have hnx := Lib.hid (show ((toBA (txt1 c d) ++ toBA wGroups) ++ toBA (numsL [c.g])) ++ (⟨#[10]⟩ : ByteArray) = toBA (txt2 c d) by
            rw [show (⟨#[10]⟩ : ByteArray) = toBA [10] from rfl, toBA_app, toBA_app, toBA_app]
            unfold txt2 groupsL
            rw [if_neg hg]
            simp [linesL, headL])
          have hns := numsL_len [c.g] (fun n hn => by simp at hn; subst hn; exact hg9)
          rw [← toBA_size] at hns
          have hns' : (toBA (numsL [c.g])).size ≤ 10 := by simpa using hns
          have hS1 : (toBA (txt1 c d)).size ≤ 200 := by rw [toBA_size]; exact s1
          obtain ⟨S, hS⟩ : ∃ T, T = toBA (txt1 c d) := ⟨_, rfl⟩
          obtain ⟨R, hRR⟩ : ∃ T, T = toBA (numsL [c.g]) := ⟨_, rfl⟩
          rw [← hS] at hnx hS1 ⊢
          rw [← hRR] at hnx hns' hq
          rw [show toBA wGroups = (⟨#[103, 114, 111, 117, 112, 115]⟩ : ByteArray) from rfl] at hnx
          have g1 : (S ++ (⟨#[103, 114, 111, 117, 112, 115]⟩ : ByteArray)).size ≤ 210 := by rw [ByteArray.size_append]; show S.size + 6 ≤ _; omega
          have g2 : ((S ++ (⟨#[103, 114, 111, 117, 112, 115]⟩ : ByteArray)) ++ R).size ≤ 300 := by rw [ByteArray.size_append]; omega
          clear hg hS hRR hns
          go_wp2_with fail
          refine hq.out.mono ?_
          rintro e w6 ⟨rfl, hO6⟩
          have hO6' := Lib.hid (((Only.refl (fun _ => False) w3).alloc (.cells #[.int .i64 c.g] 3)).trans' hO6)
          clear hO6 lX e0 e1 e2 e3 e4 e5 e6 e7 e8 e9
          go_wp2
          go_meet
          case rel => exact ⟨by rw [hnx.out], hO6'.out⟩
      case rest =>
        obtain ⟨rfl, hO⟩ := hcut
        obtain ⟨w4, hw4⟩ : ∃ w4 : World, w4 = wc := ⟨_, rfl⟩
        subst hw4
        have hb4 := Lib.hid (hb3.out.new hO)
        have hW4 := Lib.hid (hW3.out.trans' hO)
        clear hO
        obtain ⟨lX, e0, e1, e2, e3, e4, e5, e6, e7, e8, e9⟩ := hb4.out
        go_wp2
        go_loopw [3, 61] (fun s i wr => ∃ k : Nat, k ≤ c.cn.n ∧ i = .int .i64 k ∧ s = .string (toBA (txt2 c d ++ linesL wCount (d.cn.take k))) ∧ Only (fun _ => False) w4 wr) (fun _ i _ => c.cn.n - (intOf i).toNat)
        case atStart => exact ⟨0, Nat.zero_le _, rfl, by simp [linesL], Only.refl _ _⟩
        case round =>
          clear lX e0 e1 e2 e3 e4 e5 e6 e7 e8 e9
          obtain ⟨k, hk, rfl, rfl, hO⟩ := hrel
          obtain ⟨ws, hws⟩ : ∃ ws : World, ws = wr := ⟨_, rfl⟩
          subst hws
          have hOs := Lib.hid hO
          have hWs := Lib.hid (hW4.out.trans' hO)
          clear hO
          have hl8 := Lib.hid (show d.cn.length ≤ 8 by rw [hcO.out.cn.len]; have := hfC.out.cn.2; omega)
          have hn8 : c.cn.n ≤ 8 := by have := hfC.out.cn.2; omega
          have hsz := len_lines (txt2 c d) wCount d.cn k hfC.out.cn.1 hl8.out (by decide)
          by_cases hkn : k < c.cn.n
          · have hkn' : (k : Int) < (c.cn.n : Int) := by omega
            obtain ⟨z, hz⟩ : ∃ z, d.cn[k]? = some z := ⟨_, List.getElem?_eq_getElem (by have := hcO.out.cn.len; omega)⟩
            obtain ⟨b, off, hA, hbb, c0⟩ := (hcO.out.cn.new hWs.out).at_ k z hz
            have hz9 := hfC.out.cn.1 z (List.mem_of_getElem? hz)
            have hq := Lib.hid (q1.out (ws.alloc (.cells #[.int .i64 z] 3)) ws.heap.size z hz9 (heap_new_at _ _ rfl))
            have hnx := Lib.hid (line_one (txt2 c d) wCount d.cn k z hz)
            have hns := numsL_len [z] (fun n hn => by simp at hn; subst hn; exact hz9)
            rw [← toBA_size] at hns
            have hns' : (toBA (numsL [z])).size ≤ 10 := by simpa using hns
            obtain ⟨S, hS⟩ : ∃ T, T = toBA (txt2 c d ++ linesL wCount (d.cn.take k)) := ⟨_, rfl⟩
            obtain ⟨R, hRR⟩ : ∃ T, T = toBA (numsL [z]) := ⟨_, rfl⟩
            rw [← hS] at hnx hsz ⊢
            rw [← hRR] at hnx hns' hq
            rw [show toBA wCount = (⟨#[99, 111, 117, 110, 116]⟩ : ByteArray) from rfl] at hnx
            have hS1 : S.size ≤ 70000 := by omega
            have g1 : (S ++ (⟨#[99, 111, 117, 110, 116]⟩ : ByteArray)).size ≤ 70010 := by rw [ByteArray.size_append]; show S.size + 5 ≤ _; omega
            have g2 : ((S ++ (⟨#[99, 111, 117, 110, 116]⟩ : ByteArray)) ++ R).size ≤ 71000 := by rw [ByteArray.size_append]; omega
            rw [hA]
            clear hz hS hRR hA hns hsz
            go_wp2_with fail
            refine hq.out.mono ?_
            rintro e w6 ⟨rfl, hO6⟩
            have hO6' := Lib.hid (((Only.refl (fun _ => False) ws).alloc (.cells #[.int .i64 z] 3)).trans' hO6)
            clear hO6 c0
            go_wp2
            go_roundw
            case rel => exact ⟨k + 1, by omega, by go_num, by rw [hnx.out], hOs.out.trans' hO6'.out⟩
            case measure => simp [intOf]; omega
          · have hall := Lib.hid (show txt2 c d ++ linesL wCount (d.cn.take k) = txt3 c d from by rw [List.take_of_length_le (by have := hcO.out.cn.len; omega)]; rfl)
            have hkn'' : ¬ (k : Int) < (c.cn.n : Int) := by omega
            obtain ⟨w5, hw5⟩ : ∃ w5 : World, w5 = ws := ⟨_, rfl⟩
            subst hw5
            have hb5 := Lib.hid (hb4.out.new hOs.out)
            have hW5 := hWs
            rw [hall.out]
            obtain ⟨lX, e0, e1, e2, e3, e4, e5, e6, e7, e8, e9⟩ := hb5.out
            clear hkn hsz hOs hWs hl8 hall hk hn8
            go_wp2
            go_loopw [3, 76] (fun s i wr => ∃ k : Nat, k ≤ c.ce.n ∧ i = .int .i64 k ∧ s = .string (toBA (txt3 c d ++ linesL wCeiling (d.ce.take k))) ∧ Only (fun _ => False) w5 wr) (fun _ i _ => c.ce.n - (intOf i).toNat)
            case atStart => exact ⟨0, Nat.zero_le _, rfl, by simp [linesL], Only.refl _ _⟩
            case round =>
              clear lX e0 e1 e2 e3 e4 e5 e6 e7 e8 e9
              obtain ⟨k, hk, rfl, rfl, hO⟩ := hrel
              obtain ⟨ws, hws⟩ : ∃ ws : World, ws = wr := ⟨_, rfl⟩
              subst hws
              have hOs := Lib.hid hO
              have hWs := Lib.hid (hW5.out.trans' hO)
              clear hO
              have hl8 := Lib.hid (show d.ce.length ≤ 8 by rw [hcO.out.ce.len]; have := hfC.out.ce.2; omega)
              have hn8 : c.ce.n ≤ 8 := by have := hfC.out.ce.2; omega
              have hsz := len_lines (txt3 c d) wCeiling d.ce k hfC.out.ce.1 hl8.out (by decide)
              by_cases hkn : k < c.ce.n
              · have hkn' : (k : Int) < (c.ce.n : Int) := by omega
                obtain ⟨z, hz⟩ : ∃ z, d.ce[k]? = some z := ⟨_, List.getElem?_eq_getElem (by have := hcO.out.ce.len; omega)⟩
                obtain ⟨b, off, hA, hbb, c0⟩ := (hcO.out.ce.new hWs.out).at_ k z hz
                have hz9 := hfC.out.ce.1 z (List.mem_of_getElem? hz)
                have hq := Lib.hid (q1.out (ws.alloc (.cells #[.int .i64 z] 3)) ws.heap.size z hz9 (heap_new_at _ _ rfl))
                have hnx := Lib.hid (line_one (txt3 c d) wCeiling d.ce k z hz)
                have hns := numsL_len [z] (fun n hn => by simp at hn; subst hn; exact hz9)
                rw [← toBA_size] at hns
                have hns' : (toBA (numsL [z])).size ≤ 10 := by simpa using hns
                obtain ⟨S, hS⟩ : ∃ T, T = toBA (txt3 c d ++ linesL wCeiling (d.ce.take k)) := ⟨_, rfl⟩
                obtain ⟨R, hRR⟩ : ∃ T, T = toBA (numsL [z]) := ⟨_, rfl⟩
                rw [← hS] at hnx hsz ⊢
                rw [← hRR] at hnx hns' hq
                rw [show toBA wCeiling = (⟨#[99, 101, 105, 108, 105, 110, 103]⟩ : ByteArray) from rfl] at hnx
                have hS1 : S.size ≤ 70000 := by omega
                have g1 : (S ++ (⟨#[99, 101, 105, 108, 105, 110, 103]⟩ : ByteArray)).size ≤ 70010 := by rw [ByteArray.size_append]; show S.size + 7 ≤ _; omega
                have g2 : ((S ++ (⟨#[99, 101, 105, 108, 105, 110, 103]⟩ : ByteArray)) ++ R).size ≤ 71000 := by rw [ByteArray.size_append]; omega
                rw [hA]
                clear hz hS hRR hA hns hsz
                go_wp2_with fail
                refine hq.out.mono ?_
                rintro e w6 ⟨rfl, hO6⟩
                have hO6' := Lib.hid (((Only.refl (fun _ => False) ws).alloc (.cells #[.int .i64 z] 3)).trans' hO6)
                clear hO6 c0
                go_wp2
                go_roundw
                case rel => exact ⟨k + 1, by omega, by go_num, by rw [hnx.out], hOs.out.trans' hO6'.out⟩
                case measure => simp [intOf]; omega
              · have hall := Lib.hid (show txt3 c d ++ linesL wCeiling (d.ce.take k) = txt4 c d from by rw [List.take_of_length_le (by have := hcO.out.ce.len; omega)]; rfl)
                have hkn'' : ¬ (k : Int) < (c.ce.n : Int) := by omega
                obtain ⟨w6, hw6⟩ : ∃ w6 : World, w6 = ws := ⟨_, rfl⟩
                subst hw6
                have hb6 := Lib.hid (hb5.out.new hOs.out)
                have hW6 := hWs
                rw [hall.out]
                obtain ⟨lX, e0, e1, e2, e3, e4, e5, e6, e7, e8, e9⟩ := hb6.out
                clear hkn hsz hOs hWs hl8 hall hk hn8
                go_wp2
                go_loopw [3, 91] (fun s i wr => ∃ k : Nat, k ≤ c.ta.n ∧ i = .int .i64 k ∧ s = .string (toBA (txt4 c d ++ tasksL (pl.take k))) ∧ Only (fun _ => False) w6 wr) (fun _ i _ => c.ta.n - (intOf i).toNat)
                case atStart => exact ⟨0, Nat.zero_le _, rfl, by simp [tasksL], Only.refl _ _⟩
                case round =>
                  clear lX e0 e1 e2 e3 e4 e5 e6 e7 e8 e9
                  obtain ⟨k, hk, rfl, rfl, hO⟩ := hrel
                  obtain ⟨ws, hws⟩ : ∃ ws : World, ws = wr := ⟨_, rfl⟩
                  subst hws
                  have hOs := Lib.hid hO
                  have hWs := Lib.hid (hW6.out.trans' hO)
                  clear hO
                  have hsz := tasksL_len (pl.take k) (fun i t l hi => by
                    by_cases hik : i < k
                    · rw [List.getElem?_take_of_lt hik] at hi
                      exact hts.out i t l (by omega) hi
                    · rw [List.getElem?_eq_none (by rw [List.length_take]; omega)] at hi
                      cases hi)
                  rw [List.length_take] at hsz
                  have hsz2 : (toBA (txt4 c d ++ tasksL (pl.take k))).size ≤ 60000 := by
                    rw [toBA_size, List.length_append]
                    have : min k pl.length * 6600 ≤ 8 * 6600 := Nat.mul_le_mul_right _ (by omega)
                    omega
                  clear hsz
                  by_cases hkn : k < c.ta.n
                  · have hkn' : (k : Int) < (c.ta.n : Int) := by omega
                    obtain ⟨⟨t, l⟩, hzt⟩ : ∃ z, pl[k]? = some z := ⟨_, List.getElem?_eq_getElem (by have := hlen.out; omega)⟩
                    obtain ⟨b, off, hA, hbb, hC⟩ := (hT.out.new hWs.out).at_ k t (ts_some hzt)
                    obtain ⟨c0, c1, c2, c3, c4, c5, c6⟩ := hC
                    have htl := hts.out k t l hkn hzt
                    have hrow := hR.out.row k t l hzt
                    have hq := Lib.hid (prtext_any (cap := t.o.cap) (hrow.1.new (hWs.out.alloc (.cells #[.int .i64 t.p, .int .i64 t.th, .int .i64 t.pe, .int .i64 t.de, .int .i64 t.fr, .int .i64 t.fl, .slice t.o.A t.o.n t.o.cap] 45))) hrow.2.1 htl.2.1)
                    unfold PtEnd at hq
                    have hns := numsL_len t.nums htl.1
                    have hps := progT_len htl.2.1
                    rw [← toBA_size] at hns hps
                    have hq6 := Lib.hid (fun (W : World) => q6.out (W.alloc (.cells #[.int .i64 t.p, .int .i64 t.th, .int .i64 t.pe, .int .i64 t.de, .int .i64 t.fr, .int .i64 t.fl] 3)) W.heap.size t.p t.th t.pe t.de t.fr t.fl htl.1 (heap_new_at _ _ rfl))
                    rw [show numsL [t.p, t.th, t.pe, t.de, t.fr, t.fl] = numsL t.nums from rfl] at hq6
                    have hnx := Lib.hid (show ((((toBA (txt4 c d ++ tasksL (pl.take k)) ++ (⟨#[116, 97, 115, 107]⟩ : ByteArray)) ++ toBA (numsL t.nums)) ++ (⟨#[32]⟩ : ByteArray)) ++ toBA (progT l)) ++ (⟨#[10]⟩ : ByteArray) = toBA (txt4 c d ++ tasksL (pl.take (k + 1))) by
                      rw [show (⟨#[10]⟩ : ByteArray) = toBA [10] from rfl, show (⟨#[32]⟩ : ByteArray) = toBA [32] from rfl, show (⟨#[116, 97, 115, 107]⟩ : ByteArray) = toBA [116, 97, 115, 107] from rfl, toBA_app, toBA_app, toBA_app, toBA_app, toBA_app, list_take_snoc hzt, tasksL_snoc]
                      unfold taskL headL
                      simp)
                    have hns' : (toBA (numsL t.nums)).size ≤ 60 := by simpa [TaskV.nums] using hns
                    obtain ⟨T1, hT1⟩ : ∃ T, T = toBA (txt4 c d ++ tasksL (pl.take k)) := ⟨_, rfl⟩
                    obtain ⟨T2, hT2⟩ : ∃ T, T = toBA (numsL t.nums) := ⟨_, rfl⟩
                    obtain ⟨T3, hT3⟩ : ∃ T, T = toBA (progT l) := ⟨_, rfl⟩
                    rw [← hT1] at hnx hsz2 ⊢
                    rw [← hT2] at hnx hns' hq6
                    rw [← hT3] at hnx hps hq
                    have g1 : (T1 ++ (⟨#[116, 97, 115, 107]⟩ : ByteArray)).size ≤ 60010 := by rw [ByteArray.size_append]; show T1.size + 4 ≤ _; omega
                    have g2 : ((T1 ++ (⟨#[116, 97, 115, 107]⟩ : ByteArray)) ++ T2).size ≤ 60100 := by rw [ByteArray.size_append]; omega
                    have g3 : (((T1 ++ (⟨#[116, 97, 115, 107]⟩ : ByteArray)) ++ T2) ++ (⟨#[32]⟩ : ByteArray)).size ≤ 60110 := by rw [ByteArray.size_append]; show _ + 1 ≤ _; omega
                    have g4 : ((((T1 ++ (⟨#[116, 97, 115, 107]⟩ : ByteArray)) ++ T2) ++ (⟨#[32]⟩ : ByteArray)) ++ T3).size ≤ 70000 := by rw [ByteArray.size_append]; omega
                    rw [hA]
                    clear hzt hT1 hT2 hT3 htl hA hns hrow
                    go_wp2_with fail
                    refine hq.out.mono ?_
                    rintro e w7 ⟨rfl, hO7⟩
                    obtain ⟨Y, hY⟩ : ∃ Y, Y = ws.heap.size := ⟨_, rfl⟩
                    have hyb := hO7.heap (heap_new_at ws (.cells #[.int .i64 t.p, .int .i64 t.th, .int .i64 t.pe, .int .i64 t.de, .int .i64 t.fr, .int .i64 t.fl, .slice t.o.A t.o.n t.o.cap] 45) hY.symm) (fun h => h)
                    have y0 : w7.cell? ⟨Y, 0, none⟩ = some (.int .i64 t.p) := by simp [World.cell?, hyb]
                    have y1 : w7.cell? ⟨Y, 1, none⟩ = some (.int .i64 t.th) := by simp [World.cell?, hyb]
                    have y2 : w7.cell? ⟨Y, 2, none⟩ = some (.int .i64 t.pe) := by simp [World.cell?, hyb]
                    have y3 : w7.cell? ⟨Y, 3, none⟩ = some (.int .i64 t.de) := by simp [World.cell?, hyb]
                    have y4 : w7.cell? ⟨Y, 4, none⟩ = some (.int .i64 t.fr) := by simp [World.cell?, hyb]
                    have y5 : w7.cell? ⟨Y, 5, none⟩ = some (.int .i64 t.fl) := by simp [World.cell?, hyb]
                    have lY := row_lt hyb
                    have hO7' := Lib.hid (((Only.refl (fun _ => False) ws).alloc (.cells #[.int .i64 t.p, .int .i64 t.th, .int .i64 t.pe, .int .i64 t.de, .int .i64 t.fr, .int .i64 t.fl, .slice t.o.A t.o.n t.o.cap] 45)).trans' hO7)
                    rw [← hY]
                    clear hO7 hY hyb c0 c1 c2 c3 c4 c5 c6
                    go_wp2_with fail
                    refine (hq6.out w7).mono ?_
                    rintro e w8 ⟨rfl, hO8⟩
                    have hO8' := Lib.hid (((Only.refl (fun _ => False) w7).alloc (.cells #[.int .i64 t.p, .int .i64 t.th, .int .i64 t.pe, .int .i64 t.de, .int .i64 t.fr, .int .i64 t.fl] 3)).trans' hO8)
                    clear hO8 y0 y1 y2 y3 y4 y5 lY
                    go_wp2
                    go_roundw
                    case rel => exact ⟨k + 1, by omega, by go_num, by rw [hnx.out], hOs.out.trans' (hO7'.out.trans' hO8'.out)⟩
                    case measure => simp [intOf]; omega
                  · have hall := Lib.hid (show txt4 c d ++ tasksL (pl.take k) = txt5 c d pl from by rw [List.take_of_length_le (by have := hlen.out; omega)]; rfl)
                    have hkn'' : ¬ (k : Int) < (c.ta.n : Int) := by omega
                    obtain ⟨w7, hw7⟩ : ∃ w7 : World, w7 = ws := ⟨_, rfl⟩
                    subst hw7
                    have hb7 := Lib.hid (hb6.out.new hOs.out)
                    have hW7 := hWs
                    rw [hall.out] at hsz2 ⊢
                    have s5 : (txt5 c d pl).length ≤ 60000 := by rw [toBA_size] at hsz2; exact hsz2
                    obtain ⟨lX, e0, e1, e2, e3, e4, e5, e6, e7, e8, e9⟩ := hb7.out
                    clear hkn hsz2 hOs hWs hall hk
                    go_wp2
                    go_loopw [3, 126] (fun s i wr => ∃ k : Nat, k ≤ c.li.n ∧ i = .int .i64 k ∧ s = .string (toBA (txt5 c d pl ++ linesL wLine (d.li.take k))) ∧ Only (fun _ => False) w7 wr) (fun _ i _ => c.li.n - (intOf i).toNat)
                    case atStart => exact ⟨0, Nat.zero_le _, rfl, by simp [linesL], Only.refl _ _⟩
                    case round =>
                      clear lX e0 e1 e2 e3 e4 e5 e6 e7 e8 e9
                      obtain ⟨k, hk, rfl, rfl, hO⟩ := hrel
                      obtain ⟨ws, hws⟩ : ∃ ws : World, ws = wr := ⟨_, rfl⟩
                      subst hws
                      have hOs := Lib.hid hO
                      have hWs := Lib.hid (hW7.out.trans' hO)
                      clear hO
                      have hl8 := Lib.hid (show d.li.length ≤ 8 by rw [hcO.out.li.len]; have := hfC.out.li.2; omega)
                      have hn8 : c.li.n ≤ 8 := by have := hfC.out.li.2; omega
                      have hsz := len_lines (txt5 c d pl) wLine d.li k hfC.out.li.1 hl8.out (by decide)
                      by_cases hkn : k < c.li.n
                      · have hkn' : (k : Int) < (c.li.n : Int) := by omega
                        obtain ⟨z, hz⟩ : ∃ z, d.li[k]? = some z := ⟨_, List.getElem?_eq_getElem (by have := hcO.out.li.len; omega)⟩
                        obtain ⟨b, off, hA, hbb, c0⟩ := (hcO.out.li.new hWs.out).at_ k z hz
                        have hz9 := hfC.out.li.1 z (List.mem_of_getElem? hz)
                        have hq := Lib.hid (q1.out (ws.alloc (.cells #[.int .i64 z] 3)) ws.heap.size z hz9 (heap_new_at _ _ rfl))
                        have hnx := Lib.hid (line_one (txt5 c d pl) wLine d.li k z hz)
                        have hns := numsL_len [z] (fun n hn => by simp at hn; subst hn; exact hz9)
                        rw [← toBA_size] at hns
                        have hns' : (toBA (numsL [z])).size ≤ 10 := by simpa using hns
                        obtain ⟨S, hS⟩ : ∃ T, T = toBA (txt5 c d pl ++ linesL wLine (d.li.take k)) := ⟨_, rfl⟩
                        obtain ⟨R, hRR⟩ : ∃ T, T = toBA (numsL [z]) := ⟨_, rfl⟩
                        rw [← hS] at hnx hsz ⊢
                        rw [← hRR] at hnx hns' hq
                        rw [show toBA wLine = (⟨#[108, 105, 110, 101]⟩ : ByteArray) from rfl] at hnx
                        have hS1 : S.size ≤ 70000 := by omega
                        have g1 : (S ++ (⟨#[108, 105, 110, 101]⟩ : ByteArray)).size ≤ 70010 := by rw [ByteArray.size_append]; show S.size + 4 ≤ _; omega
                        have g2 : ((S ++ (⟨#[108, 105, 110, 101]⟩ : ByteArray)) ++ R).size ≤ 71000 := by rw [ByteArray.size_append]; omega
                        rw [hA]
                        clear hz hS hRR hA hns hsz
                        go_wp2_with fail
                        refine hq.out.mono ?_
                        rintro e w6 ⟨rfl, hO6⟩
                        have hO6' := Lib.hid (((Only.refl (fun _ => False) ws).alloc (.cells #[.int .i64 z] 3)).trans' hO6)
                        clear hO6 c0
                        go_wp2
                        go_roundw
                        case rel => exact ⟨k + 1, by omega, by go_num, by rw [hnx.out], hOs.out.trans' hO6'.out⟩
                        case measure => simp [intOf]; omega
                      · have hall := Lib.hid (show txt5 c d pl ++ linesL wLine (d.li.take k) = confT c d pl from by rw [List.take_of_length_le (by have := hcO.out.li.len; omega)]; rfl)
                        have hkn'' : ¬ (k : Int) < (c.li.n : Int) := by omega
                        obtain ⟨w8, hw8⟩ : ∃ w8 : World, w8 = ws := ⟨_, rfl⟩
                        subst hw8
                        have hb8 := Lib.hid (hb7.out.new hOs.out)
                        have hW8 := hWs
                        rw [hall.out]
                        obtain ⟨lX, e0, e1, e2, e3, e4, e5, e6, e7, e8, e9⟩ := hb8.out
                        clear hkn hsz hOs hWs hl8 hall hk hn8
                        go_wp2
                        go_ret
                        exact ⟨rfl, hW8.out⟩
end Go.Proofs.YtbjpnjgkpkfngaaGreatDoor
