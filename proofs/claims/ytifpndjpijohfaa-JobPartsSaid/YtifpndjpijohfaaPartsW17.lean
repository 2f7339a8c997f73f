/- JobParts' walk. -/
import Derived.Test.YtifpndjpijohfaaParts17
namespace Go.Proofs.Ytifpndjpijohfaa
open Go Go.RowKit

set_option maxRecDepth 100000 in
theorem parts_not {w : World} {t : TaskV} {l : List Opn} (hl : OpnRow w t.o.A l) (hn : l.length = t.o.n) (hmax : t.o.n ≤ 9223372036854775807) (hf : fewB l = false) (c a d : Int) (wh : Bool) :
    Calls Try.prog 3 #[t.val, .int .u16 c, .int .u16 a, .int .u16 d, .bool wh] w fun e w' => e = .returned (.bool true) ∧ Below w.heap.size w w' := by
  have q := Lib.hid (fun W (hW : Only (fun _ => False) w W) => few_any (hl.new hW) hn hmax)
  rw [hf] at q
  obtain ⟨pr, th, pe, de, fr, fl, ⟨P, n, cp⟩⟩ := t
  unfold TaskV.val at q ⊢
  dsimp only at q ⊢
  have hT := Lib.hid (show TkAt (w.alloc (.cells #[.int .i64 pr, .int .i64 th, .int .i64 pe, .int .i64 de, .int .i64 fr, .int .i64 fl, .slice P n cp] 24)) w.heap.size ⟨pr, th, pe, de, fr, fl, ⟨P, n, cp⟩⟩ from heap_new_at _ _ rfl)
  have hO0 := Lib.hid ((Only.refl (fun _ => False) w).alloc (.cells #[.int .i64 pr, .int .i64 th, .int .i64 pe, .int .i64 de, .int .i64 fr, .int .i64 fl, .slice P n cp] 24))
  obtain ⟨B, hB⟩ : ∃ B, B = w.heap.size := ⟨_, rfl⟩
  rw [← hB]
  have hBw := Lib.hid (Nat.le_of_eq hB)
  clear hl hn hmax hf
  go_enter Try.func3, Try.ntmps3
  go_wp2_with fail
  refine (fixed17_any _).mono ?_
  rintro e w1 ⟨rfl, hb1⟩
  have h1 := Lib.hid (hO0.out.trans' (Only.of_new hb1 (fun _ => False)))
  have hT1 := Lib.hid (hT.out.new (Only.of_new hb1 (fun _ => False)))
  clear hb1
  rw [← hB] at hT1 ⊢
  have d0 := row_cell hT1.out (i := 0) rfl
  have d1 := row_cell hT1.out (i := 1) rfl
  have d2 := row_cell hT1.out (i := 2) rfl
  have d3 := row_cell hT1.out (i := 3) rfl
  have d4 := row_cell hT1.out (i := 4) rfl
  have d5 := row_cell hT1.out (i := 5) rfl
  have d6 := row_cell hT1.out (i := 6) rfl
  have hBl := row_lt hT1.out
  clear hB
  go_wp2_with fail
  refine (q.out _ h1.out).mono ?_
  rintro e w2 ⟨rfl, ho2⟩
  have h2 := Lib.hid (h1.out.trans' ho2)
  clear ho2
  go_wp2
  go_ret
  exact ⟨rfl, h2.out.below hBw.out (fun k h => h.elim)⟩

set_option maxRecDepth 100000 in
set_option maxHeartbeats 4000000 in
theorem parts_any {w : World} {t : TaskV} {l : List Opn} (hl : OpnRow w t.o.A l) (hn : l.length = t.o.n) (hmax : t.o.n ≤ 9223372036854775807) (hfl : t.fl ≤ 9223372036854775807) (hf : fewB l = true) (c a d : Int) (wh : Bool) (hc : 0 ≤ c ∧ c ≤ 65535) (ha : 0 ≤ a ∧ a ≤ 65535) (hd : 0 ≤ d ∧ d ≤ 65535) :
    Calls Try.prog 3 #[t.val, .int .u16 c, .int .u16 a, .int .u16 d, .bool wh] w fun e w' => e = .returned (.bool true) ∧ Below w.heap.size w w' := by
  have q := Lib.hid (fun W (hW : Only (fun _ => False) w W) => few_any (hl.new hW) hn hmax)
  rw [hf] at q
  have h80 := (few_in hf).1
  have hone := Lib.hid (fun W1 (hW : Only (fun _ => False) w W1) => one_new (hl.new hW) hn (by omega))
  have htwo := Lib.hid (fun W1 (hW : Only (fun _ => False) w W1) => two_new (hl.new hW) hn (by omega) hfl)
  have hj0 := Lib.hid (newJ_ok (t := t) (l := l) (by omega) hfl)
  obtain ⟨pr, th, pe, de, fr, fl, ⟨P, n, cp⟩⟩ := t
  unfold TaskV.val at q ⊢
  dsimp only at q ⊢
  have hT := Lib.hid (show TkAt (w.alloc (.cells #[.int .i64 pr, .int .i64 th, .int .i64 pe, .int .i64 de, .int .i64 fr, .int .i64 fl, .slice P n cp] 24)) w.heap.size ⟨pr, th, pe, de, fr, fl, ⟨P, n, cp⟩⟩ from heap_new_at _ _ rfl)
  have hO0 := Lib.hid ((Only.refl (fun _ => False) w).alloc (.cells #[.int .i64 pr, .int .i64 th, .int .i64 pe, .int .i64 de, .int .i64 fr, .int .i64 fl, .slice P n cp] 24))
  obtain ⟨B, hB⟩ : ∃ B, B = w.heap.size := ⟨_, rfl⟩
  rw [← hB]
  have hBw := Lib.hid (Nat.le_of_eq hB)
  obtain ⟨j0, hj0e⟩ : ∃ j0, j0 = newJ ⟨pr, th, pe, de, fr, fl, ⟨P, n, cp⟩⟩ l := ⟨_, rfl⟩
  rw [← hj0e] at hj0 htwo
  unfold TaskV.val at hone htwo
  dsimp only at hone htwo
  clear hl hn hmax hf h80 hfl hj0e
  have hwc : IntKind.i64.wrap c = c := IntWalk.i64_in _ (by omega)
  have hwa : IntKind.i64.wrap a = a := IntWalk.i64_in _ (by omega)
  have hwd : IntKind.i64.wrap d = d := IntWalk.i64_in _ (by omega)
  have hwad : IntKind.i64.wrap (a + d) = a + d := IntWalk.i64_in _ (by omega)
  go_enter Try.func3, Try.ntmps3
  go_wp2_with fail
  refine (fixed17_any _).mono ?_
  rintro e w1 ⟨rfl, hb1⟩
  have h1 := Lib.hid (hO0.out.trans' (Only.of_new hb1 (fun _ => False)))
  have hT1 := Lib.hid (hT.out.new (Only.of_new hb1 (fun _ => False)))
  clear hb1
  rw [← hB] at hT1 ⊢
  have d0 := row_cell hT1.out (i := 0) rfl
  have d1 := row_cell hT1.out (i := 1) rfl
  have d2 := row_cell hT1.out (i := 2) rfl
  have d3 := row_cell hT1.out (i := 3) rfl
  have d4 := row_cell hT1.out (i := 4) rfl
  have d5 := row_cell hT1.out (i := 5) rfl
  have d6 := row_cell hT1.out (i := 6) rfl
  have hBl := row_lt hT1.out
  clear hB
  go_wp2_with fail
  refine (q.out _ h1.out).mono ?_
  rintro e w2 ⟨rfl, ho2⟩
  have h2 := Lib.hid (h1.out.trans' ho2)
  have hT2 := Lib.hid (hT1.out.new ho2)
  clear ho2 d0 d1 d2 d3 d4 d5 d6 q h1 hO0 hT hT1 hBl
  have d0 := row_cell hT2.out (i := 0) rfl
  have d1 := row_cell hT2.out (i := 1) rfl
  have d2 := row_cell hT2.out (i := 2) rfl
  have d3 := row_cell hT2.out (i := 3) rfl
  have d4 := row_cell hT2.out (i := 4) rfl
  have d5 := row_cell hT2.out (i := 5) rfl
  have d6 := row_cell hT2.out (i := 6) rfl
  have q1 := Lib.hid (hone.out w2 h2.out)
  have q2 := Lib.hid (htwo.out w2 h2.out)
  have hcells := Lib.hid (fun W (hW : Only (fun _ => False) w2 W) => show W.cell? ⟨B, 0, none⟩ = some (.int .i64 pr) ∧ W.cell? ⟨B, 1, none⟩ = some (.int .i64 th) ∧ W.cell? ⟨B, 2, none⟩ = some (.int .i64 pe) ∧ W.cell? ⟨B, 3, none⟩ = some (.int .i64 de) ∧ W.cell? ⟨B, 4, none⟩ = some (.int .i64 fr) ∧ W.cell? ⟨B, 5, none⟩ = some (.int .i64 fl) ∧ W.cell? ⟨B, 6, none⟩ = some (.slice P n cp) from ⟨hW.cell d0 (fun h => h), hW.cell d1 (fun h => h), hW.cell d2 (fun h => h), hW.cell d3 (fun h => h), hW.cell d4 (fun h => h), hW.cell d5 (fun h => h), hW.cell d6 (fun h => h)⟩)
  clear hone htwo
  go_upto_region 5 with fail
  go_region_held3 (fun W => W.cell? ⟨B, 0, none⟩ = some (.int .i64 pr) ∧ W.cell? ⟨B, 1, none⟩ = some (.int .i64 th) ∧ W.cell? ⟨B, 2, none⟩ = some (.int .i64 pe) ∧ W.cell? ⟨B, 3, none⟩ = some (.int .i64 de) ∧ W.cell? ⟨B, 4, none⟩ = some (.int .i64 fr) ∧ W.cell? ⟨B, 5, none⟩ = some (.int .i64 fl) ∧ W.cell? ⟨B, 6, none⟩ = some (.slice P n cp))
    (exact hcells.out _ (by repeat (first | assumption | exact Only.refl _ _ | apply Only.drew)))
    (first
      | (go_at_call 8; (with_reducible refine (q1.out _ (by repeat (first | assumption | exact Only.refl _ _ | apply Only.drew))).mono ?_); clear q1; rintro _ w6 ⟨bx, rfl, hone6⟩; have hone6' := Lib.hid hone6; obtain ⟨_, _, _, hO6⟩ := hone6)
      | (go_at_call 8; (with_reducible refine (q2.out _ _ hone6'.out _ (by repeat (first | assumption | exact Only.refl _ _ | apply Only.drew))).mono ?_); rintro _ w7 ⟨b2, rfl, hJ7, hO7⟩; have hJ7' := Lib.hid hJ7; clear hJ7))
  all_goals
    have hk0 := hj0.out
    have hs := Lib.hid (Nat.le_trans hBw.out h2.out.size)
    have h2' := Lib.hid h2.out
    clear hcells q2 hone6' hO6 hO7 d0 d1 d2 d3 d4 d5 d6 hj0 hT2
    have hcm : c ≤ 9223372036854775807 := by omega
    have hk1 := begT_ok hk0 hcm
    have y1 := Lib.hid (fun W (h : J2 w2 w2.heap.size bx j0 b2 j0 W) => h.begin hcm)
    have y2 := Lib.hid (fun W j1 (h : J2 w2 w2.heap.size bx j1 b2 j0 W) => h.swap.begin hcm)
    obtain ⟨v1, hv1⟩ : ∃ v1, v1 = (begT j0 c).2 := ⟨_, rfl⟩
    obtain ⟨j1, hj1⟩ : ∃ j1, j1 = (begT j0 c).1 := ⟨_, rfl⟩
    rw [← hj1] at hk1 y1 y2
    rw [← hv1] at y1 y2
    have hk2 := whT_ok hk1
    obtain ⟨v2, hv2⟩ : ∃ v2, v2 = (whT j1).2 := ⟨_, rfl⟩
    obtain ⟨j2, hj2⟩ : ∃ j2, j2 = (whT j1).1 := ⟨_, rfl⟩
    have z1 := Lib.hid (fun W (h : J2 w2 w2.heap.size bx j1 b2 j1 W) => h.withhold)
    have z2 := Lib.hid (fun W jx (h : J2 w2 w2.heap.size bx jx b2 j1 W) => h.swap.withhold)
    rw [← hj2] at hk2 z1 z2
    rw [← hv2] at z1 z2
    have hkk := Lib.hid (And.intro hk1 hk2)
    have hbnd := Lib.hid (And.intro ha hd)
    clear hk0 hk1 hk2 hv1 hj1 hv2 hj2 hcm
    have hend := Lib.hid (fun (j : Jb) (hk : j.Ok) => burn_parts hk ha.1 hd.1)
    have hle := Lib.hid (fun (j : Jb) (hk : j.Ok) (x : Int) => goneF_le hk x)
    clear hc ha hd
    go_wp2_with fail
    refine (y1.out _ hJ7'.out).mono ?_
    rintro e w8 ⟨rfl, hJ8⟩
    have q8 := Lib.hid (y2.out _ _ hJ8)
    clear y1 y2 hJ7' hJ8
    go_wp2_with fail
    refine q8.out.mono ?_
    rintro e w9 ⟨rfl, hJ9⟩
    have hJ9' := Lib.hid hJ9.swap
    clear q8 hJ9
    have hvv : (v1 != v1) = false := by simp
    have hvw : (v2 != v2) = false := by simp
    cases wh with
    | false =>
      clear z1 z2
      obtain ⟨jz, hjz⟩ : ∃ jz, jz = j1 := ⟨_, rfl⟩
      have hkz := Lib.hid (show jz.Ok by rw [hjz]; exact hkk.out.1)
      have hJz := Lib.hid (show J2 w2 w2.heap.size bx jz b2 jz _ by rw [hjz]; exact hJ9'.out)
      clear hJ9' hkk hjz
      obtain ⟨g1, hg1⟩ : ∃ g1, g1 = goneF jz a := ⟨_, rfl⟩
      obtain ⟨g2, hg2⟩ : ∃ g2, g2 = goneF (burnF jz a) d := ⟨_, rfl⟩
      obtain ⟨ja, hja⟩ : ∃ ja, ja = burnF jz a := ⟨_, rfl⟩
      obtain ⟨jb, hjb⟩ : ∃ jb, jb = burnF ja d := ⟨_, rfl⟩
      obtain ⟨e1, e2⟩ := hend.out jz hkz.out
      rw [← hja] at hg2
      rw [← hg1, ← hja, ← hg2] at e1
      rw [← hja, ← hjb] at e2
      have hgb : 0 ≤ g1 ∧ g1 ≤ 65535 ∧ 0 ≤ g2 ∧ g2 ≤ 65535 := by
        have := hbnd.out
        unfold goneF at hg1 hg2
        have b1 := hkz.out.r
        have b2' := (burnF_ok hkz.out a).r
        rw [← hja] at b2'
        omega
      have hwg : IntKind.i64.wrap (g1 + g2) = g1 + g2 := IntWalk.i64_in _ (by omega)
      have r1 := Lib.hid (hJz.out.burn a)
      rw [← hg1, ← hja] at r1
      have r2 := Lib.hid (fun W (h : J2 w2 w2.heap.size bx ja b2 jz W) => h.burn d)
      rw [← hg2, ← hjb] at r2
      have r3 := Lib.hid (fun W (h : J2 w2 w2.heap.size bx jb b2 jz W) => h.swap.burn (a + d))
      rw [← e1, ← e2] at r3
      clear hg1 hg2 hja hjb e1 e2 hJz hkz hend hle hbnd hgb
      go_wp2_with fail
      refine r1.out.mono ?_
      rintro e wa ⟨rfl, hJa⟩
      have r2' := Lib.hid (r2.out _ hJa)
      clear r1 r2 hJa
      go_wp2_with fail
      refine r2'.out.mono ?_
      rintro e wb ⟨rfl, hJb⟩
      have r3' := Lib.hid (r3.out _ hJb)
      clear r2' r3 hJb
      go_wp2_with fail
      refine r3'.out.mono ?_
      rintro e wc ⟨rfl, hJc⟩
      have l1 := Lib.hid hJc.swap.left
      clear r3' hJc
      go_wp2_with fail
      refine l1.out.mono ?_
      rintro e wd ⟨rfl, hJd⟩
      have l2 := Lib.hid hJd.swap.left
      clear l1 hJd
      go_wp2_with fail
      refine l2.out.mono ?_
      rintro e we ⟨rfl, hJe⟩
      have s1 := Lib.hid hJe.swap.jr.rest
      have s2 := Lib.hid hJe.jr.rest
      have s3 := Lib.hid hJe.swap.jr.at_
      have s4 := Lib.hid hJe.jr.at_
      have s5 := Lib.hid hJe.swap.over
      clear l2 hJe
      go_wp2_with fail
      refine s1.out.mono ?_
      rintro e w' ⟨rfl, rfl⟩
      go_wp2_with fail
      refine s2.out.mono ?_
      rintro e w' ⟨rfl, rfl⟩
      go_wp2_with fail
      refine s3.out.mono ?_
      rintro e w' ⟨rfl, rfl⟩
      go_wp2_with fail
      refine s4.out.mono ?_
      rintro e w' ⟨rfl, rfl⟩
      go_wp2_with fail
      refine s5.out.mono ?_
      rintro e wf ⟨rfl, hJf⟩
      have s6 := Lib.hid hJf.swap.over
      clear s1 s2 s3 s4 s5 hJf
      go_wp2_with fail
      refine s6.out.mono ?_
      rintro e wg ⟨rfl, hJg⟩
      have hO := Lib.hid hJg.only
      clear s6 hJg
      go_wp2
      go_ret
      exact ⟨by simp, (h2'.out.mono (fun _ _ h => h.elim)).trans' hO.out |>.below hBw.out (fun x hx => Nat.le_trans hs.out hx)⟩
    | true =>
      have q1 := Lib.hid (z1.out _ hJ9'.out)
      clear z1 hJ9'
      go_wp2_with fail
      refine q1.out.mono ?_
      rintro e wh1 ⟨rfl, hJh⟩
      have q2 := Lib.hid (z2.out _ _ hJh)
      clear q1 z2 hJh
      go_wp2_with fail
      refine q2.out.mono ?_
      rintro e wh2 ⟨rfl, hJk⟩
      have hJ9' := Lib.hid hJk.swap
      clear q2 hJk
      obtain ⟨jz, hjz⟩ : ∃ jz, jz = j2 := ⟨_, rfl⟩
      have hkz := Lib.hid (show jz.Ok by rw [hjz]; exact hkk.out.2)
      have hJz := Lib.hid (show J2 w2 w2.heap.size bx jz b2 jz _ by rw [hjz]; exact hJ9'.out)
      clear hJ9' hkk hjz
      obtain ⟨g1, hg1⟩ : ∃ g1, g1 = goneF jz a := ⟨_, rfl⟩
      obtain ⟨g2, hg2⟩ : ∃ g2, g2 = goneF (burnF jz a) d := ⟨_, rfl⟩
      obtain ⟨ja, hja⟩ : ∃ ja, ja = burnF jz a := ⟨_, rfl⟩
      obtain ⟨jb, hjb⟩ : ∃ jb, jb = burnF ja d := ⟨_, rfl⟩
      obtain ⟨e1, e2⟩ := hend.out jz hkz.out
      rw [← hja] at hg2
      rw [← hg1, ← hja, ← hg2] at e1
      rw [← hja, ← hjb] at e2
      have hgb : 0 ≤ g1 ∧ g1 ≤ 65535 ∧ 0 ≤ g2 ∧ g2 ≤ 65535 := by
        have := hbnd.out
        unfold goneF at hg1 hg2
        have b1 := hkz.out.r
        have b2' := (burnF_ok hkz.out a).r
        rw [← hja] at b2'
        omega
      have hwg : IntKind.i64.wrap (g1 + g2) = g1 + g2 := IntWalk.i64_in _ (by omega)
      have r1 := Lib.hid (hJz.out.burn a)
      rw [← hg1, ← hja] at r1
      have r2 := Lib.hid (fun W (h : J2 w2 w2.heap.size bx ja b2 jz W) => h.burn d)
      rw [← hg2, ← hjb] at r2
      have r3 := Lib.hid (fun W (h : J2 w2 w2.heap.size bx jb b2 jz W) => h.swap.burn (a + d))
      rw [← e1, ← e2] at r3
      clear hg1 hg2 hja hjb e1 e2 hJz hkz hend hle hbnd hgb
      go_wp2_with fail
      refine r1.out.mono ?_
      rintro e wa ⟨rfl, hJa⟩
      have r2' := Lib.hid (r2.out _ hJa)
      clear r1 r2 hJa
      go_wp2_with fail
      refine r2'.out.mono ?_
      rintro e wb ⟨rfl, hJb⟩
      have r3' := Lib.hid (r3.out _ hJb)
      clear r2' r3 hJb
      go_wp2_with fail
      refine r3'.out.mono ?_
      rintro e wc ⟨rfl, hJc⟩
      have l1 := Lib.hid hJc.swap.left
      clear r3' hJc
      go_wp2_with fail
      refine l1.out.mono ?_
      rintro e wd ⟨rfl, hJd⟩
      have l2 := Lib.hid hJd.swap.left
      clear l1 hJd
      go_wp2_with fail
      refine l2.out.mono ?_
      rintro e we ⟨rfl, hJe⟩
      have s1 := Lib.hid hJe.swap.jr.rest
      have s2 := Lib.hid hJe.jr.rest
      have s3 := Lib.hid hJe.swap.jr.at_
      have s4 := Lib.hid hJe.jr.at_
      have s5 := Lib.hid hJe.swap.over
      clear l2 hJe
      go_wp2_with fail
      refine s1.out.mono ?_
      rintro e w' ⟨rfl, rfl⟩
      go_wp2_with fail
      refine s2.out.mono ?_
      rintro e w' ⟨rfl, rfl⟩
      go_wp2_with fail
      refine s3.out.mono ?_
      rintro e w' ⟨rfl, rfl⟩
      go_wp2_with fail
      refine s4.out.mono ?_
      rintro e w' ⟨rfl, rfl⟩
      go_wp2_with fail
      refine s5.out.mono ?_
      rintro e wf ⟨rfl, hJf⟩
      have s6 := Lib.hid hJf.swap.over
      clear s1 s2 s3 s4 s5 hJf
      go_wp2_with fail
      refine s6.out.mono ?_
      rintro e wg ⟨rfl, hJg⟩
      have hO := Lib.hid hJg.only
      clear s6 hJg
      go_wp2
      go_ret
      exact ⟨by simp, (h2'.out.mono (fun _ _ h => h.elim)).trans' hO.out |>.below hBw.out (fun x hx => Nat.le_trans hs.out hx)⟩

theorem parts17 (x : TaskV × List Opn) (c a d : Int) (wh : Bool) (w : World) (h : OpnRow w x.1.o.A x.2 ∧ x.2.length = x.1.o.n ∧ x.1.o.n ≤ x.1.o.cap ∧ x.1.o.n ≤ 9223372036854775807 ∧ x.1.fl ≤ 9223372036854775807) (hc : (Lit.int .u16 c).wf = true) (ha : (Lit.int .u16 a).wf = true) (hd : (Lit.int .u16 d).wf = true) :
    Calls Try.prog 3 #[x.1.val, .int .u16 c, .int .u16 a, .int .u16 d, .bool wh] w fun e w' => e = .returned (.bool true) ∧ Below w.heap.size w w' := by
  cases hf : fewB x.2 with
  | false => exact parts_not h.1 h.2.1 h.2.2.2.1 hf c a d wh
  | true => exact parts_any h.1 h.2.1 h.2.2.2.1 h.2.2.2.2 hf c a d wh (bounds_u16 hc) (bounds_u16 ha) (bounds_u16 hd)
end Go.Proofs.Ytifpndjpijohfaa
