/- ReloadBounds' walk. -/
import Derived.Test.YteeleelkepjoaaaPure23
namespace Go.Proofs.Yteeleelkepjoaaa
namespace Rld
open Go Go.RowKit Rca Srt

def WfAll (w : World) (pl : Tks) : Prop := ∀ (i : Nat) t l, pl[i]? = some (t, l) → OpnRow w t.o.A l ∧ l.length = t.o.n ∧ t.o.n ≤ t.o.cap

set_option maxRecDepth 100000 in
set_option maxHeartbeats 16000000 in
theorem bounds23_any {w : World} {c : ConfV} {d : ConfL} {pl : Tks} (hC : ConfIn w c d pl) (b0 b3 : Nat) (hb0 : b0 ≤ 255) (hb3 : b3 ≤ 255) {A2 A4 : Option Addr} {n2 c2 n4 c4 : Nat} {us os : List Nat} (hu : NumRow .u8 w A2 n2 us 255) (hos : NumRow .u16 w A4 n4 os 65535) :
    Calls Try.prog 3 #[c.val, .int .u8 b0, .slice A2 n2 c2, .int .u8 b3, .slice A4 n4 c4] w (GrowB true w) := by
  have hO := (Only.refl (fun _ => False) w).alloc (.cells c.cells.toArray 27)
  have hB := heap_new_at w (.cells c.cells.toArray 27) rfl
  obtain ⟨W1, hW1⟩ : ∃ W1, W1 = w.alloc (.cells c.cells.toArray 27) := ⟨_, rfl⟩
  rw [← hW1] at hB hO
  have hB' := Lib.hid hB
  have hO' := Lib.hid hO
  have hCi := Lib.hid (fun W (h : Only (fun _ => False) w W) => hC.new h)
  have hfew := Lib.hid (fun W (h : Only (fun _ => False) w W) => (hC.new h).few)
  obtain ⟨F, hF⟩ : ∃ F, F = fewB c pl.ts := ⟨_, rfl⟩
  rw [← hF] at hfew
  have hchk := Lib.hid (fun W (h : Only (fun _ => False) w W) (hf : F = true) => rconfCheck_any ((hC.new h).conf (by rw [← hF]; exact hf)))
  obtain ⟨z, hz⟩ : ∃ z, z = confZ c d pl := ⟨_, rfl⟩
  rw [← hz] at hchk
  have hz' := Lib.hid hz
  have hu' := Lib.hid (fun W (h : Only (fun _ => False) w W) => hu.new h)
  have hos' := Lib.hid (fun W (h : Only (fun _ => False) w W) => hos.new h)
  have hlen' := Lib.hid (show pl.length = c.ta.n by have := hC.t.len; unfold Tks.ts at this; simpa using this)
  obtain ⟨q, hqq⟩ : ∃ q, q = w.heap.size := ⟨_, rfl⟩
  have hqq' := Lib.hid hqq
  rw [← hqq] at hB'
  -- what a configuration that may be gives
  have hfin := Lib.hid (fun (h0 : z = 0) => Fin0.of_zero (c := c) (d := d) (pl := pl) (by rw [← hz]; exact h0))
  have hrab := Lib.hid (fun W (h : Only (fun _ => False) w W) (h1 : c.ta.n ≤ 1000000) (i : Nat) (ti : TaskV) (hi : pl.ts[i]? = some ti) => rabove_any (hC.new h).t h1 hi)
  have hbnd := Lib.hid (fun W (h : Only (fun _ => False) w W) (S : Nat) (hs : c.s = (S : Int)) (hf : Fin0.Fine c d pl) (i : Nat) (t : TaskV) (l : List Opn) (hi : pl[i]? = some (t, l)) =>
    show Calls Try.prog 13 #[c.val, .int .i64 (i : Int)] W (AnsI (bndZ c pl S t.th l) W) from by
      have hm := hf.machine
      have hk := hf.counts
      refine bound_any ⟨hs, by omega, by omega, by omega, (hC.new h).t, ⟨fun i t l ht => ?_⟩, fun i t l ht o ho hk2 => ?_⟩ (by omega) (by omega) hi
      · have hx := (hC.new h).p i t l ht
        have hlt : i < c.ta.n := by rw [← hlen'.out]; exact (List.getElem?_eq_some_iff.1 ht).1
        have hy := hf.prog hlt ht
        exact ⟨hx.1, hx.2.1, by omega, hx.2.2⟩
      · have hlt : i < c.ta.n := by rw [← hlen'.out]; exact (List.getElem?_eq_some_iff.1 ht).1
        exact Fin0.acc_in ((hf.prog hlt ht).2.2 o ho) hk2)
  have hbz := Lib.hid (fun (S : Nat) (t : TaskV) (l : List Opn) => show bndZ c pl S t.th l = bndU c.wy (touB S pl (aboU pl.ts t.th c.ta.n)) (loadS S l) S from rfl)
  clear hO hB hqq hC hu hos hz
  rw [show c.val = .agg #[.int .i64 c.s, .int .i64 c.wy, .int .i64 c.h, .int .i64 c.mi, .slice c.mb.A c.mb.n c.mb.cap, .int .i64 c.g, .slice c.cn.A c.cn.n c.cn.cap, .slice c.ce.A c.ce.n c.ce.cap, .slice c.ta.A c.ta.n c.ta.cap, .slice c.li.A c.li.n c.li.cap] from rfl] at hchk hrab hbnd ⊢
  unfold ConfV.cells at hW1 hB'
  obtain ⟨s, wy, h, mi, ⟨mA, mn, mc⟩, g, ⟨cA, cn, cc⟩, ⟨eA, en, ec⟩, ⟨tA, tn, tc⟩, ⟨lA, ln, lc⟩⟩ := c
  dsimp only at *
  have hW1' := Lib.hid hW1
  clear hW1
  go_enter Try.func3, Try.ntmps3
  go_wp2_with fail
  rw [← hqq'.out, ← hW1'.out]
  go_wp2_with fail
  refine (fixed23_any _).mono ?_
  rintro e w2 ⟨rfl, hO2⟩
  have hO2' := Lib.hid (hO'.out.trans' hO2)
  have hB2 := Lib.hid (hO2.heap hB'.out (fun h => h))
  clear hO2 hO' hB' hW1'
  have e0 := row_cell hB2.out (i := 0) rfl
  have e1 := row_cell hB2.out (i := 1) rfl
  have e2 := row_cell hB2.out (i := 2) rfl
  have e3 := row_cell hB2.out (i := 3) rfl
  have e4 := row_cell hB2.out (i := 4) rfl
  have e5 := row_cell hB2.out (i := 5) rfl
  have e6 := row_cell hB2.out (i := 6) rfl
  have e7 := row_cell hB2.out (i := 7) rfl
  have e8 := row_cell hB2.out (i := 8) rfl
  have e9 := row_cell hB2.out (i := 9) rfl
  have hqlt := row_lt hB2.out
  go_wp2_with fail
  refine (hfew.out _ hO2'.out).mono ?_
  rintro e w3 ⟨rfl, hO3⟩
  have hO3' := Lib.hid (hO2'.out.trans' hO3)
  have hB3 := Lib.hid (hO3.heap hB2.out (fun h => h))
  have hF' := Lib.hid hF
  clear hO3 hO2' hB2 e0 e1 e2 e3 e4 e5 e6 e7 e8 e9 hqlt hfew hF
  cases F
  · go_wp2
    go_ret
    exact ⟨rfl, hO3'.out⟩
  have e0 := row_cell hB3.out (i := 0) rfl
  have e1 := row_cell hB3.out (i := 1) rfl
  have e2 := row_cell hB3.out (i := 2) rfl
  have e3 := row_cell hB3.out (i := 3) rfl
  have e4 := row_cell hB3.out (i := 4) rfl
  have e5 := row_cell hB3.out (i := 5) rfl
  have e6 := row_cell hB3.out (i := 6) rfl
  have e7 := row_cell hB3.out (i := 7) rfl
  have e8 := row_cell hB3.out (i := 8) rfl
  have e9 := row_cell hB3.out (i := 9) rfl
  have hqlt := row_lt hB3.out
  go_wp2_with fail
  refine (hchk.out _ hO3'.out (by first | trivial | rfl)).mono ?_
  rintro e w4 ⟨rfl, hO4⟩
  have hO4' := Lib.hid (hO3'.out.trans' hO4)
  have hB4 := Lib.hid (hO4.heap hB3.out (fun h => h))
  clear hO4 hO3' hB3 e0 e1 e2 e3 e4 e5 e6 e7 e8 e9 hqlt hchk
  by_cases hz0 : z = 0
  case neg =>
    have hz1 : (z != 0) = true := bne_iff_ne.2 hz0
    clear hz0
    go_wp2
    go_ret
    exact ⟨rfl, hO4'.out⟩
  have hz1 : (z != 0) = false := by simp [hz0]
  by_cases h60 : 60 < n2
  · have h60' : (60 : Int) < (n2 : Int) := by omega
    clear hz0
    go_wp2
    go_ret
    exact ⟨rfl, hO4'.out⟩
  have h60' : ¬ (60 : Int) < (n2 : Int) := by omega
  by_cases h61 : 60 < n4
  · have h61' : (60 : Int) < (n4 : Int) := by omega
    clear hz0
    go_wp2
    go_ret
    exact ⟨rfl, hO4'.out⟩
  have h61' : ¬ (60 : Int) < (n4 : Int) := by omega
  have hfine := Lib.hid (hfin.out hz0)
  clear hz0 hfin hz'
  have hm := hfine.out.machine
  have hk := hfine.out.counts
  have hn0 := hfine.out.n0
  dsimp only at hm hk hn0
  obtain ⟨⟨hs1, hs2⟩, ⟨hw1, hw2⟩, -, -⟩ := hm
  obtain ⟨-, -, -, -, hn8, -⟩ := hk
  obtain ⟨S, hS⟩ : ∃ S : Nat, s = (S : Int) := ⟨s.toNat, by omega⟩
  subst hS
  obtain ⟨Wy, hWy⟩ : ∃ Wy : Nat, wy = (Wy : Int) := ⟨wy.toNat, by omega⟩
  subst hWy
  obtain ⟨i, hi⟩ : ∃ i, i = b0 % tn := ⟨_, rfl⟩
  have hitn : i < tn := by rw [hi]; exact Nat.mod_lt _ hn0
  have hrem : (b0 : Int) % (tn : Int) = (i : Int) := by omega
  obtain ⟨⟨t, l⟩, hpi⟩ : ∃ x, pl[i]? = some x := ⟨_, List.getElem?_eq_getElem (by have := hlen'.out; omega)⟩
  have hprog := Lib.hid (fun (j : Nat) t l (h : pl[j]? = some (t, l)) => show l.length ≤ 64 ∧ accOk l from by
    have hlt : j < tn := by have := hlen'.out; rw [← this]; exact (List.getElem?_eq_some_iff.1 h).1
    have hy := hfine.out.prog hlt h
    exact ⟨hy.2.1, fun o ho hk2 => Fin0.acc_in (hy.2.2 o ho) hk2⟩)
  have hpi' := Lib.hid hpi
  obtain ⟨hpA, hpn, hpc⟩ := (hCi.out _ hO4'.out).p i t l hpi
  have hl64 := (hprog.out i t l hpi).1
  have hl00 := Lib.hid (hfine.out.prog hitn hpi).1
  have hrow4 := Lib.hid hpA
  obtain ⟨tb, toff, htA, htb, htC⟩ := (hCi.out _ hO4'.out).t.at_ i t (ts_some hpi)
  subst htA
  have t6 := htC.c6
  have e0 := row_cell hB4.out (i := 0) rfl
  have e1 := row_cell hB4.out (i := 1) rfl
  have e2 := row_cell hB4.out (i := 2) rfl
  have e3 := row_cell hB4.out (i := 3) rfl
  have e4 := row_cell hB4.out (i := 4) rfl
  have e5 := row_cell hB4.out (i := 5) rfl
  have e6 := row_cell hB4.out (i := 6) rfl
  have e7 := row_cell hB4.out (i := 7) rfl
  have e8 := row_cell hB4.out (i := 8) rfl
  have e9 := row_cell hB4.out (i := 9) rfl
  have hqlt := row_lt hB4.out
  have hrab2 := Lib.hid (fun W (h : Only (fun _ => False) w W) => hrab.out W h (by omega) i t (ts_some hpi))
  have hbnd2 := Lib.hid (fun W (h : Only (fun _ => False) w W) => hbnd.out W h S rfl hfine.out i t l hpi)
  rw [hbz.out S t l] at hbnd2
  have hth : ∃ th, th = t.th := ⟨_, rfl⟩
  obtain ⟨th, hth⟩ := hth
  rw [← hth] at hrab2 hbnd2
  clear hi hpi hpA htC hth hrab hbnd hbz
  obtain ⟨tp, tth, tpe, tde, tfr, tfl, ⟨oA, on, oc⟩⟩ := t
  dsimp only at *
  obtain ⟨cut, hcut⟩ : ∃ cut, cut = b3 % (on + 1) := ⟨_, rfl⟩
  have hcutn : cut ≤ on := by have := Nat.mod_lt b3 (show 0 < on + 1 by omega); omega
  have hrem2 : (b3 : Int) % ((on : Int) + 1) = (cut : Int) := by rw [hcut]; simp
  have hitn' : (i : Int) < (tn : Int) := by omega
  have htn0 : (tn : Int) ≠ 0 := by omega
  have hon0 : (on : Int) + 1 ≠ 0 := by omega
  have hon2 : (on : Int) ≤ 64 := by omega
  clear hcut
  go_wp2_with fail
  refine (hrab2.out _ hO4'.out).mono ?_
  rintro e w5 ⟨p5, c5, h5, rfl, hW5, hf5, hO5⟩
  have hO5' := Lib.hid (hO4'.out.trans' hO5)
  have hB5 := Lib.hid (hO5.heap hB4.out (fun h => h))
  have hr5 := Lib.hid (hrow4.out.new hO5)
  have hw5 := Lib.hid hO5.size
  obtain ⟨AL, hAL⟩ : ∃ AL, AL = aboU pl.ts th tn := ⟨_, rfl⟩
  rw [← hAL] at hW5 hbnd2 ⊢
  have hALm : ∀ j ∈ AL, j < tn := by intro j hj; rw [hAL] at hj; exact (aboU_mem.1 hj).1
  have hALl : AL.length ≤ tn := by rw [hAL]; exact aboU_len _ _ _
  obtain ⟨na, hna⟩ : ∃ na, na = AL.length := ⟨_, rfl⟩
  rw [← hna] at hW5 hALl ⊢
  have hna' := Lib.hid hna
  have hALm' := Lib.hid hALm
  have hW5' := Lib.hid hW5
  clear e0 e1 e2 e3 e4 e5 e6 e7 e8 e9 hqlt hO5 hrab2 hAL hna hALm hW5 hf5 hrow4 hB4 hO4' t6 htb
  go_wp2
  go_loopw [14, 69] (fun v i' wr => ∃ (k m : Nat) (p : Option Addr) (cp : Nat) (hh : Option Nat), k ≤ na ∧ m ≤ 64 * k ∧ i' = .int .i64 k ∧ v = .slice p m cp ∧ m = (blkU pl AL k).length ∧ Win wr 3 1 (.slice p m cp) hh m (dat (blkU pl AL k)) ∧ (∀ b, hh = some b → w5.heap.size ≤ b) ∧ Only (fun _ => False) w5 wr) (fun _ i' _ => na - (intOf i').toNat)
  case atStart => exact ⟨0, 0, none, 0, none, Nat.zero_le _, Nat.zero_le _, rfl, rfl, rfl, Win.nil _ _ _, (fun b hb => by cases hb), Only.refl _ _⟩
  case round =>
    obtain ⟨k, m, p, cp, hh, hk, hmk, rfl, rfl, hml, hW, hf, hO⟩ := hrel
    obtain ⟨ws, hws⟩ : ∃ ws : World, ws = wr := ⟨_, rfl⟩
    subst hws
    have hW' := Lib.hid hW
    have hf' := Lib.hid hf
    have hOs := Lib.hid hO
    have hml' := Lib.hid hml
    have hBs := Lib.hid (hO.heap hB5.out (fun h => h))
    have e8 := row_cell hBs.out (i := 8) rfl
    have hqlt := row_lt hBs.out
    have hOw := Lib.hid (hO5'.out.trans' hO)
    clear hW hf hO hml
    by_cases hkn : k < na
    · have hkn' : (k : Int) < (na : Int) := by omega
      obtain ⟨j, hj⟩ : ∃ j, AL[k]? = some j := ⟨_, List.getElem?_eq_getElem (by have := hna'.out; omega)⟩
      have hjt := hALm'.out j (List.mem_of_getElem? hj)
      have hjt' : (j : Int) < (tn : Int) := by omega
      obtain ⟨⟨u, lj⟩, hpj⟩ : ∃ x, pl[j]? = some x := ⟨_, List.getElem?_eq_getElem (by have := hlen'.out; omega)⟩
      obtain ⟨g2, goff2, capp2, _, hv2, _, _, hgl2, hgc2, _⟩ := (hW5'.out.kept hOs.out (fun _ _ h => h)).at_ (by omega)
      cases hv2
      have g1 := hgc2 k _ (dat_at hj)
      obtain ⟨ub, uoff, huA, hub, huC⟩ := (hCi.out _ hOw.out).t.at_ j u (ts_some hpj)
      cases huA
      have u6 := huC.c6
      obtain ⟨hqA, hqn, hqc⟩ := (hCi.out _ hOw.out).p j u lj hpj
      obtain ⟨hl9, hok9⟩ := hprog.out j u lj hpj
      have hsu := Lib.hid (blkU_succ (pl := pl) hj)
      rw [progA_some hpj] at hsu
      have hqA' := Lib.hid hqA
      have hqn' := Lib.hid hqn
      have hok9' := Lib.hid hok9
      have hpos := Lib.hid (fun (y : Nat) => accN_take_len lj y)
      have hpj' := Lib.hid hpj
      clear hgc2 hj hpj huC hqA hok9
      obtain ⟨up, uth, upe, ude, ufr, ufl, ⟨vA, vn, vc⟩⟩ := u
      dsimp only at *
      have hvn : vn ≤ 64 := by have := hqn'.out; omega
      go_wp2
      go_loopw [14, 80] (fun v i' wq => ∃ (y m2 : Nat) (p2 : Option Addr) (cp2 : Nat) (hh2 : Option Nat), y ≤ vn ∧ m2 ≤ m + y ∧ i' = .int .i64 y ∧ v = .slice p2 m2 cp2 ∧ m2 = (blkU pl AL k ++ accN (lj.take y)).length ∧ Win wq 3 1 (.slice p2 m2 cp2) hh2 m2 (dat (blkU pl AL k ++ accN (lj.take y))) ∧ (∀ b, hh2 = some b → w5.heap.size ≤ b) ∧ Only (fun _ => False) w5 wq) (fun _ i' _ => vn - (intOf i').toNat)
      case atStart => exact ⟨0, m, p, cp, hh, Nat.zero_le _, Nat.le_refl _, rfl, rfl, by simp [accN]; exact hml'.out, by simpa [accN] using hW'.out, hf'.out, hOs.out⟩
      case round =>
        obtain ⟨y, m2, p2, cp2, hh2, hy, hm2y, rfl, rfl, hm2, hWq, hfq, hOq⟩ := hrel
        obtain ⟨wo, hwo⟩ : ∃ wo : World, wo = wr := ⟨_, rfl⟩
        subst hwo
        have hWq' := Lib.hid hWq
        have hfq' := Lib.hid hfq
        have hOq' := Lib.hid hOq
        have hm2' := Lib.hid hm2
        clear hWq hfq hOq hm2 e8 hqlt
        by_cases hyn : y < vn
        · have hyn' : (y : Int) < (vn : Int) := by omega
          obtain ⟨o, ho⟩ : ∃ o, lj[y]? = some o := ⟨_, List.getElem?_eq_getElem (by have := hqn'.out; omega)⟩
          obtain ⟨vb, voff, hvA, hvb, c0, c1, c2⟩ := ((hCi.out _ (hO5'.out.trans' hOq'.out)).p j _ lj (hpj'.out)).1 y o ho
          dsimp only at hvA
          subst hvA
          have hsy := accN_succ ho
          have hko := hok9'.out o (List.mem_of_getElem? ho)
          have hps := hpos.out y
          obtain ⟨ok, oa, ob⟩ := o
          dsimp only at c0 c1 c2 hsy hko
          have hOa := Lib.hid ((Only.refl (fun _ => False) wo).alloc (.cells #[.int .i64 ok, .int .i64 oa, .int .i64 ob] 39))
          have hWa := Lib.hid (hWq'.out.kept hOa.out (fun _ _ h => h))
          clear ho
          by_cases h2 : ok = 2
          · subst h2
            obtain ⟨r1, r2⟩ := hko rfl
            obtain ⟨x, hx⟩ : ∃ x : Nat, oa = (x : Int) := ⟨oa.toNat, by omega⟩
            subst hx
            rw [if_pos rfl, Int.toNat_natCast] at hsy
            have hsy' := Lib.hid hsy
            clear hsy hko r1 r2
            go_wp2_with (at_builtin; go_loud (refine wpList_append_win rfl _ _ 24 rfl 3 (Value.int .i64 0) 1 8 Try.underlying24 info3 rfl (by decide) rfl (hWa.out.kept ((Only.refl (fun _ => False) _).alloc _) (fun _ _ h => h)) _ 1 1 rfl [.int .i64 (x : Int)] rfl (fun _ => ⟨_, rfl, row_one (heap_new_at _ _ (by simp))⟩) (by simp [Value.oneCell']) (by unfold maxLen; omega) (by omega) ?_; intro v4 w6 h4 hW4 hO6' hh4; obtain ⟨p4, c4', rfl, _, _⟩ := hW4.out.form))
            go_roundw
            case rel =>
              have hassoc : blkU pl AL k ++ accN (lj.take (y + 1)) = blkU pl AL k ++ accN (lj.take y) ++ [x] := by rw [hsy'.out, List.append_assoc]
              refine ⟨y + 1, m2 + 1, p4, c4', h4, by omega, by omega, by go_num, rfl, ?_, ?_, fun b hb => ?_, ?_⟩
              · rw [hassoc, List.length_append, ← hm2'.out]; rfl
              · rw [hassoc]
                have := hW4.out
                rw [show [Value.int .i64 (x : Int)] = dat [x] from rfl, dat_append] at this
                exact this
              · rcases hh4.out with rfl | ⟨g5, hg5, hge5⟩
                · exact hfq'.out b hb
                · rw [hg5] at hb
                  cases hb
                  have := hOq'.out.size
                  rw [alloc_size, alloc_size] at hge5
                  omega
              · exact ((hOq'.out.trans' hOa.out).alloc _).trans hO6'.out (fun x hx e => by have := hfq'.out x e.symm; omega)
            case measure => simp [intOf]; omega
          · rw [if_neg h2, List.append_nil] at hsy
            have h2' : (ok == 2) = false := beq_eq_false_iff_ne.2 h2
            have hsy' := Lib.hid hsy
            clear h2 hsy hko
            go_wp2
            go_roundw
            case rel => exact ⟨y + 1, m2, p2, cp2, hh2, by omega, by omega, by go_num, rfl, by rw [hsy'.out]; exact hm2'.out, by rw [hsy'.out]; exact hWa.out, hfq'.out, hOq'.out.trans' hOa.out⟩
            case measure => simp [intOf]; omega
        · obtain rfl : y = vn := by omega
          have hyn' : ¬ (y : Int) < (y : Int) := by omega
          have hend1 := Lib.hid (show blkU pl AL (k + 1) = blkU pl AL k ++ accN (lj.take y) by rw [hsu.out, ← hqn'.out, List.take_length])
          go_wp2
          go_roundw
          case rel => exact ⟨k + 1, m2, p2, cp2, hh2, by omega, by omega, by go_num, rfl, by rw [hend1.out]; exact hm2'.out, by rw [hend1.out]; exact hWq'.out, hfq'.out, hOq'.out⟩
          case measure => simp [intOf]; omega
    · obtain rfl : k = na := by omega
      have hkn' : ¬ (k : Int) < (k : Int) := by omega
      have hbl : blkU pl AL k = AL.flatMap (progA pl) := by unfold blkU; rw [hna'.out, List.take_length]
      rw [hbl] at hW' hml'
      obtain ⟨BL, hBL⟩ : ∃ BL, BL = AL.flatMap (progA pl) := ⟨_, rfl⟩
      rw [← hBL] at hW' hml'
      have hB255 : ∀ x ∈ BL, x ≤ 255 := by
        intro x hx
        rw [hBL] at hx
        obtain ⟨j, hj, hxj⟩ := List.mem_flatMap.1 hx
        obtain ⟨⟨u, lj⟩, hpj⟩ : ∃ x, pl[j]? = some x := ⟨_, List.getElem?_eq_getElem (by have := hALm'.out j hj; have := hlen'.out; omega)⟩
        rw [progA_some hpj, accN_mem] at hxj
        obtain ⟨o, ho, hk2, rfl⟩ := hxj
        have := (hprog.out j u lj hpj).2 o ho hk2
        omega
      have hBL' := Lib.hid hBL
      have hB255' := Lib.hid hB255
      have hl64' := Lib.hid hl64
      have hrs := Lib.hid (hr5.out.new hOs.out)
      have hbnd3 := Lib.hid (fun W (h : Only (fun _ => False) w W) => hbnd2.out W h)
      have hpu := Lib.hid (fun (U O : List Nat) (h : ∀ x ∈ O, x ∈ AL.flatMap (progA pl)) => law_pure (W := Wy) (S := S) (by omega) (pl := pl) (AL := AL) (U := U) (O := O) (l := l) cut h)
      rw [← hBL] at hpu
      have hlok := Lib.hid ((hprog.out i _ l hpi'.out).2)
      obtain ⟨BZ, hBZ⟩ : ∃ BZ, BZ = bndU (Wy : Int) (touB S pl AL) (loadS S l) S := ⟨_, rfl⟩
      rw [← hBZ] at hbnd3 hpu
      have hBZ9 : 0 ≤ BZ ∧ BZ ≤ 16000 := by
        have := bndU_bound (T := touB S pl AL) (L := loadS S l) (W := (Wy : Int)) (by omega) (by omega) (k := S)
        rw [← hBZ] at this
        omega
      obtain ⟨hBZ1, hBZ2⟩ := hBZ9
      have us' := Lib.hid (hu'.out ws hOw.out)
      have os' := Lib.hid (hos'.out ws hOw.out)
      have hOfin := Lib.hid (fun W (h : Only (fun k => ws.heap.size ≤ k) ws W) => show Only (fun _ => False) w W from hOw.out.trans h (fun x hx hk => by have := hOw.out.size; omega))
      have e0 := row_cell hBs.out (i := 0) rfl
      have e1 := row_cell hBs.out (i := 1) rfl
      have hqs := row_lt hBs.out
      clear hbl hBL hB255 hl64 hr5 hbnd2 hprog hpi' hCi hlen' hfine hu' hos' hBZ hALm' hna' hW5' hO5' hB5 hw5 hf' hk hkn' hmk
      obtain ⟨pb, poff, hpA, hpb⟩ : ∃ pb poff, oA = some ⟨pb, poff, none⟩ ∧ pb < ws.heap.size := by
        obtain ⟨o, ho⟩ : ∃ o, l[0]? = some o := ⟨_, List.getElem?_eq_getElem hl00.out⟩
        obtain ⟨pb, poff, e1, e2, _⟩ := hrs.out 0 o ho
        exact ⟨pb, poff, e1, e2⟩
      subst hpA
      have hpn' := Lib.hid hpn
      clear hpn hl00
      obtain ⟨X1, hX1⟩ : ∃ X1, X1 = ws.heap.size := ⟨_, rfl⟩
      have hX1' := Lib.hid hX1
      clear hX1
      go_wp2
      rw [← hX1'.out]
      generalize hwx : ws.alloc (.cells #[.int .i64 (S : Int), .int .i64 (Wy : Int), .slice none 0 0] 42) = wx
      have hR0 := Lib.hid (show RC wx X1 S Wy none [] from ⟨none, 0, by rw [← hwx]; exact heap_new_at _ _ hX1'.out.symm, Win.nil _ _ _⟩)
      have hOx := Lib.hid (show Only (fun _ => False) ws wx by rw [← hwx]; exact (Only.refl _ _).alloc _)
      clear hwx e8 e0 e1
      have hBx := Lib.hid (hOx.out.heap hBs.out (fun h => h))
      have hge := Lib.hid (fun (W W' : World) (b : Nat) (h : Only (fun k => ws.heap.size ≤ k) ws W) (hb : ws.heap.size ≤ b) (ho : Only (fun k => k = b) W W') => show Only (fun k => ws.heap.size ≤ k) ws W' from h.trans ho (fun x hx e => by omega))
      go_loopw [104] (fun i' wr => ∃ k2 : Nat, k2 ≤ n2 ∧ i' = .int .i64 k2 ∧ (∃ h', RC wr X1 S Wy h' (us.take k2)) ∧ Only (fun k => ws.heap.size ≤ k) ws wr) (fun i' _ => n2 - (intOf i').toNat)
      case atStart => exact ⟨0, Nat.zero_le _, rfl, ⟨none, by simpa using hR0.out⟩, hOx.out.mono (fun _ _ h => h.elim)⟩
      case round =>
        obtain ⟨k2, hk2, rfl, ⟨h', hR⟩, hOr⟩ := hrel
        obtain ⟨wr', hwr⟩ : ∃ wr' : World, wr' = wr := ⟨_, rfl⟩
        subst hwr
        have hR' := Lib.hid hR
        have hOr' := Lib.hid hOr
        clear hR hOr
        by_cases hk2n : k2 < n2
        · have hk2n' : (k2 : Int) < (n2 : Int) := by omega
          obtain ⟨x, hx⟩ : ∃ x, us[k2]? = some x := ⟨_, List.getElem?_eq_getElem (by have := us'.out.len; omega)⟩
          obtain ⟨ug, uo, huA, hug, huc⟩ := us'.out.row k2 x hx
          subst huA
          have uc := hOr'.out.cell huc (by simp; omega)
          have hug' := Lib.hid (Nat.lt_of_lt_of_le hug hOr'.out.size)
          have hug2 := hug'.out
          have hx9 := us'.out.top x (List.mem_of_getElem? hx)
          have hacc := Lib.hid (fun (h : (us.take k2).length ≤ 1000000) => access_any hR'.out (by omega) h (by omega) x hx9)
          have htk := Lib.hid (show us.take (k2 + 1) = us.take k2 ++ [x] by rw [List.take_add_one, hx]; rfl)
          have hx0 : (0 : Int) ≤ (x : Int) := by omega
          clear hug huc hx
          go_wp2_with fail
          refine (hacc.out (by rw [List.length_take]; omega)).mono ?_
          rintro e wa ⟨rfl, h2, hRa, hOa, _⟩
          have hRa' := Lib.hid (show RC wa X1 S Wy h2 (us.take (k2 + 1)) by rw [htk.out]; exact hRa)
          have hOa' := Lib.hid (hge.out _ _ _ hOr'.out (by have := hX1'.out; omega) hOa)
          clear hRa hOa hacc uc hug2
          go_wp2
          go_roundw
          case rel => exact ⟨k2 + 1, by omega, by go_num, ⟨h2, hRa'.out⟩, hOa'.out⟩
          case measure => simp [intOf]; omega
        · obtain rfl : k2 = n2 := by omega
          have hk2n' : ¬ (k2 : Int) < (k2 : Int) := by omega
          have htk : us.take k2 = us := by rw [← us'.out.len, List.take_length]
          rw [htk] at hR'
          have hul := Lib.hid us'.out.len
          go_wp2_with fail
          refine (twin_any hR'.out (by have := hul.out; omega)).mono ?_
          rintro e wt ⟨X2, h2, rfl, hR2, hOt, hX2, hh2⟩
          have hRt := Lib.hid hR2
          have hR1 := Lib.hid (hR'.out.new hOt)
          have hOt' := Lib.hid (show Only (fun k => ws.heap.size ≤ k) ws wt from hOr'.out.trans hOt (fun _ _ h => h.elim))
          have hX2' := Lib.hid (show X1 < X2 ∧ ws.heap.size ≤ X2 by have := hR'.out.lt.1; have := hX1'.out; omega)
          clear hR2 hOt hX2 hh2 hR' hOr' htk
          have hrp := Lib.hid (fun W (h : Only (fun k => ws.heap.size ≤ k) ws W) => show OpnRow W (some ⟨pb, poff, none⟩) l from fun k o ho => by
            obtain ⟨b, off, e, hb, c0, c1, c2⟩ := hrs.out k o ho
            exact ⟨b, off, e, Nat.lt_of_lt_of_le hb h.size, h.cell c0 (by simp; omega), h.cell c1 (by simp; omega), h.cell c2 (by simp; omega)⟩)
          have hm1 := Lib.hid (misses_any (cap := oc) (hrp.out _ hOt'.out) hpn'.out (by omega) hlok.out hR1.out (by intro b off e; cases e; have := hX1'.out; omega) (by omega) (by have := hul.out; omega) (by omega))
          obtain ⟨M0, hM0⟩ : ∃ M0, M0 = Lru.missN S Wy us.reverse (accN l) := ⟨_, rfl⟩
          have hM0' := Lib.hid hM0
          clear hM0
          go_wp2_with fail
          refine hm1.out.mono ?_
          rintro e wa ⟨rfl, ⟨h3, hR3⟩, hO3⟩
          rw [← hM0'.out]
          have hM09 : M0 ≤ 64 := by
            rw [hM0'.out]
            have h1 := missN_le S Wy (accN l) us.reverse
            have h2 := accN_len l
            have h3 := hl64'.out
            omega
          have hR2a := Lib.hid (RC.other hRt.out hR1.out (by have := hX2'.out; omega) hO3)
          have hOa := Lib.hid (hge.out _ _ _ hOt'.out (by have := hX1'.out; omega) hO3)
          clear hR3 hO3 hm1 hRt hR1 hOt'
          obtain ⟨l1, hl1⟩ : ∃ l1, l1 = l.take cut := ⟨_, rfl⟩
          obtain ⟨l2, hl2⟩ : ∃ l2, l2 = l.drop cut := ⟨_, rfl⟩
          have hl1n : l1.length = cut := by rw [hl1, List.length_take]; have := hpn'.out; omega
          have hl2n : l2.length = on - cut := by rw [hl2, List.length_drop]; have := hpn'.out; omega
          have hok1 : accOk l1 := fun o ho => hlok.out o (by rw [hl1] at ho; exact List.mem_of_mem_take ho)
          have hok2 : accOk l2 := fun o ho => hlok.out o (by rw [hl2] at ho; exact List.mem_of_mem_drop ho)
          have hok2' := Lib.hid hok2
          have hpu2 := fun (O : List Nat) (h : ∀ x ∈ O, x ∈ BL) => hpu.out us O h
          rw [← hl1, ← hl2, ← hM0'.out] at hpu2
          clear hpu
          have hm2 := Lib.hid (misses_any (cap := oc) (by rw [hl1]; exact OpnRow.take (hrp.out _ hOa.out) cut) hl1n (by omega) hok1 hR2a.out (by intro b off e; cases e; have := hX2'.out; have := hX1'.out; omega) (by omega) (by have := hul.out; omega) (by omega))
          obtain ⟨M1, hM1⟩ : ∃ M1, M1 = Lru.missN S Wy us.reverse (accN l1) := ⟨_, rfl⟩
          have hM19 : M1 ≤ 64 := by
            rw [hM1]
            have h1 := missN_le S Wy (accN l1) us.reverse
            have h2 := accN_len l1
            have h3 := hpn'.out
            omega
          rw [← hM1] at hpu2
          have hpu' := Lib.hid hpu2
          clear hpu2
          have hM1' := Lib.hid hM1
          have hacl := Lib.hid (show (us ++ accN l1).length ≤ 124 by
            rw [List.length_append]
            have h2 := accN_len l1
            have := hul.out
            omega)
          have hcut1 : (cut : Int) ≤ (on : Int) := by omega
          have hcut2 : (cut : Int) ≤ (oc : Int) := by omega
          have hcut0 : (0 : Int) ≤ (cut : Int) := by omega
          have hl2n' := Lib.hid hl2n
          have hl2' := Lib.hid hl2
          clear hM1 hok1 hok2 hl1n hl1 hl2n hl2
          go_wp2_with fail
          refine hm2.out.mono ?_
          rintro e wb ⟨rfl, ⟨h4, hR4⟩, hO4⟩
          rw [← hM1'.out]
          have hR4' := Lib.hid hR4
          have hOb := Lib.hid (hge.out _ _ _ hOa.out (by have := hX2'.out; omega) hO4)
          have hml2 := Lib.hid (hW'.out.lt)
          have hWb := Lib.hid (hW'.out.kept hOb.out (fun g hg e => by have := hml2.out g hg; omega))
          clear hR4 hO4 hm2 hOa hR2a
          obtain ⟨K9, hK9⟩ : ∃ K9 : World → List Nat → Prop, K9 = fun W O => (∀ x ∈ O, x ∈ BL) ∧ O.length ≤ 60 ∧ (∃ h', RC W X2 S Wy h' (us ++ accN l1 ++ O)) ∧ Only (fun k => ws.heap.size ≤ k) ws W := ⟨_, rfl⟩
          have hK9' := Lib.hid hK9
          go_upto_if 125 with fail
          obtain ⟨Bm, hBm⟩ : ∃ Bm, Bm = decide (0 < m) := ⟨_, rfl⟩
          rw [← hBm]
          have hBm' := Lib.hid hBm
          clear hBm
          go_cut [26] from 125 to 142 (fun _ wc => ∃ O, K9 wc O)
          case first =>
            by_cases hm0 : 0 < m
            · obtain rfl : Bm = true := by rw [hBm'.out]; simpa using hm0
              clear hBm'
              have hm0' : (0 : Int) < (m : Int) := by omega
              have hmz : (m : Int) ≠ 0 := by omega
              have hst : K9 wb [] := by
                rw [hK9'.out]
                exact ⟨by simp, by simp, ⟨h4, by simpa using hR4'.out⟩, hOb.out⟩
              have hst' := Lib.hid hst
              clear hst
              go_wp2
              go_loopw [128] (fun i' wr => ∃ (k3 : Nat) (O : List Nat), k3 ≤ n4 ∧ i' = .int .i64 k3 ∧ O.length = k3 ∧ K9 wr O) (fun i' _ => n4 - (intOf i').toNat)
              case atStart => exact ⟨0, [], Nat.zero_le _, rfl, rfl, hst'.out⟩
              case round =>
                obtain ⟨k3, O, hk3, rfl, hOl, hKO⟩ := hrel
                obtain ⟨wv, hwv⟩ : ∃ wv : World, wv = wr := ⟨_, rfl⟩
                subst hwv
                rw [hK9'.out] at hKO
                obtain ⟨o1, o2, ⟨h5', o3⟩, o4⟩ := hKO
                have o1' := Lib.hid o1
                have o3' := Lib.hid o3
                have o4' := Lib.hid o4
                have hOl' := Lib.hid hOl
                have hm0h := Lib.hid hm0
                clear o1 o3 o4 hOl o2 hm0 hm0'
                by_cases hk3n : k3 < n4
                · have hk3n' : (k3 : Int) < (n4 : Int) := by omega
                  obtain ⟨x, hx⟩ : ∃ x, os[k3]? = some x := ⟨_, List.getElem?_eq_getElem (by have := os'.out.len; omega)⟩
                  obtain ⟨ug, uo, huA, hug, huc⟩ := os'.out.row k3 x hx
                  subst huA
                  have uc := o4'.out.cell huc (by simp; omega)
                  have hug2 := Nat.lt_of_lt_of_le hug o4'.out.size
                  have hx9 := os'.out.top x (List.mem_of_getElem? hx)
                  obtain ⟨r, hr⟩ : ∃ r, r = x % m := ⟨_, rfl⟩
                  have hrm : r < m := by rw [hr]; exact Nat.mod_lt _ hm0h.out
                  have hrem3 : (x : Int) % (m : Int) = (r : Int) := by rw [hr]; simp
                  have hrm' : (r : Int) < (m : Int) := by omega
                  obtain ⟨y, hy⟩ : ∃ y, BL[r]? = some y := ⟨_, List.getElem?_eq_getElem (by have := hml'.out; omega)⟩
                  obtain ⟨g2, goff2, capp2, _, hv2, _, _, hgl2, hgc2, _⟩ := (hW'.out.kept o4'.out (fun g hg e => by have := hml2.out g hg; omega)).at_ hm0h.out
                  cases hv2
                  have g1 := hgc2 r _ (dat_at hy)
                  have hyB := List.mem_of_getElem? hy
                  have hy9 := hB255'.out y hyB
                  have hyB' := Lib.hid hyB
                  have hacc := Lib.hid (access_any o3'.out (by omega) (by rw [List.length_append]; have := hacl.out; have := hOl'.out; omega) (by omega) y hy9)
                  have hx0 : (0 : Int) ≤ (x : Int) := by omega
                  clear hug huc hx hr hy hgc2 hyB
                  go_wp2_with fail
                  refine hacc.out.mono ?_
                  rintro e wz ⟨rfl, h6, hR6, hO6, _⟩
                  have hend3 := Lib.hid (show K9 wz (O ++ [y]) from by
                    rw [hK9'.out]
                    refine ⟨fun z hz => ?_, by rw [List.length_append]; have := hOl'.out; simp; omega, ⟨h6, by rw [← List.append_assoc]; exact hR6⟩, hge.out _ _ _ o4'.out hX2'.out.2 hO6⟩
                    rcases List.mem_append.1 hz with hz | hz
                    · exact o1'.out z hz
                    · simp at hz; subst hz; exact hyB'.out)
                  clear hR6 hO6 hacc hrem3 hrm hrm' g1 uc hug2 hx0 hgl2 hk3n hy9 hx9
                  go_wp2
                  go_roundw
                  case rel => exact ⟨k3 + 1, O ++ [y], by omega, by go_num, by rw [List.length_append, hOl'.out]; rfl, hend3.out⟩
                  case measure => simp [intOf]; omega
                · obtain rfl : k3 = n4 := by omega
                  have hk3n' : ¬ (k3 : Int) < (k3 : Int) := by omega
                  have hend3 := Lib.hid (show K9 wv O from by
                    rw [hK9'.out]
                    exact ⟨o1'.out, by have := hOl'.out; omega, ⟨h5', o3'.out⟩, o4'.out⟩)
                  go_wp2_with fail
                  go_meet
                  case rel => exact ⟨O, hend3.out⟩
            · obtain rfl : Bm = false := by rw [hBm'.out]; simpa using hm0
              clear hBm'
              go_wp2_with fail
              go_meet
              case rel =>
                refine ⟨[], ?_⟩
                rw [hK9'.out]
                exact ⟨by simp, by simp, ⟨h4, by simpa using hR4'.out⟩, hOb.out⟩
          obtain ⟨O, hKO⟩ := hcut
          rw [hK9'.out] at hKO
          obtain ⟨o1, o2, ⟨h5', o3⟩, o4⟩ := hKO
          have hpu3 := hpu'.out O o1
          have o4' := Lib.hid o4
          have hm3 := Lib.hid (fun (A : Option Addr) (cap : Nat) (hA : OpnRow wc A l2) (hA2 : ∀ b off, A = some ⟨b, off, none⟩ → b = pb) => misses_any (cap := cap) hA hl2n'.out (by omega) hok2'.out o3 (by intro b off e; have h1 := hA2 b off e; have := hX2'.out; omega) (by omega) (by rw [List.length_append]; have := hacl.out; omega) (by omega))
          obtain ⟨M2, hM2⟩ : ∃ M2, M2 = Lru.missN S Wy (us ++ accN l1 ++ O).reverse (accN l2) := ⟨_, rfl⟩
          rw [← hM2] at hpu3
          have hM29 : M2 ≤ 64 := by
            rw [hM2]
            have h1 := missN_le S Wy (accN l2) (us ++ accN l1 ++ O).reverse
            have h2 := accN_len l2
            have h3 := hl2n'.out
            omega
          have hM2' := Lib.hid hM2
          have hrc := Lib.hid ((hrp.out _ o4))
          have hle : (M1 : Int) + (M2 : Int) ≤ (M0 : Int) + BZ := hpu3
          have hle' := Lib.hid hle
          have hBc := Lib.hid (o4.heap hBs.out (by simp; have := row_lt hBs.out; omega))
          clear hM2 o1 o3 o4 hpu3 hpu' hR4' hWb hK9 hle
          obtain ⟨KE, hKE⟩ : ∃ KE : Nat, KE = cut := ⟨_, rfl⟩
          have hfinal := Lib.hid (fun (W : World) (A : Option Addr) (cap : Nat) (hA : OpnRow wc A l2) (hA2 : ∀ b off, A = some ⟨b, off, none⟩ → b = pb) => (hm3.out A cap hA hA2).mono (R' := fun e w' => e = .returned (.int .i64 (M2 : Int)) ∧ Only (fun k => ws.heap.size ≤ k) ws w') (fun e w' ⟨h1, _, h3⟩ => ⟨by rw [h1, hM2'.out], hge.out _ _ _ o4'.out hX2'.out.2 h3⟩))
          have hdrop := Lib.hid (show OpnRow wc (some ⟨pb, poff + cut * 3, none⟩) l2 from by rw [hl2'.out]; exact OpnRow.drop hrc.out cut)
          clear hKE KE hm3
          by_cases hoc : oc = cut
          · have hon : on = cut := by omega
            have hnil : l2 = [] := List.eq_nil_of_length_eq_zero (by have := hl2n'.out; omega)
            have hcall := Lib.hid (hfinal.out wc (some ⟨pb, poff, none⟩) 0 (by rw [hnil]; intro k x hx; simp at hx) (by intro b off e; cases e; rfl))
            subst hoc
            subst hon
            rw [Nat.sub_self] at hcall
            clear hnil hfinal hdrop hcutn hcut1 hcut2 hpc
            go_wp2_with fail
            refine hcall.out.mono ?_
            rintro e wd ⟨rfl, hOd⟩
            have hOd' := Lib.hid hOd
            have hBd := Lib.hid (hOd.heap hBs.out (by simp; have := row_lt hBs.out; omega))
            clear hOd hcall
            have e0 := row_cell hBd.out (i := 0) rfl
            have e1 := row_cell hBd.out (i := 1) rfl
            have e2 := row_cell hBd.out (i := 2) rfl
            have e3 := row_cell hBd.out (i := 3) rfl
            have e4 := row_cell hBd.out (i := 4) rfl
            have e5 := row_cell hBd.out (i := 5) rfl
            have e6 := row_cell hBd.out (i := 6) rfl
            have e7 := row_cell hBd.out (i := 7) rfl
            have e8 := row_cell hBd.out (i := 8) rfl
            have e9 := row_cell hBd.out (i := 9) rfl
            have hqlt := row_lt hBd.out
            go_wp2_with fail
            refine (hbnd3.out _ (hOfin.out _ hOd'.out)).mono ?_
            rintro e we ⟨rfl, hOe⟩
            have hOf := Lib.hid (hOfin.out _ (hOd'.out.trans hOe (fun _ _ h => h.elim)))
            have hle := hle'.out
            clear hOe e0 e1 e2 e3 e4 e5 e6 e7 e8 e9 hqlt
            go_wp2
            go_ret
            exact ⟨rfl, hOf.out⟩
          · have hcall := Lib.hid (hfinal.out wc (some ⟨pb, poff + cut * 3, none⟩) (oc - cut) hdrop.out (by intro b off e; cases e; rfl))
            clear hfinal hdrop
            go_wp2_with fail
            refine hcall.out.mono ?_
            rintro e wd ⟨rfl, hOd⟩
            have hOd' := Lib.hid hOd
            have hBd := Lib.hid (hOd.heap hBs.out (by simp; have := row_lt hBs.out; omega))
            clear hOd hcall
            have e0 := row_cell hBd.out (i := 0) rfl
            have e1 := row_cell hBd.out (i := 1) rfl
            have e2 := row_cell hBd.out (i := 2) rfl
            have e3 := row_cell hBd.out (i := 3) rfl
            have e4 := row_cell hBd.out (i := 4) rfl
            have e5 := row_cell hBd.out (i := 5) rfl
            have e6 := row_cell hBd.out (i := 6) rfl
            have e7 := row_cell hBd.out (i := 7) rfl
            have e8 := row_cell hBd.out (i := 8) rfl
            have e9 := row_cell hBd.out (i := 9) rfl
            have hqlt := row_lt hBd.out
            go_wp2_with fail
            refine (hbnd3.out _ (hOfin.out _ hOd'.out)).mono ?_
            rintro e we ⟨rfl, hOe⟩
            have hOf := Lib.hid (hOfin.out _ (hOd'.out.trans hOe (fun _ _ h => h.elim)))
            have hle := hle'.out
            clear hOe e0 e1 e2 e3 e4 e5 e6 e7 e8 e9 hqlt
            go_wp2
            go_ret
            exact ⟨rfl, hOf.out⟩
end Rld
end Go.Proofs.Yteeleelkepjoaaa
