/- The document's line of an event. -/
import Derived.Test.YtgfgjbbpochiiaaDoorSv
import Derived.Test.YtgfgjbbpochiiaaDoorStep
import Derived.Deep.RegionHeld3
namespace Go.Proofs.YtgfgjbbpochiiaaDoor
open Go Go.RowKit

def NamesEnd (k : Nat) (w : World) (e : Ending) (w' : World) : Prop := ∃ g, e = .returned (.slice (some ⟨g, 0, none⟩) 6 6) ∧ w'.cell? ⟨g, k, none⟩ = some (.string (toBA (kname k))) ∧ g < w'.heap.size ∧ Only (fun _ => False) w w'
set_option maxRecDepth 100000 in
theorem names_any (k : Nat) (hk : k < 6) (w : World) : Calls Tryd.prog 25 #[] w (NamesEnd k w) := by
  have hb := heap_new_at w (.cells ([Value.string ⟨#[]⟩, .string ⟨#[114, 101, 108, 101, 97, 115, 101]⟩, .string ⟨#[114, 97, 105, 115, 101]⟩, .string ⟨#[109, 97, 115, 107]⟩, .string ⟨#[117, 110, 109, 97, 115, 107]⟩, .string ⟨#[116, 105, 109, 101, 114]⟩] : List Value).toArray 9) rfl
  have hc : ([Value.string ⟨#[]⟩, .string ⟨#[114, 101, 108, 101, 97, 115, 101]⟩, .string ⟨#[114, 97, 105, 115, 101]⟩, .string ⟨#[109, 97, 115, 107]⟩, .string ⟨#[117, 110, 109, 97, 115, 107]⟩, .string ⟨#[116, 105, 109, 101, 114]⟩] : List Value)[k]? = some (.string (toBA (kname k))) := by
    match k, hk with
    | 0, _ | 1, _ | 2, _ | 3, _ | 4, _ | 5, _ => rfl
  have hE := Lib.hid (And.intro (row_cell hb hc) (And.intro (row_lt hb) ((Only.refl (fun _ => False) w).alloc (.cells #[Value.string ⟨#[]⟩, .string ⟨#[114, 101, 108, 101, 97, 115, 101]⟩, .string ⟨#[114, 97, 105, 115, 101]⟩, .string ⟨#[109, 97, 115, 107]⟩, .string ⟨#[117, 110, 109, 97, 115, 107]⟩, .string ⟨#[116, 105, 109, 101, 114]⟩] 9))))
  clear hb hc
  go_enter Tryd.func25, Tryd.ntmps25
  go_wp2
  go_ret
  exact ⟨_, rfl, hE.out.1, hE.out.2.1, hE.out.2.2⟩

def LineEnd (r : EvV) (w : World) (e : Ending) (w' : World) : Prop := e = .returned (.tuple #[.string (if okE r then toBA (lineE r) else ⟨#[]⟩), .bool (decide (okE r))]) ∧ Only (fun _ => False) w w'
theorem lineEnd_no {r : EvV} (h : ¬ okE r) {w w' : World} (hO : Only (fun _ => False) w w') : LineEnd r w (.returned (.tuple #[.string ⟨#[]⟩, .bool false])) w' := by
  unfold LineEnd
  rw [if_neg h, decide_eq_false h]
  exact ⟨rfl, hO⟩
theorem lineEnd_yes {r : EvV} (h : okE r) {w w' : World} (hO : Only (fun _ => False) w w') {T : ByteArray} (hT : T = toBA (lineE r)) : LineEnd r w (.returned (.tuple #[.string T, .bool true])) w' := by
  unfold LineEnd
  rw [if_pos h, decide_eq_true h, hT]
  exact ⟨rfl, hO⟩
theorem in_yes {n : Int} (h : inN n) (w : World) : Calls Tryd.prog 23 #[.int .i64 n] w (RetB true w) := by
  have := in_any n w
  rw [decide_eq_true h] at this
  exact this
theorem in_not {n : Int} (h : ¬ inN n) (w : World) : Calls Tryd.prog 23 #[.int .i64 n] w (RetB false w) := by
  have := in_any n w
  rw [decide_eq_false h] at this
  exact this

set_option maxRecDepth 100000 in
set_option maxHeartbeats 2000000 in
theorem rline_any (w : World) (r : EvV) : Calls Tryd.prog 8 #[r.val] w (LineEnd r w) := by
  have hO := (Only.refl (fun _ => False) w).alloc (.cells r.cells.toArray 23)
  have hB := heap_new_at w (.cells r.cells.toArray 23) rfl
  obtain ⟨W1, hW1⟩ : ∃ W1, W1 = w.alloc (.cells r.cells.toArray 23) := ⟨_, rfl⟩
  rw [← hW1] at hO hB
  have hW1' := Lib.hid hW1
  have hO' := Lib.hid hO
  have e0 := row_cell hB (i := 0) rfl
  have e1 := row_cell hB (i := 1) rfl
  have e2 := row_cell hB (i := 2) rfl
  have e3 := row_cell hB (i := 3) rfl
  have e4 := row_cell hB (i := 4) rfl
  have hlt := row_lt hB
  clear hW1 hO hB
  obtain ⟨at_, k, a, b, c⟩ := r
  unfold EvV.val
  unfold EvV.cells at hW1'
  dsimp only at hW1' e0 e1 e2 e3 e4 ⊢
  by_cases k1 : k < 1
  · have hno := Lib.hid (show ¬ okE ⟨at_, k, a, b, c⟩ from fun h => by have := h.1; simp only at this; omega)
    go_enter Tryd.func8, Tryd.ntmps8
    go_upto_region 1 with fail
    rw [← hW1'.out]
    go_wp2
    go_ret2
    exact lineEnd_no hno.out hO'.out
  by_cases k2 : (5 : Int) < k
  · have hno := Lib.hid (show ¬ okE ⟨at_, k, a, b, c⟩ from fun h => by have := h.1; simp only at this; omega)
    go_enter Tryd.func8, Tryd.ntmps8
    go_upto_region 1 with fail
    rw [← hW1'.out]
    go_wp2
    go_ret2
    exact lineEnd_no hno.out hO'.out
  by_cases hi : inN at_
  case neg =>
    have qat_ := Lib.hid (fun W => in_not hi W)
    have hno0 := Lib.hid hi
    clear hi
    have hno := Lib.hid (show ¬ okE ⟨at_, k, a, b, c⟩ from fun h => hno0.out h.2.1)
    go_enter Tryd.func8, Tryd.ntmps8
    go_upto_region 1 with fail
    rw [← hW1'.out]
    go_wp2_with fail
    refine (qat_.out _).mono ?_
    rintro e w' ⟨rfl, rfl⟩
    go_wp2
    go_ret2
    exact lineEnd_no hno.out hO'.out
  have qat_ := Lib.hid (fun W => in_yes hi W)
  have iat_ := Lib.hid hi
  clear hi
  by_cases hi : inN a
  case neg =>
    have qa := Lib.hid (fun W => in_not hi W)
    have hno0 := Lib.hid hi
    clear hi
    have hno := Lib.hid (show ¬ okE ⟨at_, k, a, b, c⟩ from fun h => hno0.out h.2.2.1)
    go_enter Tryd.func8, Tryd.ntmps8
    go_upto_region 1 with fail
    rw [← hW1'.out]
    go_wp2_with fail
    refine (qat_.out _).mono ?_
    rintro e w' ⟨rfl, rfl⟩
    go_wp2_with fail
    refine (qa.out _).mono ?_
    rintro e w' ⟨rfl, rfl⟩
    go_wp2
    go_ret2
    exact lineEnd_no hno.out hO'.out
  have qa := Lib.hid (fun W => in_yes hi W)
  have ia := Lib.hid hi
  clear hi
  by_cases hi : inN b
  case neg =>
    have qb := Lib.hid (fun W => in_not hi W)
    have hno0 := Lib.hid hi
    clear hi
    have hno := Lib.hid (show ¬ okE ⟨at_, k, a, b, c⟩ from fun h => by
      have h4 := h.2.2.2
      simp only at h4
      split at h4
      · exact hno0.out h4.1
      · exact hno0.out (by rw [h4.1]; decide))
    go_enter Tryd.func8, Tryd.ntmps8
    go_upto_region 1 with fail
    rw [← hW1'.out]
    go_wp2_with fail
    refine (qat_.out _).mono ?_
    rintro e w' ⟨rfl, rfl⟩
    go_wp2_with fail
    refine (qa.out _).mono ?_
    rintro e w' ⟨rfl, rfl⟩
    go_wp2_with fail
    refine (qb.out _).mono ?_
    rintro e w' ⟨rfl, rfl⟩
    go_wp2
    go_ret2
    exact lineEnd_no hno.out hO'.out
  have qb := Lib.hid (fun W => in_yes hi W)
  have ib := Lib.hid hi
  clear hi
  by_cases hi : inN c
  case neg =>
    have qc := Lib.hid (fun W => in_not hi W)
    have hno0 := Lib.hid hi
    clear hi
    have hno := Lib.hid (show ¬ okE ⟨at_, k, a, b, c⟩ from fun h => by
      have h4 := h.2.2.2
      simp only at h4
      split at h4
      · exact hno0.out h4.2
      · exact hno0.out (by rw [h4.2]; decide))
    go_enter Tryd.func8, Tryd.ntmps8
    go_upto_region 1 with fail
    rw [← hW1'.out]
    go_wp2_with fail
    refine (qat_.out _).mono ?_
    rintro e w' ⟨rfl, rfl⟩
    go_wp2_with fail
    refine (qa.out _).mono ?_
    rintro e w' ⟨rfl, rfl⟩
    go_wp2_with fail
    refine (qb.out _).mono ?_
    rintro e w' ⟨rfl, rfl⟩
    go_wp2_with fail
    refine (qc.out _).mono ?_
    rintro e w' ⟨rfl, rfl⟩
    go_wp2
    go_ret2
    exact lineEnd_no hno.out hO'.out
  have qc := Lib.hid (fun W => in_yes hi W)
  have ic := Lib.hid hi
  clear hi
  by_cases hbc : k = 5 ∨ (b = 0 ∧ c = 0)
  case neg =>
    have k5 : ¬ k = 5 := fun h => hbc (.inl h)
    have k5' : (k != 5) = true := by rw [bne_iff_ne]; exact k5
    by_cases b0 : b = 0
    case neg =>
      clear hbc
      have b0' : (b != 0) = true := by rw [bne_iff_ne]; exact b0
      have hno := Lib.hid (show ¬ okE ⟨at_, k, a, b, c⟩ from fun h => by have h4 := h.2.2.2; simp only [if_neg k5] at h4; exact b0 h4.1)
      go_enter Tryd.func8, Tryd.ntmps8
      go_upto_region 1 with fail
      rw [← hW1'.out]
      go_wp2_with fail
      refine (qat_.out _).mono ?_
      rintro e w' ⟨rfl, rfl⟩
      go_wp2_with fail
      refine (qa.out _).mono ?_
      rintro e w' ⟨rfl, rfl⟩
      go_wp2_with fail
      refine (qb.out _).mono ?_
      rintro e w' ⟨rfl, rfl⟩
      go_wp2_with fail
      refine (qc.out _).mono ?_
      rintro e w' ⟨rfl, rfl⟩
      go_wp2
      go_ret2
      exact lineEnd_no hno.out hO'.out
    by_cases c0 : c = 0
    case pos => exact absurd (.inr ⟨b0, c0⟩) hbc
    case neg =>
      clear hbc
      have c0' : (c != 0) = true := by rw [bne_iff_ne]; exact c0
      have b0' : (b != 0) = false := by rw [b0]; rfl
      clear b0
      have hno := Lib.hid (show ¬ okE ⟨at_, k, a, b, c⟩ from fun h => by have h4 := h.2.2.2; simp only [if_neg k5] at h4; exact c0 h4.2)
      go_enter Tryd.func8, Tryd.ntmps8
      go_upto_region 1 with fail
      rw [← hW1'.out]
      go_wp2_with fail
      refine (qat_.out _).mono ?_
      rintro e w' ⟨rfl, rfl⟩
      go_wp2_with fail
      refine (qa.out _).mono ?_
      rintro e w' ⟨rfl, rfl⟩
      go_wp2_with fail
      refine (qb.out _).mono ?_
      rintro e w' ⟨rfl, rfl⟩
      go_wp2_with fail
      refine (qc.out _).mono ?_
      rintro e w' ⟨rfl, rfl⟩
      go_wp2
      go_ret2
      exact lineEnd_no hno.out hO'.out
  obtain ⟨m, hm⟩ : ∃ m : Nat, k = m := ⟨k.toNat, by omega⟩
  subst hm
  have hm6 : m < 6 := by omega
  have hnm := Lib.hid (fun W => names_any m hm6 W)
  obtain ⟨na, hna⟩ : ∃ n : Nat, at_ = n := ⟨at_.toNat, by have := iat_.out.1; omega⟩
  obtain ⟨nb, hnb⟩ : ∃ n : Nat, a = n := ⟨a.toNat, by have := ia.out.1; omega⟩
  have la : na ≤ 999999999 := by have := iat_.out.2; omega
  have lb : nb ≤ 999999999 := by have := ia.out.2; omega
  have hda := Lib.hid (fun W => digits_any na (by omega) W)
  have hdb := Lib.hid (fun W => digits_any nb (by omega) W)
  have eita := Lib.hid (show Lib.itoa at_ = Lib.decDigits na by rw [itoa_dec iat_.out, hna]; rfl)
  have eitb := Lib.hid (show Lib.itoa a = Lib.decDigits nb by rw [itoa_dec ia.out, hnb]; rfl)
  have s1 : (toBA (Lib.decDigits na)).size ≤ 9 := by rw [toBA_size]; exact dec_small 8 na (by omega)
  have s2 : (toBA (Lib.decDigits nb)).size ≤ 9 := by rw [toBA_size]; exact dec_small 8 nb (by omega)
  have s3 : (toBA (kname m)).size ≤ 7 := by rw [toBA_size]; exact (kname_fit hm6).2.2
  have s4 : (⟨#[32]⟩ : ByteArray).size = 1 := rfl
  have hup := Lib.hid (show ((((toBA (Lib.decDigits na) ++ (⟨#[32]⟩ : ByteArray)) ++ toBA (kname m)) ++ (⟨#[32]⟩ : ByteArray)) ++ toBA (Lib.decDigits nb)) = toBA (Lib.decDigits na ++ 32 :: (kname m ++ 32 :: Lib.decDigits nb)) from by
    rw [show (⟨#[32]⟩ : ByteArray) = toBA [32] from rfl, toBA_app, toBA_app, toBA_app, toBA_app]
    simp)
  unfold NamesEnd at hnm
  unfold GrowS at hda hdb
  obtain ⟨SA, hSA⟩ : ∃ S, S = toBA (Lib.decDigits na) := ⟨_, rfl⟩
  obtain ⟨SB, hSB⟩ : ∃ S, S = toBA (Lib.decDigits nb) := ⟨_, rfl⟩
  obtain ⟨SN, hSN⟩ : ∃ S, S = toBA (kname m) := ⟨_, rfl⟩
  obtain ⟨S2, hS2⟩ : ∃ S, S = toBA (Lib.decDigits na ++ 32 :: (kname m ++ 32 :: Lib.decDigits nb)) := ⟨_, rfl⟩
  rw [← hSA] at hda s1 hup
  rw [← hSB] at hdb s2 hup
  rw [← hSN] at hnm s3 hup
  rw [← hS2] at hup
  have hS2' := Lib.hid hS2
  have hna' := Lib.hid hna
  have hnb' := Lib.hid hnb
  rw [hna] at hW1' e0 qat_ ⊢
  rw [hnb] at hW1' e2 qa ⊢
  have g1 : ¬ 9223372036854775807 < SA.size + 1 := by omega
  have g2 : ¬ 9223372036854775807 < SA.size + 1 + SN.size := by omega
  have g3 : ¬ 9223372036854775807 < SA.size + 1 + SN.size + 1 := by omega
  have g4 : ¬ 9223372036854775807 < SA.size + 1 + SN.size + 1 + SB.size := by omega
  have k0 : (0 : Int) ≤ (m : Int) := by omega
  have k6 : (m : Int) < 6 := by omega
  replace hbc := Lib.hid hbc
  clear hSA hSB hSN hS2 hna hnb la lb
  go_enter Tryd.func8, Tryd.ntmps8
  go_upto_region 1 with fail
  rw [← hW1'.out]
  go_cut [51] from 5 to 50 (fun v wc => v = .bool false ∧ W1 = wc)
  case first =>
    by_cases k5 : (m : Int) = 5
    · have k5' : ((m : Int) != 5) = false := by rw [k5]; rfl
      clear k5
      go_wp2_with fail
      refine (qat_.out _).mono ?_
      rintro e w' ⟨rfl, rfl⟩
      go_wp2_with fail
      refine (qa.out _).mono ?_
      rintro e w' ⟨rfl, rfl⟩
      go_wp2_with fail
      refine (qb.out _).mono ?_
      rintro e w' ⟨rfl, rfl⟩
      go_wp2_with fail
      refine (qc.out _).mono ?_
      rintro e w' ⟨rfl, rfl⟩
      go_wp2
      go_meet
      case rel => exact ⟨rfl, rfl⟩
    · have k5' : ((m : Int) != 5) = true := by rw [bne_iff_ne]; exact k5
      obtain ⟨b0, c0⟩ := hbc.out.resolve_left k5
      have b0' : (b != 0) = false := by rw [b0]; rfl
      have c0' : (c != 0) = false := by rw [c0]; rfl
      clear k5 b0 c0
      go_wp2_with fail
      refine (qat_.out _).mono ?_
      rintro e w' ⟨rfl, rfl⟩
      go_wp2_with fail
      refine (qa.out _).mono ?_
      rintro e w' ⟨rfl, rfl⟩
      go_wp2_with fail
      refine (qb.out _).mono ?_
      rintro e w' ⟨rfl, rfl⟩
      go_wp2_with fail
      refine (qc.out _).mono ?_
      rintro e w' ⟨rfl, rfl⟩
      go_wp2
      go_meet
      case rel => exact ⟨rfl, rfl⟩
  obtain ⟨rfl, rfl⟩ := hcut
  go_upto_region 3 with fail
  go_cut [4] from 52 to 66 (fun v wc => v = .string S2 ∧ Only (fun _ => False) W1 wc)
  case first =>
    have hcells := Lib.hid (fun W (ho : Only (fun _ => False) W1 W) => And.intro (ho.cell e0 (fun h => h)) (And.intro (ho.cell e1 (fun h => h)) (ho.cell e2 (fun h => h))))
    have hpa := Lib.hid (fun W (hW : Only (fun _ => False) W1 W) => show Calls Tryd.prog 24 #[.int .i64 na] W (fun e w' => e = .returned (.string SA) ∧ Only (fun _ => False) W w' ∧ Only (fun _ => False) W1 w') from (hda.out W).mono fun _ _ h => ⟨h.1, h.2, hW.trans' h.2⟩)
    have hpb := Lib.hid (fun W (hW : Only (fun _ => False) W1 W) => show Calls Tryd.prog 24 #[.int .i64 nb] W (fun e w' => e = .returned (.string SB) ∧ Only (fun _ => False) W w' ∧ Only (fun _ => False) W1 w') from (hdb.out W).mono fun _ _ h => ⟨h.1, h.2, hW.trans' h.2⟩)
    have hpn := Lib.hid (fun W (hW : Only (fun _ => False) W1 W) => show Calls Tryd.prog 25 #[] W (fun e w' => ∃ g, e = .returned (.slice (some ⟨g, 0, none⟩) 6 6) ∧ w'.cell? ⟨g, m, none⟩ = some (.string SN) ∧ g < w'.heap.size ∧ Only (fun _ => False) W1 w') from (hnm.out W).mono fun _ _ h => by obtain ⟨g, h1, h2, h3, h4⟩ := h; exact ⟨g, h1, h2, h3, hW.trans' h4⟩)
    go_region_law (first
        | (refine step_call rfl Tryd.func24 (by kernel_rfl) rfl _ _ rfl [.int .i64 na] rfl (hpa.out _ (by repeat (first | assumption | exact Only.refl _ _ | refine Only.drew ?_))) ?_; rintro e w5 ⟨rfl, ho5, hO5⟩; obtain ⟨b0, b1, b2⟩ := hcells.out _ hO5; (first | (have hgc5 := ho5.cell hgc (fun h => h); have hgl5 := Nat.lt_of_lt_of_le hgl ho5.size) | skip); clear ho5; refine ⟨_, rfl, ?_⟩)
        | (refine step_call rfl Tryd.func24 (by kernel_rfl) rfl _ _ rfl [.int .i64 nb] rfl (hpb.out _ (by repeat (first | assumption | exact Only.refl _ _ | refine Only.drew ?_))) ?_; rintro e w6 ⟨rfl, ho6, hO6⟩; obtain ⟨d0, d1, d2⟩ := hcells.out _ hO6; (first | (have hgc6 := ho6.cell hgc5 (fun h => h); have hgl6 := Nat.lt_of_lt_of_le hgl5 ho6.size) | (have hgc5 := ho6.cell hgc (fun h => h); have hgl5 := Nat.lt_of_lt_of_le hgl ho6.size) | skip); clear ho6; refine ⟨_, rfl, ?_⟩)
        | (refine step_call rfl Tryd.func25 (by kernel_rfl) rfl _ _ rfl [] rfl (hpn.out _ (by repeat (first | assumption | exact Only.refl _ _ | refine Only.drew ?_))) ?_; rintro e w7 ⟨g, rfl, hgc, hgl, hO7⟩; obtain ⟨f0, f1, f2⟩ := hcells.out _ hO7; refine ⟨_, rfl, ?_⟩))
    all_goals
      have hx := Lib.hid (show Only (fun _ => False) W1 _ from (by assumption))
      try rw [hup.out]
      go_wp2
      go_meet
      case rel => exact ⟨rfl, (by repeat (first | assumption | exact Only.refl _ _ | apply Only.drew))⟩
  obtain ⟨rfl, hOc⟩ := hcut
  obtain ⟨W2, hW2⟩ : ∃ W2 : World, W2 = wc := ⟨_, rfl⟩
  subst hW2
  replace e1 := hOc.cell e1 (fun h => h)
  replace e3 := hOc.cell e3 (fun h => h)
  replace e4 := hOc.cell e4 (fun h => h)
  replace hlt := Nat.lt_of_lt_of_le hlt hOc.size
  have hOc' := Lib.hid hOc
  clear e0 e2 hOc g1 g2 g3 g4
  by_cases k5 : m = 5
  · subst k5
    have hok := Lib.hid (show okE ⟨(na : Int), 5, (nb : Int), b, c⟩ from ⟨by simp only; omega, hna'.out ▸ iat_.out, hnb'.out ▸ ia.out, by simp only [if_true]; exact ⟨ib.out, ic.out⟩⟩)
    obtain ⟨nc, hnc⟩ : ∃ n : Nat, b = n := ⟨b.toNat, by have := ib.out.1; omega⟩
    obtain ⟨nd, hnd⟩ : ∃ n : Nat, c = n := ⟨c.toNat, by have := ic.out.1; omega⟩
    have lc : nc ≤ 999999999 := by have := ib.out.2; omega
    have ld : nd ≤ 999999999 := by have := ic.out.2; omega
    have hdc := Lib.hid (fun (x : Wd W2) => Calls.wd (x := x) (digits_any nc (by omega) x.W))
    have hdd := Lib.hid (fun (x : Wd W2) => Calls.wd (x := x) (digits_any nd (by omega) x.W))
    have eitc := Lib.hid (show Lib.itoa b = Lib.decDigits nc by rw [itoa_dec ib.out, hnc]; rfl)
    have eitd := Lib.hid (show Lib.itoa c = Lib.decDigits nd by rw [itoa_dec ic.out, hnd]; rfl)
    have s5 : (toBA (Lib.decDigits nc)).size ≤ 9 := by rw [toBA_size]; exact dec_small 8 nc (by omega)
    have s6 : (toBA (Lib.decDigits nd)).size ≤ 9 := by rw [toBA_size]; exact dec_small 8 nd (by omega)
    have s7 : S2.size ≤ 30 := by
      rw [← hup.out]
      simp only [ByteArray.size_append]
      omega
    have hfin := Lib.hid (show (((S2 ++ (⟨#[32]⟩ : ByteArray)) ++ toBA (Lib.decDigits nc)) ++ (⟨#[32]⟩ : ByteArray)) ++ toBA (Lib.decDigits nd) = toBA (lineE ⟨(na : Int), 5, (nb : Int), b, c⟩) from by
      unfold lineE
      rw [wordsE_five rfl, hS2'.out, show (⟨#[32]⟩ : ByteArray) = toBA [32] from rfl, toBA_app, toBA_app, toBA_app, toBA_app, eitc.out, eitd.out, ← hna'.out, ← hnb'.out, eita.out, eitb.out]
      simp [joinL])
    obtain ⟨SC, hSC⟩ : ∃ S, S = toBA (Lib.decDigits nc) := ⟨_, rfl⟩
    obtain ⟨SD, hSD⟩ : ∃ S, S = toBA (Lib.decDigits nd) := ⟨_, rfl⟩
    rw [← hSC] at hdc s5 hfin
    rw [← hSD] at hdd s6 hfin
    have hnc' := Lib.hid hnc
    have hnd' := Lib.hid hnd
    rw [hnc] at e3
    rw [hnd] at e4
    clear hSC hSD hnc hnd lc ld
    have g1 : ¬ 9223372036854775807 < S2.size + 1 := by omega
    have g2 : ¬ 9223372036854775807 < S2.size + 1 + SC.size := by omega
    have g3 : ¬ 9223372036854775807 < S2.size + 1 + SC.size + 1 := by omega
    have g4 : ¬ 9223372036854775807 < S2.size + 1 + SC.size + 1 + SD.size := by omega
    go_upto_region 5 with fail
    have hex := wd_ex W2
    have x3 := wd_cell e3
    have x4 := wd_cell e4
    clear e1 e3 e4
    refine wp_region_wd (by kernel_rfl) (by kernel_rfl) ?_
    repeat (go_big_quiet_step (first | (go_at_call 24; first | with_reducible exact hdc.out _ | with_reducible exact hdd.out _)))
    refine wpQuiet_nil ?_
    rintro _ ⟨x, rfl⟩
    have hx := Lib.hid x.ok
    clear hex x3 x4
    go_wp2
    go_ret2
    exact lineEnd_yes hok.out ((hO'.out.trans' hOc'.out).trans' hx.out) hfin.out
  · have k5' : ((m : Int) == 5) = false := by rw [beq_eq_false_iff_ne]; omega
    obtain ⟨b0, c0⟩ := hbc.out.resolve_left (by omega)
    have hok := Lib.hid (show okE ⟨(na : Int), (m : Int), (nb : Int), b, c⟩ from ⟨by simp only; omega, hna'.out ▸ iat_.out, hnb'.out ▸ ia.out, by simp only; rw [if_neg (by omega)]; exact ⟨b0, c0⟩⟩)
    have hfin := Lib.hid (show S2 = toBA (lineE ⟨(na : Int), (m : Int), (nb : Int), b, c⟩) from by
      unfold lineE
      rw [wordsE_three (by simp only; omega), hS2'.out]
      simp only
      rw [← hna'.out, ← hnb'.out, eita.out, eitb.out, Int.toNat_natCast]
      simp [joinL])
    clear k5 b0 c0 e3 e4
    go_wp2
    go_ret2
    exact lineEnd_yes hok.out (hO'.out.trans' hOc'.out) hfin.out
end Go.Proofs.YtgfgjbbpochiiaaDoor
