/- The document's reading of a number. -/
import Derived.Test.YthippdgmbfaijaaDoorTx2
namespace Go.Proofs.YthippdgmbfaijaaDoor
open Go Go.RowKit

/-- The digits among the first k bytes: all but a sign ahead. -/
def dg (s : List UInt8) (k : Nat) : List UInt8 := if s.head? = some 45 then (s.take k).drop 1 else s.take k
theorem dg_zero (s : List UInt8) : dg s 0 = [] := by unfold dg; split <;> simp
theorem dg_sign {s : List UInt8} (h : s.head? = some 45) : dg s 1 = [] := by
  unfold dg
  rw [if_pos h]
  cases s <;> simp
theorem dg_succ {s : List UInt8} {k : Nat} {b : UInt8} (hb : s[k]? = some b) (h : ¬ (b = 45 ∧ k = 0)) : dg s (k + 1) = dg s k ++ [b] := by
  unfold dg
  have e : s.take (k + 1) = s.take k ++ [b] := by rw [List.take_add_one, hb]; rfl
  split
  · rename_i hs
    have hk : k ≠ 0 := fun hk => by
      subst hk
      cases s with
      | nil => simp at hb
      | cons x s =>
        simp at hs hb
        exact h ⟨hb.symm.trans hs, rfl⟩
    rw [e, List.drop_append]
    have : 1 ≤ (s.take k).length := by
      have := (List.getElem?_eq_some_iff.1 hb).1
      rw [List.length_take]
      omega
    rw [show 1 - (s.take k).length = 0 by omega]
    rfl
  · exact e
theorem dg_pre (s : List UInt8) {k n : Nat} (h : k ≤ n) : dg s k <+: dg s n := by
  have e : s.take k <+: s.take n := by
    have := List.take_prefix k (s.take n)
    rwa [List.take_take, Nat.min_eq_left h] at this
  unfold dg
  split
  · obtain ⟨t, ht⟩ := e
    rw [← ht]
    by_cases h1 : 1 ≤ (s.take k).length
    · rw [List.drop_append, show 1 - (s.take k).length = 0 by omega]
      exact List.prefix_append _ _
    · rw [List.drop_eq_nil_of_le (by omega)]
      exact List.nil_prefix
  · exact e
theorem dg_itoa (v : Int) : dg (Lib.itoa v) (Lib.itoa v).length = Lib.decDigits v.natAbs := by
  unfold dg
  rw [List.take_length]
  unfold Lib.itoa
  by_cases h : v < 0
  · rw [if_pos h, if_pos (by rfl)]
    rfl
  · rw [if_neg h]
    rw [if_neg, show v.toNat = v.natAbs by omega]
    intro e
    have hp := dec_dig v.toNat
    cases hd : Lib.decDigits v.toNat with
    | nil => rw [hd] at e; simp at e
    | cons c r =>
      rw [hd] at e hp
      simp at e
      have := hp c (List.mem_cons_self ..)
      rw [e] at this
      unfold isDig at this
      have h45 : (45 : UInt8).toNat = 45 := rfl
      omega
theorem valD_pre : ∀ (q p : List UInt8), (∀ b ∈ p ++ q, isDig b) → valD p ≤ valD (p ++ q) ∧ 0 ≤ valD p := by
  have nn : ∀ p : List UInt8, (∀ b ∈ p, isDig b) → 0 ≤ valD p := by
    intro p
    induction hn : p.length generalizing p with
    | zero =>
      intro _
      rw [List.length_eq_zero_iff.1 hn]
      simp [valD]
    | succ n ih =>
      intro hp
      obtain ⟨p', b, rfl⟩ : ∃ p' b, p = p' ++ [b] := ⟨p.dropLast, p.getLast (by intro e; rw [e] at hn; simp at hn), (List.dropLast_concat_getLast _).symm⟩
      rw [valD_snoc]
      have h1 := ih p' (by simp at hn; exact hn) (fun x hx => hp x (List.mem_append_left _ hx))
      have h2 := hp b (List.mem_append_right _ (List.mem_singleton_self _))
      unfold isDig at h2
      omega
  intro q
  induction q with
  | nil => intro p hp; rw [List.append_nil] at hp ⊢; exact ⟨Int.le_refl _, nn p hp⟩
  | cons b q ih =>
    intro p hp
    have h1 := ih (p ++ [b]) (by simpa using hp)
    rw [valD_snoc, List.append_assoc] at h1
    have h2 := hp b (by simp)
    have h3 := nn p (fun x hx => hp x (List.mem_append_left _ hx))
    unfold isDig at h2
    simp only [List.singleton_append] at h1
    omega
/-- Of a number's text: what its digits tell so far is within bounds. -/
theorem dg_small {s : List UInt8} {v : Int} (h : numO s = some v) {k : Nat} (hk : k ≤ s.length) : 0 ≤ valD (dg s k) ∧ valD (dg s k) ≤ v.natAbs := by
  obtain ⟨h1, rfl⟩ := numO_some h
  obtain ⟨t, ht⟩ := dg_pre (Lib.itoa v) hk
  rw [dg_itoa] at ht
  have hd := dec_dig v.natAbs
  rw [← ht] at hd
  have := valD_pre t _ hd
  rw [ht, dec_val] at this
  exact ⟨this.2, this.1⟩
theorem num_bytes {s : List UInt8} {v : Int} (h : numO s = some v) {k : Nat} {b : UInt8} (hb : s[k]? = some b) (hn : ¬ (b = 45 ∧ k = 0)) : isDig b := by
  obtain ⟨h1, rfl⟩ := numO_some h
  unfold Lib.itoa at hb
  by_cases h0 : v < 0
  · rw [if_pos h0] at hb
    cases k with
    | zero =>
      simp at hb
      exact absurd ⟨hb.symm, rfl⟩ hn
    | succ k =>
      simp at hb
      exact dec_dig _ b (List.mem_of_getElem? hb)
  · rw [if_neg h0] at hb
    exact dec_dig _ b (List.mem_of_getElem? hb)
theorem num_last {s : List UInt8} {v : Int} (h : numO s = some v) : valD (dg s s.length) = v.natAbs := by
  obtain ⟨h1, rfl⟩ := numO_some h
  rw [dg_itoa, dec_val]
theorem num_sign {s : List UInt8} {v : Int} (h : numO s = some v) : s.head? = some 45 ↔ v < 0 := by
  obtain ⟨h1, rfl⟩ := numO_some h
  unfold Lib.itoa
  by_cases h0 : v < 0
  · rw [if_pos h0]
    simp [h0]
  · rw [if_neg h0]
    refine ⟨fun e => ?_, fun e => absurd e h0⟩
    have hp := dec_dig v.toNat
    cases hd : Lib.decDigits v.toNat with
    | nil => rw [hd] at e; simp at e
    | cons c r =>
      rw [hd] at e hp
      simp at e
      have := hp c (List.mem_cons_self ..)
      rw [e] at this
      unfold isDig at this
      have h45 : (45 : UInt8).toNat = 45 := rfl
      omega

set_option maxRecDepth 100000 in
set_option maxHeartbeats 2000000 in
theorem rvalue_any (s : List UInt8) (hl : s.length ≤ 1000000) (w : World) : Calls Tryd.prog 26 #[.string (toBA s)] w (NumEnd s w) := by
  have hnum := Lib.hid (fun n hn W => rnumber_any n hn W)
  obtain ⟨S, hS⟩ : ∃ S, S = toBA s := ⟨_, rfl⟩
  have hsz : S.size = s.length := by rw [hS]; exact toBA_size s
  have hget := Lib.hid (show ∀ k (h : k < S.size), s[k]? = some S[k] from fun k h => by
    subst hS
    have h2 : k < s.length := by omega
    rw [List.getElem?_eq_getElem h2]
    rfl)
  rw [← hS]
  have hS' := Lib.hid hS
  obtain ⟨n, hn⟩ : ∃ n, n = s.length := ⟨_, rfl⟩
  rw [← hn] at hsz hl
  have hn' := Lib.hid hn
  have hsz' := Lib.hid hsz
  clear hS hn
  go_enter Tryd.func26, Tryd.ntmps26
  go_wp2
  go_loopw [4, 5] (fun a i wr => ∃ (k : Nat) (z : Int), k ≤ n ∧ i = .int .i64 k ∧ a = .int .i64 z ∧ fitI z ∧ (∀ v, numO s = some v → z = -(valD (dg s k))) ∧ w = wr) (fun _ i _ => n - (intOf i).toNat)
  case atStart => exact ⟨0, 0, Nat.zero_le _, rfl, rfl, by unfold fitI; omega, fun v hv => by rw [dg_zero]; rfl, rfl⟩
  case round =>
    obtain ⟨k, z, hk, rfl, rfl, hz, hval, rfl⟩ := hrel
    have hval' := Lib.hid hval
    have hz' := Lib.hid hz
    clear hval hz
    by_cases hkn : k < n
    · have hks : k < S.size := by omega
      have hks' : (k : Int) < (S.size : Int) := by omega
      have hb := Lib.hid (hget.out k hks)
      obtain ⟨b, hbb⟩ : ∃ b, b = S[k] := ⟨_, rfl⟩
      have hbq := Lib.hid hbb
      have hnat : S[k].toNat = b.toNat := by rw [hbb]
      clear hbb
      have hlt := b.toNat_lt
      by_cases h45 : b = 45
      · by_cases h0 : k = 0
        · subst h0
          have e0 : S[0].toNat = 45 := by rw [hnat, h45]; rfl
          have hnx := Lib.hid (show dg s 1 = dg s 0 by
            rw [dg_zero, dg_sign]
            have h := hb.out
            rw [← hbq.out, h45] at h
            cases s with
            | nil => simp at h
            | cons x s => simpa using h)
          clear hnat
          go_wp2
          go_roundw
          case rel => exact ⟨1, z, by omega, by go_num, rfl, hz'.out, fun v hv => by rw [hnx.out]; exact hval'.out v hv, trivial⟩
          case measure => simp [intOf]; omega
        · have e0 : S[k].toNat = 45 := by rw [hnat, h45]; rfl
          have hno := Lib.hid (show numO s = none from by
            cases hN : numO s with
            | none => rfl
            | some v =>
              have h := hb.out
              rw [← hbq.out, h45] at h
              have := num_bytes hN h (fun h => h0 h.2)
              unfold isDig at this
              have h45 : (45 : UInt8).toNat = 45 := rfl
              omega)
          have k0 : ((k : Int) == 0) = false := by simpa using h0
          clear hnat
          go_wp2
          go_ret2
          exact ⟨0, by rw [hno.out]; rfl, fun v hv => (by rw [hno.out] at hv; cases hv), Only.refl _ _⟩
      · have hne : ¬ (S[k].toNat = 45) := by
          rw [hnat]
          exact fun h => h45 (UInt8.toNat_inj.1 h)
        have hne2 : ((S[k].toNat : Int) == 45) = false := by rw [beq_eq_false_iff_ne]; omega
        by_cases hd : isDig b ∧ n ≤ 20
        · obtain ⟨hd1, hd2⟩ := hd
          unfold isDig at hd1
          have g1 : ¬ (S[k].toNat : Int) < 48 := by omega
          have g2 : ¬ (57 : Int) < (S[k].toNat : Int) := by omega
          have g3 : ¬ (20 : Int) < (S.size : Int) := by omega
          have hstep := Lib.hid (show ∀ v, numO s = some v → z * 10 - ((S[k].toNat : Int) - 48) = -(valD (dg s (k + 1))) ∧ fitI (z * 10) ∧ fitI (z * 10 - ((S[k].toNat : Int) - 48)) from fun v hv => by
            have h1 := hval'.out v hv
            have h2 := dg_succ (s := s) (k := k) (b := b) (by rw [hbq.out]; exact hb.out) (fun h => h45 h.1)
            have h3 := dg_small hv (k := k + 1) (by have := hn'.out; omega)
            have h4 := (numO_some hv).1
            rw [h2, valD_snoc] at h3 ⊢
            have h5 := (dg_small hv (k := k) (by have := hn'.out; omega)).1
            unfold fitI at *
            rw [hnat, h1]
            omega)
          clear hd1
          go_wp2
          go_roundw
          case rel =>
            refine ⟨k + 1, _, by omega, by go_num, rfl, bounds_i64 (wrap64_wf _), fun v hv => ?_, trivial⟩
            obtain ⟨h1, h2, h3⟩ := hstep.out v hv
            rw [hnat] at h1 h3
            unfold fitI at h2 h3
            rw [show wrap64 (z * 10) = z * 10 from IntWalk.wrap64_in _ (by omega), show wrap64 (z * 10 - ((b.toNat : Int) - 48)) = z * 10 - ((b.toNat : Int) - 48) from IntWalk.wrap64_in _ (by omega)]
            exact h1
          case measure => simp [intOf]; omega
        · have hno := Lib.hid (show numO s = none from by
            cases hN : numO s with
            | none => rfl
            | some v =>
              have h := hb.out
              rw [← hbq.out] at h
              have h1 := num_bytes hN h (fun h => h45 h.1)
              have h2 := itoa_len (numO_some hN).1
              rw [(numO_some hN).2] at h2
              exact absurd ⟨h1, by have := hn'.out; omega⟩ hd)
          unfold isDig at hd
          by_cases g1 : S[k].toNat < 48
          · have g1' : (S[k].toNat : Int) < 48 := by omega
            go_wp2
            go_ret2
            exact ⟨0, by rw [hno.out]; rfl, fun v hv => (by rw [hno.out] at hv; cases hv), Only.refl _ _⟩
          · have g1' : ¬ (S[k].toNat : Int) < 48 := by omega
            by_cases g2 : 57 < S[k].toNat
            · have g2' : (57 : Int) < (S[k].toNat : Int) := by omega
              go_wp2
              go_ret2
              exact ⟨0, by rw [hno.out]; rfl, fun v hv => (by rw [hno.out] at hv; cases hv), Only.refl _ _⟩
            · have g2' : ¬ (57 : Int) < (S[k].toNat : Int) := by omega
              have g3 : (20 : Int) < (S.size : Int) := by omega
              go_wp2
              go_ret2
              exact ⟨0, by rw [hno.out]; rfl, fun v hv => (by rw [hno.out] at hv; cases hv), Only.refl _ _⟩
    · obtain rfl : k = n := by omega
      -- the sign, and the answer
      have hans := Lib.hid (fun (u : Int) (hu : fitI u) (huv : ∀ v, numO s = some v → u = v) => show ((toBA (Lib.itoa u)).toList == S.toList) = (numO s).isSome from by
        rw [hS'.out, beq_toBA]
        cases hN : numO s with
        | some v =>
          obtain ⟨h1, h2⟩ := numO_some hN
          rw [huv v hN, h2]
          simp
        | none =>
          have := numO_none hN hu
          simp [this])
      have hzv := Lib.hid (show ∀ v, numO s = some v → z = -(v.natAbs : Int) from fun v hv => by
        have h := hval'.out v hv
        rw [hn'.out, num_last hv] at h
        exact h)
      have hgo := Lib.hid (fun (u : Int) (hu : fitI u) => hnum.out u hu w)
      by_cases he : s = []
      · have hk0 : k = 0 := by rw [hn'.out, he]; rfl
        have hS0 : (S.toList == ([] : List UInt8)) = true := by rw [hS'.out, ByteArray.toList_eq, toBA_list, he]; rfl
        have hnone : numO s = none := by
          cases hN : numO s with
          | none => rfl
          | some v =>
            have h1 := itoa_pos v
            rw [(numO_some hN).2, he] at h1
            simp at h1
        have hfu := hz'.out
        have huv : ∀ v, numO s = some v → z = v := fun v hv => by rw [hnone] at hv; cases hv
        clear hnone hk0
        obtain ⟨T, hT⟩ : ∃ T, T = toBA (Lib.itoa z) := ⟨_, rfl⟩
        have hq := Lib.hid (hgo.out z hfu)
        have ha := hans.out z hfu huv
        unfold GrowS at hq
        rw [← hT] at hq ha
        obtain ⟨N, hN⟩ : ∃ N, N = (numO s).isSome := ⟨_, rfl⟩
        rw [← hN] at ha
        have hN' := Lib.hid hN
        have huv' := Lib.hid huv
        clear hT hN huv hfu
        go_wp2_with fail
        refine hq.out.mono ?_
        rintro e w1 ⟨rfl, hO⟩
        have hO' := Lib.hid hO
        clear hO
        go_wp2
        go_ret2
        refine ⟨z, ?_, huv'.out, hO'.out⟩
        rw [← hN'.out]
        rfl
      · have hpos : 0 < k := by
          rw [hn'.out]
          exact List.length_pos_iff.2 he
        have hS0 : (S.toList == ([] : List UInt8)) = false := by
          rw [hS'.out, ByteArray.toList_eq, toBA_list]
          exact beq_eq_false_iff_ne.2 he
        have h0s : 0 < S.size := by omega
        have hb := hget.out 0 h0s
        have hhd : s.head? = some S[0] := by rw [List.head?_eq_getElem?]; exact hb
        by_cases h45 : S[0] = 45
        · have e0 : S[0].toNat = 45 := by rw [h45]; rfl
          have hfu := hz'.out
          have huv : ∀ v, numO s = some v → z = v := fun v hv => by
            have h1 := (num_sign hv).1 (by rw [hhd, h45])
            have h2 := hzv.out v hv
            omega
          clear h45 hhd hb
          obtain ⟨T, hT⟩ : ∃ T, T = toBA (Lib.itoa z) := ⟨_, rfl⟩
          have hq := Lib.hid (hgo.out z hfu)
          have ha := hans.out z hfu huv
          unfold GrowS at hq
          rw [← hT] at hq ha
          obtain ⟨N, hN⟩ : ∃ N, N = (numO s).isSome := ⟨_, rfl⟩
          rw [← hN] at ha
          have hN' := Lib.hid hN
          have huv' := Lib.hid huv
          clear hT hN huv hfu
          go_wp2_with fail
          refine hq.out.mono ?_
          rintro e w1 ⟨rfl, hO⟩
          have hO' := Lib.hid hO
          clear hO
          go_wp2
          go_ret2
          refine ⟨z, ?_, huv'.out, hO'.out⟩
          rw [← hN'.out]
          rfl
        · have hne : ¬ (S[0].toNat = 45) := fun h => h45 (UInt8.toNat_inj.1 h)
          have e0 : ((S[0].toNat : Int) == 45) = false := by rw [beq_eq_false_iff_ne]; omega
          have hfu : fitI (wrap64 (-z)) := bounds_i64 (wrap64_wf _)
          have huv : ∀ v, numO s = some v → wrap64 (-z) = v := fun v hv => by
            have h1 : ¬ v < 0 := fun h => by
              have := (num_sign hv).2 h
              rw [hhd] at this
              exact h45 (Option.some.inj this)
            have h2 := hzv.out v hv
            have h3 := (numO_some hv).1
            unfold fitI at h3
            rw [IntWalk.wrap64_in _ (by omega)]
            omega
          clear h45 hhd hb
          obtain ⟨T, hT⟩ : ∃ T, T = toBA (Lib.itoa (wrap64 (-z))) := ⟨_, rfl⟩
          have hq := Lib.hid (hgo.out (wrap64 (-z)) hfu)
          have ha := hans.out (wrap64 (-z)) hfu huv
          unfold GrowS at hq
          rw [← hT] at hq ha
          obtain ⟨N, hN⟩ : ∃ N, N = (numO s).isSome := ⟨_, rfl⟩
          rw [← hN] at ha
          have hN' := Lib.hid hN
          have huv' := Lib.hid huv
          clear hT hN huv hfu
          go_wp2_with fail
          refine hq.out.mono ?_
          rintro e w1 ⟨rfl, hO⟩
          have hO' := Lib.hid hO
          clear hO
          go_wp2
          go_ret2
          refine ⟨(wrap64 (-z)), ?_, huv'.out, hO'.out⟩
          rw [← hN'.out]
          rfl
end Go.Proofs.YthippdgmbfaijaaDoor
