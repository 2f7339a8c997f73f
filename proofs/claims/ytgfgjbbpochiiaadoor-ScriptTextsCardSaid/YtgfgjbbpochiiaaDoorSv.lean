/- The document's value of a word. -/
import Derived.Test.YtgfgjbbpochiiaaDoorSs
namespace Go.Proofs.YtgfgjbbpochiiaaDoor
open Go Go.RowKit

theorem valD_bound : ∀ (n : Nat) (l : List UInt8), l.length = n → (∀ b ∈ l, isDig b) → 0 ≤ valD l ∧ valD l < 10 ^ n
  | 0, l, h, _ => by
    obtain rfl : l = [] := List.eq_nil_of_length_eq_zero h
    decide
  | n + 1, l, h, hd => by
    obtain ⟨a, b, rfl⟩ : ∃ a b, l = a ++ [b] := by
      cases hq : l.reverse with
      | nil => rw [List.reverse_eq_nil_iff] at hq; rw [hq] at h; simp at h
      | cons b a => exact ⟨a.reverse, b, by rw [← List.reverse_reverse l, hq]; simp⟩
    have h1 := valD_bound n a (by simpa using h) (fun x hx => hd x (by simp [hx]))
    have h2 := hd b (by simp)
    unfold isDig at h2
    rw [valD_snoc, Int.pow_succ]
    omega
theorem valD_small {l : List UInt8} {n : Nat} (hl : l.length = n) (hn : n ≤ 9) (hd : ∀ b ∈ l, isDig b) : 0 ≤ valD l ∧ valD l ≤ 999999999 := by
  have h1 := valD_bound n l hl hd
  have h2 : (10 : Int) ^ n ≤ 10 ^ 9 := by
    have : n = 0 ∨ n = 1 ∨ n = 2 ∨ n = 3 ∨ n = 4 ∨ n = 5 ∨ n = 6 ∨ n = 7 ∨ n = 8 ∨ n = 9 := by omega
    rcases this with rfl | rfl | rfl | rfl | rfl | rfl | rfl | rfl | rfl | rfl <;> decide
  have h3 : (10 : Int) ^ 9 = 1000000000 := by decide
  omega
theorem itoa_dec {v : Int} (h : inN v) : Lib.itoa v = Lib.decDigits v.toNat := by
  unfold inN at h
  unfold Lib.itoa
  rw [if_neg (by omega)]
theorem numS_digs {s : List UInt8} {v : Int} (h : numS s = some v) : (∀ b ∈ s, isDig b) ∧ s.length ≤ 9 ∧ s ≠ [] ∧ valD s = v := by
  obtain ⟨h1, h2⟩ := numS_some h
  have h3 := h1.len
  have h4 := itoa_pos v
  rw [h2] at h3 h4
  rw [itoa_dec h1] at h2
  refine ⟨by rw [← h2]; exact dec_dig _, h3, fun e => by rw [e] at h4; simp at h4, ?_⟩
  rw [← h2, dec_val]
  unfold inN at h1
  omega
theorem numS_back {s : List UInt8} (hd : ∀ b ∈ s, isDig b) (hl : s.length ≤ 9) : (numS s).isSome = decide (Lib.decDigits (valD s).toNat = s) ∧ (∀ u, numS s = some u → valD s = u) := by
  have h1 := valD_small rfl hl hd
  have hin : inN (valD s) := h1
  refine ⟨?_, fun u hu => (numS_digs hu).2.2.2⟩
  by_cases he : Lib.decDigits (valD s).toNat = s
  · rw [decide_eq_true he, show numS s = some (valD s) from (congrArg numS (he.symm.trans (itoa_dec hin).symm)).trans (numS_itoa hin)]
    rfl
  · rw [decide_eq_false he]
    cases hN : numS s with
    | none => rfl
    | some u =>
      obtain ⟨h2, h3⟩ := numS_some hN
      rw [(numS_digs hN).2.2.2] at he
      exact absurd ((itoa_dec h2).symm.trans h3) he
/-- A word's value, and whether it has one. -/
def ValEnd (s : List UInt8) (w : World) (e : Ending) (w' : World) : Prop := ∃ n, e = .returned (.tuple #[.int .i64 n, .bool (numS s).isSome]) ∧ (∀ v, numS s = some v → n = v) ∧ Only (fun _ => False) w w'

set_option maxRecDepth 100000 in
set_option maxHeartbeats 1000000 in
theorem value_any (s : List UInt8) (hl : s.length ≤ 1000000) (w : World) : Calls Tryd.prog 34 #[.string (toBA s)] w (ValEnd s w) := by
  obtain ⟨S, hS⟩ : ∃ S, S = toBA s := ⟨_, rfl⟩
  have hsz : S.size = s.length := by rw [hS]; exact toBA_size s
  have hget := Lib.hid (show ∀ k (h : k < S.size), s[k]? = some S[k] from fun k h => by
    subst hS
    have h2 : k < s.length := by omega
    rw [List.getElem?_eq_getElem h2]
    rfl)
  rw [← hS]
  have hS' := Lib.hid hS
  obtain ⟨n, hn⟩ : ∃ n, n = s.length := ⟨_, rfl⟩
  rw [← hn] at hsz hl
  have hn' := Lib.hid hn
  by_cases he : s = []
  · have hE : (S.toList == ([] : List UInt8)) = true := by rw [hS, ByteArray.toList_eq, toBA_list, he]; rfl
    have hno := Lib.hid (show numS s = none from by
      cases hN : numS s with
      | none => rfl
      | some v => exact absurd he (numS_digs hN).2.2.1)
    clear hS hn he
    go_enter Tryd.func34, Tryd.ntmps34
    go_wp2
    go_ret2
    exact ⟨0, by rw [hno.out]; rfl, fun v hv => (by rw [hno.out] at hv; cases hv), Only.refl _ _⟩
  have hE : (S.toList == ([] : List UInt8)) = false := by
    rw [hS, ByteArray.toList_eq, toBA_list]
    exact beq_eq_false_iff_ne.2 he
  by_cases h9 : 9 < n
  · have h9' : (9 : Int) < (S.size : Int) := by omega
    have hno := Lib.hid (show numS s = none from by
      cases hN : numS s with
      | none => rfl
      | some v => have := (numS_digs hN).2.1; omega)
    clear hS hn he
    go_enter Tryd.func34, Tryd.ntmps34
    go_wp2
    go_ret2
    exact ⟨0, by rw [hno.out]; rfl, fun v hv => (by rw [hno.out] at hv; cases hv), Only.refl _ _⟩
  have h9' : ¬ (9 : Int) < (S.size : Int) := by omega
  clear hS hn he
  go_enter Tryd.func34, Tryd.ntmps34
  go_wp2
  go_loopw [4, 5] (fun a i wr => ∃ (k : Nat) (z : Int), k ≤ n ∧ i = .int .i64 k ∧ a = .int .i64 z ∧ (0 ≤ z ∧ z ≤ 999999999) ∧ z = valD (s.take k) ∧ (∀ b ∈ s.take k, isDig b) ∧ w = wr) (fun _ i _ => n - (intOf i).toNat)
  case atStart => exact ⟨0, 0, Nat.zero_le _, rfl, rfl, by omega, rfl, by simp, rfl⟩
  case round =>
    obtain ⟨k, z, hk, rfl, rfl, hz, hval, hdig, rfl⟩ := hrel
    have hval' := Lib.hid hval
    have hdig' := Lib.hid hdig
    clear hval hdig
    by_cases hkn : k < n
    · have hks : k < S.size := by omega
      have hks' : (k : Int) < (S.size : Int) := by omega
      have hb := Lib.hid (hget.out k hks)
      have hlt := (S[k]).toNat_lt
      have htk := Lib.hid (show s.take (k + 1) = s.take k ++ [S[k]] by rw [List.take_add_one, hb.out]; rfl)
      by_cases hd : isDig S[k]
      · have hd2 := hd
        unfold isDig at hd
        have g1 : ¬ (S[k].toNat : Int) < 48 := by omega
        have g2 : ¬ (57 : Int) < (S[k].toNat : Int) := by omega
        have hnd := Lib.hid (show ∀ b ∈ s.take (k + 1), isDig b from fun b hb => by
          rw [htk.out] at hb
          rcases List.mem_append.1 hb with h | h
          · exact hdig'.out b h
          · rw [List.mem_singleton] at h
            rw [h]
            exact hd2)
        have hnv := show z * 10 + ((S[k].toNat : Int) - 48) = valD (s.take (k + 1)) from by
          rw [htk.out, valD_snoc, ← hval'.out]
          omega
        have hnb := valD_small (l := s.take (k + 1)) rfl (by rw [List.length_take]; omega) hnd.out
        rw [← hnv] at hnb
        have hnv' := Lib.hid hnv
        clear hnv hd2
        go_wp2
        go_roundw
        case rel => exact ⟨k + 1, z * 10 + ((S[k].toNat : Int) - 48), by omega, by go_num, rfl, hnb, hnv'.out, hnd.out, trivial⟩
        case measure => simp [intOf]; omega
      · have hno := Lib.hid (show numS s = none from by
          cases hN : numS s with
          | none => rfl
          | some v => exact absurd ((numS_digs hN).1 _ (List.mem_of_getElem? hb.out)) hd)
        unfold isDig at hd
        by_cases g1 : (S[k].toNat : Int) < 48
        · clear hd
          go_wp2
          go_ret2
          exact ⟨0, by rw [hno.out]; rfl, fun v hv => (by rw [hno.out] at hv; cases hv), Only.refl _ _⟩
        · have g2 : (57 : Int) < (S[k].toNat : Int) := by omega
          clear hd
          go_wp2
          go_ret2
          exact ⟨0, by rw [hno.out]; rfl, fun v hv => (by rw [hno.out] at hv; cases hv), Only.refl _ _⟩
    · obtain rfl : k = n := by omega
      have htk : s.take k = s := List.take_of_length_le (by have := hn'.out; omega)
      have hback := numS_back (s := s) (by have := hdig'.out; rw [htk] at this; exact this) (by have := hn'.out; omega)
      have hzv := hval'.out
      rw [htk] at hzv
      rw [← hzv] at hback
      obtain ⟨m, hm⟩ : ∃ m : Nat, z = m := ⟨z.toNat, by omega⟩
      subst hm
      have hb1 := Lib.hid hback.1
      have hb2 := Lib.hid hback.2
      have hq := Lib.hid (digits_any m (by omega) w)
      have hbq : ((toBA (Lib.decDigits m)).toList == S.toList) = decide (Lib.decDigits m = s) := by rw [hS'.out]; exact beq_toBA _ _
      rw [show (m : Int).toNat = m from rfl] at hb1
      rw [← hb1.out] at hbq
      unfold GrowS at hq
      obtain ⟨T, hT⟩ : ∃ T, T = toBA (Lib.decDigits m) := ⟨_, rfl⟩
      rw [← hT] at hq hbq
      obtain ⟨B, hB⟩ : ∃ B, B = (numS s).isSome := ⟨_, rfl⟩
      rw [← hB] at hbq
      have hB' := Lib.hid hB
      clear hT hB hback hzv htk hz
      go_wp2_with fail
      refine hq.out.mono ?_
      rintro e w1 ⟨rfl, hO⟩
      have hO' := Lib.hid hO
      clear hO
      go_wp2
      go_ret2
      refine ⟨m, ?_, hb2.out, hO'.out⟩
      rw [← hB'.out]
      rfl
end Go.Proofs.YtgfgjbbpochiiaaDoor
