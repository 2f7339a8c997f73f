/- RingTexts' walk: texts go through a ring as they came, as many as there is room. -/
import Derived.Test.YtbmegpcdcbfjmaaFixed3
import Derived.Test.YtbmegpcdcbfjmaaTakeS
import Derived.Test.YtbmegpcdcbfjmaaRowed
namespace Go.Proofs.Ytbmegpcdcbfjmaa
open Go.RowKit

open RingS in
theorem texts_any (A : Option Addr) (len cap : Nat) (ss : Nat → ByteArray) (room : Int) (w : World) (hr : 0 ≤ room ∧ room ≤ 255) (hl : len ≤ 100) (hA : Row w A len (fun i => .string (ss i))) :
    Calls Try.prog 4 #[.slice A len cap, .int .u8 room] w fun e w' => e = .returned (.bool true) ∧ Below w.heap.size w w' := by
  obtain ⟨n, hn, hn40⟩ : ∃ n : Nat, room % 40 = (n : Int) ∧ n < 40 := ⟨(room % 40).toNat, by omega, by omega⟩
  obtain ⟨hr0, hr1⟩ := hr
  have hA' := Lib.hid hA
  clear hA
  go_enter Try.func4, Try.ntmps4
  go_wp2_with (go_at_call 7; refine (RingI.fixed_any _).mono ?_; rintro e w1 ⟨rfl, hb1⟩; have hb1' := Lib.hid hb1; clear hb1)
  refine (new_ok n _ (by omega)).mono ?_
  rintro e w2 ⟨rfl, hR2, ho2⟩
  obtain ⟨r, hr⟩ : ∃ r, r = w1.heap.size := ⟨_, rfl⟩
  rw [← hr] at hR2 ⊢
  have hB : w.heap.size ≤ r := hr ▸ hb1'.out.size
  have hO2 : Only (fun x => w.heap.size ≤ x) w w2 := (Only.of_new hb1'.out _).trans ho2 (fun _ _ h => h.elim)
  have hR2' := Lib.hid hR2
  have hO2' := Lib.hid hO2
  have hBr := Lib.hid hB
  clear hR2 hO2 hr hB ho2 hb1'
  go_wp2
  go_loopw [7, 8, 25] (fun _ _ i wr => ∃ k : Nat, k ≤ len ∧ i = .int .i64 k ∧ ∃ o, RingAt wr r o n ((List.range (min k n)).map ss) ∧ (∀ x, fp r o x → w.heap.size ≤ x) ∧ Only (fun x => w.heap.size ≤ x) w wr) (fun _ _ i _ => len - (intOf i).toNat)
  case atStart => exact ⟨0, Nat.zero_le _, rfl, none, by simpa using hR2'.out, (by rintro x (rfl | h); exact hBr.out; cases h), hO2'.out⟩
  case round =>
    obtain ⟨k, hk, rfl, o, hR, hfp, hO⟩ := hrel
    have hRowk := (hA'.out.only hO (fun _ h => h))
    have hR' := Lib.hid hR
    have hfp' := Lib.hid hfp
    have hO' := Lib.hid hO
    clear hR hfp hO
    by_cases hlt : k < len
    · obtain ⟨b, off, rfl, hc, _⟩ := hRowk k hlt
      clear hRowk
      by_cases hkn : k < n
      · have hput := put_any hR'.out (by simp; omega) (ss k)
        have hput' := Lib.hid hput
        clear hput
        go_wp2_with (go_at_call 16; refine hput'.out.mono ?_; rintro e w3 ⟨rfl, o3, hR3, ho3, hO3⟩; have hR3' := Lib.hid hR3; have ho3' := Lib.hid ho3; have hO3' := Lib.hid hO3; clear hR3 ho3 hO3)
        go_roundw
        case rel =>
          refine ⟨k + 1, by omega, by go_num, o3, ?_, ?_, ?_⟩
          · have := hR3'.out
            rw [show min k n = k by omega] at this
            rw [show min (k + 1) n = k + 1 by omega, List.range_succ, List.map_append]
            exact this
          · rintro x (rfl | hx)
            · exact hfp'.out _ (.inl rfl)
            · rcases ho3'.out with rfl | rfl
              · exact hfp'.out _ (.inr hx)
              · cases hx; exact hO'.out.size
          · exact hO'.out.trans hO3'.out (fun x _ h => hfp'.out x h)
        case measure => simp [intOf]; omega
      · have hput := put_full hR'.out (by simp; omega) (ss k)
        have hput' := Lib.hid hput
        clear hput
        go_wp2_with (go_at_call 16; refine hput'.out.mono ?_; rintro e _ ⟨rfl, m, rfl⟩)
        go_roundw
        case rel =>
          refine ⟨k + 1, by omega, by go_num, o, ?_, hfp'.out, hO'.out.drewN m⟩
          rw [show min (k + 1) n = min k n by omega]
          exact hR'.out.drewN m
        case measure => simp [intOf]; omega
    · obtain rfl : k = len := by omega
      go_wp2
      go_loopw [9, 10, 11, 12, 41] (fun _ _ _ _ i ws => ∃ j : Nat, j ≤ k ∧ i = .int .i64 j ∧ RingAt ws r o n (((List.range (min k n)).map ss).drop j) ∧ Only (fun x => w.heap.size ≤ x) w ws) (fun _ _ _ _ i _ => k - (intOf i).toNat)
      case atStart => exact ⟨0, Nat.zero_le _, rfl, hR'.out, hO'.out⟩
      case round =>
        obtain ⟨j, hj, rfl, hR, hO⟩ := hrel
        obtain ⟨ws, hws⟩ : ∃ ws : World, ws = wr := ⟨_, rfl⟩
        subst hws
        have hRowj := (hA'.out.only hO (fun _ h => h))
        have hR2 := Lib.hid hR
        have hO2 := Lib.hid hO
        clear hR hO hRowk
        by_cases hjk : j < k
        · obtain ⟨b, off, rfl, hc, _⟩ := hRowj j hjk
          clear hRowj
          replace hc : ws.cell? ⟨b, off + j, none⟩ = some (.string (ss j)) := hc
          by_cases hjn : j < n
          · have hlist : ((List.range (min k n)).map ss).drop j = ss j :: ((List.range (min k n)).map ss).drop (j + 1) := by
              rw [List.drop_eq_getElem_cons (by simp; omega)]
              simp
            have htake := take_some (hlist ▸ hR2.out)
            have htake' := Lib.hid htake
            clear htake hlist
            obtain ⟨s, hs⟩ : ∃ s, s = ss j := ⟨_, rfl⟩
            rw [← hs] at hc htake'
            have hd : decide (j < n) = true := by simpa using hjn
            go_wp2_with (go_at_call 17; refine htake'.out.mono ?_; rintro e w3 ⟨rfl, hR3, hO3⟩; simp only [mk]; have hR3' := Lib.hid hR3; have hO3' := Lib.hid hO3; clear hR3 hO3)
            go_roundw
            case rel =>
              exact ⟨j + 1, by omega, by go_num, hR3'.out, hO2.out.trans hO3'.out (fun x _ h => hfp'.out x h)⟩
            case measure => simp [intOf]; omega
          · have hlist : ((List.range (min k n)).map ss).drop j = [] := List.drop_eq_nil_of_le (by simp; omega)
            have htake := take_none (hlist ▸ hR2.out)
            have htake' := Lib.hid htake
            have hnext : ((List.range (min k n)).map ss).drop (j + 1) = [] := List.drop_eq_nil_of_le (by simp; omega)
            have hR4 := Lib.hid (hnext.trans hlist.symm ▸ hR2.out)
            have hd : decide (j < n) = false := by simpa using hjn
            have hd2 : decide (n ≤ j) = true := by simp; omega
            clear htake hlist hnext
            go_wp2_with (go_at_call 17; refine htake'.out.mono ?_; rintro e w3 ⟨rfl, hw⟩; subst hw)
            go_roundw
            case rel =>
              exact ⟨j + 1, by omega, by go_num, hR4.out, hO2.out⟩
            case measure => simp [intOf]; omega
        · obtain rfl : j = k := by omega
          have hlist : ((List.range (min j n)).map ss).drop j = [] := List.drop_eq_nil_of_le (by simp; omega)
          have hlen := len_any (hlist ▸ hR2.out)
          have hlen' := Lib.hid hlen
          clear hlen hlist
          go_wp2_with (go_at_call 18; refine hlen'.out.mono ?_; rintro e w3 ⟨rfl, hw⟩; subst hw)
          go_ret
          exact ⟨rfl, hO2.out.below (Nat.le_refl _) (fun _ h => h)⟩

theorem texts_long (A : Option Addr) (len cap : Nat) (room : Int) (w : World) (hl : 100 < len) :
    Calls Try.prog 4 #[.slice A len cap, .int .u8 room] w fun e w' => e = .returned (.bool true) ∧ Below w.heap.size w w' := by
  go_enter Try.func4, Try.ntmps4
  go_wp2_with (go_at_call 7; refine (RingI.fixed_any _).mono ?_; rintro e w1 ⟨rfl, hb1⟩; have hb1' := Lib.hid hb1; clear hb1)
  go_ret
  exact ⟨rfl, hb1'.out⟩

theorem texts (A : Option Addr) (len cap : Nat) (ss : Nat → ByteArray) (room : Int) (w : World) (hA : Row w A len (fun i => .string (ss i))) (hr : (Lit.int .u8 room).wf = true) :
    Calls Try.prog 4 #[.slice A len cap, .int .u8 room] w fun e w' => e = .returned (.bool true) ∧ Below w.heap.size w w' := by
  by_cases hl : 100 < len
  · exact texts_long A len cap room w hl
  · exact texts_any A len cap ss room w (bounds_u8 hr) (by omega) hA
end Go.Proofs.Ytbmegpcdcbfjmaa
