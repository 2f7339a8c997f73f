/- The document's digits, and its texts of operations and programs. -/
import Derived.Test.YtgfgjbbpochiiaaDoorSx
import Derived.Laws.IdiomStrings
namespace Go.Proofs.YtgfgjbbpochiiaaDoor
open Go Go.RowKit

theorem conv_one (w : World) (d : Nat) (hd : d < 256) (z : Int) (hz : z = d) : Sem.run Tryd.prog (convert 68 9 (.slice (some ⟨w.heap.size, 0, none⟩) 1 1)) (w.alloc (.cells #[.int .u8 z] 5)) = .ok (.string (toBA [UInt8.ofNat d])) (w.alloc (.cells #[.int .u8 z] 5)) := by
  subst hz
  have h := run_convert_bytes_back (P := Tryd.prog) (w.alloc (.cells #[.int .u8 (d : Int)] 5)) 68 9 5 ⟨w.heap.size, 0, none⟩ 1 [UInt8.ofNat d] Tryd.underlying68 Tryd.underlying5 Tryd.underlying9 (fun j hj => by
    obtain rfl : j = 0 := by simpa using hj
    have hb := heap_new_at w (.cells [.int .u8 (d : Int)].toArray 5) rfl
    rw [Addr.add_lit, Nat.zero_add]
    have : (UInt8.ofNat d).toNat = d := by rw [UInt8.toNat_ofNat']; omega
    simp only [List.getElem_cons_zero, this]
    exact row_cell hb rfl)
  exact h
set_option maxRecDepth 100000 in
set_option maxHeartbeats 1000000 in
theorem digits_any (n : Nat) (hn : (n : Int) ≤ 9223372036854775807) (w : World) : Calls Tryd.prog 24 #[.int .i64 n] w (GrowS (Lib.decDigits n) w) := by
  go_enter Tryd.func24, Tryd.ntmps24
  go_wp2
  go_loopw [0, 3] (fun m o wr => ∃ (k : Nat) (sfx : List UInt8), m = .int .i64 k ∧ (k : Int) ≤ 9223372036854775807 ∧ o = .string (toBA sfx) ∧ Hid (Lib.decDigits n = Lib.decDigits k ++ sfx) ∧ Hid (Only (fun _ => False) w wr)) (fun m _ _ => (intOf m).toNat)
  case atStart => exact ⟨n, [], rfl, hn, rfl, Lib.hid (by simp), Lib.hid (Only.refl _ _)⟩
  case round =>
    obtain ⟨k, sfx, rfl, hk, rfl, hd, hO⟩ := hrel
    obtain ⟨ws, hws⟩ : ∃ ws : World, ws = wr := ⟨_, rfl⟩
    subst hws
    have hsz : sfx.length ≤ 19 := by
      have h1 := congrArg List.length hd.out
      have h2 := dec_nineteen (u := n) (by omega)
      rw [List.length_append] at h1
      omega
    by_cases h10 : 10 ≤ k
    · have h10' : (10 : Int) ≤ (k : Int) := by omega
      have hm : (k : Int) % 10 = ((k % 10 : Nat) : Int) := by omega
      have hq : (k : Int) / 10 = ((k / 10 : Nat) : Int) := by omega
      have hcv := conv_one ws (48 + k % 10) (by omega) (48 + (k : Int) % 10) (by omega)
      have hnx := Lib.hid (show toBA [UInt8.ofNat (48 + k % 10)] ++ toBA sfx = toBA (UInt8.ofNat (48 + k % 10) :: sfx) from toBA_app _ _)
      have hs1 : (toBA sfx).size ≤ 19 := by rw [toBA_size]; exact hsz
      have hs2 : (toBA [UInt8.ofNat (48 + k % 10)]).size = 1 := by rw [toBA_size]; rfl
      obtain ⟨D, hD⟩ : ∃ D, D = toBA [UInt8.ofNat (48 + k % 10)] := ⟨_, rfl⟩
      rw [← hD] at hcv hnx hs2
      clear hm hD hq
      go_wp2
      go_roundw
      case rel =>
        refine ⟨k / 10, UInt8.ofNat (48 + k % 10) :: sfx, by rw [show ((k / 10 : Nat) : Int) = (k : Int) / 10 by omega], by omega, by rw [hnx.out], Lib.hid ?_, Lib.hid (hO.out.alloc _)⟩
        rw [hd.out, Lib.decDigits, dif_neg (by omega)]
        simp
      case measure => simp [intOf]; omega
    · have h10' : ¬ (10 : Int) ≤ (k : Int) := by omega
      have hcv := conv_one ws (48 + k) (by omega) (48 + (k : Int)) (by omega)
      have hnx := Lib.hid (show toBA [UInt8.ofNat (48 + k)] ++ toBA sfx = toBA (Lib.decDigits n) from by
        rw [toBA_app, hd.out, Lib.decDigits, dif_pos (by omega)])
      have hs1 : (toBA sfx).size ≤ 19 := by rw [toBA_size]; exact hsz
      have hs2 : (toBA [UInt8.ofNat (48 + k)]).size = 1 := by rw [toBA_size]; rfl
      obtain ⟨D, hD⟩ : ∃ D, D = toBA [UInt8.ofNat (48 + k)] := ⟨_, rfl⟩
      rw [← hD] at hcv hnx hs2
      have hO' := Lib.hid (hO.out.alloc (.cells #[.int .u8 (48 + (k : Int))] 5))
      clear hD
      go_wp2
      go_ret
      exact ⟨by rw [hnx.out]; rfl, hO'.out⟩
end Go.Proofs.YtgfgjbbpochiiaaDoor
