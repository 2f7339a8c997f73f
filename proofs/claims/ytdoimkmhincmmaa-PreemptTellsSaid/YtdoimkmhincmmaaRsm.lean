/- The reference's costs of operations, and their sum. -/
import Derived.Test.YtdoimkmhincmmaaLon
namespace Go.Proofs.Ytdoimkmhincmmaa
namespace Sct
open Go Go.RowKit Lin Lck Cst

theorem rclamp_any (z : Int) (w : World) : Calls Try.prog 70 #[.int .i64 z] w (fun e w' => e = .returned (.int .i64 (cntZ z)) ∧ w = w') := by
  go_enter Try.func70, Try.ntmps70
  by_cases h0 : z < 0
  · have : cntZ z = 0 := by unfold cntZ; omega
    rw [this]
    go_wp2
    go_ret
    exact ⟨rfl, rfl⟩
  · by_cases h1 : 1073741824 < z
    · have : cntZ z = 1073741824 := by unfold cntZ; omega
      rw [this]
      go_wp2
      go_ret
      exact ⟨rfl, rfl⟩
    · have : cntZ z = z := by unfold cntZ; omega
      rw [this]
      go_wp2
      go_ret
      exact ⟨rfl, rfl⟩
set_option maxRecDepth 100000 in
theorem rof_any (x : Opn) (s wy h mi : Int) (w : World) : Calls Try.prog 56 #[x.val, .agg #[.int .i64 s, .int .i64 wy, .int .i64 h, .int .i64 mi], .bool false] w (GrowI (ofZ x h mi false) w) := by
  obtain ⟨k, a, b⟩ := x
  unfold Opn.val
  by_cases h1 : k = 1
  · have e : ofZ ⟨k, a, b⟩ h mi false = cntZ a := by simp [ofZ, h1]
    rw [e]
    subst h1
    clear e
    go_enter Try.func56, Try.ntmps56
    go_wp2_with (go_at_call 70; refine (rclamp_any a _).mono ?_; rintro e w' ⟨rfl, rfl⟩)
    go_ret
    exact ⟨rfl, ((Only.refl _ w).alloc _).alloc _⟩
  · by_cases h2 : k = 2
    · subst h2
      have e : ofZ ⟨2, a, b⟩ h mi false = cntZ mi := by simp [ofZ]
      rw [e]
      clear e
      go_enter Try.func56, Try.ntmps56
      go_wp2_with (go_at_call 70; refine (rclamp_any mi _).mono ?_; rintro e w' ⟨rfl, rfl⟩)
      go_ret
      exact ⟨rfl, ((Only.refl _ w).alloc _).alloc _⟩
    · have e : ofZ ⟨k, a, b⟩ h mi false = 1 := by simp [ofZ, h1, h2]
      rw [e]
      clear e
      have g1 : (k == 1) = false := by simpa using h1
      have g2 : (k == 2) = false := by simpa using h2
      go_enter Try.func56, Try.ntmps56
      go_wp2
      go_ret
      exact ⟨rfl, ((Only.refl _ w).alloc _).alloc _⟩
def sumU (co : Nat → Int) : Nat → Int
  | 0 => 0
  | k + 1 => sumU co k + co k
theorem sumU_bound {co : Nat → Int} (h0 : ∀ k, 0 ≤ co k ∧ co k ≤ 1073741824) : ∀ k : Nat, 0 ≤ sumU co k ∧ sumU co k ≤ 1073741824 * (k : Int)
  | 0 => by simp [sumU]
  | k + 1 => by
    have ih := sumU_bound h0 k
    have hk := h0 k
    unfold sumU
    omega
set_option maxRecDepth 100000 in
set_option maxHeartbeats 2000000 in
theorem rsum_any {w : World} {A : Option Addr} {n cap : Nat} {l : List Opn} (hl : OpnRow w A l) (hn : l.length = n) (h9 : n ≤ 1000) (s wy h mi : Int) :
    Calls Try.prog 40 #[.slice A n cap, .agg #[.int .i64 s, .int .i64 wy, .int .i64 h, .int .i64 mi], .bool false] w (GrowI (sumU (costK l h mi) n) w) := by
  obtain ⟨W1, hW1⟩ : ∃ W1, W1 = w.alloc (.cells #[.int .i64 s, .int .i64 wy, .int .i64 h, .int .i64 mi] 23) := ⟨_, rfl⟩
  have hO : Only (fun _ => False) w W1 := by rw [hW1]; exact (Only.refl (fun _ => False) w).alloc _
  have hb := heap_new_at w (.cells #[.int .i64 s, .int .i64 wy, .int .i64 h, .int .i64 mi] 23) rfl
  rw [← hW1] at hb
  have hb' := Lib.hid hb
  have hO' := Lib.hid hO
  have hl' := Lib.hid (fun W (h : Only (fun _ => False) w W) => hl.new h)
  have hn' := Lib.hid hn
  obtain ⟨co, hco⟩ : ∃ co, co = costK l h mi := ⟨_, rfl⟩
  rw [← hco]
  have hcb := Lib.hid (fun k => show 0 ≤ co k ∧ co k ≤ 1073741824 from by rw [hco]; exact costK_le _ _ _ _)
  have hca := Lib.hid (fun k o (ho : l[k]? = some o) => show co k = ofZ o h mi false from by rw [hco]; exact costK_at ho)
  obtain ⟨q, hqq⟩ : ∃ q, q = w.heap.size := ⟨_, rfl⟩
  have hqq' := Lib.hid hqq
  rw [← hqq] at hb'
  have hW1' := Lib.hid hW1
  clear hl hn hO hb hW1 hco hqq
  go_enter Try.func40, Try.ntmps40
  go_wp2
  rw [← hqq'.out, ← hW1'.out]
  go_loopw [7, 12] (fun a i' wr => ∃ k : Nat, k ≤ n ∧ i' = .int .i64 k ∧ a = .int .i64 (sumU co k) ∧ Only (fun _ => False) W1 wr) (fun _ i' _ => n - (intOf i').toNat)
  case atStart => exact ⟨0, Nat.zero_le _, rfl, rfl, Only.refl _ _⟩
  case round =>
    obtain ⟨k, hk, rfl, rfl, hOk⟩ := hrel
    obtain ⟨ws, hws⟩ : ∃ ws : World, ws = wr := ⟨_, rfl⟩
    subst hws
    have hOk' := Lib.hid hOk
    have hbs := Lib.hid (hOk.heap hb'.out (fun h => h))
    clear hOk
    obtain ⟨b1, b2⟩ := sumU_bound hcb.out k
    by_cases hkn : k < n
    · have hkn' : (k : Int) < (n : Int) := by omega
      obtain ⟨o, ho⟩ : ∃ o, l[k]? = some o := ⟨_, List.getElem?_eq_getElem (by have := hn'.out; omega)⟩
      have hck := hca.out k o ho
      obtain ⟨hc1, hc2⟩ := hcb.out k
      have hsu : sumU co (k + 1) = sumU co k + co k := rfl
      obtain ⟨C, hCC⟩ : ∃ C, C = co k := ⟨_, rfl⟩
      obtain ⟨y, hy⟩ : ∃ y, y = sumU co k := ⟨_, rfl⟩
      rw [← hCC] at hck hc1 hc2 hsu
      rw [← hy] at hsu b1 b2 ⊢
      have hsu' := Lib.hid hsu
      have hof := Lib.hid (fun W => rof_any o s wy h mi W)
      rw [← hck] at hof
      unfold Opn.val at hof
      obtain ⟨vb, voff, hvA, hvb, d0, d1, d2⟩ := opn_row (hl'.out _ (hO'.out.trans' hOk'.out)) ho
      subst hvA
      obtain ⟨ok, oa, ob⟩ := o
      dsimp only at d0 d1 d2 hof
      have c0 := row_cell (L := [.int .i64 s, .int .i64 wy, .int .i64 h, .int .i64 mi]) hbs.out (i := 0) rfl
      have c1 := row_cell (L := [.int .i64 s, .int .i64 wy, .int .i64 h, .int .i64 mi]) hbs.out (i := 1) rfl
      have c2 := row_cell (L := [.int .i64 s, .int .i64 wy, .int .i64 h, .int .i64 mi]) hbs.out (i := 2) rfl
      have c3 := row_cell (L := [.int .i64 s, .int .i64 wy, .int .i64 h, .int .i64 mi]) hbs.out (i := 3) rfl
      have hlt := row_lt hbs.out
      have hOa := Lib.hid ((Only.refl (fun _ => False) ws).alloc (.cells #[.int .i64 ok, .int .i64 oa, .int .i64 ob] 48))
      clear ho hck hCC hy hsu
      go_wp2_with fail
      refine (hof.out _).mono ?_
      rintro e w4 ⟨rfl, hO4⟩
      have hO4' := Lib.hid (hOk'.out.trans' (hOa.out.trans' hO4))
      clear hO4 c0 c1 c2 c3 hlt d0 d1 d2 hof
      go_wp2
      go_roundw
      case rel => exact ⟨k + 1, by omega, by go_num, by rw [hsu'.out], hO4'.out⟩
      case measure => simp [intOf]; omega
    · obtain rfl : k = n := by omega
      have hkn' : ¬ (k : Int) < (k : Int) := by omega
      have hend := Lib.hid (show GrowI (sumU co k) w (.returned (.int .i64 (sumU co k))) ws from ⟨rfl, hO'.out.trans' hOk'.out⟩)
      go_wp2
      go_ret
      exact hend.out
end Sct
end Go.Proofs.Ytdoimkmhincmmaa
