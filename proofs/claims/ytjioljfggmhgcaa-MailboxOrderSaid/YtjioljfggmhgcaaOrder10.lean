/- MailboxOrder's walk: what is sent comes out in the order in which it went in. -/
import Derived.Test.YtjioljfggmhgcaaFixed10
namespace Go.Proofs.Ytjioljfggmhgcaa
open Go Go.RowKit RingI

/-- The mailboxes on the way: box 1 holds l, box 0 nothing. -/
def Way (w : World) (B0 b g n : Nat) (r : Nat → Nat) (l : List Int) (wr : World) : Prop :=
  ∃ (B : Nat) (room : Nat → Nat) (o : Nat → Option Nat) (q : Nat → List Int), BoxesAt wr B b g 2 r room o q ∧ room 1 = n ∧ q 1 = l ∧ q 0 = [] ∧ B0 ≤ B ∧ Only (fun x => B0 ≤ x) w wr

theorem Way.full {w ws : World} {B0 b g n : Nat} {r : Nat → Nat} {l : List Int} (h : Way w B0 b g n r l ws) (hl : l.length = n) (v : Int) :
    Calls Try.prog 8 #[.pointer (some ⟨b, 0, none⟩), .int .i64 1, .int .i64 v] ws fun e w' => e = .returned (.int .i64 7) ∧ Way w B0 b g n r l w' := by
  obtain ⟨B, room, o, q, h1, h2, h3, h4, h5, h6⟩ := h
  exact (send_full h1 (i := 1) (by decide) (by rw [h3, h2, hl]) v).mono fun e w' ⟨e1, m, e2⟩ => ⟨e1, e2 ▸ ⟨B, room, o, q, h1.drewN m, h2, h3, h4, h5, h6.drewN m⟩⟩
theorem Way.room {w ws : World} {B0 b g n : Nat} {r : Nat → Nat} {l : List Int} (h : Way w B0 b g n r l ws) (hl : l.length < n) (v : Int) :
    Calls Try.prog 8 #[.pointer (some ⟨b, 0, none⟩), .int .i64 1, .int .i64 v] ws fun e w' => e = .returned (.int .i64 0) ∧ Way w B0 b g n r (l ++ [v]) w' := by
  obtain ⟨B, room, o, q, h1, h2, h3, h4, h5, h6⟩ := h
  exact (send_room h1 (i := 1) (by decide) (by rw [h3, h2]; exact hl) v).mono fun e w' ⟨e1, o', e2, e3, e4⟩ =>
    ⟨e1, B, room, _, _, e2, h2, by rw [upd_self, h3], by rw [upd_ne _ _ (by decide), h4], h5, h6.trans e4 (fun x hx hk => Nat.le_trans h5 (h1.own 1 (by decide) x hk).2.2)⟩
theorem Way.take {w ws : World} {B0 b g n : Nat} {r : Nat → Nat} {x : Int} {l : List Int} (h : Way w B0 b g n r (x :: l) ws) :
    Calls Try.prog 7 #[.pointer (some ⟨b, 0, none⟩), .int .i64 1] ws fun e w' => e = .returned (.tuple #[.int .i64 x, .int .i64 0]) ∧ Way w B0 b g n r l w' := by
  obtain ⟨B, room, o, q, h1, h2, h3, h4, h5, h6⟩ := h
  exact (recv_some h1 (i := 1) (by decide) h3).mono fun e w' ⟨e1, e2, e4⟩ =>
    ⟨e1, B, room, _, _, e2, h2, by rw [upd_self], by rw [upd_ne _ _ (by decide), h4], h5, h6.trans e4 (fun x hx hk => Nat.le_trans h5 (h1.own 1 (by decide) x hk).2.2)⟩
theorem Way.empty {w ws : World} {B0 b g n : Nat} {r : Nat → Nat} (h : Way w B0 b g n r [] ws) :
    Calls Try.prog 7 #[.pointer (some ⟨b, 0, none⟩), .int .i64 1] ws fun e w' => e = .returned (.tuple #[.int .i64 0, .int .i64 8]) ∧ ws = w' := by
  obtain ⟨B, room, o, q, h1, h2, h3, h4, h5, h6⟩ := h
  exact recv_none h1 (i := 1) (by decide) h3
theorem Way.zero {w ws : World} {B0 b g n : Nat} {r : Nat → Nat} {l : List Int} (h : Way w B0 b g n r l ws) :
    Calls Try.prog 7 #[.pointer (some ⟨b, 0, none⟩), .int .i64 0] ws fun e w' => e = .returned (.tuple #[.int .i64 0, .int .i64 8]) ∧ ws = w' := by
  obtain ⟨B, room, o, q, h1, h2, h3, h4, h5, h6⟩ := h
  exact recv_none h1 (i := 0) (by decide) h4

theorem order_long (room : Int) (A : Option Addr) (len cap : Nat) (w : World) (hl : 60 < len) :
    Calls Try.prog 4 #[.int .u8 room, .slice A len cap] w fun e w' => e = .returned (.bool true) ∧ Below w.heap.size w w' := by
  go_enter Try.func4, Try.ntmps4
  go_wp2_with (go_at_call 5; refine (fixed_any _).mono ?_; rintro e w1 ⟨rfl, hb1⟩; have hb1' := Lib.hid hb1; clear hb1)
  go_ret
  exact ⟨rfl, hb1'.out⟩

theorem order_any (room : Int) (A : Option Addr) (len cap : Nat) (zs : Nat → Int) (w : World) (hr : 0 ≤ room ∧ room ≤ 255) (hl : len ≤ 60) (hA : Row w A len (fun i => .int .i64 (zs i))) :
    Calls Try.prog 4 #[.int .u8 room, .slice A len cap] w fun e w' => e = .returned (.bool true) ∧ Below w.heap.size w w' := by
  obtain ⟨n, hn, hn1, hn8⟩ : ∃ n : Nat, 1 + room % 8 = (n : Int) ∧ 1 ≤ n ∧ n ≤ 8 := ⟨(1 + room % 8).toNat, by omega, by omega, by omega⟩
  obtain ⟨hr0, hr1⟩ := hr
  have hA' := Lib.hid hA
  clear hA
  go_enter Try.func4, Try.ntmps4
  go_wp2_with (go_at_call 5; refine (fixed_any _).mono ?_; rintro e w1 ⟨rfl, hb1⟩; have hb1' := Lib.hid hb1; clear hb1)
  have hnew := new_lits (w1.alloc (.cells #[.int .i64 n, .int .i64 n] 3)) [(n : Int), n] 2 (g := w1.heap.size) (by simp) (heap_alloc_new _ _)
  refine hnew.mono ?_
  rintro e w2 ⟨b, g, r, rfl, hB2, ho2⟩
  have hW : Way w w.heap.size b g n r [] w2 := by
    have hs := hb1'.out.size
    refine ⟨_, _, _, _, hB2, ?_, rfl, rfl, by simp; omega, (((Only.of_new hb1'.out _).alloc _).trans ho2 (fun _ _ h => h.elim))⟩
    show roomN (n : Int) = n
    unfold roomN
    rw [if_neg (by omega)]
    omega
  obtain ⟨B0, hB0⟩ : ∃ B0, B0 = w.heap.size := ⟨_, rfl⟩
  rw [← hB0] at hW
  have hW' := Lib.hid hW
  have hB0' := Lib.hid hB0
  clear hnew hB2 ho2 hW hb1' hB0
  go_wp2
  go_loopw [7, 8, 30] (fun _ _ i wr => ∃ k : Nat, k ≤ len ∧ i = .int .i64 k ∧ Way w B0 b g n r ((List.range (min k n)).map zs) wr) (fun _ _ i _ => len - (intOf i).toNat)
  case atStart => exact ⟨0, Nat.zero_le _, rfl, by simpa using hW'.out⟩
  case round =>
    clear hW'
    obtain ⟨k, hk, rfl, hW⟩ := hrel
    obtain ⟨ws, hws⟩ : ∃ ws : World, ws = wr := ⟨_, rfl⟩
    subst hws
    have hO : Only (fun x => B0 ≤ x) w ws := by obtain ⟨_, _, _, _, _, _, _, _, _, h⟩ := hW; exact h
    have hRowk := Lib.hid (hA'.out.only hO (fun _ h => by have := hB0'.out; omega))
    have hW' := Lib.hid hW
    clear hW hO
    by_cases hlt : k < len
    · obtain ⟨ba, off, rfl, hc, _⟩ := hRowk.out k hlt
      replace hc : ws.cell? ⟨ba, off + k, none⟩ = some (.int .i64 (zs k)) := hc
      by_cases hkn : k < n
      · have hput := Lib.hid (hW'.out.room (by simp; omega) (zs k))
        have hd : decide (k < n) = true := by simpa using hkn
        go_wp2_with (go_at_call 8; refine hput.out.mono ?_; rintro e w3 ⟨rfl, hW3⟩; have hW3' := Lib.hid hW3; clear hW3)
        go_roundw
        case rel =>
          refine ⟨k + 1, by omega, by go_num, ?_⟩
          have := hW3'.out
          rw [show min k n = k by omega] at this
          rw [show min (k + 1) n = k + 1 by omega, List.range_succ, List.map_append]
          exact this
        case measure => simp [intOf]; omega
      · have hput := Lib.hid (hW'.out.full (by simp; omega) (zs k))
        have hd : decide (k < n) = false := by simpa using hkn
        go_wp2_with (go_at_call 8; refine hput.out.mono ?_; rintro e w3 ⟨rfl, hW3⟩; have hW3' := Lib.hid hW3; clear hW3)
        go_roundw
        case rel =>
          refine ⟨k + 1, by omega, by go_num, ?_⟩
          rw [show min (k + 1) n = min k n by omega]
          exact hW3'.out
        case measure => simp [intOf]; omega
    · obtain rfl : k = len := by omega
      clear hRowk
      go_wp2
      go_loopw [9, 10, 11, 12, 46] (fun _ _ _ _ i ws => ∃ j : Nat, j ≤ k ∧ i = .int .i64 j ∧ Way w B0 b g n r (((List.range (min k n)).map zs).drop j) ws) (fun _ _ _ _ i _ => k - (intOf i).toNat)
      case atStart => exact ⟨0, Nat.zero_le _, rfl, hW'.out⟩
      case round =>
        clear hW'
        obtain ⟨j, hj, rfl, hW⟩ := hrel
        obtain ⟨ws, hws⟩ : ∃ ws : World, ws = wr := ⟨_, rfl⟩
        subst hws
        have hO : Only (fun x => B0 ≤ x) w ws := by obtain ⟨_, _, _, _, _, _, _, _, _, h⟩ := hW; exact h
        have hRowj := Lib.hid (hA'.out.only hO (fun _ h => by have := hB0'.out; omega))
        have hO' := Lib.hid hO
        have hW' := Lib.hid hW
        clear hW hO
        by_cases hjk : j < k
        · obtain ⟨ba, off, rfl, hc, _⟩ := hRowj.out j hjk
          replace hc : ws.cell? ⟨ba, off + j, none⟩ = some (.int .i64 (zs j)) := hc
          by_cases hjn : j < n
          · have hlist : ((List.range (min k n)).map zs).drop j = zs j :: ((List.range (min k n)).map zs).drop (j + 1) := by
              rw [List.drop_eq_getElem_cons (by simp; omega)]
              simp
            have htake := Lib.hid (Way.take (hlist ▸ hW'.out))
            obtain ⟨s, hs⟩ : ∃ s, s = zs j := ⟨_, rfl⟩
            rw [← hs] at hc htake
            have hd : decide (j < n) = true := by simpa using hjn
            have hd2 : decide (n ≤ j) = false := by simp; omega
            clear hlist hs
            go_wp2_with (go_at_call 7; refine htake.out.mono ?_; rintro e w3 ⟨rfl, hW3⟩; have hW3' := Lib.hid hW3; clear hW3)
            go_roundw
            case rel =>
              exact ⟨j + 1, by omega, by go_num, hW3'.out⟩
            case measure => simp [intOf]; omega
          · have hlist : ((List.range (min k n)).map zs).drop j = [] := List.drop_eq_nil_of_le (by simp; omega)
            have htake := Lib.hid (Way.empty (hlist ▸ hW'.out))
            have hnext : ((List.range (min k n)).map zs).drop (j + 1) = [] := List.drop_eq_nil_of_le (by simp; omega)
            have hW4 := Lib.hid (hnext.trans hlist.symm ▸ hW'.out)
            have hd : decide (j < n) = false := by simpa using hjn
            have hd2 : decide (n ≤ j) = true := by simp; omega
            clear hlist hnext
            go_wp2_with (go_at_call 7; refine htake.out.mono ?_; rintro e w3 ⟨rfl, hw⟩; subst hw)
            go_roundw
            case rel =>
              exact ⟨j + 1, by omega, by go_num, hW4.out⟩
            case measure => simp [intOf]; omega
        · have hz := Lib.hid hW'.out.zero
          go_wp2_with (go_at_call 7; refine hz.out.mono ?_; rintro e w3 ⟨rfl, hw⟩; subst hw)
          go_ret
          exact ⟨rfl, hO'.out.below (by have := hB0'.out; omega) (fun _ h => by have := hB0'.out; omega)⟩

theorem order (room : Int) (A : Option Addr) (len cap : Nat) (zs : Nat → Int) (w : World) (hr : (Lit.int .u8 room).wf = true) (hA : IntRow .i64 w A len zs) :
    Calls Try.prog 4 #[.int .u8 room, .slice A len cap] w fun e w' => e = .returned (.bool true) ∧ Below w.heap.size w w' := by
  by_cases hl : 60 < len
  · exact order_long room A len cap w hl
  · exact order_any room A len cap zs w (bounds_u8 hr) (by omega) hA.row
end Go.Proofs.Ytjioljfggmhgcaa
