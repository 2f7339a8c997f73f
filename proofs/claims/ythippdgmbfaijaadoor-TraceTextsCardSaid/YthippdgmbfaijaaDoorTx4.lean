/- A record's line: the program's and the document's. -/
import Derived.Test.YthippdgmbfaijaaDoorTx3
namespace Go.Proofs.YthippdgmbfaijaaDoor
open Go Go.RowKit

/-- A record. -/
structure RecV where
  at_ : Int
  k : Int
  t : Int
  j : Int
  op : Int
  c : Int
  v : Int
def RecV.cells (r : RecV) : List Value := [.int .i64 r.at_, .int .i64 r.k, .int .i64 r.t, .int .i64 r.j, .int .i64 r.op, .int .i64 r.c, .int .i64 r.v]
def RecV.val (r : RecV) : Value := .agg #[.int .i64 r.at_, .int .i64 r.k, .int .i64 r.t, .int .i64 r.j, .int .i64 r.op, .int .i64 r.c, .int .i64 r.v]
structure RecV.fit (r : RecV) : Prop where
  at_ : fitI r.at_
  k : fitI r.k
  t : fitI r.t
  j : fitI r.j
  op : fitI r.op
  c : fitI r.c
  v : fitI r.v
theorem RecV.ext' {a b : RecV} (h : a.at_ = b.at_ ∧ a.k = b.k ∧ a.t = b.t ∧ a.j = b.j ∧ a.op = b.op ∧ a.c = b.c ∧ a.v = b.v) : a = b := by
  obtain ⟨a1, a2, a3, a4, a5, a6, a7⟩ := a
  obtain ⟨b1, b2, b3, b4, b5, b6, b7⟩ := b
  simp at h
  simp [h]
/-- The numbers behind the kind's name. -/
def nth (r : RecV) (j : Nat) : Int := match j with | 0 => r.t | 1 => r.j | 2 => r.op | 3 => r.c | _ => r.v
theorem nth_fit {r : RecV} (h : r.fit) (j : Nat) : fitI (nth r j) := by
  unfold nth
  split
  · exact h.t
  · exact h.j
  · exact h.op
  · exact h.c
  · exact h.v
/-- A line's words. -/
def wordsL (r : RecV) : List (List UInt8) := [Lib.itoa r.at_, tname r.k.toNat, Lib.itoa r.t, Lib.itoa r.j, Lib.itoa r.op, Lib.itoa r.c, Lib.itoa r.v]
def lineL (r : RecV) : List UInt8 := joinL 32 (wordsL r)
/-- The line up to the j-th of these numbers. -/
def upL (r : RecV) : Nat → List UInt8
  | 0 => Lib.itoa r.at_ ++ ([32] ++ tname r.k.toNat)
  | j + 1 => upL r j ++ ([32] ++ Lib.itoa (nth r j))
theorem upL_five (r : RecV) : upL r 5 = lineL r := by simp [upL, lineL, wordsL, joinL, nth]
theorem upL_len {r : RecV} (h : r.fit) (hk : 1 ≤ r.k ∧ r.k ≤ 8) : ∀ j, (upL r j).length ≤ 40 + 30 * j
  | 0 => by
    have h1 := itoa_len h.at_
    have h2 := (tname_fit (k := r.k.toNat) (by omega)).2.2
    unfold upL
    simp only [List.length_append, List.length_cons, List.length_nil]
    omega
  | j + 1 => by
    have h1 := upL_len h hk j
    have h2 := itoa_len (nth_fit h j)
    unfold upL
    simp only [List.length_append, List.length_cons, List.length_nil]
    omega
theorem lineL_len {r : RecV} (h : r.fit) (hk : 1 ≤ r.k ∧ r.k ≤ 8) : (lineL r).length ≤ 190 := by
  rw [← upL_five]
  exact upL_len h hk 5
def LineEnd (r : RecV) (w : World) (e : Ending) (w' : World) : Prop := e = .returned (.tuple #[.string (if okK r.k = true then toBA (lineL r) else ⟨#[]⟩), .bool (okK r.k)]) ∧ Only (fun _ => False) w w'
theorem ix0 (a b c d e : Value) (w : World) : (Instr.index 43 (.agg #[a, b, c, d, e]) (.int .i64 0)).run Tryd.prog w = .ok a w := by kernel_rfl
theorem ix1 (a b c d e : Value) (w : World) : (Instr.index 43 (.agg #[a, b, c, d, e]) (.int .i64 1)).run Tryd.prog w = .ok b w := by kernel_rfl
theorem ix2 (a b c d e : Value) (w : World) : (Instr.index 43 (.agg #[a, b, c, d, e]) (.int .i64 2)).run Tryd.prog w = .ok c w := by kernel_rfl
theorem ix3 (a b c d e : Value) (w : World) : (Instr.index 43 (.agg #[a, b, c, d, e]) (.int .i64 3)).run Tryd.prog w = .ok d w := by kernel_rfl
theorem ix4 (a b c d e : Value) (w : World) : (Instr.index 43 (.agg #[a, b, c, d, e]) (.int .i64 4)).run Tryd.prog w = .ok e w := by kernel_rfl
theorem idx5 (r : RecV) (j : Nat) (hj : j < 5) (w : World) : (Instr.index 43 (.agg #[.int .i64 r.t, .int .i64 r.j, .int .i64 r.op, .int .i64 r.c, .int .i64 r.v]) (.int .i64 j)).run Tryd.prog w = .ok (.int .i64 (nth r j)) w := by
  have : j = 0 ∨ j = 1 ∨ j = 2 ∨ j = 3 ∨ j = 4 := by omega
  rcases this with rfl | rfl | rfl | rfl | rfl
  · exact ix0 _ _ _ _ _ w
  · exact ix1 _ _ _ _ _ w
  · exact ix2 _ _ _ _ _ w
  · exact ix3 _ _ _ _ _ w
  · exact ix4 _ _ _ _ _ w

set_option maxRecDepth 100000 in
set_option maxHeartbeats 1000000 in
theorem line_any {w : World} (hb : Bas w) (r : RecV) (hf : r.fit) : Calls Tryd.prog 7 #[r.val] w (LineEnd r w) := by
  have hO := (Only.refl (fun _ => False) w).alloc (.cells r.cells.toArray 24)
  have hB := heap_new_at w (.cells r.cells.toArray 24) rfl
  obtain ⟨W1, hW1⟩ : ∃ W1, W1 = w.alloc (.cells r.cells.toArray 24) := ⟨_, rfl⟩
  rw [← hW1] at hO hB
  have hW1' := Lib.hid hW1
  have hk := Lib.hid (isKind_any r.k)
  have hO' := Lib.hid hO
  have e0 := row_cell hB (i := 0) rfl
  have e1 := row_cell hB (i := 1) rfl
  have e2 := row_cell hB (i := 2) rfl
  have e3 := row_cell hB (i := 3) rfl
  have e4 := row_cell hB (i := 4) rfl
  have e5 := row_cell hB (i := 5) rfl
  have e6 := row_cell hB (i := 6) rfl
  have hlt := row_lt hB
  have hB' := Lib.hid hB
  clear hW1 hO hB
  unfold RecV.val
  unfold RecV.cells at hW1' hB'
  cases hK : okK r.k with
  | false =>
    have hK' := Lib.hid hK
    rw [hK] at hk
    clear hK
    go_enter Tryd.func7, Tryd.ntmps7
    go_wp2_with fail
    rw [← hW1'.out]
    refine (hk.out _).mono ?_
    rintro e w' ⟨rfl, rfl⟩
    go_wp2
    go_ret2
    refine ⟨?_, hO'.out⟩
    rw [hK'.out]
    rfl
  | true =>
    have hK' := Lib.hid hK
    obtain ⟨hk1, hk2⟩ : 1 ≤ r.k ∧ r.k ≤ 8 := of_decide_eq_true hK
    rw [hK] at hk
    clear hK
    have hb1 := hb.new hO'.out
    obtain ⟨m, hm⟩ : ∃ m : Nat, r.k = m := ⟨r.k.toNat, by omega⟩
    have hnm := hb1.names m (by omega)
    have h0g := World.block_lt_of_cell? W1 _ hnm
    have hfit := Lib.hid hf
    have hbw := Lib.hid hb1
    have hit := Lib.hid (fun n hn W (hW : Only (fun _ => False) W1 W) => itoa_any (hb1.new hW) n hn)
    have hup0 := Lib.hid (show (toBA (Lib.itoa r.at_) ++ (⟨#[32]⟩ : ByteArray)) ++ toBA (tname m) = toBA (upL r 0) from by
      rw [show (⟨#[32]⟩ : ByteArray) = toBA [32] from rfl, toBA_app, toBA_app, upL, hm, Int.toNat_natCast, List.append_assoc])
    have hs1 : (toBA (Lib.itoa r.at_)).size ≤ 20 := by rw [toBA_size]; exact itoa_len hf.at_
    have hs2 : (toBA (tname m)).size ≤ 8 := by rw [toBA_size]; exact (tname_fit (by omega)).2.2
    have hita := Lib.hid (fun (x : Wd W1) => Calls.wd (x := x) (hit.out r.at_ hf.at_ x.W x.ok))
    have hlens := Lib.hid (upL_len hf ⟨hk1, hk2⟩)
    obtain ⟨S0, hS0⟩ : ∃ S, S = toBA (Lib.itoa r.at_) := ⟨_, rfl⟩
    obtain ⟨S1, hS1⟩ : ∃ S, S = toBA (tname m) := ⟨_, rfl⟩
    obtain ⟨S2, hS2⟩ : ∃ S, S = toBA (upL r 0) := ⟨_, rfl⟩
    rw [← hS0] at hup0 hs1 hita
    rw [← hS1] at hup0 hs2 hnm
    rw [← hS2] at hup0
    have hS2' := Lib.hid hS2
    have i5 := Lib.hid (idx5 r)
    have hk0 : (0 : Int) ≤ (m : Int) := by omega
    have hk9 : (m : Int) < 9 := by omega
    rw [hm] at hW1' hB' hk e1 ⊢
    have hm' := Lib.hid hm
    clear hS0 hS1 hS2 hm hb hb1 hf hk1 hk2
    go_enter Tryd.func7, Tryd.ntmps7
    go_wp2_with fail
    rw [← hW1'.out]
    refine (hk.out _).mono ?_
    rintro e w' ⟨rfl, rfl⟩
    go_upto_region 3 with fail
    go_cut [4] from 11 to 19 (fun v wc => v = .string S2 ∧ Only (fun _ => False) W1 wc)
    case first =>
      have hex := wd_ex W1
      replace e0 := wd_cell e0
      replace e1 := wd_cell e1
      replace hnm := wd_cell hnm
      have hs3 : (⟨#[32]⟩ : ByteArray).size = 1 := rfl
      refine wp_region_wd (by kernel_rfl) (by kernel_rfl) ?_
      repeat (go_big_quiet_step (first | (go_at_call 18; exact hita.out _)))
      refine wpQuiet_nil ?_
      rintro _ ⟨x, rfl⟩
      have hx := Lib.hid x.ok
      clear hex e0 e1 hnm
      rw [hup0.out]
      go_wp2_with fail
      go_meet
      case rel => exact ⟨rfl, hx.out⟩
    obtain ⟨rfl, hOc⟩ := hcut
    obtain ⟨W2, hW2⟩ : ∃ W2 : World, W2 = wc := ⟨_, rfl⟩
    subst hW2
    replace e2 := hOc.cell e2 (fun h => h)
    replace e3 := hOc.cell e3 (fun h => h)
    replace e4 := hOc.cell e4 (fun h => h)
    replace e5 := hOc.cell e5 (fun h => h)
    replace e6 := hOc.cell e6 (fun h => h)
    replace hlt := Nat.lt_of_lt_of_le hlt hOc.size
    have hOc' := Lib.hid hOc
    clear e0 e1 hnm hOc h0g
    go_wp2
    go_loopw [4, 31] (fun sv i wr => ∃ j : Nat, j ≤ 5 ∧ i = .int .i64 j ∧ sv = .string (toBA (upL r j)) ∧ Hid (Only (fun _ => False) W1 wr)) (fun _ i _ => 5 - (intOf i).toNat)
    case atStart => exact ⟨0, by omega, rfl, by rw [hS2'.out], hOc'⟩
    case round =>
      clear hOc'
      obtain ⟨j, hj, rfl, rfl, hOj⟩ := hrel
      obtain ⟨ws, hws⟩ : ∃ ws : World, ws = wr := ⟨_, rfl⟩
      subst hws
      clear e2 e3 e4 e5 e6 hlt
      by_cases hj5 : j < 5
      · have hj5' : (j : Int) < 5 := by omega
        have q0 := i5.out j hj5
        have hnf := nth_fit hfit.out j
        obtain ⟨z, hz⟩ : ∃ z, z = nth r j := ⟨_, rfl⟩
        rw [← hz] at q0 hnf
        have hitz := Lib.hid (hit.out z hnf ws hOj.out)
        have hnx := Lib.hid (show toBA (upL r j) ++ ((⟨#[32]⟩ : ByteArray) ++ toBA (Lib.itoa z)) = toBA (upL r (j + 1)) from by
          rw [show (⟨#[32]⟩ : ByteArray) = toBA [32] from rfl, toBA_app, toBA_app, upL, hz])
        have hs1 : (toBA (Lib.itoa z)).size ≤ 20 := by rw [toBA_size]; exact itoa_len hnf
        have hs2 : (toBA (upL r j)).size ≤ 200 := by rw [toBA_size]; have := hlens.out j; omega
        have hs3 : (⟨#[32]⟩ : ByteArray).size = 1 := rfl
        unfold GrowS at hitz
        obtain ⟨Z, hZ⟩ : ∃ Z, Z = toBA (Lib.itoa z) := ⟨_, rfl⟩
        obtain ⟨U, hU⟩ : ∃ U, U = toBA (upL r j) := ⟨_, rfl⟩
        rw [← hZ] at hitz hnx hs1
        rw [← hU] at hnx hs2 ⊢
        clear hz hZ hU hnf
        go_wp2_with fail
        refine hitz.out.mono ?_
        rintro e W3 ⟨rfl, hO3⟩
        have hO3' := Lib.hid (hOj.out.trans' hO3)
        clear hO3
        go_wp2
        go_roundw
        case rel => exact ⟨j + 1, by omega, by go_num, by rw [hnx.out], hO3'⟩
        case measure => simp [intOf]; omega
      · obtain rfl : j = 5 := by omega
        go_wp2
        go_ret2
        refine ⟨?_, hO'.out.trans' hOj.out⟩
        rw [hK'.out, if_pos rfl, ← upL_five]
        rfl
end Go.Proofs.YthippdgmbfaijaaDoor
