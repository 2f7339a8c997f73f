/- chain: the tasks from the highest priority down. -/
import Derived.Test.YtdoimkmhincmmaaBcIsr
namespace Go.Proofs.Ytdoimkmhincmmaa
namespace Bch
open Go Go.RowKit
set_option maxRecDepth 100000 in
set_option maxHeartbeats 4000000 in
theorem len64_small (x : Nat) (hx : x ≤ 12) (w : World) : Calls Try.prog 91 #[.int .u64 x] w fun e w' => (∃ z : Int, e = .returned (.int .i64 z)) ∧ w = w' := by
  obtain ⟨z, hz⟩ : ∃ z : Int, z = (x : Int) := ⟨_, rfl⟩
  rw [← hz]
  have h16 : ¬ (65536 : Int) ≤ z := by omega
  have h32 : ¬ (4294967296 : Int) ≤ z := by omega
  have h8 : ¬ (256 : Int) ≤ z := by omega
  have h0 : 0 ≤ z := by omega
  clear hz hx
  go_enter Try.func91, Try.ntmps91
  go_wp2
  go_ret
  exact ⟨⟨_, rfl⟩, rfl⟩
theorem len_small (x : Nat) (hx : x ≤ 12) (w : World) : Calls Try.prog 74 #[.int .u64 x] w fun e w' => (∃ z : Int, e = .returned (.int .i64 z)) ∧ w = w' := by
  have q := Lib.hid (len64_small x hx w)
  go_enter Try.func74, Try.ntmps74
  go_wp2_with fail
  refine q.out.mono ?_
  rintro e w' ⟨⟨z, rfl⟩, rfl⟩
  go_wp2
  go_ret
  exact ⟨⟨_, rfl⟩, rfl⟩
/-- What the sort may do: the row's numbers, in their order; all else stays. -/
def DoneEnd (S : Nat → Prop) (w : World) (R : World → Prop) (e : Ending) (w' : World) : Prop := e = .returned (.tuple #[]) ∧ R w' ∧ Only S w w'
theorem isort_none (w : World) (p : Option Addr) (cap : Nat) (f : Value) :
    Calls Try.prog 82 #[.slice p 0 cap, .int .i64 0, .int .i64 0, f] w (fun e w' => e = .returned (.tuple #[]) ∧ w = w') := by
  go_enter Try.func82, Try.ntmps82
  go_wp2
  go_loopw [8] (fun i wr => i = .int .i64 1 ∧ w = wr) (fun i _ => 0)
  case atStart => exact ⟨by go_num, rfl⟩
  case round =>
    obtain ⟨rfl, rfl⟩ := hrel
    go_wp2
    go_end0
    exact ⟨rfl, rfl⟩
set_option maxRecDepth 100000 in
set_option maxHeartbeats 4000000 in
theorem pdq_any {w : World} {v : Option Addr} {n cap : Nat} {l : Int} {f : Value} {Z : Ending → World → Prop} (hn : n ≤ 12) (hq : Calls Try.prog 82 #[.slice v n cap, .int .i64 0, .int .i64 n, f] w Z) (hZ : ∀ e w', Z e w' → e = .returned (.tuple #[])) :
    Calls Try.prog 73 #[.slice v n cap, .int .i64 0, .int .i64 n, .int .i64 l, f] w Z := by
  have hq' := Lib.hid hq
  have hZ' := Lib.hid hZ
  have hn' : (n : Int) ≤ 12 := by omega
  clear hq hZ
  go_enter Try.func73, Try.ntmps73
  go_wp2
  go_loopw [1, 2, 3, 10, 11, 12, 13, 14, 15, 16, 17, 18, 19, 20] (fun u1 u2 _ _ _ _ _ _ _ _ _ _ _ _ wr => u1 = .int .i64 0 ∧ u2 = .int .i64 n ∧ w = wr) (fun _ _ _ _ _ _ _ _ _ _ _ _ _ _ _ => 0)
  case atStart => exact ⟨rfl, rfl, rfl⟩
  case round =>
    obtain ⟨rfl, rfl, rfl⟩ := hrel
    go_wp2_with fail
    refine hq'.out.mono ?_
    intro e w' hz
    have he := hZ'.out e w' hz
    subst he
    have hz' := Lib.hid hz
    clear hz
    go_wp2
    go_end0
    exact hz'.out
theorem sortf_any {w : World} {v : Option Addr} {n cap : Nat} {f : Value} {Z : Ending → World → Prop} (hn : n ≤ 12) (hq : Calls Try.prog 82 #[.slice v n cap, .int .i64 0, .int .i64 n, f] w Z) (hZ : ∀ e w', Z e w' → e = .returned (.tuple #[])) :
    Calls Try.prog 63 #[.slice v n cap, f] w Z := by
  have q := Lib.hid (fun l => pdq_any (l := l) hn hq hZ)
  have hl := Lib.hid (len_small n hn w)
  have hZ' := Lib.hid hZ
  clear hq hZ
  go_enter Try.func63, Try.ntmps63
  go_wp2_with fail
  refine hl.out.mono ?_
  rintro e w' ⟨⟨z, rfl⟩, rfl⟩
  go_wp2_with fail
  refine (q.out z).mono ?_
  intro e w' hz
  have he := hZ'.out e w' hz
  subst he
  have hz' := Lib.hid hz
  clear hz
  go_wp2
  go_end0
  exact hz'.out
/-- An iterator over a row of numbers. -/
def SeqEnd (w : World) (L : List Nat) (e : Ending) (w' : World) : Prop :=
  ∃ (Y : Nat) (A : Option Addr) (cap : Nat) (h : Option Nat), e = .returned (.func (.func 76) #[] #[.pointer (some ⟨Y, 0, none⟩)]) ∧ w'.heap[Y]? = some (.cells [Value.slice A L.length cap].toArray 24 (0, 0)) ∧ Win w' 3 1 (.slice A L.length cap) h L.length (dat L) ∧
    w.heap.size ≤ Y ∧ (∀ b, h = some b → w.heap.size ≤ b) ∧ Only (fun _ => False) w w'
theorem values_any (w : World) (A : Option Addr) (m cap : Nat) : Calls Try.prog 66 #[.slice A m cap] w fun e w' => e = .returned (.func (.func 76) #[] #[.pointer (some ⟨w.heap.size, 0, none⟩)]) ∧ w' = w.alloc (.cells #[.slice A m cap] 24) := by
  have hmf : ∀ (fn : Fn) (first cap : Array Value) (w : World), (Instr.makeFunc fn first cap).run Try.prog w = .ok (.func fn first cap) w := fun _ _ _ _ => rfl
  go_enter Try.func66, Try.ntmps66
  go_wp2
  go_ret
  exact ⟨rfl, rfl⟩
/-- The order of the tasks; none of tasks that may not be. -/
def ordL (ts : List TaskV) : List Nat := if rightB ts = true then orderUp (prio ts) ts.length else []
theorem wait_dat (n : Nat) : wait 0 n = List.range n := by unfold wait; rw [Nat.sub_zero, List.range_eq_range']
theorem win_row {w : World} {A : Option Addr} {n cap : Nat} {h : Option Nat} {L : List Nat} (hW : Win w 3 1 (.slice A n cap) h n (dat L)) (hn : 0 < n) : ∃ g off pre post, h = some g ∧ A = some ⟨g, off, none⟩ ∧ pre.length = off ∧ RowW w g pre post L ∧ cap ≤ n + post.length ∧ n ≤ cap ∧ cap ≤ maxLen := by
  obtain ⟨hl, p, cap', hv, h1, h2, h3⟩ := hW
  simp only [Value.slice.injEq, true_and] at hv
  obtain ⟨rfl, rfl⟩ := hv
  rcases h3 with ⟨_, h3⟩ | ⟨g, off, M, rfl, rfl, hh, h4, h5⟩
  · omega
  · refine ⟨g, off, M.take off, M.drop (off + n), rfl, rfl, by rw [List.length_take]; omega, ?_, by rw [List.length_drop]; omega, h1, h2⟩
    unfold RowW
    rw [hh]
    congr 3
    rw [← h5, Nat.mul_one, show M.drop (off + n) = (M.drop off).drop n by rw [List.drop_drop], List.take_append_drop, List.take_append_drop]
theorem row_win {w : World} {n cap g off : Nat} {pre post : List Value} {L : List Nat} (hl : L.length = n) (ho : pre.length = off) (hR : RowW w g pre post L) (h1 : n ≤ cap) (h2 : cap ≤ maxLen) (hp : cap ≤ n + post.length) : Win w 3 1 (.slice (some ⟨g, off, none⟩) n cap) (some g) n (dat L) :=
  ⟨by rw [dat_length, hl, Nat.mul_one], _, _, rfl, h1, h2, .inr ⟨g, off, _, rfl, rfl, hR, by rw [List.length_append, List.length_append, dat_length]; omega, by
    rw [← ho, List.drop_left, Nat.mul_one, ← hl, ← dat_length L, List.take_left]⟩⟩
theorem wait_snoc (n : Nat) : List.range (n + 1) = List.range n ++ [n] := List.range_succ
theorem isort_seq {w : World} {q : Nat} {x : Sl} {ts : List TaskV} (hB : BoxAt w q x ts) (h12 : x.n ≤ 12) {A : Option Addr} {cap : Nat} {h : Option Nat} (hW : Win w 3 1 (.slice A x.n cap) h x.n (dat (List.range x.n))) (hq : ∀ b, h = some b → q ≠ b) (hx : ∀ b off, x.A = some ⟨b, off, none⟩ → ts ≠ [] → ¬ h = some b) :
    Calls Try.prog 82 #[.slice A x.n cap, .int .i64 0, .int .i64 x.n, .func (.func 64) #[] #[.pointer (some ⟨q, 0, none⟩)]] w (DoneEnd (fun k => some k = h) w (fun w' => Win w' 3 1 (.slice A x.n cap) h x.n (dat (orderUp (prio ts) x.n)))) := by
  by_cases h0 : 0 < x.n
  · obtain ⟨g, off, pre, post, rfl, rfl, hoff, hR, hp, h1, h2⟩ := win_row hW h0
    rw [← wait_dat] at hR
    refine (isort_any (cap := cap) hB (by omega) hoff hR (Nat.le_refl _) h0 (hq g rfl) (fun b off hA hne e => hx b off hA hne (by rw [e]))).mono ?_
    rintro e w' ⟨rfl, hR', hO⟩
    exact ⟨rfl, row_win (order_length _ _) hoff hR' h1 h2 hp, hO.mono (fun _ _ e => by rw [e])⟩
  · have hx0 : x.n = 0 := by omega
    rw [hx0] at hW ⊢
    refine (isort_none w A cap _).mono ?_
    rintro e w' ⟨rfl, rfl⟩
    exact ⟨rfl, hW, Only.refl _ _⟩
set_option maxRecDepth 100000 in
set_option maxHeartbeats 4000000 in
theorem downward_any {w : World} {c : ConfV} {ts : List TaskV} (hT : TasksAt w c.ta ts) (hn : c.ta.n ≤ 9223372036854775807) : Calls Try.prog 44 #[c.val] w (SeqEnd w (ordL ts)) := by
  have hmf : ∀ (fn : Fn) (first cap : Array Value) (w : World), (Instr.makeFunc fn first cap).run Try.prog w = .ok (.func fn first cap) w := fun _ _ _ _ => rfl
  have hlen := hT.len
  have hO := (Only.refl (fun _ => False) w).alloc (.cells c.cells.toArray 27)
  have hB := heap_new_at w (.cells c.cells.toArray 27) rfl
  obtain ⟨W1, hW1⟩ : ∃ W1, W1 = w.alloc (.cells c.cells.toArray 27) := ⟨_, rfl⟩
  rw [← hW1] at hB hO
  obtain ⟨q, hq⟩ : ∃ q, q = w.heap.size := ⟨_, rfl⟩
  rw [← hq] at hB
  have hsz1 : W1.heap.size = q + 1 := by rw [hW1, hq]; simp
  have hbox := Lib.hid (fun W (ho : Only (fun _ => False) W1 W) => show W.cell? ⟨q, 8, none⟩ = some (.slice c.ta.A c.ta.n c.ta.cap) ∧ q < W.heap.size from
    ⟨row_cell (ho.heap hB (fun h => h)) (i := 8) rfl, row_lt (ho.heap hB (fun h => h))⟩)
  have hmay := Lib.hid (mayBe_any (hT.new hO) hn)
  have htlt := Lib.hid (fun b off (hA : c.ta.A = some ⟨b, off, none⟩) (hne : ts ≠ []) => show b < w.heap.size from by
    obtain ⟨b', off', hA', hb, _⟩ := hT.at_ 0 (ts[0]'(List.length_pos_iff.2 hne)) (List.getElem?_eq_getElem _)
    rw [hA] at hA'
    cases hA'
    exact hb)
  rw [show c.val = .agg #[.int .i64 c.s, .int .i64 c.wy, .int .i64 c.h, .int .i64 c.mi, .slice c.mb.A c.mb.n c.mb.cap, .int .i64 c.g, .slice c.cn.A c.cn.n c.cn.cap, .slice c.ce.A c.ce.n c.ce.cap, .slice c.ta.A c.ta.n c.ta.cap, .slice c.li.A c.li.n c.li.cap] from rfl]
  unfold ConfV.cells at hW1
  obtain ⟨s, wy, h, mi, ⟨mA, mn, mc⟩, g, ⟨cA, cn, cc⟩, ⟨eA, en, ec⟩, ⟨tA, tn, tc⟩, ⟨lA, ln, lc⟩⟩ := c
  dsimp only at *
  obtain ⟨RB, hRB⟩ : ∃ RB, RB = rightB ts := ⟨_, rfl⟩
  rw [← hRB] at hmay
  obtain ⟨Z, hZ⟩ : ∃ Z, Z = SeqEnd w (ordL ts) := ⟨_, rfl⟩
  rw [← hZ]
  have hZ' := Lib.hid hZ
  have hW1' := Lib.hid hW1
  have hq' := Lib.hid hq
  have hT' := Lib.hid hT
  have hO' := Lib.hid hO
  have hlen' := Lib.hid hlen
  have hRB' := Lib.hid hRB
  have hsz1' := Lib.hid hsz1
  obtain ⟨e8, el⟩ := hbox.out W1 (Only.refl _ _)
  clear hT hO hlen hB hZ hW1 hq hRB hsz1
  go_enter Try.func44, Try.ntmps44
  go_wp2_with fail
  rw [← hW1'.out, ← hq'.out]
  refine hmay.out.mono ?_
  rintro e w2 ⟨rfl, ho⟩
  have hO2 := Lib.hid ho
  clear ho e8 el
  obtain ⟨e8, el⟩ := hbox.out w2 hO2.out
  cases RB
  · have hs := Lib.hid (sortf_any (w := w2) (v := none) (n := 0) (cap := 0) (f := .func (.func 64) #[] #[.pointer (some ⟨q, 0, none⟩)]) (Z := fun e w' => e = .returned (.tuple #[]) ∧ w2 = w') (by omega) (isort_none w2 none 0 _) (fun e w' h => h.1))
    have hord := Lib.hid (show ordL ts = [] by rw [ordL, ← hRB'.out]; rfl)
    go_wp2_with fail
    refine hs.out.mono ?_
    rintro e w3 ⟨rfl, rfl⟩
    go_wp2_with fail
    refine (values_any w2 none 0 0).mono ?_
    rintro e w4 ⟨rfl, hw4⟩
    have hw4' := Lib.hid hw4
    clear hw4
    go_wp2
    rw [hZ'.out, hord.out]
    have hOw := hO'.out.trans' hO2.out
    refine ⟨w2.heap.size, none, 0, none, rfl, ?_, Win.nil _ _ _, hOw.size, (fun b hb => by cases hb), ?_⟩
    · rw [hw4'.out]; exact heap_new_at _ _ rfl
    · rw [hw4'.out]; exact hOw.alloc _
  · have h12 : tn ≤ 12 := by
      have := hRB'.out
      rw [rightB] at this
      have := (of_decide_eq_true this.symm).1
      have := hlen'.out
      omega
    have hord := Lib.hid (show ordL ts = orderUp (prio ts) tn by rw [ordL, ← hRB'.out, if_pos rfl, hlen'.out])
    go_wp2
    go_loopw [3, 4, 11] (fun u3 _ u11 wr => ∃ (k : Nat) (A : Option Addr) (cap : Nat) (hh : Option Nat), u11 = .int .i64 k ∧ k ≤ tn ∧ u3 = .slice A k cap ∧ Hid (Win wr 3 1 (.slice A k cap) hh k (dat (List.range k))) ∧ Hid (∀ b, hh = some b → w2.heap.size ≤ b) ∧ Hid (Only (fun _ => False) w2 wr)) (fun _ _ i _ => (tn - intOf i).toNat)
    case atStart => exact ⟨0, none, 0, none, rfl, Nat.zero_le _, rfl, Lib.hid (Win.nil _ _ _), Lib.hid (fun b hb => by cases hb), Only.refl _ _⟩
    case round =>
      obtain ⟨k, A, cap, hh, rfl, hk, rfl, hW, hf, hOr⟩ := hrel
      obtain ⟨ws, hws⟩ : ∃ ws : World, ws = wr := ⟨_, rfl⟩
      subst hws
      by_cases hkn : k < tn
      · have hkn' : (k : Int) < tn := by omega
        go_wp2_with (at_builtin; (refine wpList_append_win rfl _ _ 24 rfl 3 (Value.int .i64 0) 1 8 Try.underlying24 info3 rfl (by decide) rfl (hW.out.kept ((Only.refl (fun _ => False) _).alloc _) (fun _ _ h => h)) _ 1 1 rfl [.int .i64 (k : Int)] rfl (fun _ => ⟨_, rfl, row_one (heap_new_at _ _ (by simp))⟩) (by simp [Value.oneCell']) (by unfold maxLen; omega) (by omega) ?_; intro v4 w6 h4 hW4 hO4' hh4; obtain ⟨p4, c4, rfl, _, _⟩ := hW4.out.form))
        go_roundw
        case rel =>
          have hst := step_fresh (hOr.out.alloc (.cells #[.int .i64 (k : Int)] 3)) hO4'.out hf.out hh4.out
          refine ⟨k + 1, p4, c4, h4, by go_num, by omega, rfl, ?_, Lib.hid hst.2, Lib.hid hst.1⟩
          have := hW4.out
          rw [show dat (List.range k) ++ [Value.int .i64 (k : Int)] = dat (List.range (k + 1)) by rw [List.range_succ, dat, dat, List.map_append]; rfl] at this
          exact Lib.hid this
        case measure => simp [intOf]; omega
      · obtain rfl : k = tn := by omega
        have hOw := hO'.out.trans' (hO2.out.trans' hOr.out)
        have hBx : BoxAt ws q ⟨tA, k, tc⟩ ts := ⟨(hbox.out ws (hO2.out.trans' hOr.out)).1, (hbox.out ws (hO2.out.trans' hOr.out)).2, hT'.out.new hOw⟩
        have hqw : q < w2.heap.size := el
        have hww : w.heap.size ≤ w2.heap.size := (hO'.out.trans' hO2.out).size
        have hs := sortf_any (n := k) h12 (isort_seq hBx h12 hW.out (fun b hb e => by have := hf.out b hb; omega) (fun b off hA hne e => by have := hf.out b e; have := htlt.out b off hA hne; omega)) (fun e w' h => h.1)
        have hs' := Lib.hid hs
        have hOw' := Lib.hid hOw
        have hww' := Lib.hid hww
        clear hBx hs hOw hqw hww e8 el
        go_wp2_with fail
        refine hs'.out.mono ?_
        rintro e w3 ⟨rfl, hW3, hO3⟩
        have hW3' := Lib.hid hW3
        have hO3' := Lib.hid (show Only (fun _ => False) w w3 from hOw'.out.trans hO3 (fun x hx e => by have := hf.out x e.symm; have := hww'.out; omega))
        clear hW3 hO3 hs'
        go_wp2_with fail
        refine (values_any w3 A k cap).mono ?_
        rintro e w4 ⟨rfl, hw4⟩
        have hw4' := Lib.hid hw4
        clear hw4
        go_wp2
        rw [hZ'.out, hord.out]
        refine ⟨w3.heap.size, A, cap, hh, rfl, ?_, ?_, hO3'.out.size, (fun b hb => by have := hf.out b hb; have := hww'.out; omega), ?_⟩
        · rw [hw4'.out, order_length]; exact heap_new_at _ _ rfl
        · rw [hw4'.out, order_length]; exact hW3'.out.kept ((Only.refl (fun _ => False) _).alloc _) (fun _ _ h => h)
        · rw [hw4'.out]; exact hO3'.out.alloc _
end Bch
end Go.Proofs.Ytdoimkmhincmmaa
