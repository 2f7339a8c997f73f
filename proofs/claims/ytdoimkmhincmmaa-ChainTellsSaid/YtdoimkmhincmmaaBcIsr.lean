/- chain: the sort of tasks by their priorities. -/
import Derived.Test.YtdoimkmhincmmaaBcMay
import Derived.BigRegion
namespace Go.Proofs.Ytdoimkmhincmmaa
namespace Bch
open Go Go.RowKit
theorem ret_int {k : IntKind} {a b : Int} (h : a = b) : Ending.returned (.int k a) = .returned (.int k b) := by rw [h]
theorem ret_bool {a b : Bool} (h : a = b) : Ending.returned (.bool a) = .returned (.bool b) := by rw [h]
def GrowI (z : Int) (w : World) (e : Ending) (w' : World) : Prop := e = .returned (.int .i64 z) ∧ Only (fun _ => False) w w'
def RetB (v : Bool) (w : World) (e : Ending) (w' : World) : Prop := e = .returned (.bool v) ∧ w = w'
def RetI (v : Int) (w : World) (e : Ending) (w' : World) : Prop := e = .returned (.int .i64 v) ∧ w = w'
theorem nan_any (w : World) (a : Int) : Calls Try.prog 75 #[.int .i64 a] w (RetB false w) := by
  have h : (a != a) = false := by simp
  go_enter Try.func75, Try.ntmps75
  go_wp2
  go_ret
  exact ⟨ret_bool (by simp), rfl⟩
def cmpZ (a b : Int) : Int := if a < b then -1 else if b < a then 1 else 0
theorem compare_any (w : World) (a b : Int) : Calls Try.prog 65 #[.int .i64 a, .int .i64 b] w (RetI (cmpZ a b) w) := by
  have q := Lib.hid (fun z => nan_any w z)
  obtain ⟨V, hV⟩ : ∃ V, V = cmpZ a b := ⟨_, rfl⟩
  have hV' := Lib.hid hV
  rw [← hV]
  clear hV
  by_cases h1 : a < b
  · have hv := Lib.hid (show V = -1 by rw [hV'.out]; unfold cmpZ; simp [h1])
    go_enter Try.func65, Try.ntmps65
    go_wp2_with fail
    refine (q.out _).mono ?_
    rintro e w' ⟨rfl, rfl⟩
    go_wp2_with fail
    refine (q.out _).mono ?_
    rintro e w' ⟨rfl, rfl⟩
    go_wp2
    go_ret
    exact ⟨ret_int hv.out.symm, rfl⟩
  · by_cases h2 : b < a
    · have hv := Lib.hid (show V = 1 by rw [hV'.out]; unfold cmpZ; simp [h1, h2])
      go_enter Try.func65, Try.ntmps65
      go_wp2_with fail
      refine (q.out _).mono ?_
      rintro e w' ⟨rfl, rfl⟩
      go_wp2_with fail
      refine (q.out _).mono ?_
      rintro e w' ⟨rfl, rfl⟩
      go_wp2
      go_ret
      exact ⟨ret_int hv.out.symm, rfl⟩
    · have hv := Lib.hid (show V = 0 by rw [hV'.out]; unfold cmpZ; simp [h1, h2])
      go_enter Try.func65, Try.ntmps65
      go_wp2_with fail
      refine (q.out _).mono ?_
      rintro e w' ⟨rfl, rfl⟩
      go_wp2_with fail
      refine (q.out _).mono ?_
      rintro e w' ⟨rfl, rfl⟩
      go_wp2
      go_ret
      exact ⟨ret_int hv.out.symm, rfl⟩

/-- Tasks behind a boxed configuration. -/
structure BoxAt (w : World) (q : Nat) (x : Sl) (ts : List TaskV) : Prop where
  c : w.cell? ⟨q, 8, none⟩ = some (.slice x.A x.n x.cap)
  lt : q < w.heap.size
  t : TasksAt w x ts
theorem BoxAt.only {S : Nat → Prop} {w w' : World} {q : Nat} {x : Sl} {ts : List TaskV} (h : BoxAt w q x ts) (ho : Only S w w') (hq : ¬ S q) (hx : ∀ b off, x.A = some ⟨b, off, none⟩ → ts ≠ [] → ¬ S b) : BoxAt w' q x ts :=
  ⟨ho.cell h.c hq, Nat.lt_of_lt_of_le h.lt ho.size, h.t.len, h.t.cap, fun k t ht => by
    obtain ⟨b, off, hA, hb, ⟨c0, c1, c2, c3, c4, c5, c6⟩⟩ := h.t.at_ k t ht
    have hn := hx b off hA (by rintro rfl; simp at ht)
    exact ⟨b, off, hA, Nat.lt_of_lt_of_le hb ho.size, ⟨ho.cell c0 hn, ho.cell c1 hn, ho.cell c2 hn, ho.cell c3 hn, ho.cell c4 hn, ho.cell c5 hn, ho.cell c6 hn⟩⟩⟩
set_option maxRecDepth 100000 in
theorem cmp_any {w : World} {q : Nat} {x : Sl} {ts : List TaskV} (hB : BoxAt w q x ts) (h9 : x.n ≤ 1000000) {a b : Nat} (ha : a < x.n) (hb : b < x.n) :
    Calls Try.prog 64 #[.int .i64 a, .int .i64 b, .pointer (some ⟨q, 0, none⟩)] w (GrowI (cmpZ (prio ts b) (prio ts a)) w) := by
  have hlen := hB.t.len
  obtain ⟨t, ht⟩ : ∃ t, ts[a]? = some t := ⟨_, List.getElem?_eq_getElem (by omega)⟩
  obtain ⟨u, hu⟩ : ∃ t, ts[b]? = some t := ⟨_, List.getElem?_eq_getElem (by omega)⟩
  obtain ⟨b1, off, hA, hb1, hC⟩ := hB.t.at_ a t ht
  obtain ⟨b2, off2, hA2, hb2, hD⟩ := hB.t.at_ b u hu
  rw [hA] at hA2
  cases hA2
  rw [prio_at ht, prio_at hu]
  have c0 := hC.c0
  have d0 := hD.c0
  have e0 := hB.c
  have hlt := hB.lt
  obtain ⟨A, n, cap⟩ := x
  obtain ⟨tp, tth, tpe, tde, tfr, tfl, to_⟩ := t
  obtain ⟨up, uth, upe, ude, ufr, ufl, uo⟩ := u
  simp only at *
  subst hA
  obtain ⟨V, hV⟩ : ∃ V, V = cmpZ up tp := ⟨_, rfl⟩
  have q1 := fun v : Wd w => Calls.wd_same (x := v) (compare_any v.W up tp)
  rw [← hV] at q1 ⊢
  have q1' := Lib.hid q1
  have p0 := wd_cell c0
  have p1 := wd_cell d0
  have p2 := wd_cell e0
  have hex := wd_ex w
  have ha' : (a : Int) < (n : Int) := by omega
  have hb' : (b : Int) < (n : Int) := by omega
  clear hB hlen ht hu hC hD hV q1 c0 d0 e0
  go_enter Try.func64, Try.ntmps64
  go_wp2
  refine wp_region_wd (by kernel_rfl) (by kernel_rfl) ?_
  repeat (go_big_quiet_step (first | (go_at_call 65; exact q1'.out _)))
  refine wpQuiet_nil ?_
  rintro _ ⟨v, rfl⟩
  have hv := Lib.hid v.ok
  go_wp2
  go_ret
  exact ⟨rfl, hv.out⟩
theorem cmpZ_neg {a b : Int} : cmpZ a b < 0 ↔ a < b := by
  unfold cmpZ
  split
  · simp [*]
  · split <;> simp [*]

/-- A row of numbers somewhere in a block. -/
def RowW (w : World) (g : Nat) (pre post : List Value) (L : List Nat) : Prop := w.heap[g]? = some (.cells (pre ++ (dat L ++ post)).toArray 3 (0, 0))
theorem RowW.cell {w : World} {g off : Nat} {pre post : List Value} {L : List Nat} (h : RowW w g pre post L) (ho : pre.length = off) {i k : Nat} (hk : L[i]? = some k) : w.cell? ⟨g, off + i, none⟩ = some (.int .i64 (k : Int)) := by
  refine row_cell h ?_
  have hi : i < (dat L).length := by rw [dat_length]; exact (List.getElem?_eq_some_iff.1 hk).1
  rw [← ho, List.getElem?_append_right (by omega), Nat.add_sub_cancel_left, List.getElem?_append_left hi]
  exact dat_at hk
theorem RowW.set {w : World} {g off : Nat} {pre post : List Value} {L : List Nat} (h : RowW w g pre post L) (ho : pre.length = off) {i : Nat} (hi : i < L.length) (k : Nat) : RowW (w.setCell ⟨g, off + i, none⟩ (.int .i64 (k : Int))) g pre post (L.set i k) := by
  unfold RowW
  rw [row_set h (off + i) (.int .i64 (k : Int)), ← ho, List.set_append_right _ _ (by omega), Nat.add_sub_cancel_left, List.set_append_left _ _ (by rw [dat_length]; exact hi), dat_set]
def SortEnd (w : World) (g : Nat) (pre post : List Value) (L : List Nat) (e : Ending) (w' : World) : Prop := e = .returned (.tuple #[]) ∧ RowW w' g pre post L ∧ Only (fun k => k = g) w w'
set_option maxRecDepth 100000 in
set_option maxHeartbeats 2000000 in
theorem isort_any {w : World} {q : Nat} {x : Sl} {ts : List TaskV} (hB : BoxAt w q x ts) (h9 : x.n ≤ 1000000) {g n off cap : Nat} {pre post : List Value} (hoff : pre.length = off) (hg : RowW w g pre post (wait 0 n)) (hn : n ≤ x.n) (h1 : 1 ≤ n) (hgq : q ≠ g) (hgx : ∀ b off, x.A = some ⟨b, off, none⟩ → ts ≠ [] → b ≠ g) :
    Calls Try.prog 82 #[.slice (some ⟨g, off, none⟩) n cap, .int .i64 0, .int .i64 n, .func (.func 64) #[] #[.pointer (some ⟨q, 0, none⟩)]] w (SortEnd w g pre post (orderUp (prio ts) n)) := by
  obtain ⟨p, hp⟩ : ∃ p, p = prio ts := ⟨_, rfl⟩
  have qc := Lib.hid (fun (W : World) (hW : Only (fun k => k = g) w W) (a b : Nat) (ha : a < n) (hb : b < n) => show Calls Try.prog 64 #[.int .i64 a, .int .i64 b, .pointer (some ⟨q, 0, none⟩)] W (GrowI (cmpZ (p b) (p a)) W) by
    rw [hp]
    exact cmp_any (hB.only hW hgq hgx) h9 (by omega) (by omega))
  rw [← hp]
  have hg' := Lib.hid hg
  have hoff' := Lib.hid hoff
  clear hp hB hg hgx hoff
  go_enter Try.func82, Try.ntmps82
  go_wp2
  go_loopw [8] (fun i wr => ∃ k : Nat, 1 ≤ k ∧ k ≤ n ∧ i = .int .i64 k ∧ RowW wr g pre post (orderUp p k ++ wait k n) ∧ Only (fun k => k = g) w wr) (fun i _ => n - (intOf i).toNat)
  case atStart => exact ⟨1, Nat.le_refl _, h1, rfl, (by
    have h0 := hg'.out
    rw [wait_next (by omega)] at h0
    exact h0), Only.refl _ w⟩
  case round =>
    obtain ⟨k, hk1, hk, rfl, hR, hO⟩ := hrel
    have hR' := Lib.hid hR
    have hO' := Lib.hid hO
    clear hR hO
    by_cases hkn : k < n
    · have hkn' : (k : Int) < (n : Int) := by omega
      go_wp2
      go_loopw [9] (fun i ws => ∃ (m : Nat) (A B : List Nat), i = .int .i64 m ∧ A.length = m ∧ A ++ B = orderUp p k ∧ (∀ y ∈ B, p y < p k) ∧ RowW ws g pre post (A ++ k :: (B ++ wait (k + 1) n)) ∧ Only (fun k => k = g) w ws) (fun i _ => (intOf i).toNat)
      case atStart => exact ⟨k, orderUp p k, [], rfl, order_length p k, by simp, by simp, (by
        have h0 := hR'.out
        rw [wait_next hkn] at h0
        simpa using h0), hO'.out⟩
      case round =>
        obtain ⟨m, A, B, rfl, hm, hAB, hBk, hRs, hOs⟩ := hrel
        have hRs' := Lib.hid hRs
        have hOs' := Lib.hid hOs
        have hAB' := Lib.hid hAB
        have hBk' := Lib.hid hBk
        clear hRs hOs hAB hBk
        have hfin := Lib.hid (fun (ha : ∀ y ∈ A, p k ≤ p y) => show orderUp p (k + 1) ++ wait (k + 1) n = A ++ k :: (B ++ wait (k + 1) n) from by
          show ins p k (orderUp p k) ++ wait (k + 1) n = _
          rw [← hAB'.out, ins_split hBk'.out ha]
          simp)
        rcases List.eq_nil_or_concat A with hA | ⟨A', y, hA⟩
        · have hm0 : m = 0 := by rw [← hm, hA]; rfl
          subst hm0
          have hnx := Lib.hid (show RowW wr g pre post (orderUp p (k + 1) ++ wait (k + 1) n) by rw [hfin.out (by rw [hA]; simp)]; exact hRs'.out)
          clear hm hA hfin
          go_wp2
          go_quiet (fail)
          go_wp2
          go_roundw
          case rel => exact ⟨k + 1, by omega, by omega, by go_num, hnx.out, hOs'.out.drewN _⟩
          case measure => simp [intOf]; omega
        · rw [List.concat_eq_append] at hA
          obtain ⟨j, rfl⟩ : ∃ j, m = j + 1 := ⟨A'.length, by rw [← hm, hA]; simp⟩
          have hj : A'.length = j := by rw [hA] at hm; simpa using hm
          have hrow : A ++ k :: (B ++ wait (k + 1) n) = A' ++ y :: k :: (B ++ wait (k + 1) n) := by rw [hA]; simp
          have hRt := hRs'.out
          rw [hrow] at hRt
          have c0 := hRt.cell hoff'.out (i := j) (k := y) (by rw [← hj]; exact (at_mid _ _ _ _).1)
          have c1 := hRt.cell hoff'.out (i := j + 1) (k := k) (by rw [← hj]; exact (at_mid _ _ _ _).2)
          have hyk : y < k := order_lt (p := p) (n := k) (by rw [← hAB'.out, hA]; simp)
          have hjk : j + 1 ≤ k := by
            have h0 := order_length p k
            rw [← hAB'.out, hA] at h0
            simp at h0
            omega
          have hj1 : ((j : Int) + 1) < (n : Int) := by omega
          have hj2 : (j : Int) < (n : Int) := by omega
          have hso := Lib.hid (order_sorted p k)
          have hnx := Lib.hid (fun (h : p k ≤ p y) => show RowW wr g pre post (orderUp p (k + 1) ++ wait (k + 1) n) by
            rw [hfin.out (fun u hu => by
              have h0 := hso.out
              rw [← hAB'.out] at h0
              have h1 := (List.pairwise_append.1 h0).1
              rw [hA] at h1 hu
              rw [List.pairwise_append] at h1
              rcases List.mem_append.1 hu with hu | hu
              · have := h1.2.2 u hu y (by simp)
                omega
              · simp at hu; subst hu; exact h)]
            exact hRs'.out)
          have hsw := Lib.hid (fun (h : p y < p k) => show A' ++ (y :: B) = orderUp p k ∧ ∀ u ∈ y :: B, p u < p k from ⟨by rw [← hAB'.out, hA]; simp, fun u hu => by
            rcases List.mem_cons.1 hu with rfl | hu
            · exact h
            · exact hBk'.out u hu⟩)
          have hset := Lib.hid (show ∀ W, RowW W g pre post (A' ++ y :: k :: (B ++ wait (k + 1) n)) → RowW ((W.setCell ⟨g, off + (j + 1), none⟩ (.int .i64 (y : Int))).setCell ⟨g, off + j, none⟩ (.int .i64 (k : Int))) g pre post (A' ++ k :: (y :: B ++ wait (k + 1) n)) from fun W hW => by
            have h0 := (hW.set hoff'.out (i := j + 1) (by simp; omega) y).set hoff'.out (i := j) (by simp; omega) k
            rw [← hj, swap_list] at h0
            rw [← hj]
            exact h0)
          have hRt' := Lib.hid hRt
          have hglt := row_lt hRt
          have hfr := fun i => row_free hRt i
          obtain ⟨z, hz⟩ : ∃ z, z = cmpZ (p y) (p k) := ⟨_, rfl⟩
          have hzn := Lib.hid (show z < 0 ↔ p y < p k by rw [hz]; exact cmpZ_neg)
          have q1 := fun v : Wd wr => Calls.wd (x := v) (qc.out v.W (hOs'.out.trans' (v.ok.mono (fun _ _ h => h.elim))) k y hkn (by omega))
          rw [← hz] at q1
          have q1' := Lib.hid q1
          have p0 := wd_cell c0
          have p1 := wd_cell c1
          have hex := wd_ex wr
          have hj' := hj
          clear hm hA hfin hj hrow hRt hz q1 hAB' hBk' hRs'
          have hjc : (((j + 1 : Nat) : Int) - 1) = (j : Int) := by omega
          go_wp2
          refine wp_region_wd (by kernel_rfl) (by kernel_rfl) ?_
          repeat (go_big_quiet_step (first | (go_at_call 64; with_reducible exact q1'.out _)))
          refine wpQuiet_nil ?_
          rintro _ ⟨v, rfl⟩
          have hRv := v.ok.heap hRt'.out (fun h => h)
          replace c0 := v.cell c0
          replace c1 := v.cell c1
          replace hglt := row_lt hRv
          replace hfr := fun i => row_free hRv i
          have hsv := Lib.hid (hset.out v.W hRv)
          have hOv := Lib.hid (hOs'.out.trans' (v.ok.mono (fun _ _ h => h.elim)))
          have hnv := Lib.hid (fun (h : p k ≤ p y) => v.ok.heap (hnx.out h) (fun h => h))
          clear p0 p1 hex q1' hRt' hRv hnx hset hOs'
          obtain ⟨wv, hwv⟩ := v
          simp only at *
          clear hwv
          by_cases hz0 : z < 0
          · have hlt := hzn.out.1 hz0
            have hsw' := Lib.hid (hsw.out hlt)
            clear hsw hnv hlt
            go_wp2
            go_region
            all_goals
              go_wp2
              go_roundw
              case rel => exact ⟨j, A', y :: B, rfl, hj', hsw'.out.1, hsw'.out.2, hsv.out, ((hOv.out.setCell (fun _ => rfl) _).setCell (fun _ => rfl) _).drew⟩
              case measure => simp [intOf]
          · have hge : p k ≤ p y := Int.not_lt.1 (fun h => hz0 (hzn.out.2 h))
            have hnw := Lib.hid (hnv.out hge)
            clear hnv hsw hge hsv
            go_wp2
            go_roundw
            case rel => exact ⟨k + 1, by omega, by omega, by go_num, hnw.out, hOv.out⟩
            case measure => simp [intOf]; omega
    · obtain rfl : k = n := by omega
      have hR := hR'.out
      rw [wait_end, List.append_nil] at hR
      have hE := Lib.hid (show SortEnd w g pre post (orderUp p k) (.returned (.tuple #[])) wr from ⟨rfl, hR, hO'.out⟩)
      clear hR
      go_wp2
      go_end0
      exact hE.out
end Bch
end Go.Proofs.Ytdoimkmhincmmaa
