/- edf: the sort of places by their works' releases: insertion. -/
import Derived.Test.YtkolbaadakhciaaEBnd
namespace Go.Proofs.Ytkolbaadakhciaa
namespace Edf
open Go Go.RowKit

theorem ret_int {k : IntKind} {a b : Int} (h : a = b) : Ending.returned (.int k a) = .returned (.int k b) := by rw [h]
theorem nan_any (w : World) (a : Int) : Calls Try.prog 56 #[.int .i64 a] w fun e w' => e = .returned (.bool false) ∧ w = w' := by
  have h : (a != a) = false := by simp
  go_enter Try.func56, Try.ntmps56
  go_wp2
  go_ret
  exact ⟨by simp, rfl⟩
def cmpZ (a b : Int) : Int := if a < b then -1 else if b < a then 1 else 0
theorem cmpZ_neg {a b : Int} : cmpZ a b < 0 ↔ a < b := by
  unfold cmpZ
  split
  · simp [*]
  · split <;> simp [*]
theorem compare_any (w : World) (a b : Int) : Calls Try.prog 51 #[.int .i64 a, .int .i64 b] w fun e w' => e = .returned (.int .i64 (cmpZ a b)) ∧ w = w' := by
  have q := Lib.hid (fun z => nan_any w z)
  obtain ⟨V, hV⟩ : ∃ V, V = cmpZ a b := ⟨_, rfl⟩
  have hV' := Lib.hid hV
  rw [← hV]
  clear hV
  by_cases h1 : a < b
  · have hv := Lib.hid (show V = -1 by rw [hV'.out]; unfold cmpZ; simp [h1])
    go_enter Try.func51, Try.ntmps51
    go_wp2_with fail
    refine (q.out _).mono ?_
    rintro e w' ⟨rfl, rfl⟩
    go_wp2_with fail
    refine (q.out _).mono ?_
    rintro e w' ⟨rfl, rfl⟩
    go_wp2
    go_ret
    exact ⟨ret_int hv.out.symm, rfl⟩
  · by_cases h2 : b < a
    · have hv := Lib.hid (show V = 1 by rw [hV'.out]; unfold cmpZ; simp [h1, h2])
      go_enter Try.func51, Try.ntmps51
      go_wp2_with fail
      refine (q.out _).mono ?_
      rintro e w' ⟨rfl, rfl⟩
      go_wp2_with fail
      refine (q.out _).mono ?_
      rintro e w' ⟨rfl, rfl⟩
      go_wp2
      go_ret
      exact ⟨ret_int hv.out.symm, rfl⟩
    · have hv := Lib.hid (show V = 0 by rw [hV'.out]; unfold cmpZ; simp [h1, h2])
      go_enter Try.func51, Try.ntmps51
      go_wp2_with fail
      refine (q.out _).mono ?_
      rintro e w' ⟨rfl, rfl⟩
      go_wp2_with fail
      refine (q.out _).mono ?_
      rintro e w' ⟨rfl, rfl⟩
      go_wp2
      go_ret
      exact ⟨ret_int hv.out.symm, rfl⟩

def dat (L : List Nat) : List Value := L.map (fun (k : Nat) => Value.int .i64 (k : Int))
theorem dat_set (L : List Nat) (i k : Nat) : (dat L).set i (.int .i64 (k : Int)) = dat (L.set i k) := by unfold dat; rw [List.map_set]
theorem dat_at {L : List Nat} {i k : Nat} (h : L[i]? = some k) : (dat L)[i]? = some (.int .i64 (k : Int)) := by unfold dat; rw [List.getElem?_map, h]; rfl
theorem dat_length (L : List Nat) : (dat L).length = L.length := by simp [dat]
theorem dat_append (a b : List Nat) : dat (a ++ b) = dat a ++ dat b := by simp [dat]
theorem swap_list (A R : List Nat) (y x : Nat) : ((A ++ y :: x :: R).set (A.length + 1) y).set A.length x = A ++ x :: y :: R := by
  rw [List.set_append_right _ _ (by omega), List.set_append_right _ _ (by omega)]
  simp
theorem at_mid (A R : List Nat) (y x : Nat) : (A ++ y :: x :: R)[A.length]? = some y ∧ (A ++ y :: x :: R)[A.length + 1]? = some x := by
  constructor
  · rw [List.getElem?_append_right (Nat.le_refl _)]; simp
  · rw [List.getElem?_append_right (by omega)]; simp
/-- A row of numbers somewhere in a block. -/
def RowW (w : World) (g : Nat) (pre post : List Value) (L : List Nat) : Prop := w.heap[g]? = some (.cells (pre ++ (dat L ++ post)).toArray 3 (0, 0))
theorem RowW.cell {w : World} {g o : Nat} {pre post : List Value} {L : List Nat} (h : RowW w g pre post L) {i k : Nat} (ho : pre.length + i = o) (hk : L[i]? = some k) : w.cell? ⟨g, o, none⟩ = some (.int .i64 (k : Int)) := by
  refine row_cell h ?_
  have hi : i < (dat L).length := by rw [dat_length]; exact (List.getElem?_eq_some_iff.1 hk).1
  rw [← ho, List.getElem?_append_right (by omega), Nat.add_sub_cancel_left, List.getElem?_append_left hi]
  exact dat_at hk
theorem RowW.set {w : World} {g o : Nat} {pre post : List Value} {L : List Nat} (h : RowW w g pre post L) {i : Nat} (ho : pre.length + i = o) (hi : i < L.length) (k : Nat) : RowW (w.setCell ⟨g, o, none⟩ (.int .i64 (k : Int))) g pre post (L.set i k) := by
  unfold RowW
  rw [row_set h o (.int .i64 (k : Int)), ← ho, List.set_append_right _ _ (by omega), Nat.add_sub_cancel_left, List.set_append_left _ _ (by rw [dat_length]; exact hi), dat_set]

/-- What the comparison tells, at whatever later world. -/
def CmpOk (w : World) (g q : Nat) (p : Nat → Int) (M : Nat → Prop) : Prop :=
  ∀ W, Only (fun k => k = g) w W → ∀ x y : Nat, M x → M y → Calls Try.prog 50 #[.int .i64 (x : Int), .int .i64 (y : Int), .pointer (some ⟨q, 0, none⟩)] W (fun e w' => e = .returned (.int .i64 (cmpZ (p x) (p y))) ∧ Only (fun _ => False) W w')
theorem CmpOk.on {w W : World} {g q : Nat} {p : Nat → Int} {M : Nat → Prop} (h : CmpOk w g q p M) (ho : Only (fun k => k = g) w W) : CmpOk W g q p M := fun W' h' x y hx hy => h W' (ho.trans' h') x y hx hy
def Sorted (p : Nat → Int) (L : List Nat) : Prop := L.Pairwise fun x y => p x ≤ p y
def SortEnd (w : World) (g : Nat) (pre post : List Value) (L : List Nat) (p : Nat → Int) (e : Ending) (w' : World) : Prop :=
  e = .returned (.tuple #[]) ∧ ∃ L', List.Perm L' L ∧ Sorted p L' ∧ RowW w' g pre post L' ∧ Only (fun k => k = g) w w'

theorem ins_sorted {p : Nat → Int} {A B : List Nat} {x : Nat} (h : Sorted p (A ++ B)) (hB : ∀ y ∈ B, p x < p y) (hA : ∀ y ∈ A, p y ≤ p x) : Sorted p (A ++ x :: B) := by
  unfold Sorted at *
  rw [List.pairwise_append] at h ⊢
  refine ⟨h.1, List.pairwise_cons.2 ⟨fun y hy => by have := hB y hy; omega, h.2.1⟩, fun a ha b hb => ?_⟩
  rcases List.mem_cons.1 hb with rfl | hb
  · exact hA a ha
  · exact h.2.2 a ha b hb
theorem last_most {p : Nat → Int} {A' B : List Nat} {y : Nat} (h : Sorted p ((A' ++ [y]) ++ B)) : ∀ u ∈ A' ++ [y], p u ≤ p y := by
  unfold Sorted at h
  rw [List.pairwise_append, List.pairwise_append] at h
  intro u hu
  rcases List.mem_append.1 hu with hu | hu
  · exact h.1.2.2 u hu y (by simp)
  · rw [List.mem_singleton.1 hu]; exact Int.le_refl _

set_option maxRecDepth 100000 in
set_option maxHeartbeats 4000000 in
theorem isort_any {w : World} {g q n off cap a b : Nat} {pre post : List Value} {L : List Nat} {p : Nat → Int} {M : Nat → Prop} (hc : CmpOk w g q p M) (hM : ∀ x ∈ L, M x) (hpre : pre.length = off + a) (hL : L.length = b - a) (hab : a ≤ b) (hbn : b ≤ n) (hn : n ≤ 4000) (hg : RowW w g pre post L) :
    Calls Try.prog 58 #[.slice (some ⟨g, off, none⟩) n cap, .int .i64 (a : Int), .int .i64 (b : Int), .func (.func 50) #[] #[.pointer (some ⟨q, 0, none⟩)]] w (SortEnd w g pre post L p) := by
  obtain ⟨Z, hZ⟩ : ∃ Z, Z = SortEnd w g pre post L p := ⟨_, rfl⟩
  rw [← hZ]
  have hfin := Lib.hid (fun W L' (h1 : List.Perm L' L) (h2 : Sorted p L') (h3 : RowW W g pre post L') (h4 : Only (fun k => k = g) w W) => show Z (.returned (.tuple #[])) W from by rw [hZ]; exact ⟨rfl, L', h1, h2, h3, h4⟩)
  have hg' := Lib.hid hg
  have hpre' := Lib.hid hpre
  have hL' := Lib.hid hL
  have hM' := Lib.hid hM
  have hc' := Lib.hid hc
  clear hZ hg hpre hL hM hc
  by_cases hsmall : b ≤ a + 1
  · have hs2 : ¬ (a : Int) + 1 < b := by omega
    have hso : Sorted p L := by
      have h1 := hL'.out
      unfold Sorted
      match L, h1 with
      | [], _ => exact List.Pairwise.nil
      | [x], _ => exact List.pairwise_singleton _ _
      | x :: y :: l, h => simp at h; omega
    have hf := Lib.hid (hfin.out w L (List.Perm.refl _) hso hg'.out (Only.refl _ _))
    clear hso hfin
    go_enter Try.func58, Try.ntmps58
    go_wp2
    go_loopw [8] (fun i wr => i = .int .i64 ((a : Int) + 1) ∧ wr = w) (fun _ _ => 0)
    case atStart => exact ⟨rfl, rfl⟩
    case round =>
      obtain ⟨rfl, rfl⟩ := hrel
      go_wp2
      go_end0
      exact hf.out
  · go_enter Try.func58, Try.ntmps58
    go_wp2
    go_loopw [8] (fun i wr => ∃ (k : Nat) (P : List Nat), i = .int .i64 (k : Int) ∧ a + 1 ≤ k ∧ k ≤ b ∧ P.length = k - a ∧ Hid (List.Perm P (L.take (k - a))) ∧ Hid (Sorted p P) ∧ Hid (RowW wr g pre post (P ++ L.drop (k - a))) ∧ Hid (Only (fun k => k = g) w wr)) (fun i _ => b - (intOf i).toNat)
    case atStart => exact ⟨a + 1, L.take 1, by go_num, Nat.le_refl _, by omega, by have := hL'.out; simp; omega, by rw [show a + 1 - a = 1 by omega]; exact Lib.hid (List.Perm.refl _), by
        have h1 := hL'.out
        refine Lib.hid ?_
        unfold Sorted
        match L, h1 with
        | [], h => exact List.Pairwise.nil
        | x :: l, h => exact List.pairwise_singleton _ _, by
        rw [show a + 1 - a = 1 by omega, List.take_append_drop]
        exact hg', Only.refl _ w⟩
    case round =>
      obtain ⟨k, P, rfl, hk1, hk, hPl, hPp, hPs, hR, hO⟩ := hrel
      by_cases hkn : k < b
      · have hkn' : (k : Int) < (b : Int) := by omega
        obtain ⟨x, hx⟩ : ∃ x, L[k - a]? = some x := ⟨_, List.getElem?_eq_getElem (by have := hL'.out; omega)⟩
        obtain ⟨R, hRr⟩ : ∃ R, R = L.drop (k + 1 - a) := ⟨_, rfl⟩
        have hdrop : L.drop (k - a) = x :: R := by
          obtain ⟨h1, h2⟩ := List.getElem?_eq_some_iff.1 hx
          rw [List.drop_eq_getElem_cons h1, h2, hRr, show k - a + 1 = k + 1 - a by omega]
        have htake : L.take (k + 1 - a) = L.take (k - a) ++ [x] := by
          rw [show k + 1 - a = k - a + 1 by omega, List.take_add_one, hx]
          rfl
        have hx' := Lib.hid (hM'.out x (List.mem_of_getElem? hx))
        have hnext := Lib.hid (show ∀ A B, A ++ B = P → (∀ y ∈ B, p x < p y) → (∀ y ∈ A, p y ≤ p x) → ∀ W, RowW W g pre post (A ++ x :: (B ++ R)) → (A ++ x :: B).length = k + 1 - a ∧ List.Perm (A ++ x :: B) (L.take (k + 1 - a)) ∧ Sorted p (A ++ x :: B) ∧ RowW W g pre post ((A ++ x :: B) ++ L.drop (k + 1 - a)) from by
          intro A B h1 h2 h3 W hW
          refine ⟨?_, ?_, ins_sorted (by rw [h1]; exact hPs.out) h2 h3, by rw [← hRr]; simpa using hW⟩
          · have := congrArg List.length h1
            simp at this ⊢
            omega
          · rw [htake]
            have e1 : List.Perm (A ++ x :: B) ((A ++ B) ++ [x]) := by
              refine List.perm_middle.trans ?_
              rw [h1]
              exact (List.perm_append_singleton x P).symm
            rw [h1] at e1
            exact e1.trans (hPp.out.append_right [x]))
        have hPm := Lib.hid (show ∀ y ∈ P, M y from fun y hy => hM'.out y (List.mem_of_mem_take (hPp.out.subset hy)))
        have hR2 := Lib.hid (show RowW wr g pre post (P ++ x :: R) from by rw [← hdrop]; exact hR.out)
        have hPs' := Lib.hid hPs.out
        have hRl := Lib.hid (show R.length = b - k - 1 from by rw [hRr, List.length_drop, hL'.out]; omega)
        clear hx hRr hdrop htake hR hPp hPs
        go_wp2
        go_loopw [9] (fun i ws => ∃ (m : Nat) (A B : List Nat), i = .int .i64 (m : Int) ∧ a ≤ m ∧ m ≤ k ∧ A.length = m - a ∧ Hid (A ++ B = P) ∧ Hid (∀ y ∈ B, p x < p y) ∧ Hid (RowW ws g pre post (A ++ x :: (B ++ R))) ∧ Hid (Only (fun k => k = g) w ws)) (fun i _ => (intOf i).toNat)
        case atStart => exact ⟨k, P, [], rfl, by omega, Nat.le_refl _, hPl, Lib.hid (List.append_nil _), Lib.hid (by simp), hR2, hO⟩
        case round =>
          obtain ⟨m, A, B, rfl, hma, hmk, hAl, hAB, hBk, hRs, hOs⟩ := hrel
          by_cases hm0 : m = a
          · have hA : A = [] := List.eq_nil_of_length_eq_zero (by omega)
            have hnx := Lib.hid (hnext.out A B hAB.out hBk.out (by rw [hA]; simp))
            have hcond : ¬ (a : Int) < (m : Int) := by omega
            have hd1 : decide (a < m) = false := decide_eq_false (by omega)
            have hd2 : decide ((a : Int) < (m : Int)) = false := decide_eq_false (by omega)
            clear hAB hBk hm0 hA
            go_wp2
            go_quiet (fail)
            go_wp2
            go_roundw
            case rel =>
              obtain ⟨n1, n2, n3, n4⟩ := hnx.out _ hRs.out
              exact ⟨k + 1, A ++ x :: B, by go_num, by omega, by omega, n1, Lib.hid n2, Lib.hid n3, Lib.hid n4, hOs.out.drewN _⟩
            case measure => simp [intOf]; omega
          · have hma' : (a : Int) < (m : Int) := by omega
            obtain ⟨A', y, hA⟩ : ∃ A' y, A = A' ++ [y] := by
              rcases List.eq_nil_or_concat A with h | ⟨A', y, h⟩
              · rw [h] at hAl; simp at hAl; omega
              · exact ⟨A', y, by rw [h, List.concat_eq_append]⟩
            obtain ⟨j, hj⟩ : ∃ j, m = j + 1 := ⟨m - 1, by omega⟩
            subst hj
            have hA'l : A'.length = j - a := by rw [hA] at hAl; simp at hAl; omega
            have hja : a ≤ j := by omega
            have hrow : A ++ x :: (B ++ R) = A' ++ y :: x :: (B ++ R) := by rw [hA]; simp
            have hRt := hRs.out
            rw [hrow] at hRt
            have c0 := hRt.cell (o := off + j) (i := A'.length) (k := y) (by have := hpre'.out; omega) (at_mid _ _ _ _).1
            have c1 := hRt.cell (o := off + (j + 1)) (i := A'.length + 1) (k := x) (by have := hpre'.out; omega) (at_mid _ _ _ _).2
            have hy := hPm.out y (by rw [← hAB.out, hA]; simp)
            have hj1 : ((j : Int) + 1) < (n : Int) := by omega
            have hj2 : (j : Int) < (n : Int) := by omega
            have hnx := Lib.hid (show p y ≤ p x → ∀ W, RowW W g pre post (A ++ x :: (B ++ R)) → _ from fun hle => hnext.out A B hAB.out hBk.out (by
              intro u hu
              have h1 := last_most (A' := A') (B := B) (y := y) (by rw [← hA, hAB.out]; exact hPs'.out) u (by rw [← hA]; exact hu)
              omega))
            have hsw := Lib.hid (show p x < p y → A' ++ (y :: B) = P ∧ ∀ u ∈ y :: B, p x < p u from fun h => ⟨by rw [← hAB.out, hA]; simp, fun u hu => by
              rcases List.mem_cons.1 hu with rfl | hu
              · exact h
              · exact hBk.out u hu⟩)
            have hset := Lib.hid (show ∀ W, RowW W g pre post (A' ++ y :: x :: (B ++ R)) → RowW ((W.setCell ⟨g, off + (j + 1), none⟩ (.int .i64 (y : Int))).setCell ⟨g, off + j, none⟩ (.int .i64 (x : Int))) g pre post (A' ++ x :: (y :: B ++ R)) from fun W hW => by
              have h0 := (hW.set (o := off + (j + 1)) (i := A'.length + 1) (by have := hpre'.out; omega) (by simp) y).set (o := off + j) (i := A'.length) (by have := hpre'.out; omega) (by simp) x
              rw [swap_list] at h0
              exact h0)
            have hRt' := Lib.hid hRt
            have hglt := row_lt hRt
            have hfr := fun i => row_free hRt i
            obtain ⟨z, hz⟩ : ∃ z, z = cmpZ (p x) (p y) := ⟨_, rfl⟩
            have hzn := Lib.hid (show z < 0 ↔ p x < p y by rw [hz]; exact cmpZ_neg)
            have q1 := fun v : Wd wr => Calls.wd (x := v) (hc'.out v.W (hOs.out.trans' (v.ok.mono (fun _ _ h => h.elim))) x y hx'.out hy)
            rw [← hz] at q1
            have q1' := Lib.hid q1
            have p0 := wd_cell c0
            have p1 := wd_cell c1
            have hex := wd_ex wr
            have hrow' := Lib.hid hrow
            clear hAl hA hrow hRt hz q1 hAB hBk hRs hy hm0
            have hjc : (((j + 1 : Nat) : Int) - 1) = (j : Int) := by omega
            have hd1 : decide (a < j + 1) = true := decide_eq_true (by omega)
            have hd2 : decide ((a : Int) < (j : Int) + 1) = true := decide_eq_true (by omega)
            have hd3 : decide ((a : Int) < ((j + 1 : Nat) : Int)) = true := decide_eq_true (by omega)
            go_wp2
            refine wp_region_wd (by kernel_rfl) (by kernel_rfl) ?_
            repeat (go_big_quiet_step (first | (go_at_call 50; with_reducible exact q1'.out _)))
            refine wpQuiet_nil ?_
            rintro _ ⟨v, rfl⟩
            have hRv := v.ok.heap hRt'.out (fun h => h)
            replace c0 := v.cell c0
            replace c1 := v.cell c1
            replace hglt := row_lt hRv
            replace hfr := fun i => row_free hRv i
            have hsv := Lib.hid (hset.out v.W hRv)
            have hOv := Lib.hid (hOs.out.trans' (v.ok.mono (fun _ _ h => h.elim)))
            have hnv := Lib.hid (fun (h : p y ≤ p x) => hnx.out h v.W (by rw [hrow'.out]; exact hRv))
            clear p0 p1 hex q1' hRt' hRv hnx hset hOs hrow'
            obtain ⟨wv, hwv⟩ := v
            simp only at *
            clear hwv
            by_cases hz0 : z < 0
            · have hlt := hzn.out.1 hz0
              have hsw' := Lib.hid (hsw.out hlt)
              clear hsw hnv hlt
              go_wp2
              go_region
              all_goals
                go_wp2
                go_roundw
                case rel => exact ⟨j, A', y :: B, rfl, by omega, by omega, hA'l, Lib.hid hsw'.out.1, Lib.hid hsw'.out.2, hsv, ((hOv.out.setCell (fun _ => rfl) _).setCell (fun _ => rfl) _).drew⟩
                case measure => simp [intOf]
            · have hge : p y ≤ p x := Int.not_lt.1 (fun h => hz0 (hzn.out.2 h))
              have hnw := Lib.hid (hnv.out hge)
              clear hnv hsw hge hsv
              go_wp2
              go_roundw
              case rel =>
                obtain ⟨n1, n2, n3, n4⟩ := hnw.out
                exact ⟨k + 1, _, by go_num, by omega, by omega, n1, Lib.hid n2, Lib.hid n3, Lib.hid n4, hOv⟩
              case measure => simp [intOf]; omega
      · obtain rfl : k = b := by omega
        have hf := Lib.hid (hfin.out wr P (by have := hPp.out; rw [← hL'.out, List.take_length] at this; exact this) hPs.out (by have := hR.out; rw [← hL'.out, List.drop_length, List.append_nil] at this; exact this) hO.out)
        clear hR hPp hPs hfin
        go_wp2
        go_end0
        exact hf.out
end Edf
end Go.Proofs.Ytkolbaadakhciaa
