/- Order: what compares. -/
import Derived.Test.YtbjpnjgkpkfngaaGreatDoorConf8
import Derived.BigRegion
namespace Go.Proofs.YtbjpnjgkpkfngaaGreatDoor
open Go Go.RowKit

theorem nan_any (w : World) (a : Int) : Calls Tryz.prog 41 #[.int .i64 a] w (RetB false w) := by
  have h : (a != a) = false := by simp
  go_enter Tryz.func41, Tryz.ntmps41
  go_wp2
  go_ret
  exact ⟨ret_bool (by simp), rfl⟩
def cmpZ (a b : Int) : Int := if a < b then -1 else if b < a then 1 else 0
theorem compare_any (w : World) (a b : Int) : Calls Tryz.prog 21 #[.int .i64 a, .int .i64 b] w (RetI (cmpZ a b) w) := by
  have q := Lib.hid (fun z => nan_any w z)
  obtain ⟨V, hV⟩ : ∃ V, V = cmpZ a b := ⟨_, rfl⟩
  have hV' := Lib.hid hV
  rw [← hV]
  clear hV
  by_cases h1 : a < b
  · have hv := Lib.hid (show V = -1 by rw [hV'.out]; unfold cmpZ; simp [h1])
    go_enter Tryz.func21, Tryz.ntmps21
    go_wp2_with fail
    refine (q.out _).mono ?_
    rintro e w' ⟨rfl, rfl⟩
    go_wp2_with fail
    refine (q.out _).mono ?_
    rintro e w' ⟨rfl, rfl⟩
    go_wp2
    go_ret
    exact ⟨ret_int hv.out.symm, rfl⟩
  · by_cases h2 : b < a
    · have hv := Lib.hid (show V = 1 by rw [hV'.out]; unfold cmpZ; simp [h1, h2])
      go_enter Tryz.func21, Tryz.ntmps21
      go_wp2_with fail
      refine (q.out _).mono ?_
      rintro e w' ⟨rfl, rfl⟩
      go_wp2_with fail
      refine (q.out _).mono ?_
      rintro e w' ⟨rfl, rfl⟩
      go_wp2
      go_ret
      exact ⟨ret_int hv.out.symm, rfl⟩
    · have hv := Lib.hid (show V = 0 by rw [hV'.out]; unfold cmpZ; simp [h1, h2])
      go_enter Tryz.func21, Tryz.ntmps21
      go_wp2_with fail
      refine (q.out _).mono ?_
      rintro e w' ⟨rfl, rfl⟩
      go_wp2_with fail
      refine (q.out _).mono ?_
      rintro e w' ⟨rfl, rfl⟩
      go_wp2
      go_ret
      exact ⟨ret_int hv.out.symm, rfl⟩

/-- The priority of a task. -/
def prio (ts : List TaskV) (k : Nat) : Int := (ts.map (·.p)).getD k 0
theorem prio_at {ts : List TaskV} {k : Nat} {t : TaskV} (h : ts[k]? = some t) : prio ts k = t.p := by
  unfold prio
  rw [List.getD_eq_getElem?_getD, List.getElem?_map, h]
  rfl
/-- Tasks behind a boxed configuration. -/
structure BoxAt (w : World) (q : Nat) (x : Sl) (ts : List TaskV) : Prop where
  c : w.cell? ⟨q, 8, none⟩ = some (.slice x.A x.n x.cap)
  lt : q < w.heap.size
  t : TasksAt w x ts
theorem BoxAt.only {S : Nat → Prop} {w w' : World} {q : Nat} {x : Sl} {ts : List TaskV} (h : BoxAt w q x ts) (ho : Only S w w') (hq : ¬ S q) (hx : ∀ b off, x.A = some ⟨b, off, none⟩ → ts ≠ [] → ¬ S b) : BoxAt w' q x ts :=
  ⟨ho.cell h.c hq, Nat.lt_of_lt_of_le h.lt ho.size, h.t.len, h.t.cap, fun k t ht => by
    obtain ⟨b, off, hA, hb, ⟨c0, c1, c2, c3, c4, c5, c6⟩⟩ := h.t.at_ k t ht
    have hn := hx b off hA (by rintro rfl; simp at ht)
    exact ⟨b, off, hA, Nat.lt_of_lt_of_le hb ho.size, ⟨ho.cell c0 hn, ho.cell c1 hn, ho.cell c2 hn, ho.cell c3 hn, ho.cell c4 hn, ho.cell c5 hn, ho.cell c6 hn⟩⟩⟩
set_option maxRecDepth 100000 in
theorem cmp_any {w : World} {q : Nat} {x : Sl} {ts : List TaskV} (hB : BoxAt w q x ts) (h9 : x.n ≤ 1000000) {a b : Nat} (ha : a < x.n) (hb : b < x.n) :
    Calls Tryz.prog 20 #[.int .i64 a, .int .i64 b, .pointer (some ⟨q, 0, none⟩)] w (GrowI (cmpZ (prio ts b) (prio ts a)) w) := by
  have hlen := hB.t.len
  obtain ⟨t, ht⟩ : ∃ t, ts[a]? = some t := ⟨_, List.getElem?_eq_getElem (by omega)⟩
  obtain ⟨u, hu⟩ : ∃ t, ts[b]? = some t := ⟨_, List.getElem?_eq_getElem (by omega)⟩
  obtain ⟨b1, off, hA, hb1, hC⟩ := hB.t.at_ a t ht
  obtain ⟨b2, off2, hA2, hb2, hD⟩ := hB.t.at_ b u hu
  rw [hA] at hA2
  cases hA2
  rw [prio_at ht, prio_at hu]
  have c0 := hC.c0
  have d0 := hD.c0
  have e0 := hB.c
  have hlt := hB.lt
  obtain ⟨A, n, cap⟩ := x
  obtain ⟨tp, tth, tpe, tde, tfr, tfl, to_⟩ := t
  obtain ⟨up, uth, upe, ude, ufr, ufl, uo⟩ := u
  simp only at *
  subst hA
  obtain ⟨V, hV⟩ : ∃ V, V = cmpZ up tp := ⟨_, rfl⟩
  have q1 := fun v : Wd w => Calls.wd_same (x := v) (compare_any v.W up tp)
  rw [← hV] at q1 ⊢
  have q1' := Lib.hid q1
  have p0 := wd_cell c0
  have p1 := wd_cell d0
  have p2 := wd_cell e0
  have hex := wd_ex w
  have ha' : (a : Int) < (n : Int) := by omega
  have hb' : (b : Int) < (n : Int) := by omega
  clear hB hlen ht hu hC hD hV q1 c0 d0 e0
  go_enter Tryz.func20, Tryz.ntmps20
  go_wp2
  refine wp_region_wd (by kernel_rfl) (by kernel_rfl) ?_
  repeat (go_big_quiet_step (first | (go_at_call 21; exact q1'.out _)))
  refine wpQuiet_nil ?_
  rintro _ ⟨v, rfl⟩
  have hv := Lib.hid v.ok
  go_wp2
  go_ret
  exact ⟨rfl, hv.out⟩
end Go.Proofs.YtbjpnjgkpkfngaaGreatDoor
namespace Go.Proofs.YtbjpnjgkpkfngaaGreatDoor
open Go Go.RowKit

def ins (p : Nat → Int) (x : Nat) : List Nat → List Nat
  | [] => [x]
  | y :: l => if p x ≤ p y then y :: ins p x l else x :: y :: l
def orderUp (p : Nat → Int) : Nat → List Nat
  | 0 => []
  | n + 1 => ins p n (orderUp p n)
theorem ins_split {p : Nat → Int} {x : Nat} {B : List Nat} (hB : ∀ y ∈ B, p y < p x) : ∀ {A : List Nat}, (∀ y ∈ A, p x ≤ p y) → ins p x (A ++ B) = A ++ x :: B
  | [], _ => by
    cases B with
    | nil => rfl
    | cons y B =>
      have := hB y (by simp)
      show ins p x (y :: B) = x :: y :: B
      unfold ins
      rw [if_neg (by omega)]
  | a :: A, h => by
    show ins p x (a :: (A ++ B)) = a :: (A ++ x :: B)
    unfold ins
    rw [if_pos (h a (by simp)), ins_split hB (fun y hy => h y (by simp [hy]))]
theorem ins_mem {p : Nat → Int} {x y : Nat} : ∀ {l : List Nat}, y ∈ ins p x l ↔ y = x ∨ y ∈ l
  | [] => by simp [ins]
  | a :: l => by
    unfold ins
    by_cases h : p x ≤ p a
    · rw [if_pos h, List.mem_cons, ins_mem, List.mem_cons]
      constructor <;> (intro h; rcases h with h | h | h <;> simp [h])
    · rw [if_neg h, List.mem_cons]
theorem ins_length {p : Nat → Int} {x : Nat} : ∀ (l : List Nat), (ins p x l).length = l.length + 1
  | [] => rfl
  | a :: l => by
    unfold ins
    by_cases h : p x ≤ p a
    · rw [if_pos h]; simp [ins_length l]
    · rw [if_neg h]; rfl
theorem ins_sorted {p : Nat → Int} {x : Nat} : ∀ {l : List Nat}, l.Pairwise (fun a b => p b ≤ p a) → (ins p x l).Pairwise (fun a b => p b ≤ p a)
  | [], _ => by simp [ins]
  | a :: l, h => by
    rw [List.pairwise_cons] at h
    unfold ins
    by_cases hx : p x ≤ p a
    · rw [if_pos hx, List.pairwise_cons]
      refine ⟨fun y hy => ?_, ins_sorted h.2⟩
      rcases ins_mem.1 hy with rfl | hy
      · exact hx
      · exact h.1 y hy
    · rw [if_neg hx, List.pairwise_cons, List.pairwise_cons]
      refine ⟨fun y hy => ?_, h.1, h.2⟩
      rcases List.mem_cons.1 hy with rfl | hy
      · omega
      · have := h.1 y hy; omega
theorem order_length (p : Nat → Int) : ∀ n, (orderUp p n).length = n
  | 0 => rfl
  | n + 1 => by unfold orderUp; rw [ins_length, order_length p n]
theorem order_lt {p : Nat → Int} : ∀ {n y : Nat}, y ∈ orderUp p n → y < n
  | 0, y, h => by simp [orderUp] at h
  | n + 1, y, h => by
    unfold orderUp at h
    rcases ins_mem.1 h with rfl | h
    · omega
    · have := order_lt h; omega
theorem order_sorted (p : Nat → Int) : ∀ n, (orderUp p n).Pairwise (fun a b => p b ≤ p a)
  | 0 => List.Pairwise.nil
  | n + 1 => ins_sorted (order_sorted p n)

def dat (L : List Nat) : List Value := L.map (fun (k : Nat) => Value.int .i64 (k : Int))
theorem dat_set (L : List Nat) (i k : Nat) : (dat L).set i (.int .i64 (k : Int)) = dat (L.set i k) := by unfold dat; rw [List.map_set]
theorem dat_at {L : List Nat} {i k : Nat} (h : L[i]? = some k) : (dat L)[i]? = some (.int .i64 (k : Int)) := by unfold dat; rw [List.getElem?_map, h]; rfl
def RowAt (w : World) (g : Nat) (L : List Nat) : Prop := w.heap[g]? = some (.cells (dat L).toArray 3 (0, 0))
theorem RowAt.cell {w : World} {g : Nat} {L : List Nat} (h : RowAt w g L) {i k : Nat} (hk : L[i]? = some k) : w.cell? ⟨g, i, none⟩ = some (.int .i64 (k : Int)) := row_cell h (dat_at hk)
theorem RowAt.set {w : World} {g : Nat} {L : List Nat} (h : RowAt w g L) (i k : Nat) : RowAt (w.setCell ⟨g, i, none⟩ (.int .i64 (k : Int))) g (L.set i k) := by
  unfold RowAt
  rw [← dat_set]
  exact row_set h i _
theorem swap_list (A R : List Nat) (y x : Nat) : ((A ++ y :: x :: R).set (A.length + 1) y).set A.length x = A ++ x :: y :: R := by
  rw [List.set_append_right _ _ (by omega), List.set_append_right _ _ (by omega)]
  simp
theorem at_mid (A R : List Nat) (y x : Nat) : (A ++ y :: x :: R)[A.length]? = some y ∧ (A ++ y :: x :: R)[A.length + 1]? = some x := by
  constructor
  · rw [List.getElem?_append_right (Nat.le_refl _)]; simp
  · rw [List.getElem?_append_right (by omega)]; simp
/-- The rest that waits. -/
def wait (i n : Nat) : List Nat := List.range' i (n - i)
theorem wait_next {i n : Nat} (h : i < n) : wait i n = i :: wait (i + 1) n := by
  unfold wait
  rw [show n - i = (n - (i + 1)) + 1 by omega, List.range'_succ]
theorem wait_end (n : Nat) : wait n n = [] := by unfold wait; simp
end Go.Proofs.YtbjpnjgkpkfngaaGreatDoor
namespace Go.Proofs.YtbjpnjgkpkfngaaGreatDoor
open Go Go.RowKit

theorem cmpZ_neg {a b : Int} : cmpZ a b < 0 ↔ a < b := by
  unfold cmpZ
  split
  · simp [*]
  · split <;> simp [*]

def SortEnd (w : World) (g : Nat) (L : List Nat) (e : Ending) (w' : World) : Prop := e = .returned (.tuple #[]) ∧ RowAt w' g L ∧ Only (fun k => k = g) w w'
set_option maxRecDepth 100000 in
set_option maxHeartbeats 2000000 in
theorem isort_any {w : World} {q : Nat} {x : Sl} {ts : List TaskV} (hB : BoxAt w q x ts) (h9 : x.n ≤ 1000000) {g n : Nat} (hg : RowAt w g (wait 0 n)) (hn : n ≤ x.n) (h1 : 1 ≤ n) (hgq : q ≠ g) (hgx : ∀ b off, x.A = some ⟨b, off, none⟩ → ts ≠ [] → b ≠ g) :
    Calls Tryz.prog 64 #[.slice (some ⟨g, 0, none⟩) n n, .int .i64 0, .int .i64 n, .func (.func 20) #[] #[.pointer (some ⟨q, 0, none⟩)]] w (SortEnd w g (orderUp (prio ts) n)) := by
  obtain ⟨p, hp⟩ : ∃ p, p = prio ts := ⟨_, rfl⟩
  have qc := Lib.hid (fun (W : World) (hW : Only (fun k => k = g) w W) (a b : Nat) (ha : a < n) (hb : b < n) => show Calls Tryz.prog 20 #[.int .i64 a, .int .i64 b, .pointer (some ⟨q, 0, none⟩)] W (GrowI (cmpZ (p b) (p a)) W) by
    rw [hp]
    exact cmp_any (hB.only hW hgq hgx) h9 (by omega) (by omega))
  rw [← hp]
  have hg' := Lib.hid hg
  clear hp hB hg hgx
  go_enter Tryz.func64, Tryz.ntmps64
  go_wp2
  go_loopw [8] (fun i wr => ∃ k : Nat, 1 ≤ k ∧ k ≤ n ∧ i = .int .i64 k ∧ RowAt wr g (orderUp p k ++ wait k n) ∧ Only (fun k => k = g) w wr) (fun i _ => n - (intOf i).toNat)
  case atStart => exact ⟨1, Nat.le_refl _, h1, rfl, (by
    have h0 := hg'.out
    rw [wait_next (by omega)] at h0
    exact h0), Only.refl _ w⟩
  case round =>
    obtain ⟨k, hk1, hk, rfl, hR, hO⟩ := hrel
    have hR' := Lib.hid hR
    have hO' := Lib.hid hO
    clear hR hO
    by_cases hkn : k < n
    · have hkn' : (k : Int) < (n : Int) := by omega
      go_wp2
      go_loopw [9] (fun i ws => ∃ (m : Nat) (A B : List Nat), i = .int .i64 m ∧ A.length = m ∧ A ++ B = orderUp p k ∧ (∀ y ∈ B, p y < p k) ∧ RowAt ws g (A ++ k :: (B ++ wait (k + 1) n)) ∧ Only (fun k => k = g) w ws) (fun i _ => (intOf i).toNat)
      case atStart => exact ⟨k, orderUp p k, [], rfl, order_length p k, by simp, by simp, (by
        have h0 := hR'.out
        rw [wait_next hkn] at h0
        simpa using h0), hO'.out⟩
      case round =>
        obtain ⟨m, A, B, rfl, hm, hAB, hBk, hRs, hOs⟩ := hrel
        have hRs' := Lib.hid hRs
        have hOs' := Lib.hid hOs
        have hAB' := Lib.hid hAB
        have hBk' := Lib.hid hBk
        clear hRs hOs hAB hBk
        have hfin := Lib.hid (fun (ha : ∀ y ∈ A, p k ≤ p y) => show orderUp p (k + 1) ++ wait (k + 1) n = A ++ k :: (B ++ wait (k + 1) n) from by
          show ins p k (orderUp p k) ++ wait (k + 1) n = _
          rw [← hAB'.out, ins_split hBk'.out ha]
          simp)
        rcases List.eq_nil_or_concat A with hA | ⟨A', y, hA⟩
        · have hm0 : m = 0 := by rw [← hm, hA]; rfl
          subst hm0
          have hnx := Lib.hid (show RowAt wr g (orderUp p (k + 1) ++ wait (k + 1) n) by rw [hfin.out (by rw [hA]; simp)]; exact hRs'.out)
          clear hm hA hfin
          go_wp2
          go_quiet (fail)
          go_wp2
          go_roundw
          case rel => exact ⟨k + 1, by omega, by omega, by go_num, hnx.out, hOs'.out.drewN _⟩
          case measure => simp [intOf]; omega
        · rw [List.concat_eq_append] at hA
          obtain ⟨j, rfl⟩ : ∃ j, m = j + 1 := ⟨A'.length, by rw [← hm, hA]; simp⟩
          have hj : A'.length = j := by rw [hA] at hm; simpa using hm
          have hrow : A ++ k :: (B ++ wait (k + 1) n) = A' ++ y :: k :: (B ++ wait (k + 1) n) := by rw [hA]; simp
          have hRt := hRs'.out
          rw [hrow] at hRt
          have c0 := hRt.cell (i := j) (k := y) (by rw [← hj]; exact (at_mid _ _ _ _).1)
          have c1 := hRt.cell (i := j + 1) (k := k) (by rw [← hj]; exact (at_mid _ _ _ _).2)
          have hyk : y < k := order_lt (p := p) (n := k) (by rw [← hAB'.out, hA]; simp)
          have hjk : j + 1 ≤ k := by
            have h0 := order_length p k
            rw [← hAB'.out, hA] at h0
            simp at h0
            omega
          have hj1 : ((j : Int) + 1) < (n : Int) := by omega
          have hj2 : (j : Int) < (n : Int) := by omega
          have hso := Lib.hid (order_sorted p k)
          have hnx := Lib.hid (fun (h : p k ≤ p y) => show RowAt wr g (orderUp p (k + 1) ++ wait (k + 1) n) by
            rw [hfin.out (fun u hu => by
              have h0 := hso.out
              rw [← hAB'.out] at h0
              have h1 := (List.pairwise_append.1 h0).1
              rw [hA] at h1 hu
              rw [List.pairwise_append] at h1
              rcases List.mem_append.1 hu with hu | hu
              · have := h1.2.2 u hu y (by simp)
                omega
              · simp at hu; subst hu; exact h)]
            exact hRs'.out)
          have hsw := Lib.hid (fun (h : p y < p k) => show A' ++ (y :: B) = orderUp p k ∧ ∀ u ∈ y :: B, p u < p k from ⟨by rw [← hAB'.out, hA]; simp, fun u hu => by
            rcases List.mem_cons.1 hu with rfl | hu
            · exact h
            · exact hBk'.out u hu⟩)
          have hset := Lib.hid (show ∀ W, RowAt W g (A' ++ y :: k :: (B ++ wait (k + 1) n)) → RowAt ((W.setCell ⟨g, j + 1, none⟩ (.int .i64 (y : Int))).setCell ⟨g, j, none⟩ (.int .i64 (k : Int))) g (A' ++ k :: (y :: B ++ wait (k + 1) n)) from fun W hW => by
            have h0 := (hW.set (j + 1) y).set j k
            rw [← hj, swap_list] at h0
            rw [← hj]
            exact h0)
          have hRt' := Lib.hid hRt
          have hglt := row_lt hRt
          have hfr := fun i => row_free hRt i
          obtain ⟨z, hz⟩ : ∃ z, z = cmpZ (p y) (p k) := ⟨_, rfl⟩
          have hzn := Lib.hid (show z < 0 ↔ p y < p k by rw [hz]; exact cmpZ_neg)
          have q1 := fun v : Wd wr => Calls.wd (x := v) (qc.out v.W (hOs'.out.trans' (v.ok.mono (fun _ _ h => h.elim))) k y hkn (by omega))
          rw [← hz] at q1
          have q1' := Lib.hid q1
          have p0 := wd_cell c0
          have p1 := wd_cell c1
          have hex := wd_ex wr
          have hj' := hj
          clear hm hA hfin hj hrow hRt hz q1 hAB' hBk' hRs'
          have hjc : (((j + 1 : Nat) : Int) - 1) = (j : Int) := by omega
          go_wp2
          refine wp_region_wd (by kernel_rfl) (by kernel_rfl) ?_
          repeat (go_big_quiet_step (first | (go_at_call 20; exact q1'.out _)))
          refine wpQuiet_nil ?_
          rintro _ ⟨v, rfl⟩
          have hRv := v.ok.heap hRt'.out (fun h => h)
          replace c0 := v.cell c0
          replace c1 := v.cell c1
          replace hglt := row_lt hRv
          replace hfr := fun i => row_free hRv i
          have hsv := Lib.hid (hset.out v.W hRv)
          have hOv := Lib.hid (hOs'.out.trans' (v.ok.mono (fun _ _ h => h.elim)))
          have hnv := Lib.hid (fun (h : p k ≤ p y) => v.ok.heap (hnx.out h) (fun h => h))
          clear p0 p1 hex q1' hRt' hRv hnx hset hOs'
          obtain ⟨wv, hwv⟩ := v
          simp only at *
          clear hwv
          by_cases hz0 : z < 0
          · have hlt := hzn.out.1 hz0
            have hsw' := Lib.hid (hsw.out hlt)
            clear hsw hnv hlt
            go_wp2
            go_region
            all_goals
              go_wp2
              go_roundw
              case rel => exact ⟨j, A', y :: B, rfl, hj', hsw'.out.1, hsw'.out.2, hsv.out, ((hOv.out.setCell (fun _ => rfl) _).setCell (fun _ => rfl) _).drew⟩
              case measure => simp [intOf]
          · have hge : p k ≤ p y := Int.not_lt.1 (fun h => hz0 (hzn.out.2 h))
            have hnw := Lib.hid (hnv.out hge)
            clear hnv hsw hge hsv
            go_wp2
            go_roundw
            case rel => exact ⟨k + 1, by omega, by omega, by go_num, hnw.out, hOv.out⟩
            case measure => simp [intOf]; omega
    · obtain rfl : k = n := by omega
      have hR := hR'.out
      rw [wait_end, List.append_nil] at hR
      have hE := Lib.hid (show SortEnd w g (orderUp p k) (.returned (.tuple #[])) wr from ⟨rfl, hR, hO'.out⟩)
      clear hR
      go_wp2
      go_end0
      exact hE.out
end Go.Proofs.YtbjpnjgkpkfngaaGreatDoor
namespace Go.Proofs.YtbjpnjgkpkfngaaGreatDoor
open Go Go.RowKit

theorem isort_nil (w : World) (g : Nat) (n a : Nat) (ha : n ≤ a) (h9 : a ≤ 1000000) (f : Value) :
    Calls Tryz.prog 64 #[.slice (some ⟨g, 0, none⟩) n n, .int .i64 a, .int .i64 n, f] w (fun e w' => e = .returned (.tuple #[]) ∧ w = w') := by
  have h : ¬ ((a : Int) + 1 < (n : Int)) := by omega
  go_enter Tryz.func64, Tryz.ntmps64
  go_wp2
  go_loopw [8] (fun i wr => i = .int .i64 ((a : Int) + 1) ∧ w = wr) (fun i _ => 0)
  case atStart => exact ⟨by go_num, rfl⟩
  case round =>
    obtain ⟨rfl, rfl⟩ := hrel
    go_wp2
    go_end0
    exact ⟨rfl, rfl⟩

set_option maxRecDepth 100000 in
set_option maxHeartbeats 4000000 in
theorem stable_any {w : World} {q : Nat} {x : Sl} {ts : List TaskV} (hB : BoxAt w q x ts) (h9 : x.n ≤ 1000000) {g n : Nat} (hg : RowAt w g (wait 0 n)) (hn : n ≤ x.n) (h20 : n ≤ 20) (hgq : q ≠ g) (hgx : ∀ b off, x.A = some ⟨b, off, none⟩ → ts ≠ [] → b ≠ g) :
    Calls Tryz.prog 40 #[.slice (some ⟨g, 0, none⟩) n n, .int .i64 n, .func (.func 20) #[] #[.pointer (some ⟨q, 0, none⟩)]] w (SortEnd w g (orderUp (prio ts) n)) := by
  obtain ⟨p, hp⟩ : ∃ p, p = prio ts := ⟨_, rfl⟩
  have qs := Lib.hid (fun (W : World) (hW : Only (fun _ => False) w W) (h1 : 1 ≤ n) => isort_any (hB.only hW (fun h => h) (fun _ _ _ _ h => h)) h9 (hW.heap hg (fun h => h)) hn h1 hgq hgx)
  have qn := Lib.hid (fun (W : World) (a : Nat) (ha : n ≤ a) (h9 : a ≤ 1000000) => isort_nil W g n a ha h9 (.func (.func 20) #[] #[.pointer (some ⟨q, 0, none⟩)]))
  rw [← hp] at qs ⊢
  have hg' := Lib.hid hg
  clear hB hg hgx hp
  by_cases hn20 : n = 20
  · subst hn20
    go_enter Tryz.func40, Tryz.ntmps40
    go_wp2
    go_loopw [7, 8] (fun a b wr => (a = .int .i64 0 ∧ b = .int .i64 20 ∧ w = wr) ∨ (a = .int .i64 20 ∧ b = .int .i64 40 ∧ RowAt wr g (orderUp p 20) ∧ Only (fun k => k = g) w wr)) (fun _ b _ => 40 - (intOf b).toNat)
    case atStart => exact .inl ⟨rfl, rfl, rfl⟩
    case round =>
      rcases hrel with ⟨rfl, rfl, rfl⟩ | ⟨rfl, rfl, hR, hO⟩
      · have q1 := Lib.hid (qs.out w (Only.refl _ w) (by omega))
        go_wp2_with fail
        refine (q1.out).mono ?_
        rintro e w1 ⟨rfl, hR, hO⟩
        have hR' := Lib.hid hR
        have hO' := Lib.hid hO
        clear hR hO
        go_wp2
        go_roundw
        case rel => exact ⟨_, _, _, _, _, _, _, _, _, _, _, _, _, _, .inr ⟨rfl, rfl, hR'.out, hO'.out⟩, rfl⟩
        case measure => simp [intOf]
      · have hR' := Lib.hid hR
        have hO' := Lib.hid hO
        clear hR hO
        go_wp2_with fail
        refine (qn.out _ 20 (Nat.le_refl _) (by omega)).mono ?_
        rintro e w1 ⟨rfl, rfl⟩
        go_wp2
        go_loopw [6] (fun a wq => a = .int .i64 20 ∧ wr = wq) (fun _ _ => 0)
        case atStart => exact ⟨rfl, rfl⟩
        case round =>
          obtain ⟨rfl, rfl⟩ := hrel
          go_wp2
          go_end0
          exact ⟨rfl, hR'.out, hO'.out⟩
  · have hn20' : ¬ (20 : Int) ≤ (n : Int) := by omega
    have hn20'' : ¬ (20 : Int) < (n : Int) := by omega
    have qq := Lib.hid (show Calls Tryz.prog 64 #[.slice (some ⟨g, 0, none⟩) n n, .int .i64 0, .int .i64 n, .func (.func 20) #[] #[.pointer (some ⟨q, 0, none⟩)]] w (SortEnd w g (orderUp p n)) from by
      by_cases h1 : 1 ≤ n
      · exact qs.out w (Only.refl _ w) h1
      · obtain rfl : n = 0 := by omega
        refine (qn.out w 0 (Nat.le_refl _) (by omega)).mono ?_
        rintro e w1 ⟨rfl, rfl⟩
        exact ⟨rfl, hg'.out, Only.refl _ w⟩)
    clear qs qn
    go_enter Tryz.func40, Tryz.ntmps40
    go_wp2
    go_loopw [7, 8] (fun a b wr => a = .int .i64 0 ∧ b = .int .i64 20 ∧ w = wr) (fun _ _ _ => 0)
    case atStart => exact ⟨rfl, rfl, rfl⟩
    case round =>
      obtain ⟨rfl, rfl, rfl⟩ := hrel
      go_wp2_with fail
      refine (qq.out).mono ?_
      rintro e w1 ⟨rfl, hR, hO⟩
      have hR' := Lib.hid hR
      have hO' := Lib.hid hO
      clear hR hO
      go_wp2
      go_loopw [6] (fun a wq => a = .int .i64 20 ∧ w1 = wq) (fun _ _ => 0)
      case atStart => exact ⟨rfl, rfl⟩
      case round =>
        obtain ⟨rfl, rfl⟩ := hrel
        go_wp2
        go_end0
        exact ⟨rfl, hR'.out, hO'.out⟩
theorem sort_any {w : World} {q : Nat} {x : Sl} {ts : List TaskV} (hB : BoxAt w q x ts) (h9 : x.n ≤ 1000000) {g n : Nat} (hg : RowAt w g (wait 0 n)) (hn : n ≤ x.n) (h20 : n ≤ 20) (hgq : q ≠ g) (hgx : ∀ b off, x.A = some ⟨b, off, none⟩ → ts ≠ [] → b ≠ g) :
    Calls Tryz.prog 19 #[.slice (some ⟨g, 0, none⟩) n n, .func (.func 20) #[] #[.pointer (some ⟨q, 0, none⟩)]] w (SortEnd w g (orderUp (prio ts) n)) := by
  have qs := Lib.hid (stable_any hB h9 hg hn h20 hgq hgx)
  clear hB hg hgx
  go_enter Tryz.func19, Tryz.ntmps19
  go_wp2_with fail
  refine (qs.out).mono ?_
  rintro e w1 ⟨rfl, hR, hO⟩
  have hR' := Lib.hid hR
  have hO' := Lib.hid hO
  clear hR hO
  go_wp2
  go_end0
  exact ⟨rfl, hR'.out, hO'.out⟩
end Go.Proofs.YtbjpnjgkpkfngaaGreatDoor
namespace Go.Proofs.YtbjpnjgkpkfngaaGreatDoor
open Go Go.RowKit

/-- Numbers laid so far. -/
def laid (k n : Nat) : List Nat := List.range k ++ List.replicate (n - k) 0
theorem laid_zero (n : Nat) : laid 0 n = List.replicate n 0 := by simp [laid]
theorem laid_end (n : Nat) : laid n n = wait 0 n := by unfold laid wait; simp [List.range_eq_range']
theorem laid_next {k n : Nat} (h : k < n) : (laid k n).set k k = laid (k + 1) n := by
  unfold laid
  rw [List.set_append_right _ _ (by simp), show n - k = (n - (k + 1)) + 1 by omega, List.replicate_succ]
  simp [List.range_succ]
theorem laid_length {k n : Nat} (h : k ≤ n) : (laid k n).length = n := by simp [laid]; omega
theorem dat_zero (n : Nat) : dat (List.replicate n 0) = List.replicate n (Value.int .i64 0) := by simp [dat]

def OrdEnd (w : World) (p : Nat → Int) (n : Nat) (e : Ending) (w' : World) : Prop := ∃ g, e = .returned (.slice (some ⟨g, 0, none⟩) n n) ∧ w.heap.size ≤ g ∧ RowAt w' g (orderUp p n) ∧ Only (fun _ => False) w w'
set_option maxRecDepth 100000 in
set_option maxHeartbeats 2000000 in
theorem order_any {w : World} {c : ConfV} {ts : List TaskV} (hT : TasksAt w c.ta ts) (h20 : c.ta.n ≤ 20) : Calls Tryz.prog 8 #[c.val] w (OrdEnd w (prio ts) c.ta.n) := by
  have hO := (Only.refl (fun _ => False) w).alloc (.cells c.cells.toArray 27)
  have hB := heap_new_at w (.cells c.cells.toArray 27) rfl
  obtain ⟨q, hq⟩ : ∃ q, q = w.heap.size := ⟨_, rfl⟩
  have hqw : w.heap.size ≤ q := by omega
  rw [← hq] at hB
  have hbox : BoxAt (w.alloc (.cells c.cells.toArray 27)) q c.ta ts := ⟨row_cell hB (i := 8) rfl, row_lt hB, hT.new hO⟩
  have hxw : ∀ b off, c.ta.A = some ⟨b, off, none⟩ → ts ≠ [] → b < w.heap.size := fun b off hA hts => by
    cases ts with
    | nil => exact absurd rfl hts
    | cons t ts =>
      obtain ⟨b', off', hA', hb', _⟩ := hT.at_ 0 t rfl
      rw [hA] at hA'
      cases hA'
      exact hb'
  obtain ⟨W1, hW1⟩ : ∃ W1, W1 = w.alloc (.cells c.cells.toArray 27) := ⟨_, rfl⟩
  obtain ⟨n, hn⟩ : ∃ n, n = c.ta.n := ⟨_, rfl⟩
  have qs := Lib.hid (fun (W : World) (g : Nat) (hgq : q ≠ g) (hgw : w.heap.size ≤ g) (hW : Only (fun k => k = g) W1 W) (hg : RowAt W g (wait 0 n)) => sort_any (hbox.only (w' := W) (by rw [← hW1]; exact hW) hgq (fun b off hA hts hb => by have := hxw b off hA hts; omega)) (by omega) hg (by omega) (by omega) hgq (fun b off hA hts hb => by have := hxw b off hA hts; omega))
  have mk := fun W0 : World => run_make_list (P := Tryz.prog) W0 24 3 (.int .i64 0) 8 Tryz.underlying24 (by kernel_rfl) rfl n (by omega) (by omega)
  have e8 := row_cell hB (i := 8) rfl
  have hqlt := row_lt hB
  rw [← hW1] at e8 hqlt hO
  have hqs := Lib.hid (show W1.heap.size = q + 1 by rw [hW1, hq]; simp)
  unfold ConfV.cells at hW1
  rw [← hn] at h20 ⊢
  rw [show c.val = .agg #[.int .i64 c.s, .int .i64 c.wy, .int .i64 c.h, .int .i64 c.mi, .slice c.mb.A c.mb.n c.mb.cap, .int .i64 c.g, .slice c.cn.A c.cn.n c.cn.cap, .slice c.ce.A c.ce.n c.ce.cap, .slice c.ta.A c.ta.n c.ta.cap, .slice c.li.A c.li.n c.li.cap] from rfl]
  obtain ⟨s, wy, h, mi, ⟨mA, mn, mc⟩, g, ⟨cA, cn, cc⟩, ⟨eA, en, ec⟩, ⟨tA, tn, tc⟩, ⟨lA, ln, lc⟩⟩ := c
  simp only at *
  subst hn
  have hW1' := Lib.hid hW1
  have hO' := Lib.hid hO
  have hq' := Lib.hid hq
  have hmf : ∀ (fn : Fn) (first cap : Array Value) (w : World), (Instr.makeFunc fn first cap).run Tryz.prog w = .ok (.func fn first cap) w := fun _ _ _ _ => rfl
  clear hT hB hbox hxw hW1 hO hq
  go_enter Tryz.func8, Tryz.ntmps8
  go_wp2
  clear mk
  rw [← hW1'.out, ← hq'.out]
  have hR0 := Lib.hid (show RowAt (W1.alloc (.cells (Array.replicate n (.int .i64 0)) 3)) (q + 1) (laid 0 n) from by
    rw [laid_zero]
    unfold RowAt
    rw [dat_zero, List.toArray_replicate]
    exact heap_new_at _ _ hqs.out)
  obtain ⟨r, hr⟩ : ∃ r, r = q + 1 := ⟨_, rfl⟩
  rw [← hr] at hR0 ⊢
  have hr' := Lib.hid hr
  have hqr : q ≠ r := by omega
  clear hr hqlt
  go_loopw [11] (fun i wr => ∃ k : Nat, k ≤ n ∧ i = .int .i64 k ∧ RowAt wr r (laid k n) ∧ Only (fun k => k = r) W1 wr) (fun i _ => n - (intOf i).toNat)
  case atStart => exact ⟨0, Nat.zero_le _, rfl, hR0.out, (Only.refl _ _).alloc _⟩
  case round =>
    obtain ⟨k, hk, rfl, hR, hOk⟩ := hrel
    have hR' := Lib.hid hR
    have hOk' := Lib.hid hOk
    clear hR hOk
    by_cases hkn : k < n
    · have hkn' : (k : Int) < (n : Int) := by omega
      have c0 := hR'.out.cell (i := k) (k := 0) (by unfold laid; rw [List.getElem?_append_right (by simp), List.length_range, Nat.sub_self, List.getElem?_replicate, if_pos (by omega)])
      have hfr := fun i => row_free hR'.out i
      have hlt := row_lt hR'.out
      have hnx := Lib.hid (show RowAt (wr.setCell ⟨r, k, none⟩ (.int .i64 (k : Int))) r (laid (k + 1) n) by rw [← laid_next hkn]; exact hR'.out.set k k)
      go_wp2
      go_roundw
      case rel => exact ⟨k + 1, by omega, by go_num, hnx.out, hOk'.out.setCell (fun _ => rfl) _⟩
      case measure => simp [intOf]; omega
    · obtain rfl : k = n := by omega
      have hR := hR'.out
      rw [laid_end] at hR
      have qq := Lib.hid (qs.out wr r hqr (by have := hr'.out; omega) hOk'.out hR)
      clear hR
      go_wp2_with fail
      refine (qq.out).mono ?_
      rintro e w1 ⟨rfl, hRs, hOs⟩
      have hE := Lib.hid (show OrdEnd w (prio ts) k (.returned (.slice (some ⟨r, 0, none⟩) k k)) w1 from ⟨r, rfl, by have := hr'.out; omega, hRs, hO'.out.trans (hOk'.out.trans' hOs) (fun x hx h => by have := hr'.out; have := hq'.out; omega)⟩)
      clear hRs hOs
      go_wp2
      go_ret
      exact hE.out
end Go.Proofs.YtbjpnjgkpkfngaaGreatDoor
