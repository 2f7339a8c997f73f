/- Merged: BcOrdr BcSlk BcFew26 BcCan BcRgt BcMay BcIsr BcDwn. -/
import Derived.Test.YtlbinlhaejhobaaGreatDoorPI
import Derived.Test.YtlbinlhaejhobaaGreatDoorPA
import Derived.BigRegion
import Derived.Test.YtlbinlhaejhobaaGreatDoorPJ
import Derived.Laws.EntriesVeiled
import Derived.Deep.DrawnRows
import Derived.Deep.Cut
import Derived.Deep.CutRange
import Derived.Deep.DeepCutAuto
/- Tasks by their priorities: what the sort comes to. -/
namespace Go.Proofs.YtlbinlhaejhobaaGreatDoor
namespace Bch
open Go Go.RowKit
/-- The priority of a task. -/
def prio (ts : List TaskV) (k : Nat) : Int := (ts.map (·.p)).getD k 0
theorem prio_at {ts : List TaskV} {k : Nat} {t : TaskV} (h : ts[k]? = some t) : prio ts k = t.p := by
  unfold prio
  rw [List.getD_eq_getElem?_getD, List.getElem?_map, h]
  rfl
def ins (p : Nat → Int) (x : Nat) : List Nat → List Nat
  | [] => [x]
  | y :: l => if p x ≤ p y then y :: ins p x l else x :: y :: l
def orderUp (p : Nat → Int) : Nat → List Nat
  | 0 => []
  | n + 1 => ins p n (orderUp p n)
theorem ins_split {p : Nat → Int} {x : Nat} {B : List Nat} (hB : ∀ y ∈ B, p y < p x) : ∀ {A : List Nat}, (∀ y ∈ A, p x ≤ p y) → ins p x (A ++ B) = A ++ x :: B
  | [], _ => by
    cases B with
    | nil => rfl
    | cons y B =>
      have := hB y (by simp)
      show ins p x (y :: B) = x :: y :: B
      unfold ins
      rw [if_neg (by omega)]
  | a :: A, h => by
    show ins p x (a :: (A ++ B)) = a :: (A ++ x :: B)
    unfold ins
    rw [if_pos (h a (by simp)), ins_split hB (fun y hy => h y (by simp [hy]))]
theorem ins_mem {p : Nat → Int} {x y : Nat} : ∀ {l : List Nat}, y ∈ ins p x l ↔ y = x ∨ y ∈ l
  | [] => by simp [ins]
  | a :: l => by
    unfold ins
    by_cases h : p x ≤ p a
    · rw [if_pos h, List.mem_cons, ins_mem, List.mem_cons]
      constructor <;> (intro h; rcases h with h | h | h <;> simp [h])
    · rw [if_neg h, List.mem_cons]
theorem ins_length {p : Nat → Int} {x : Nat} : ∀ (l : List Nat), (ins p x l).length = l.length + 1
  | [] => rfl
  | a :: l => by
    unfold ins
    by_cases h : p x ≤ p a
    · rw [if_pos h]; simp [ins_length l]
    · rw [if_neg h]; rfl
theorem ins_sorted {p : Nat → Int} {x : Nat} : ∀ {l : List Nat}, l.Pairwise (fun a b => p b ≤ p a) → (ins p x l).Pairwise (fun a b => p b ≤ p a)
  | [], _ => by simp [ins]
  | a :: l, h => by
    rw [List.pairwise_cons] at h
    unfold ins
    by_cases hx : p x ≤ p a
    · rw [if_pos hx, List.pairwise_cons]
      refine ⟨fun y hy => ?_, ins_sorted h.2⟩
      rcases ins_mem.1 hy with rfl | hy
      · exact hx
      · exact h.1 y hy
    · rw [if_neg hx, List.pairwise_cons, List.pairwise_cons]
      refine ⟨fun y hy => ?_, h.1, h.2⟩
      rcases List.mem_cons.1 hy with rfl | hy
      · omega
      · have := h.1 y hy; omega
theorem order_length (p : Nat → Int) : ∀ n, (orderUp p n).length = n
  | 0 => rfl
  | n + 1 => by unfold orderUp; rw [ins_length, order_length p n]
theorem order_lt {p : Nat → Int} : ∀ {n y : Nat}, y ∈ orderUp p n → y < n
  | 0, y, h => by simp [orderUp] at h
  | n + 1, y, h => by
    unfold orderUp at h
    rcases ins_mem.1 h with rfl | h
    · omega
    · have := order_lt h; omega
theorem order_sorted (p : Nat → Int) : ∀ n, (orderUp p n).Pairwise (fun a b => p b ≤ p a)
  | 0 => List.Pairwise.nil
  | n + 1 => ins_sorted (order_sorted p n)

def dat (L : List Nat) : List Value := L.map (fun (k : Nat) => Value.int .i64 (k : Int))
theorem dat_set (L : List Nat) (i k : Nat) : (dat L).set i (.int .i64 (k : Int)) = dat (L.set i k) := by unfold dat; rw [List.map_set]
theorem dat_at {L : List Nat} {i k : Nat} (h : L[i]? = some k) : (dat L)[i]? = some (.int .i64 (k : Int)) := by unfold dat; rw [List.getElem?_map, h]; rfl
def RowAt (w : World) (g : Nat) (L : List Nat) : Prop := w.heap[g]? = some (.cells (dat L).toArray 3 (0, 0))
theorem RowAt.cell {w : World} {g : Nat} {L : List Nat} (h : RowAt w g L) {i k : Nat} (hk : L[i]? = some k) : w.cell? ⟨g, i, none⟩ = some (.int .i64 (k : Int)) := row_cell h (dat_at hk)
theorem RowAt.set {w : World} {g : Nat} {L : List Nat} (h : RowAt w g L) (i k : Nat) : RowAt (w.setCell ⟨g, i, none⟩ (.int .i64 (k : Int))) g (L.set i k) := by
  unfold RowAt
  rw [← dat_set]
  exact row_set h i _

theorem ord_only {w w' : World} (h : Only (fun k => some k = none) w w') : Only (fun _ => False) w w' := h.mono (fun _ _ e => by cases e)
theorem dat_one (L : List Nat) : ∀ u ∈ dat L, u.oneCell' = true := by
  intro u hu
  unfold dat at hu
  obtain ⟨k, _, rfl⟩ := List.mem_map.1 hu
  rfl
theorem row_one {w : World} {X : Nat} {a : Value} {e : TypeId} (h : w.heap[X]? = some (.cells #[a] e (0, 0))) : ∀ j u, [a][j]? = some u → w.cell? ((⟨X, 0, none⟩ : Addr).add j) = some u := fun j u hu => by
  rw [Addr.add_lit, Nat.zero_add]
  exact row_cell (L := [a]) h hu
theorem info3 : (Tryz.prog.info? 3).map (fun i => (i.zero, i.size, i.bytes)) = some (some (Value.int .i64 0), 1, 8) := by kernel_rfl
theorem dat_length (L : List Nat) : (dat L).length = L.length := by simp [dat]

theorem swap_list (A R : List Nat) (y x : Nat) : ((A ++ y :: x :: R).set (A.length + 1) y).set A.length x = A ++ x :: y :: R := by
  rw [List.set_append_right _ _ (by omega), List.set_append_right _ _ (by omega)]
  simp
theorem at_mid (A R : List Nat) (y x : Nat) : (A ++ y :: x :: R)[A.length]? = some y ∧ (A ++ y :: x :: R)[A.length + 1]? = some x := by
  constructor
  · rw [List.getElem?_append_right (Nat.le_refl _)]; simp
  · rw [List.getElem?_append_right (by omega)]; simp
/-- The rest that waits. -/
def wait (i n : Nat) : List Nat := List.range' i (n - i)
theorem wait_next {i n : Nat} (h : i < n) : wait i n = i :: wait (i + 1) n := by
  unfold wait
  rw [show n - i = (n - (i + 1)) + 1 by omega, List.range'_succ]
theorem wait_end (n : Nat) : wait n n = [] := by unfold wait; simp
end Bch
end Go.Proofs.YtlbinlhaejhobaaGreatDoor
/- Slack: the greatest delay, found by halves. -/
namespace Go.Proofs.YtlbinlhaejhobaaGreatDoor
namespace Bch
open Go Go.RowKit
/-- Whether a delay's window isn't above m. -/
def fitB (l : List Ld) (m d : Nat) : Bool := decide (0 < win (dem d l) m)
def AnsB (b : Bool) (w : World) (e : Ending) (w' : World) : Prop := e = .returned (.bool b) ∧ Only (fun _ => False) w w'
def SearchEnd (pp : Nat → Bool) (n : Nat) (w : World) (e : Ending) (w' : World) : Prop :=
  ∃ s : Nat, e = .returned (.int .i64 s) ∧ Only (fun _ => False) w w' ∧ s ≤ n ∧ (s = 0 ∨ pp (s - 1) = false) ∧ (s = n ∨ pp s = true)
def SlackEnd (l : List Ld) (m : Nat) (w : World) (e : Ending) (w' : World) : Prop :=
  ∃ (s : Nat) (b : Bool), e = .returned (.tuple #[U s, .bool b]) ∧ Only (fun _ => False) w w' ∧
    ((b = false ∧ s = 0 ∧ fitB l m 0 = false) ∨ (b = true ∧ s ≤ m ∧ fitB l m s = true ∧ (s = m ∨ fitB l m (s + 1) = false)))
end Bch
end Go.Proofs.YtlbinlhaejhobaaGreatDoor
/- Few. -/
namespace Go.Proofs.YtlbinlhaejhobaaGreatDoor
namespace Bch
open Go Go.RowKit

abbrev GrowB := AnsB
theorem retg_bool {a b : Bool} {w w' : World} (h : a = b) (ho : Only (fun _ => False) w w') : GrowB b w (.returned (.bool a)) w' := ⟨by rw [h], ho⟩
def fewB (c : ConfV) (ts : List TaskV) : Bool := ts.all (fun t => decide (t.o.n ≤ 80)) && decide (c.mb.n ≤ 20 ∧ c.cn.n ≤ 20 ∧ c.ce.n ≤ 20 ∧ c.ta.n ≤ 20 ∧ c.li.n ≤ 20)
theorem few_all {ts : List TaskV} {n : Nat} (hn : ts.length = n) (h : ∀ (j : Nat) t, j < n → ts[j]? = some t → t.o.n ≤ 80) : ts.all (fun t => decide (t.o.n ≤ 80)) = true := by
  rw [List.all_eq_true]
  intro t ht
  obtain ⟨k, hk⟩ := List.getElem?_of_mem ht
  exact decide_eq_true (h k t (by have := (List.getElem?_eq_some_iff.1 hk).1; omega) hk)
theorem few_bad {ts : List TaskV} {k : Nat} {t : TaskV} (hk : ts[k]? = some t) (h : 80 < t.o.n) : ts.all (fun t => decide (t.o.n ≤ 80)) = false := by
  rw [List.all_eq_false]
  exact ⟨t, List.mem_of_getElem? hk, by simp; omega⟩

set_option maxRecDepth 100000 in
set_option maxHeartbeats 2000000 in
theorem few_any {w : World} {c : ConfV} {ts : List TaskV} (hT : TasksAt w c.ta ts) (hs : c.ta.n ≤ 9223372036854775807) : Calls Tryz.prog 11 #[c.val] w (GrowB (fewB c ts) w) := by
  have hO := (Only.refl (fun _ => False) w).alloc (.cells c.cells.toArray 27)
  have hB := heap_new_at w (.cells c.cells.toArray 27) rfl
  obtain ⟨W1, hW1⟩ : ∃ W1, W1 = w.alloc (.cells c.cells.toArray 27) := ⟨_, rfl⟩
  have e0 := row_cell hB (i := 0) rfl
  have e1 := row_cell hB (i := 1) rfl
  have e2 := row_cell hB (i := 2) rfl
  have e3 := row_cell hB (i := 3) rfl
  have e4 := row_cell hB (i := 4) rfl
  have e5 := row_cell hB (i := 5) rfl
  have e6 := row_cell hB (i := 6) rfl
  have e7 := row_cell hB (i := 7) rfl
  have e8 := row_cell hB (i := 8) rfl
  have e9 := row_cell hB (i := 9) rfl
  have hlt1 := row_lt hB
  rw [← hW1] at e0 e1 e2 e3 e4 e5 e6 e7 e8 e9 hO hlt1
  obtain ⟨V, hV⟩ : ∃ V, V = fewB c ts := ⟨_, rfl⟩
  rw [← hV]
  unfold fewB at hV
  obtain ⟨F, hF⟩ : ∃ F, F = ts.all (fun t => decide (t.o.n ≤ 80)) := ⟨_, rfl⟩
  rw [← hF] at hV
  have hlen := hT.len
  rw [show c.val = .agg #[.int .i64 c.s, .int .i64 c.wy, .int .i64 c.h, .int .i64 c.mi, .slice c.mb.A c.mb.n c.mb.cap, .int .i64 c.g, .slice c.cn.A c.cn.n c.cn.cap, .slice c.ce.A c.ce.n c.ce.cap, .slice c.ta.A c.ta.n c.ta.cap, .slice c.li.A c.li.n c.li.cap] from rfl]
  unfold ConfV.cells at hW1
  have hT' := Lib.hid hT
  obtain ⟨s, wy, h, mi, ⟨mA, mn, mc⟩, g, ⟨cA, cn, cc⟩, ⟨eA, en, ec⟩, ⟨tA, tn, tc⟩, ⟨lA, ln, lc⟩⟩ := c
  simp only at *
  have hW1' := Lib.hid hW1
  have hO' := Lib.hid hO
  have hV' := Lib.hid hV
  have hF' := Lib.hid hF
  have hlen' := Lib.hid hlen
  clear hT hB hW1 hO hV hF hlen
  go_enter Tryz.func11, Tryz.ntmps11
  go_wp2
  rw [← hW1'.out]
  go_loopw [8] (fun i wr => ∃ k : Nat, k ≤ tn ∧ i = .int .i64 k ∧ (∀ (j : Nat) t, j < k → ts[j]? = some t → t.o.n ≤ 80) ∧ Only (fun _ => False) W1 wr) (fun i _ => tn - (intOf i).toNat)
  case atStart => exact ⟨0, Nat.zero_le _, rfl, (fun j _ hj => by omega), Only.refl _ W1⟩
  case round =>
    obtain ⟨k, hk, rfl, hall, hOk⟩ := hrel
    replace e0 := hOk.cell e0 (fun h => h)
    replace e1 := hOk.cell e1 (fun h => h)
    replace e2 := hOk.cell e2 (fun h => h)
    replace e3 := hOk.cell e3 (fun h => h)
    replace e4 := hOk.cell e4 (fun h => h)
    replace e5 := hOk.cell e5 (fun h => h)
    replace e6 := hOk.cell e6 (fun h => h)
    replace e7 := hOk.cell e7 (fun h => h)
    replace e8 := hOk.cell e8 (fun h => h)
    replace e9 := hOk.cell e9 (fun h => h)
    replace hlt1 := Nat.lt_of_lt_of_le hlt1 hOk.size
    have hOk' := Lib.hid hOk
    have hPk := Lib.hid (hO'.out.trans' hOk)
    have hall' := Lib.hid hall
    clear hall hOk
    by_cases hkn : k < tn
    · have hkn' : (k : Int) < (tn : Int) := by omega
      obtain ⟨t, ht⟩ : ∃ t, ts[k]? = some t := ⟨_, List.getElem?_eq_getElem (by have := hlen'.out; omega)⟩
      obtain ⟨bb, off, hA, hb, hC⟩ := hT'.out.at_ k t ht
      simp only at hA
      subst hA
      obtain ⟨c0, c1, c2, c3, c4, c5, c6⟩ := hC.new hPk.out
      have hb3 := Nat.lt_of_lt_of_le hb hPk.out.size
      have hbad := Lib.hid (fun (h : 80 < t.o.n) => show V = false by rw [hV'.out, hF'.out, few_bad ht h]; rfl)
      have hnx := Lib.hid (fun (h : t.o.n ≤ 80) => show ∀ (j : Nat) u, j < k + 1 → ts[j]? = some u → u.o.n ≤ 80 from fun j u hj hu => by
        by_cases hjk : j < k
        · exact hall'.out j u hjk hu
        · obtain rfl : j = k := by omega
          rw [ht] at hu
          cases hu
          exact h)
      clear hC ht hb
      obtain ⟨P, th, pe, de, fr, fl, ⟨oA, on, oc⟩⟩ := t
      simp only at *
      by_cases h80 : 80 < on
      · have hv := Lib.hid (hbad.out h80)
        have h80' : (80 : Int) < (on : Int) := by omega
        clear hbad hnx
        go_wp2
        go_ret
        exact retg_bool hv.out.symm (hPk.out.alloc _)
      · have hnw := Lib.hid (hnx.out (by omega))
        have h80' : ¬ (80 : Int) < (on : Int) := by omega
        clear hbad hnx
        go_wp2
        go_roundw
        case rel => exact ⟨k + 1, by omega, by go_num, hnw.out, hOk'.out.alloc _⟩
        case measure => simp [intOf]; omega
    · obtain rfl : k = tn := by omega
      have hF2 := Lib.hid (show F = true by rw [hF'.out]; exact few_all hlen'.out hall'.out)
      by_cases u0 : mn ≤ 20
      rotate_left
      · have hv := Lib.hid (show V = false by rw [hV'.out, hF2.out, decide_eq_false (by omega)]; rfl)
        have uu : ¬ (mn : Int) ≤ 20 := by omega
        go_wp2
        go_ret
        exact retg_bool (by first | exact hv.out.symm | (rw [hv.out]; simp)) hPk.out
      · have uu0 : (mn : Int) ≤ 20 := by omega
        by_cases u1 : cn ≤ 20
        rotate_left
        · have hv := Lib.hid (show V = false by rw [hV'.out, hF2.out, decide_eq_false (by omega)]; rfl)
          have uu : ¬ (cn : Int) ≤ 20 := by omega
          go_wp2
          go_ret
          exact retg_bool (by first | exact hv.out.symm | (rw [hv.out]; simp)) hPk.out
        · have uu1 : (cn : Int) ≤ 20 := by omega
          by_cases u2 : en ≤ 20
          rotate_left
          · have hv := Lib.hid (show V = false by rw [hV'.out, hF2.out, decide_eq_false (by omega)]; rfl)
            have uu : ¬ (en : Int) ≤ 20 := by omega
            go_wp2
            go_ret
            exact retg_bool (by first | exact hv.out.symm | (rw [hv.out]; simp)) hPk.out
          · have uu2 : (en : Int) ≤ 20 := by omega
            by_cases u3 : k ≤ 20
            rotate_left
            · have hv := Lib.hid (show V = false by rw [hV'.out, hF2.out, decide_eq_false (by omega)]; rfl)
              have uu : ¬ (k : Int) ≤ 20 := by omega
              go_wp2
              go_ret
              exact retg_bool (by first | exact hv.out.symm | (rw [hv.out]; simp)) hPk.out
            · have uu3 : (k : Int) ≤ 20 := by omega
              by_cases u4 : ln ≤ 20
              rotate_left
              · have hv := Lib.hid (show V = false by rw [hV'.out, hF2.out, decide_eq_false (by omega)]; rfl)
                have uu : ¬ (ln : Int) ≤ 20 := by omega
                go_wp2
                go_ret
                exact retg_bool (by first | exact hv.out.symm | (rw [hv.out]; simp)) hPk.out
              · have uu4 : (ln : Int) ≤ 20 := by omega
                have hv := Lib.hid (show V = true by rw [hV'.out, hF2.out, decide_eq_true (by omega)]; rfl)
                go_wp2
                go_ret
                exact retg_bool (by first | exact hv.out.symm | (rw [hv.out]; simp)) hPk.out
end Bch
end Go.Proofs.YtlbinlhaejhobaaGreatDoor
/- chain: who is there, who can displace whom. -/
namespace Go.Proofs.YtlbinlhaejhobaaGreatDoor
namespace Bch
open Go Go.RowKit
def thr (ts : List TaskV) (k : Nat) : Int := (ts.map (·.th)).getD k 0
theorem thr_at {ts : List TaskV} {k : Nat} {t : TaskV} (h : ts[k]? = some t) : thr ts k = t.th := by
  unfold thr
  rw [List.getD_eq_getElem?_getD, List.getElem?_map, h]
  rfl
def frm (ts : List TaskV) (k : Nat) : Int := (ts.map (·.fr)).getD k 0
theorem frm_at {ts : List TaskV} {k : Nat} {t : TaskV} (h : ts[k]? = some t) : frm ts k = t.fr := by
  unfold frm
  rw [List.getD_eq_getElem?_getD, List.getElem?_map, h]
  rfl
/-- Whether i can displace k. -/
def canB (ts : List TaskV) (i k : Nat) : Bool := decide (thr ts k < prio ts i)
def inZ (n : Nat) (i : Int) : Bool := decide (0 ≤ i ∧ i < n)
def canZ (ts : List TaskV) (a b : Int) : Bool := inZ ts.length a && (inZ ts.length b && canB ts a.toNat b.toNat)
theorem has_any {w : World} {c : ConfV} (i : Int) (hn : c.ta.n ≤ 9223372036854775807) : Calls Tryz.prog 146 #[c.val, .int .i64 i] w (GrowB (inZ c.ta.n i) w) := by
  rw [show c.val = .agg #[.int .i64 c.s, .int .i64 c.wy, .int .i64 c.h, .int .i64 c.mi, .slice c.mb.A c.mb.n c.mb.cap, .int .i64 c.g, .slice c.cn.A c.cn.n c.cn.cap, .slice c.ce.A c.ce.n c.ce.cap, .slice c.ta.A c.ta.n c.ta.cap, .slice c.li.A c.li.n c.li.cap] from rfl]
  obtain ⟨s, wy, h, mi, ⟨mA, mn, mc⟩, g, ⟨cA, cn, cc⟩, ⟨eA, en, ec⟩, ⟨tA, tn, tc⟩, ⟨lA, ln, lc⟩⟩ := c
  dsimp only at *
  obtain ⟨v, hv⟩ : ∃ v, v = inZ tn i := ⟨_, rfl⟩
  rw [← hv]
  have hv' := Lib.hid hv
  clear hv
  by_cases h0 : 0 ≤ i
  · by_cases h1 : i < tn
    · have hz := Lib.hid (show true = v by rw [hv'.out, inZ, decide_eq_true ⟨h0, h1⟩])
      go_enter Tryz.func146, Tryz.ntmps146
      go_wp2
      go_ret
      exact retg_bool (by first | exact hz.out | (rw [← hz.out]; simp [h0, h1])) ((Only.refl _ w).alloc _)
    · have hz := Lib.hid (show false = v by rw [hv'.out, inZ, decide_eq_false (by omega)])
      go_enter Tryz.func146, Tryz.ntmps146
      go_wp2
      go_ret
      exact retg_bool (by first | exact hz.out | (rw [← hz.out]; simp; omega)) ((Only.refl _ w).alloc _)
  · have hz := Lib.hid (show false = v by rw [hv'.out, inZ, decide_eq_false (by omega)])
    go_enter Tryz.func146, Tryz.ntmps146
    go_wp2
    go_ret
    exact retg_bool (by first | exact hz.out | (rw [← hz.out]; simp; omega)) ((Only.refl _ w).alloc _)
set_option maxRecDepth 100000 in
set_option maxHeartbeats 4000000 in
theorem can_any {w : World} {c : ConfV} {ts : List TaskV} (hT : TasksAt w c.ta ts) (hn : c.ta.n ≤ 9223372036854775807) (a b : Int) : Calls Tryz.prog 107 #[c.val, .int .i64 a, .int .i64 b] w (GrowB (canZ ts a b) w) := by
  have hlen := hT.len
  have hO := (Only.refl (fun _ => False) w).alloc (.cells c.cells.toArray 27)
  have hB := heap_new_at w (.cells c.cells.toArray 27) rfl
  obtain ⟨W1, hW1⟩ : ∃ W1, W1 = w.alloc (.cells c.cells.toArray 27) := ⟨_, rfl⟩
  have e0 := row_cell hB (i := 0) rfl
  have e1 := row_cell hB (i := 1) rfl
  have e2 := row_cell hB (i := 2) rfl
  have e3 := row_cell hB (i := 3) rfl
  have e4 := row_cell hB (i := 4) rfl
  have e5 := row_cell hB (i := 5) rfl
  have e6 := row_cell hB (i := 6) rfl
  have e7 := row_cell hB (i := 7) rfl
  have e8 := row_cell hB (i := 8) rfl
  have e9 := row_cell hB (i := 9) rfl
  have hlt1 := row_lt hB
  rw [← hW1] at e0 e1 e2 e3 e4 e5 e6 e7 e8 e9 hO hlt1
  have p0 := wd_cell e0
  have p1 := wd_cell e1
  have p2 := wd_cell e2
  have p3 := wd_cell e3
  have p4 := wd_cell e4
  have p5 := wd_cell e5
  have p6 := wd_cell e6
  have p7 := wd_cell e7
  have p8 := wd_cell e8
  have p9 := wd_cell e9
  have hex := wd_ex W1
  obtain ⟨va, hva⟩ : ∃ va, va = inZ c.ta.n a := ⟨_, rfl⟩
  obtain ⟨vb, hvb⟩ : ∃ vb, vb = inZ c.ta.n b := ⟨_, rfl⟩
  have qa := fun v : Wd W1 => Calls.wd (x := v) (has_any (w := v.W) (c := c) a hn)
  have qb := fun v : Wd W1 => Calls.wd (x := v) (has_any (w := v.W) (c := c) b hn)
  rw [← hva] at qa
  rw [← hvb] at qb
  rw [show c.val = .agg #[.int .i64 c.s, .int .i64 c.wy, .int .i64 c.h, .int .i64 c.mi, .slice c.mb.A c.mb.n c.mb.cap, .int .i64 c.g, .slice c.cn.A c.cn.n c.cn.cap, .slice c.ce.A c.ce.n c.ce.cap, .slice c.ta.A c.ta.n c.ta.cap, .slice c.li.A c.li.n c.li.cap] from rfl] at qa qb ⊢
  have qa' := Lib.hid qa
  have qb' := Lib.hid qb
  have hva' := Lib.hid hva
  have hvb' := Lib.hid hvb
  obtain ⟨V, hV⟩ : ∃ V, V = canZ ts a b := ⟨_, rfl⟩
  rw [← hV]
  have hV2 : V = (va && (vb && canB ts a.toNat b.toNat)) := by rw [hV, hva, hvb, canZ, hlen]
  have hV' := Lib.hid hV2
  have hT' := Lib.hid hT
  have hO' := Lib.hid hO
  have hlen' := Lib.hid hlen
  obtain ⟨Z, hZ⟩ : ∃ Z, Z = GrowB V w := ⟨_, rfl⟩
  rw [← hZ]
  have hZ' := Lib.hid hZ
  unfold ConfV.cells at hW1
  have hW1' := Lib.hid hW1
  clear hT hO hV hV2 hB qa qb hva hvb hlen hW1 hZ
  obtain ⟨s, wy, h, mi, ⟨mA, mn, mc⟩, g, ⟨cA, cn, cc⟩, ⟨eA, en, ec⟩, ⟨tA, tn, tc⟩, ⟨lA, ln, lc⟩⟩ := c
  dsimp only at *
  cases va
  · go_enter Tryz.func107, Tryz.ntmps107
    go_wp2_with fail
    rw [← hW1'.out]
    refine wp_region_wd (by kernel_rfl) (by kernel_rfl) ?_
    repeat (go_big_quiet_step (first | (go_at_call 146; with_reducible exact qa'.out _)))
    refine wpQuiet_nil ?_
    rintro _ ⟨v, rfl⟩
    have hOv := Lib.hid (hO'.out.trans' v.ok)
    go_wp2
    rw [hZ'.out]
    exact ⟨by rw [hV'.out]; rfl, hOv.out⟩
  cases vb
  · go_enter Tryz.func107, Tryz.ntmps107
    go_wp2_with fail
    rw [← hW1'.out]
    refine wp_region_wd (by kernel_rfl) (by kernel_rfl) ?_
    repeat (go_big_quiet_step (first | (go_at_call 146; first | with_reducible exact qa'.out _ | with_reducible exact qb'.out _)))
    refine wpQuiet_nil ?_
    rintro _ ⟨v, rfl⟩
    have hOv := Lib.hid (hO'.out.trans' v.ok)
    go_wp2
    rw [hZ'.out]
    exact ⟨by rw [hV'.out]; rfl, hOv.out⟩
  obtain ⟨i, rfl, hi⟩ : ∃ i : Nat, a = i ∧ i < tn := by
    have : (0 ≤ a ∧ a < tn) := by simpa [inZ] using hva'.out.symm
    exact ⟨a.toNat, by omega, by omega⟩
  obtain ⟨k, rfl, hk⟩ : ∃ k : Nat, b = k ∧ k < tn := by
    have : (0 ≤ b ∧ b < tn) := by simpa [inZ] using hvb'.out.symm
    exact ⟨b.toNat, by omega, by omega⟩
  obtain ⟨t, ht⟩ : ∃ t, ts[i]? = some t := ⟨_, List.getElem?_eq_getElem (by have := hlen'.out; omega)⟩
  obtain ⟨u, hu⟩ : ∃ u, ts[k]? = some u := ⟨_, List.getElem?_eq_getElem (by have := hlen'.out; omega)⟩
  obtain ⟨tb, toff, hA, htl, hC⟩ := (hT'.out.new hO'.out).at_ i t ht
  simp only at hA
  subst hA
  obtain ⟨tb', toff', hA, htl', hD⟩ := (hT'.out.new hO'.out).at_ k u hu
  cases hA
  have c0 := hC.c0
  have d1 := hD.c1
  have r0 := wd_cell c0
  have r1 := wd_cell d1
  have hi' : (i : Int) < tn := by omega
  have hk' : (k : Int) < tn := by omega
  have hfin := Lib.hid (show V = decide (u.th < t.p) by rw [hV'.out, Bool.true_and, Bool.true_and, canB, Int.toNat_natCast, Int.toNat_natCast, thr_at hu, prio_at ht])
  clear hC hD ht hu htl'
  obtain ⟨p1, th1, pe1, de1, fr1, fl1, o1⟩ := t
  obtain ⟨p2, th2, pe2, de2, fr2, fl2, o2⟩ := u
  dsimp only at *
  go_enter Tryz.func107, Tryz.ntmps107
  go_wp2_with fail
  rw [← hW1'.out]
  refine wp_region_wd (by kernel_rfl) (by kernel_rfl) ?_
  repeat (go_big_quiet_step (first | (go_at_call 146; first | with_reducible exact qa'.out _ | with_reducible exact qb'.out _)))
  refine wpQuiet_nil ?_
  rintro _ ⟨v, rfl⟩
  have hOv := Lib.hid (hO'.out.trans' v.ok)
  go_wp2
  rw [hZ'.out]
  exact ⟨by rw [hfin.out]; rfl, hOv.out⟩
end Bch
end Go.Proofs.YtlbinlhaejhobaaGreatDoor
/- chain: which tasks may be. -/
namespace Go.Proofs.YtlbinlhaejhobaaGreatDoor
namespace Bch
open Go Go.RowKit
/-- Whether a task may be, beside those ahead of it. -/
def okT (ts : List TaskV) (i : Nat) : Prop := (prio ts i ≤ thr ts i ∧ 0 ≤ frm ts i ∧ frm ts i ≤ 1048576) ∧ ∀ k, k < i → prio ts k ≠ prio ts i
instance (ts : List TaskV) (i : Nat) : Decidable (okT ts i) := by unfold okT; infer_instance
def rightB (ts : List TaskV) : Bool := decide (ts.length ≤ 12 ∧ ∀ i, i < ts.length → okT ts i)
theorem frozen_new {w : World} {o : Obj} : (w.alloc o).heap.size = w.heap.size + 1 := by simp
end Bch
end Go.Proofs.YtlbinlhaejhobaaGreatDoor
/- chain: whether more is told of tasks. -/
namespace Go.Proofs.YtlbinlhaejhobaaGreatDoor
namespace Bch
open Go Go.RowKit
def IdxEnd (v : Bool) (w : World) (e : Ending) (w' : World) : Prop :=
  ∃ z : Int, e = .returned (.int .i64 z) ∧ (0 ≤ z ↔ v = true) ∧ -1 ≤ z ∧ z ≤ 1000000 ∧ Only (fun _ => False) w w'

theorem priority_one {W : World} {p : Nat} {pr : Int} (t : TaskV) (hc : W.cell? ⟨p, 0, none⟩ = some (.int .i64 pr)) (hp : p < W.heap.size) : Calls Tryz.prog 178 #[t.val, .pointer (some ⟨p, 0, none⟩)] W (GrowB (decide (t.p = pr)) W) := by
  rw [show t.val = .agg #[.int .i64 t.p, .int .i64 t.th, .int .i64 t.pe, .int .i64 t.de, .int .i64 t.fr, .int .i64 t.fl, .slice t.o.A t.o.n t.o.cap] from rfl]
  obtain ⟨v, hv⟩ : ∃ v, v = decide (t.p = pr) := ⟨_, rfl⟩
  rw [← hv]
  have hv' := Lib.hid hv
  clear hv
  obtain ⟨p1, th, pe, de, fr, fl, ⟨oA, on, oc⟩⟩ := t
  simp only at *
  by_cases h : p1 = pr
  · have hz := Lib.hid (show true = v by rw [hv'.out]; simp [h])
    go_enter Tryz.func178, Tryz.ntmps178
    go_wp2
    go_ret
    exact retg_bool (by first | exact hz.out | (rw [← hz.out]; first | done | simp [h])) ((Only.refl _ W).alloc _)
  · have hz := Lib.hid (show false = v by rw [hv'.out]; simp [h])
    go_enter Tryz.func178, Tryz.ntmps178
    go_wp2
    go_ret
    exact retg_bool (by first | exact hz.out | (rw [← hz.out]; first | done | simp [h])) ((Only.refl _ W).alloc _)

theorem any_not {α : Type} {l : List α} {f : α → Bool} (h : ∀ (k : Nat) t, l[k]? = some t → f t = false) : l.any f = false := by
  rw [List.any_eq_false]
  intro t ht
  obtain ⟨k, hk⟩ := List.getElem?_of_mem ht
  simp [h k t hk]
theorem any_yes {α : Type} {l : List α} {f : α → Bool} {k : Nat} {t : α} (hk : l[k]? = some t) (h : f t = true) : l.any f = true :=
  List.any_eq_true.2 ⟨t, List.mem_of_getElem? hk, h⟩

set_option maxRecDepth 100000 in
theorem indexPr_any {w : World} {x : Sl} {l : List TaskV} (hT : TasksAt w x l) (h9 : x.n ≤ 1000000) {p : Nat} {pr : Int} (hc : w.cell? ⟨p, 0, none⟩ = some (.int .i64 pr)) (hp : p < w.heap.size) :
    Calls Tryz.prog 177 #[.slice x.A x.n x.cap, .func (.func 178) #[] #[.pointer (some ⟨p, 0, none⟩)]] w (IdxEnd (l.any fun t => decide (t.p = pr)) w) := by
  have q := Lib.hid (fun (W : World) (hW : Only (fun _ => False) w W) (t : TaskV) => priority_one (pr := pr) t (hW.cell hc (fun h => h)) (Nat.lt_of_lt_of_le hp hW.size))
  obtain ⟨A, n, cap⟩ := x
  have hl' := Lib.hid hT
  have hlen := hT.len
  simp only at *
  have hlen' := Lib.hid hlen
  clear hT hlen hc hp
  go_enter Tryz.func177, Tryz.ntmps177
  go_wp2
  go_loopw [8] (fun i wr => ∃ k : Nat, k ≤ n ∧ i = .int .i64 k ∧ (∀ (j : Nat) t, j < k → l[j]? = some t → decide (t.p = pr) = false) ∧ Only (fun _ => False) w wr) (fun i _ => n - (intOf i).toNat)
  case atStart => exact ⟨0, Nat.zero_le _, rfl, (fun j z hj => by omega), Only.refl _ w⟩
  case round =>
    obtain ⟨k, hk, rfl, hall, hO⟩ := hrel
    have hall' := Lib.hid hall
    have hO' := Lib.hid hO
    clear hall hO
    by_cases hkn : k < n
    · have hkn' : (k : Int) < (n : Int) := by omega
      obtain ⟨t, ht⟩ : ∃ t, l[k]? = some t := ⟨_, List.getElem?_eq_getElem (by have := hlen'.out; omega)⟩
      obtain ⟨b, off, hA, hb, hC⟩ := hl'.out.at_ k t ht
      simp only at hA
      subst hA
      obtain ⟨c0, c1, c2, c3, c4, c5, c6⟩ := hC.new hO'.out
      clear hC
      have ht' := Lib.hid ht
      clear ht
      have hq := q.out _ hO'.out t
      rw [show t.val = .agg #[.int .i64 t.p, .int .i64 t.th, .int .i64 t.pe, .int .i64 t.de, .int .i64 t.fr, .int .i64 t.fl, .slice t.o.A t.o.n t.o.cap] from rfl] at hq
      obtain ⟨v, hv⟩ : ∃ v, v = decide (t.p = pr) := ⟨_, rfl⟩
      rw [← hv] at hq
      have hv' := Lib.hid hv
      clear hv
      have hq' := Lib.hid hq
      clear hq
      obtain ⟨p1, th, pe, de, fr, fl, ⟨oA, on, oc⟩⟩ := t
      simp only at *
      go_wp2_with fail
      refine (hq'.out).mono ?_
      rintro e w1 ⟨rfl, hO1⟩
      have hO2 := Lib.hid (hO'.out.trans' hO1)
      clear hO1
      clear hq'
      cases hvc : v
      rotate_left
      · rw [hvc] at hv'
        subst hvc
        have hz := Lib.hid (any_yes (l := l) (f := fun t => decide (t.p = pr)) ht'.out (by simp only; exact hv'.out.symm))
        go_wp2
        go_ret
        exact ⟨_, rfl, by rw [hz.out]; simp, by omega, by omega, hO2.out⟩
      · rw [hvc] at hv'
        subst hvc
        have hnx := Lib.hid (show ∀ (j : Nat) y, j < k + 1 → l[j]? = some y → decide (y.p = pr) = false from fun j y hj hy => by
            by_cases hjk : j < k
            · exact hall'.out j y hjk hy
            · obtain rfl : j = k := by omega
              rw [ht'.out] at hy
              cases hy
              exact hv'.out.symm)
        go_wp2
        go_roundw
        case rel => exact ⟨k + 1, by omega, by go_num, hnx.out, hO2.out⟩
        case measure => simp [intOf]; omega
    · obtain rfl : k = n := by omega
      have hz := Lib.hid (any_not (l := l) (f := fun t => decide (t.p = pr)) (fun j z hz => hall'.out j z (by have := (List.getElem?_eq_some_iff.1 hz).1; have := hlen'.out; omega) hz))
      go_wp2
      go_ret
      exact ⟨_, rfl, by rw [hz.out]; simp, by omega, by omega, hO'.out⟩
theorem containsPr_any {w : World} {x : Sl} {l : List TaskV} (hT : TasksAt w x l) (h9 : x.n ≤ 1000000) {p : Nat} {pr : Int} (hc : w.cell? ⟨p, 0, none⟩ = some (.int .i64 pr)) (hp : p < w.heap.size) :
    Calls Tryz.prog 139 #[.slice x.A x.n x.cap, .func (.func 178) #[] #[.pointer (some ⟨p, 0, none⟩)]] w (GrowB (l.any fun t => decide (t.p = pr)) w) := by
  have q := Lib.hid (indexPr_any hT h9 hc hp)
  obtain ⟨v, hv⟩ : ∃ v, v = (l.any fun t => decide (t.p = pr)) := ⟨_, rfl⟩
  rw [← hv] at q ⊢
  obtain ⟨A, n, cap⟩ := x
  simp only at *
  clear hT hc hp hv
  go_enter Tryz.func139, Tryz.ntmps139
  go_wp2_with fail
  refine (q.out).mono ?_
  rintro e w1 ⟨z, rfl, hz, h1, h2, hO⟩
  have hz' := Lib.hid hz
  have hO' := Lib.hid hO
  clear hz hO q
  by_cases h0 : 0 ≤ z
  · have hv := Lib.hid (hz'.out.1 h0)
    go_wp2
    go_ret
    exact retg_bool (by first | exact hv.out.symm | (rw [hv.out]; simp [h0])) hO'.out
  · have hv := Lib.hid (show v = false by have := fun h => h0 (hz'.out.2 h); simpa using this)
    go_wp2
    go_ret
    exact retg_bool (by rw [hv.out]; first | rfl | simp [h0]) hO'.out

theorem okT_any {ts : List TaskV} {i : Nat} {t : TaskV} (ht : ts[i]? = some t) : (∀ k, k < i → prio ts k ≠ prio ts i) ↔ (ts.take i).any (fun u => decide (u.p = t.p)) = false := by
  have hil := (List.getElem?_eq_some_iff.1 ht).1
  constructor
  · intro h
    refine any_not (fun k u hu => ?_)
    have hk : k < i := by have := (List.getElem?_eq_some_iff.1 hu).1; simp at this; omega
    rw [List.getElem?_take_of_lt hk] at hu
    have := h k hk
    rw [prio_at hu, prio_at ht] at this
    exact decide_eq_false this
  · intro h k hk e
    obtain ⟨u, hu⟩ : ∃ u, ts[k]? = some u := ⟨_, List.getElem?_eq_getElem (by omega)⟩
    rw [prio_at hu, prio_at ht] at e
    have := any_yes (l := ts.take i) (f := fun u => decide (u.p = t.p)) (k := k) (t := u) (by rw [List.getElem?_take_of_lt hk]; exact hu) (decide_eq_true e)
    rw [h] at this
    cases this
set_option maxRecDepth 100000 in
set_option maxHeartbeats 4000000 in
theorem mayBe_any {w : World} {x : Sl} {ts : List TaskV} (hT : TasksAt w x ts) (hn : x.n ≤ 9223372036854775807) : Calls Tryz.prog 141 #[.slice x.A x.n x.cap] w (GrowB (rightB ts) w) := by
  have hlen := hT.len
  obtain ⟨tA, tn, tc⟩ := x
  dsimp only at *
  obtain ⟨V, hV⟩ : ∃ V, V = rightB ts := ⟨_, rfl⟩
  rw [← hV]
  obtain ⟨Z, hZ⟩ : ∃ Z, Z = GrowB V w := ⟨_, rfl⟩
  rw [← hZ]
  have hZ' := Lib.hid hZ
  have hV' := Lib.hid hV
  have hT' := Lib.hid hT
  have hlen' := Lib.hid hlen
  have hcap := hT.cap
  clear hT hlen hV hZ
  have hmf : ∀ (fn : Fn) (first cap : Array Value) (w : World), (Instr.makeFunc fn first cap).run Tryz.prog w = .ok (.func fn first cap) w := fun _ _ _ _ => rfl
  by_cases h12 : 12 < tn
  · have h12' : (12 : Int) < tn := by omega
    have hz := Lib.hid (show false = V by rw [hV'.out, rightB, decide_eq_false (fun h => by have := hlen'.out; omega)])
    clear h12
    go_enter Tryz.func141, Tryz.ntmps141
    go_wp2
    rw [hZ'.out]
    exact ⟨by rw [← hz.out]; first | done | rfl, Only.refl _ _⟩
  have h12' : ¬ (12 : Int) < tn := by omega
  have hbad := Lib.hid (fun i (hi : i < tn) (hno : ¬ okT ts i) => show false = V from by
    rw [hV'.out, rightB, decide_eq_false (fun h => hno (h.2 i (by have := hlen'.out; omega)))])
  go_enter Tryz.func141, Tryz.ntmps141
  go_wp2
  go_loopw [3, 4, 5, 11] (fun _ _ _ u11 wr => ∃ i : Nat, u11 = .int .i64 i ∧ i ≤ tn ∧ Hid (∀ k, k < i → okT ts k) ∧ Hid (Only (fun _ => False) w wr)) (fun _ _ _ i _ => (tn - intOf i).toNat)
  case atStart => exact ⟨0, rfl, Nat.zero_le _, Lib.hid (fun k hk => by omega), Only.refl _ _⟩
  case round =>
    obtain ⟨i, rfl, hi, hI, hOr⟩ := hrel
    by_cases hin : i < tn
    · have hin' : (i : Int) < tn := by omega
      obtain ⟨t, ht⟩ : ∃ t, ts[i]? = some t := ⟨_, List.getElem?_eq_getElem (by have := hlen'.out; omega)⟩
      obtain ⟨tb, toff, hA, htl, hC⟩ := (hT'.out.new hOr.out).at_ i t ht
      simp only at hA
      subst hA
      obtain ⟨c0, c1, c2, c3, c4, c5, c6⟩ := hC
      have hp := prio_at ht
      have hth := thr_at ht
      have hfr := frm_at ht
      have hany := Lib.hid (okT_any ht)
      have hbadi := Lib.hid (hbad.out i hin)
      clear ht
      obtain ⟨p1, th1, pe1, de1, fr1, fl1, ⟨oA, on, oc⟩⟩ := t
      dsimp only at *
      have hnum := Lib.hid (And.intro hp (And.intro hth hfr))
      clear hp hth hfr
      go_upto_region 6 with fail
      obtain ⟨Y, hY⟩ : ∃ Y, Y = wr.heap.size := ⟨_, rfl⟩
      obtain ⟨W2, hW2⟩ : ∃ W2, W2 = wr.alloc (Obj.cells #[.int .i64 p1, .int .i64 th1, .int .i64 pe1, .int .i64 de1, .int .i64 fr1, .int .i64 fl1, .slice oA on oc] 49) := ⟨_, rfl⟩
      rw [← hW2, ← hY]
      have hO2 := Lib.hid (show Only (fun _ => False) w W2 by rw [hW2]; exact hOr.out.alloc _)
      have hY2 := Lib.hid (show W2.heap[Y]? = some (.cells [.int .i64 p1, .int .i64 th1, .int .i64 pe1, .int .i64 de1, .int .i64 fr1, .int .i64 fl1, .slice oA on oc].toArray 49 (0, 0)) by rw [hW2]; exact heap_new_at _ _ hY.symm)
      obtain ⟨B, hBB⟩ : ∃ B, B = (ts.take i).any (fun u => decide (u.p = p1)) := ⟨_, rfl⟩
      have hcon := containsPr_any (p := Y) (pr := p1) ((hT'.out.new hO2.out).take (i := i) (Nat.le_of_lt hin)) (by show i ≤ 1000000; omega) (row_cell hY2.out (i := 0) rfl) (row_lt hY2.out)
      rw [← hBB] at hcon hany
      have hcon' := Lib.hid hcon
      have htl2 : tb < W2.heap.size := by rw [hW2]; simp; omega
      clear hW2 hY c0 c1 c2 c3 c4 c5 c6 htl hBB hcon
      go_wp2_with fail
      refine hcon'.out.mono ?_
      rintro e W3 ⟨rfl, ho⟩
      have hO3 := Lib.hid (hO2.out.trans' ho)
      have hY3 := Lib.hid (ho.heap hY2.out (fun h => h))
      have y0 := row_cell hY3.out (i := 0) rfl
      have y1 := row_cell hY3.out (i := 1) rfl
      have y4 := row_cell hY3.out (i := 4) rfl
      have yl := row_lt hY3.out
      clear ho hcon' htl2
      cases B
      rotate_left
      · have hz := Lib.hid (hbadi.out (fun h => by have := hany.out.1 (by exact h.2); cases this))
        go_wp2
        rw [hZ'.out]
        exact ⟨by rw [← hz.out]; first | done | rfl, hO3.out⟩
      by_cases g1 : th1 < p1
      · have hz := Lib.hid (hbadi.out (fun h => by obtain ⟨k1, k2, k3⟩ := hnum.out; unfold okT at h; rw [k1, k2, k3] at h; omega))
        go_wp2
        rw [hZ'.out]
        exact ⟨by rw [← hz.out]; first | done | rfl, hO3.out⟩
      by_cases g2 : fr1 < 0
      · have hz := Lib.hid (hbadi.out (fun h => by obtain ⟨k1, k2, k3⟩ := hnum.out; unfold okT at h; rw [k1, k2, k3] at h; omega))
        go_wp2
        rw [hZ'.out]
        exact ⟨by rw [← hz.out]; first | done | rfl, hO3.out⟩
      by_cases g3 : 1048576 < fr1
      · have hz := Lib.hid (hbadi.out (fun h => by obtain ⟨k1, k2, k3⟩ := hnum.out; unfold okT at h; rw [k1, k2, k3] at h; omega))
        go_wp2
        rw [hZ'.out]
        exact ⟨by rw [← hz.out]; first | done | rfl, hO3.out⟩
      have hok := Lib.hid (show okT ts i by
        obtain ⟨k1, k2, k3⟩ := hnum.out
        refine ⟨by rw [k1, k2, k3]; omega, ?_⟩
        exact hany.out.2 rfl)
      go_wp2
      go_roundw
      case rel => exact ⟨i + 1, by go_num, by omega, Lib.hid (fun m hm => by
        rcases Nat.lt_or_ge m i with h | h
        · exact hI.out m h
        · obtain rfl : m = i := by omega
          exact hok.out), hO3⟩
      case measure => simp [intOf]; omega
    · obtain rfl : i = tn := by omega
      have hz := Lib.hid (show true = V by
        rw [hV'.out, rightB, decide_eq_true]
        have e := hlen'.out
        exact ⟨by omega, fun k hk => hI.out k (by omega)⟩)
      go_wp2
      rw [hZ'.out]
      exact ⟨by rw [← hz.out]; first | done | rfl, hOr.out⟩
end Bch
end Go.Proofs.YtlbinlhaejhobaaGreatDoor
/- chain: the sort of tasks by their priorities. -/
namespace Go.Proofs.YtlbinlhaejhobaaGreatDoor
namespace Bch
open Go Go.RowKit
theorem ret_int {k : IntKind} {a b : Int} (h : a = b) : Ending.returned (.int k a) = .returned (.int k b) := by rw [h]
theorem ret_bool {a b : Bool} (h : a = b) : Ending.returned (.bool a) = .returned (.bool b) := by rw [h]
def GrowI (z : Int) (w : World) (e : Ending) (w' : World) : Prop := e = .returned (.int .i64 z) ∧ Only (fun _ => False) w w'
def RetB (v : Bool) (w : World) (e : Ending) (w' : World) : Prop := e = .returned (.bool v) ∧ w = w'
def RetI (v : Int) (w : World) (e : Ending) (w' : World) : Prop := e = .returned (.int .i64 v) ∧ w = w'
theorem nan_any (w : World) (a : Int) : Calls Tryz.prog 180 #[.int .i64 a] w (RetB false w) := by
  have h : (a != a) = false := by simp
  go_enter Tryz.func180, Tryz.ntmps180
  go_wp2
  go_ret
  exact ⟨ret_bool (by simp), rfl⟩
def cmpZ (a b : Int) : Int := if a < b then -1 else if b < a then 1 else 0
theorem compare_any (w : World) (a b : Int) : Calls Tryz.prog 144 #[.int .i64 a, .int .i64 b] w (RetI (cmpZ a b) w) := by
  have q := Lib.hid (fun z => nan_any w z)
  obtain ⟨V, hV⟩ : ∃ V, V = cmpZ a b := ⟨_, rfl⟩
  have hV' := Lib.hid hV
  rw [← hV]
  clear hV
  by_cases h1 : a < b
  · have hv := Lib.hid (show V = -1 by rw [hV'.out]; unfold cmpZ; simp [h1])
    go_enter Tryz.func144, Tryz.ntmps144
    go_wp2_with fail
    refine (q.out _).mono ?_
    rintro e w' ⟨rfl, rfl⟩
    go_wp2_with fail
    refine (q.out _).mono ?_
    rintro e w' ⟨rfl, rfl⟩
    go_wp2
    go_ret
    exact ⟨ret_int hv.out.symm, rfl⟩
  · by_cases h2 : b < a
    · have hv := Lib.hid (show V = 1 by rw [hV'.out]; unfold cmpZ; simp [h1, h2])
      go_enter Tryz.func144, Tryz.ntmps144
      go_wp2_with fail
      refine (q.out _).mono ?_
      rintro e w' ⟨rfl, rfl⟩
      go_wp2_with fail
      refine (q.out _).mono ?_
      rintro e w' ⟨rfl, rfl⟩
      go_wp2
      go_ret
      exact ⟨ret_int hv.out.symm, rfl⟩
    · have hv := Lib.hid (show V = 0 by rw [hV'.out]; unfold cmpZ; simp [h1, h2])
      go_enter Tryz.func144, Tryz.ntmps144
      go_wp2_with fail
      refine (q.out _).mono ?_
      rintro e w' ⟨rfl, rfl⟩
      go_wp2_with fail
      refine (q.out _).mono ?_
      rintro e w' ⟨rfl, rfl⟩
      go_wp2
      go_ret
      exact ⟨ret_int hv.out.symm, rfl⟩

/-- Tasks behind a boxed configuration. -/
structure BoxAt (w : World) (q : Nat) (x : Sl) (ts : List TaskV) : Prop where
  c : w.cell? ⟨q, 8, none⟩ = some (.slice x.A x.n x.cap)
  lt : q < w.heap.size
  t : TasksAt w x ts
theorem BoxAt.only {S : Nat → Prop} {w w' : World} {q : Nat} {x : Sl} {ts : List TaskV} (h : BoxAt w q x ts) (ho : Only S w w') (hq : ¬ S q) (hx : ∀ b off, x.A = some ⟨b, off, none⟩ → ts ≠ [] → ¬ S b) : BoxAt w' q x ts :=
  ⟨ho.cell h.c hq, Nat.lt_of_lt_of_le h.lt ho.size, h.t.len, h.t.cap, fun k t ht => by
    obtain ⟨b, off, hA, hb, ⟨c0, c1, c2, c3, c4, c5, c6⟩⟩ := h.t.at_ k t ht
    have hn := hx b off hA (by rintro rfl; simp at ht)
    exact ⟨b, off, hA, Nat.lt_of_lt_of_le hb ho.size, ⟨ho.cell c0 hn, ho.cell c1 hn, ho.cell c2 hn, ho.cell c3 hn, ho.cell c4 hn, ho.cell c5 hn, ho.cell c6 hn⟩⟩⟩
set_option maxRecDepth 100000 in
theorem cmp_any {w : World} {q : Nat} {x : Sl} {ts : List TaskV} (hB : BoxAt w q x ts) (h9 : x.n ≤ 1000000) {a b : Nat} (ha : a < x.n) (hb : b < x.n) :
    Calls Tryz.prog 143 #[.int .i64 a, .int .i64 b, .pointer (some ⟨q, 0, none⟩)] w (GrowI (cmpZ (prio ts b) (prio ts a)) w) := by
  have hlen := hB.t.len
  obtain ⟨t, ht⟩ : ∃ t, ts[a]? = some t := ⟨_, List.getElem?_eq_getElem (by omega)⟩
  obtain ⟨u, hu⟩ : ∃ t, ts[b]? = some t := ⟨_, List.getElem?_eq_getElem (by omega)⟩
  obtain ⟨b1, off, hA, hb1, hC⟩ := hB.t.at_ a t ht
  obtain ⟨b2, off2, hA2, hb2, hD⟩ := hB.t.at_ b u hu
  rw [hA] at hA2
  cases hA2
  rw [prio_at ht, prio_at hu]
  have c0 := hC.c0
  have d0 := hD.c0
  have e0 := hB.c
  have hlt := hB.lt
  obtain ⟨A, n, cap⟩ := x
  obtain ⟨tp, tth, tpe, tde, tfr, tfl, to_⟩ := t
  obtain ⟨up, uth, upe, ude, ufr, ufl, uo⟩ := u
  simp only at *
  subst hA
  obtain ⟨V, hV⟩ : ∃ V, V = cmpZ up tp := ⟨_, rfl⟩
  have q1 := fun v : Wd w => Calls.wd_same (x := v) (compare_any v.W up tp)
  rw [← hV] at q1 ⊢
  have q1' := Lib.hid q1
  have p0 := wd_cell c0
  have p1 := wd_cell d0
  have p2 := wd_cell e0
  have hex := wd_ex w
  have ha' : (a : Int) < (n : Int) := by omega
  have hb' : (b : Int) < (n : Int) := by omega
  clear hB hlen ht hu hC hD hV q1 c0 d0 e0
  go_enter Tryz.func143, Tryz.ntmps143
  go_wp2
  refine wp_region_wd (by kernel_rfl) (by kernel_rfl) ?_
  repeat (go_big_quiet_step (first | (go_at_call 144; exact q1'.out _)))
  refine wpQuiet_nil ?_
  rintro _ ⟨v, rfl⟩
  have hv := Lib.hid v.ok
  go_wp2
  go_ret
  exact ⟨rfl, hv.out⟩
theorem cmpZ_neg {a b : Int} : cmpZ a b < 0 ↔ a < b := by
  unfold cmpZ
  split
  · simp [*]
  · split <;> simp [*]

/-- A row of numbers somewhere in a block. -/
def RowW (w : World) (g : Nat) (pre post : List Value) (L : List Nat) : Prop := w.heap[g]? = some (.cells (pre ++ (dat L ++ post)).toArray 3 (0, 0))
theorem RowW.cell {w : World} {g off : Nat} {pre post : List Value} {L : List Nat} (h : RowW w g pre post L) (ho : pre.length = off) {i k : Nat} (hk : L[i]? = some k) : w.cell? ⟨g, off + i, none⟩ = some (.int .i64 (k : Int)) := by
  refine row_cell h ?_
  have hi : i < (dat L).length := by rw [dat_length]; exact (List.getElem?_eq_some_iff.1 hk).1
  rw [← ho, List.getElem?_append_right (by omega), Nat.add_sub_cancel_left, List.getElem?_append_left hi]
  exact dat_at hk
theorem RowW.set {w : World} {g off : Nat} {pre post : List Value} {L : List Nat} (h : RowW w g pre post L) (ho : pre.length = off) {i : Nat} (hi : i < L.length) (k : Nat) : RowW (w.setCell ⟨g, off + i, none⟩ (.int .i64 (k : Int))) g pre post (L.set i k) := by
  unfold RowW
  rw [row_set h (off + i) (.int .i64 (k : Int)), ← ho, List.set_append_right _ _ (by omega), Nat.add_sub_cancel_left, List.set_append_left _ _ (by rw [dat_length]; exact hi), dat_set]
def SortEnd (w : World) (g : Nat) (pre post : List Value) (L : List Nat) (e : Ending) (w' : World) : Prop := e = .returned (.tuple #[]) ∧ RowW w' g pre post L ∧ Only (fun k => k = g) w w'
set_option maxRecDepth 100000 in
set_option maxHeartbeats 2000000 in
theorem isort_any {w : World} {q : Nat} {x : Sl} {ts : List TaskV} (hB : BoxAt w q x ts) (h9 : x.n ≤ 1000000) {g n off cap : Nat} {pre post : List Value} (hoff : pre.length = off) (hg : RowW w g pre post (wait 0 n)) (hn : n ≤ x.n) (h1 : 1 ≤ n) (hgq : q ≠ g) (hgx : ∀ b off, x.A = some ⟨b, off, none⟩ → ts ≠ [] → b ≠ g) :
    Calls Tryz.prog 196 #[.slice (some ⟨g, off, none⟩) n cap, .int .i64 0, .int .i64 n, .func (.func 143) #[] #[.pointer (some ⟨q, 0, none⟩)]] w (SortEnd w g pre post (orderUp (prio ts) n)) := by
  obtain ⟨p, hp⟩ : ∃ p, p = prio ts := ⟨_, rfl⟩
  have qc := Lib.hid (fun (W : World) (hW : Only (fun k => k = g) w W) (a b : Nat) (ha : a < n) (hb : b < n) => show Calls Tryz.prog 143 #[.int .i64 a, .int .i64 b, .pointer (some ⟨q, 0, none⟩)] W (GrowI (cmpZ (p b) (p a)) W) by
    rw [hp]
    exact cmp_any (hB.only hW hgq hgx) h9 (by omega) (by omega))
  rw [← hp]
  have hg' := Lib.hid hg
  have hoff' := Lib.hid hoff
  clear hp hB hg hgx hoff
  go_enter Tryz.func196, Tryz.ntmps196
  go_wp2
  go_loopw [8] (fun i wr => ∃ k : Nat, 1 ≤ k ∧ k ≤ n ∧ i = .int .i64 k ∧ RowW wr g pre post (orderUp p k ++ wait k n) ∧ Only (fun k => k = g) w wr) (fun i _ => n - (intOf i).toNat)
  case atStart => exact ⟨1, Nat.le_refl _, h1, rfl, (by
    have h0 := hg'.out
    rw [wait_next (by omega)] at h0
    exact h0), Only.refl _ w⟩
  case round =>
    obtain ⟨k, hk1, hk, rfl, hR, hO⟩ := hrel
    have hR' := Lib.hid hR
    have hO' := Lib.hid hO
    clear hR hO
    by_cases hkn : k < n
    · have hkn' : (k : Int) < (n : Int) := by omega
      go_wp2
      go_loopw [9] (fun i ws => ∃ (m : Nat) (A B : List Nat), i = .int .i64 m ∧ A.length = m ∧ A ++ B = orderUp p k ∧ (∀ y ∈ B, p y < p k) ∧ RowW ws g pre post (A ++ k :: (B ++ wait (k + 1) n)) ∧ Only (fun k => k = g) w ws) (fun i _ => (intOf i).toNat)
      case atStart => exact ⟨k, orderUp p k, [], rfl, order_length p k, by simp, by simp, (by
        have h0 := hR'.out
        rw [wait_next hkn] at h0
        simpa using h0), hO'.out⟩
      case round =>
        obtain ⟨m, A, B, rfl, hm, hAB, hBk, hRs, hOs⟩ := hrel
        have hRs' := Lib.hid hRs
        have hOs' := Lib.hid hOs
        have hAB' := Lib.hid hAB
        have hBk' := Lib.hid hBk
        clear hRs hOs hAB hBk
        have hfin := Lib.hid (fun (ha : ∀ y ∈ A, p k ≤ p y) => show orderUp p (k + 1) ++ wait (k + 1) n = A ++ k :: (B ++ wait (k + 1) n) from by
          show ins p k (orderUp p k) ++ wait (k + 1) n = _
          rw [← hAB'.out, ins_split hBk'.out ha]
          simp)
        rcases List.eq_nil_or_concat A with hA | ⟨A', y, hA⟩
        · have hm0 : m = 0 := by rw [← hm, hA]; rfl
          subst hm0
          have hnx := Lib.hid (show RowW wr g pre post (orderUp p (k + 1) ++ wait (k + 1) n) by rw [hfin.out (by rw [hA]; simp)]; exact hRs'.out)
          clear hm hA hfin
          go_wp2
          go_quiet (fail)
          go_wp2
          go_roundw
          case rel => exact ⟨k + 1, by omega, by omega, by go_num, hnx.out, hOs'.out.drewN _⟩
          case measure => simp [intOf]; omega
        · rw [List.concat_eq_append] at hA
          obtain ⟨j, rfl⟩ : ∃ j, m = j + 1 := ⟨A'.length, by rw [← hm, hA]; simp⟩
          have hj : A'.length = j := by rw [hA] at hm; simpa using hm
          have hrow : A ++ k :: (B ++ wait (k + 1) n) = A' ++ y :: k :: (B ++ wait (k + 1) n) := by rw [hA]; simp
          have hRt := hRs'.out
          rw [hrow] at hRt
          have c0 := hRt.cell hoff'.out (i := j) (k := y) (by rw [← hj]; exact (at_mid _ _ _ _).1)
          have c1 := hRt.cell hoff'.out (i := j + 1) (k := k) (by rw [← hj]; exact (at_mid _ _ _ _).2)
          have hyk : y < k := order_lt (p := p) (n := k) (by rw [← hAB'.out, hA]; simp)
          have hjk : j + 1 ≤ k := by
            have h0 := order_length p k
            rw [← hAB'.out, hA] at h0
            simp at h0
            omega
          have hj1 : ((j : Int) + 1) < (n : Int) := by omega
          have hj2 : (j : Int) < (n : Int) := by omega
          have hso := Lib.hid (order_sorted p k)
          have hnx := Lib.hid (fun (h : p k ≤ p y) => show RowW wr g pre post (orderUp p (k + 1) ++ wait (k + 1) n) by
            rw [hfin.out (fun u hu => by
              have h0 := hso.out
              rw [← hAB'.out] at h0
              have h1 := (List.pairwise_append.1 h0).1
              rw [hA] at h1 hu
              rw [List.pairwise_append] at h1
              rcases List.mem_append.1 hu with hu | hu
              · have := h1.2.2 u hu y (by simp)
                omega
              · simp at hu; subst hu; exact h)]
            exact hRs'.out)
          have hsw := Lib.hid (fun (h : p y < p k) => show A' ++ (y :: B) = orderUp p k ∧ ∀ u ∈ y :: B, p u < p k from ⟨by rw [← hAB'.out, hA]; simp, fun u hu => by
            rcases List.mem_cons.1 hu with rfl | hu
            · exact h
            · exact hBk'.out u hu⟩)
          have hset := Lib.hid (show ∀ W, RowW W g pre post (A' ++ y :: k :: (B ++ wait (k + 1) n)) → RowW ((W.setCell ⟨g, off + (j + 1), none⟩ (.int .i64 (y : Int))).setCell ⟨g, off + j, none⟩ (.int .i64 (k : Int))) g pre post (A' ++ k :: (y :: B ++ wait (k + 1) n)) from fun W hW => by
            have h0 := (hW.set hoff'.out (i := j + 1) (by simp; omega) y).set hoff'.out (i := j) (by simp; omega) k
            rw [← hj, swap_list] at h0
            rw [← hj]
            exact h0)
          have hRt' := Lib.hid hRt
          have hglt := row_lt hRt
          have hfr := fun i => row_free hRt i
          obtain ⟨z, hz⟩ : ∃ z, z = cmpZ (p y) (p k) := ⟨_, rfl⟩
          have hzn := Lib.hid (show z < 0 ↔ p y < p k by rw [hz]; exact cmpZ_neg)
          have q1 := fun v : Wd wr => Calls.wd (x := v) (qc.out v.W (hOs'.out.trans' (v.ok.mono (fun _ _ h => h.elim))) k y hkn (by omega))
          rw [← hz] at q1
          have q1' := Lib.hid q1
          have p0 := wd_cell c0
          have p1 := wd_cell c1
          have hex := wd_ex wr
          have hj' := hj
          clear hm hA hfin hj hrow hRt hz q1 hAB' hBk' hRs'
          have hjc : (((j + 1 : Nat) : Int) - 1) = (j : Int) := by omega
          go_wp2
          refine wp_region_wd (by kernel_rfl) (by kernel_rfl) ?_
          repeat (go_big_quiet_step (first | (go_at_call 143; with_reducible exact q1'.out _)))
          refine wpQuiet_nil ?_
          rintro _ ⟨v, rfl⟩
          have hRv := v.ok.heap hRt'.out (fun h => h)
          replace c0 := v.cell c0
          replace c1 := v.cell c1
          replace hglt := row_lt hRv
          replace hfr := fun i => row_free hRv i
          have hsv := Lib.hid (hset.out v.W hRv)
          have hOv := Lib.hid (hOs'.out.trans' (v.ok.mono (fun _ _ h => h.elim)))
          have hnv := Lib.hid (fun (h : p k ≤ p y) => v.ok.heap (hnx.out h) (fun h => h))
          clear p0 p1 hex q1' hRt' hRv hnx hset hOs'
          obtain ⟨wv, hwv⟩ := v
          simp only at *
          clear hwv
          by_cases hz0 : z < 0
          · have hlt := hzn.out.1 hz0
            have hsw' := Lib.hid (hsw.out hlt)
            clear hsw hnv hlt
            go_wp2
            go_region
            all_goals
              go_wp2
              go_roundw
              case rel => exact ⟨j, A', y :: B, rfl, hj', hsw'.out.1, hsw'.out.2, hsv.out, ((hOv.out.setCell (fun _ => rfl) _).setCell (fun _ => rfl) _).drew⟩
              case measure => simp [intOf]
          · have hge : p k ≤ p y := Int.not_lt.1 (fun h => hz0 (hzn.out.2 h))
            have hnw := Lib.hid (hnv.out hge)
            clear hnv hsw hge hsv
            go_wp2
            go_roundw
            case rel => exact ⟨k + 1, by omega, by omega, by go_num, hnw.out, hOv.out⟩
            case measure => simp [intOf]; omega
    · obtain rfl : k = n := by omega
      have hR := hR'.out
      rw [wait_end, List.append_nil] at hR
      have hE := Lib.hid (show SortEnd w g pre post (orderUp p k) (.returned (.tuple #[])) wr from ⟨rfl, hR, hO'.out⟩)
      clear hR
      go_wp2
      go_end0
      exact hE.out
end Bch
end Go.Proofs.YtlbinlhaejhobaaGreatDoor
/- chain: the tasks from the highest priority down. -/
namespace Go.Proofs.YtlbinlhaejhobaaGreatDoor
namespace Bch
open Go Go.RowKit
set_option maxRecDepth 100000 in
set_option maxHeartbeats 4000000 in
theorem len64_small (x : Nat) (hx : x ≤ 12) (w : World) : Calls Tryz.prog 165 #[.int .u64 x] w fun e w' => (∃ z : Int, e = .returned (.int .i64 z)) ∧ w = w' := by
  obtain ⟨z, hz⟩ : ∃ z : Int, z = (x : Int) := ⟨_, rfl⟩
  rw [← hz]
  have h16 : ¬ (65536 : Int) ≤ z := by omega
  have h32 : ¬ (4294967296 : Int) ≤ z := by omega
  have h8 : ¬ (256 : Int) ≤ z := by omega
  have h0 : 0 ≤ z := by omega
  clear hz hx
  go_enter Tryz.func165, Tryz.ntmps165
  go_wp2
  go_ret
  exact ⟨⟨_, rfl⟩, rfl⟩
theorem len_small (x : Nat) (hx : x ≤ 12) (w : World) : Calls Tryz.prog 129 #[.int .u64 x] w fun e w' => (∃ z : Int, e = .returned (.int .i64 z)) ∧ w = w' := by
  have q := Lib.hid (len64_small x hx w)
  go_enter Tryz.func129, Tryz.ntmps129
  go_wp2_with fail
  refine q.out.mono ?_
  rintro e w' ⟨⟨z, rfl⟩, rfl⟩
  go_wp2
  go_ret
  exact ⟨⟨_, rfl⟩, rfl⟩
/-- What the sort may do: the row's numbers, in their order; all else stays. -/
def DoneEnd (S : Nat → Prop) (w : World) (R : World → Prop) (e : Ending) (w' : World) : Prop := e = .returned (.tuple #[]) ∧ R w' ∧ Only S w w'
theorem isort_none (w : World) (p : Option Addr) (cap : Nat) (f : Value) :
    Calls Tryz.prog 196 #[.slice p 0 cap, .int .i64 0, .int .i64 0, f] w (fun e w' => e = .returned (.tuple #[]) ∧ w = w') := by
  go_enter Tryz.func196, Tryz.ntmps196
  go_wp2
  go_loopw [8] (fun i wr => i = .int .i64 1 ∧ w = wr) (fun i _ => 0)
  case atStart => exact ⟨by go_num, rfl⟩
  case round =>
    obtain ⟨rfl, rfl⟩ := hrel
    go_wp2
    go_end0
    exact ⟨rfl, rfl⟩
set_option maxRecDepth 100000 in
set_option maxHeartbeats 4000000 in
theorem pdq_any {w : World} {v : Option Addr} {n cap : Nat} {l : Int} {f : Value} {Z : Ending → World → Prop} (hn : n ≤ 12) (hq : Calls Tryz.prog 196 #[.slice v n cap, .int .i64 0, .int .i64 n, f] w Z) (hZ : ∀ e w', Z e w' → e = .returned (.tuple #[])) :
    Calls Tryz.prog 179 #[.slice v n cap, .int .i64 0, .int .i64 n, .int .i64 l, f] w Z := by
  have hq' := Lib.hid hq
  have hZ' := Lib.hid hZ
  have hn' : (n : Int) ≤ 12 := by omega
  clear hq hZ
  go_enter Tryz.func179, Tryz.ntmps179
  go_wp2
  go_loopw [1, 2, 3, 10, 11, 12, 13, 14, 15, 16, 17, 18, 19, 20] (fun u1 u2 _ _ _ _ _ _ _ _ _ _ _ _ wr => u1 = .int .i64 0 ∧ u2 = .int .i64 n ∧ w = wr) (fun _ _ _ _ _ _ _ _ _ _ _ _ _ _ _ => 0)
  case atStart => exact ⟨rfl, rfl, rfl⟩
  case round =>
    obtain ⟨rfl, rfl, rfl⟩ := hrel
    go_wp2_with fail
    refine hq'.out.mono ?_
    intro e w' hz
    have he := hZ'.out e w' hz
    subst he
    have hz' := Lib.hid hz
    clear hz
    go_wp2
    go_end0
    exact hz'.out
theorem sortf_any {w : World} {v : Option Addr} {n cap : Nat} {f : Value} {Z : Ending → World → Prop} (hn : n ≤ 12) (hq : Calls Tryz.prog 196 #[.slice v n cap, .int .i64 0, .int .i64 n, f] w Z) (hZ : ∀ e w', Z e w' → e = .returned (.tuple #[])) :
    Calls Tryz.prog 142 #[.slice v n cap, f] w Z := by
  have q := Lib.hid (fun l => pdq_any (l := l) hn hq hZ)
  have hl := Lib.hid (len_small n hn w)
  have hZ' := Lib.hid hZ
  clear hq hZ
  go_enter Tryz.func142, Tryz.ntmps142
  go_wp2_with fail
  refine hl.out.mono ?_
  rintro e w' ⟨⟨z, rfl⟩, rfl⟩
  go_wp2_with fail
  refine (q.out z).mono ?_
  intro e w' hz
  have he := hZ'.out e w' hz
  subst he
  have hz' := Lib.hid hz
  clear hz
  go_wp2
  go_end0
  exact hz'.out
/-- An iterator over a row of numbers. -/
def SeqEnd (w : World) (L : List Nat) (e : Ending) (w' : World) : Prop :=
  ∃ (Y : Nat) (A : Option Addr) (cap : Nat) (h : Option Nat), e = .returned (.func (.func 181) #[] #[.pointer (some ⟨Y, 0, none⟩)]) ∧ w'.heap[Y]? = some (.cells [Value.slice A L.length cap].toArray 24 (0, 0)) ∧ Win w' 3 1 (.slice A L.length cap) h L.length (dat L) ∧
    w.heap.size ≤ Y ∧ (∀ b, h = some b → w.heap.size ≤ b) ∧ Only (fun _ => False) w w'
theorem values_any (w : World) (A : Option Addr) (m cap : Nat) : Calls Tryz.prog 145 #[.slice A m cap] w fun e w' => e = .returned (.func (.func 181) #[] #[.pointer (some ⟨w.heap.size, 0, none⟩)]) ∧ w' = w.alloc (.cells #[.slice A m cap] 24) := by
  have hmf : ∀ (fn : Fn) (first cap : Array Value) (w : World), (Instr.makeFunc fn first cap).run Tryz.prog w = .ok (.func fn first cap) w := fun _ _ _ _ => rfl
  go_enter Tryz.func145, Tryz.ntmps145
  go_wp2
  go_ret
  exact ⟨rfl, rfl⟩
/-- The order of the tasks; none of tasks that may not be. -/
def ordL (ts : List TaskV) : List Nat := if rightB ts = true then orderUp (prio ts) ts.length else []
theorem wait_dat (n : Nat) : wait 0 n = List.range n := by unfold wait; rw [Nat.sub_zero, List.range_eq_range']
theorem win_row {w : World} {A : Option Addr} {n cap : Nat} {h : Option Nat} {L : List Nat} (hW : Win w 3 1 (.slice A n cap) h n (dat L)) (hn : 0 < n) : ∃ g off pre post, h = some g ∧ A = some ⟨g, off, none⟩ ∧ pre.length = off ∧ RowW w g pre post L ∧ cap ≤ n + post.length ∧ n ≤ cap ∧ cap ≤ maxLen := by
  obtain ⟨hl, p, cap', hv, h1, h2, h3⟩ := hW
  simp only [Value.slice.injEq, true_and] at hv
  obtain ⟨rfl, rfl⟩ := hv
  rcases h3 with ⟨_, h3⟩ | ⟨g, off, M, rfl, rfl, hh, h4, h5⟩
  · omega
  · refine ⟨g, off, M.take off, M.drop (off + n), rfl, rfl, by rw [List.length_take]; omega, ?_, by rw [List.length_drop]; omega, h1, h2⟩
    unfold RowW
    rw [hh]
    congr 3
    rw [← h5, Nat.mul_one, show M.drop (off + n) = (M.drop off).drop n by rw [List.drop_drop], List.take_append_drop, List.take_append_drop]
theorem row_win {w : World} {n cap g off : Nat} {pre post : List Value} {L : List Nat} (hl : L.length = n) (ho : pre.length = off) (hR : RowW w g pre post L) (h1 : n ≤ cap) (h2 : cap ≤ maxLen) (hp : cap ≤ n + post.length) : Win w 3 1 (.slice (some ⟨g, off, none⟩) n cap) (some g) n (dat L) :=
  ⟨by rw [dat_length, hl, Nat.mul_one], _, _, rfl, h1, h2, .inr ⟨g, off, _, rfl, rfl, hR, by rw [List.length_append, List.length_append, dat_length]; omega, by
    rw [← ho, List.drop_left, Nat.mul_one, ← hl, ← dat_length L, List.take_left]⟩⟩
theorem wait_snoc (n : Nat) : List.range (n + 1) = List.range n ++ [n] := List.range_succ
theorem isort_seq {w : World} {q : Nat} {x : Sl} {ts : List TaskV} (hB : BoxAt w q x ts) (h12 : x.n ≤ 12) {A : Option Addr} {cap : Nat} {h : Option Nat} (hW : Win w 3 1 (.slice A x.n cap) h x.n (dat (List.range x.n))) (hq : ∀ b, h = some b → q ≠ b) (hx : ∀ b off, x.A = some ⟨b, off, none⟩ → ts ≠ [] → ¬ h = some b) :
    Calls Tryz.prog 196 #[.slice A x.n cap, .int .i64 0, .int .i64 x.n, .func (.func 143) #[] #[.pointer (some ⟨q, 0, none⟩)]] w (DoneEnd (fun k => some k = h) w (fun w' => Win w' 3 1 (.slice A x.n cap) h x.n (dat (orderUp (prio ts) x.n)))) := by
  by_cases h0 : 0 < x.n
  · obtain ⟨g, off, pre, post, rfl, rfl, hoff, hR, hp, h1, h2⟩ := win_row hW h0
    rw [← wait_dat] at hR
    refine (isort_any (cap := cap) hB (by omega) hoff hR (Nat.le_refl _) h0 (hq g rfl) (fun b off hA hne e => hx b off hA hne (by rw [e]))).mono ?_
    rintro e w' ⟨rfl, hR', hO⟩
    exact ⟨rfl, row_win (order_length _ _) hoff hR' h1 h2 hp, hO.mono (fun _ _ e => by rw [e])⟩
  · have hx0 : x.n = 0 := by omega
    rw [hx0] at hW ⊢
    refine (isort_none w A cap _).mono ?_
    rintro e w' ⟨rfl, rfl⟩
    exact ⟨rfl, hW, Only.refl _ _⟩
set_option maxRecDepth 100000 in
set_option maxHeartbeats 4000000 in
theorem downward_any {w : World} {c : ConfV} {ts : List TaskV} (hT : TasksAt w c.ta ts) (hn : c.ta.n ≤ 9223372036854775807) : Calls Tryz.prog 104 #[c.val] w (SeqEnd w (ordL ts)) := by
  have hmf : ∀ (fn : Fn) (first cap : Array Value) (w : World), (Instr.makeFunc fn first cap).run Tryz.prog w = .ok (.func fn first cap) w := fun _ _ _ _ => rfl
  have hlen := hT.len
  have hO := (Only.refl (fun _ => False) w).alloc (.cells c.cells.toArray 27)
  have hB := heap_new_at w (.cells c.cells.toArray 27) rfl
  obtain ⟨W1, hW1⟩ : ∃ W1, W1 = w.alloc (.cells c.cells.toArray 27) := ⟨_, rfl⟩
  rw [← hW1] at hB hO
  obtain ⟨q, hq⟩ : ∃ q, q = w.heap.size := ⟨_, rfl⟩
  rw [← hq] at hB
  have hsz1 : W1.heap.size = q + 1 := by rw [hW1, hq]; simp
  have hbox := Lib.hid (fun W (ho : Only (fun _ => False) W1 W) => show W.cell? ⟨q, 8, none⟩ = some (.slice c.ta.A c.ta.n c.ta.cap) ∧ q < W.heap.size from
    ⟨row_cell (ho.heap hB (fun h => h)) (i := 8) rfl, row_lt (ho.heap hB (fun h => h))⟩)
  have hmay := Lib.hid (mayBe_any (hT.new hO) hn)
  have htlt := Lib.hid (fun b off (hA : c.ta.A = some ⟨b, off, none⟩) (hne : ts ≠ []) => show b < w.heap.size from by
    obtain ⟨b', off', hA', hb, _⟩ := hT.at_ 0 (ts[0]'(List.length_pos_iff.2 hne)) (List.getElem?_eq_getElem _)
    rw [hA] at hA'
    cases hA'
    exact hb)
  rw [show c.val = .agg #[.int .i64 c.s, .int .i64 c.wy, .int .i64 c.h, .int .i64 c.mi, .slice c.mb.A c.mb.n c.mb.cap, .int .i64 c.g, .slice c.cn.A c.cn.n c.cn.cap, .slice c.ce.A c.ce.n c.ce.cap, .slice c.ta.A c.ta.n c.ta.cap, .slice c.li.A c.li.n c.li.cap] from rfl]
  unfold ConfV.cells at hW1
  obtain ⟨s, wy, h, mi, ⟨mA, mn, mc⟩, g, ⟨cA, cn, cc⟩, ⟨eA, en, ec⟩, ⟨tA, tn, tc⟩, ⟨lA, ln, lc⟩⟩ := c
  dsimp only at *
  obtain ⟨RB, hRB⟩ : ∃ RB, RB = rightB ts := ⟨_, rfl⟩
  rw [← hRB] at hmay
  obtain ⟨Z, hZ⟩ : ∃ Z, Z = SeqEnd w (ordL ts) := ⟨_, rfl⟩
  rw [← hZ]
  have hZ' := Lib.hid hZ
  have hW1' := Lib.hid hW1
  have hq' := Lib.hid hq
  have hT' := Lib.hid hT
  have hO' := Lib.hid hO
  have hlen' := Lib.hid hlen
  have hRB' := Lib.hid hRB
  have hsz1' := Lib.hid hsz1
  obtain ⟨e8, el⟩ := hbox.out W1 (Only.refl _ _)
  clear hT hO hlen hB hZ hW1 hq hRB hsz1
  go_enter Tryz.func104, Tryz.ntmps104
  go_wp2_with fail
  rw [← hW1'.out, ← hq'.out]
  refine hmay.out.mono ?_
  rintro e w2 ⟨rfl, ho⟩
  have hO2 := Lib.hid ho
  clear ho e8 el
  obtain ⟨e8, el⟩ := hbox.out w2 hO2.out
  cases RB
  · have hs := Lib.hid (sortf_any (w := w2) (v := none) (n := 0) (cap := 0) (f := .func (.func 143) #[] #[.pointer (some ⟨q, 0, none⟩)]) (Z := fun e w' => e = .returned (.tuple #[]) ∧ w2 = w') (by omega) (isort_none w2 none 0 _) (fun e w' h => h.1))
    have hord := Lib.hid (show ordL ts = [] by rw [ordL, ← hRB'.out]; rfl)
    go_wp2_with fail
    refine hs.out.mono ?_
    rintro e w3 ⟨rfl, rfl⟩
    go_wp2_with fail
    refine (values_any w2 none 0 0).mono ?_
    rintro e w4 ⟨rfl, hw4⟩
    have hw4' := Lib.hid hw4
    clear hw4
    go_wp2
    rw [hZ'.out, hord.out]
    have hOw := hO'.out.trans' hO2.out
    refine ⟨w2.heap.size, none, 0, none, rfl, ?_, Win.nil _ _ _, hOw.size, (fun b hb => by cases hb), ?_⟩
    · rw [hw4'.out]; exact heap_new_at _ _ rfl
    · rw [hw4'.out]; exact hOw.alloc _
  · have h12 : tn ≤ 12 := by
      have := hRB'.out
      rw [rightB] at this
      have := (of_decide_eq_true this.symm).1
      have := hlen'.out
      omega
    have hord := Lib.hid (show ordL ts = orderUp (prio ts) tn by rw [ordL, ← hRB'.out, if_pos rfl, hlen'.out])
    go_wp2
    go_loopw [3, 4, 11] (fun u3 _ u11 wr => ∃ (k : Nat) (A : Option Addr) (cap : Nat) (hh : Option Nat), u11 = .int .i64 k ∧ k ≤ tn ∧ u3 = .slice A k cap ∧ Hid (Win wr 3 1 (.slice A k cap) hh k (dat (List.range k))) ∧ Hid (∀ b, hh = some b → w2.heap.size ≤ b) ∧ Hid (Only (fun _ => False) w2 wr)) (fun _ _ i _ => (tn - intOf i).toNat)
    case atStart => exact ⟨0, none, 0, none, rfl, Nat.zero_le _, rfl, Lib.hid (Win.nil _ _ _), Lib.hid (fun b hb => by cases hb), Only.refl _ _⟩
    case round =>
      obtain ⟨k, A, cap, hh, rfl, hk, rfl, hW, hf, hOr⟩ := hrel
      obtain ⟨ws, hws⟩ : ∃ ws : World, ws = wr := ⟨_, rfl⟩
      subst hws
      by_cases hkn : k < tn
      · have hkn' : (k : Int) < tn := by omega
        go_wp2_with (at_builtin; (refine wpList_append_win rfl _ _ 24 rfl 3 (Value.int .i64 0) 1 8 Tryz.underlying24 info3 rfl (by decide) rfl (hW.out.kept ((Only.refl (fun _ => False) _).alloc _) (fun _ _ h => h)) _ 1 1 rfl [.int .i64 (k : Int)] rfl (fun _ => ⟨_, rfl, row_one (heap_new_at _ _ (by simp))⟩) (by simp [Value.oneCell']) (by unfold maxLen; omega) (by omega) ?_; intro v4 w6 h4 hW4 hO4' hh4; obtain ⟨p4, c4, rfl, _, _⟩ := hW4.out.form))
        go_roundw
        case rel =>
          have hst := step_fresh (hOr.out.alloc (.cells #[.int .i64 (k : Int)] 3)) hO4'.out hf.out hh4.out
          refine ⟨k + 1, p4, c4, h4, by go_num, by omega, rfl, ?_, Lib.hid hst.2, Lib.hid hst.1⟩
          have := hW4.out
          rw [show dat (List.range k) ++ [Value.int .i64 (k : Int)] = dat (List.range (k + 1)) by rw [List.range_succ, dat, dat, List.map_append]; rfl] at this
          exact Lib.hid this
        case measure => simp [intOf]; omega
      · obtain rfl : k = tn := by omega
        have hOw := hO'.out.trans' (hO2.out.trans' hOr.out)
        have hBx : BoxAt ws q ⟨tA, k, tc⟩ ts := ⟨(hbox.out ws (hO2.out.trans' hOr.out)).1, (hbox.out ws (hO2.out.trans' hOr.out)).2, hT'.out.new hOw⟩
        have hqw : q < w2.heap.size := el
        have hww : w.heap.size ≤ w2.heap.size := (hO'.out.trans' hO2.out).size
        have hs := sortf_any (n := k) h12 (isort_seq hBx h12 hW.out (fun b hb e => by have := hf.out b hb; omega) (fun b off hA hne e => by have := hf.out b e; have := htlt.out b off hA hne; omega)) (fun e w' h => h.1)
        have hs' := Lib.hid hs
        have hOw' := Lib.hid hOw
        have hww' := Lib.hid hww
        clear hBx hs hOw hqw hww e8 el
        go_wp2_with fail
        refine hs'.out.mono ?_
        rintro e w3 ⟨rfl, hW3, hO3⟩
        have hW3' := Lib.hid hW3
        have hO3' := Lib.hid (show Only (fun _ => False) w w3 from hOw'.out.trans hO3 (fun x hx e => by have := hf.out x e.symm; have := hww'.out; omega))
        clear hW3 hO3 hs'
        go_wp2_with fail
        refine (values_any w3 A k cap).mono ?_
        rintro e w4 ⟨rfl, hw4⟩
        have hw4' := Lib.hid hw4
        clear hw4
        go_wp2
        rw [hZ'.out, hord.out]
        refine ⟨w3.heap.size, A, cap, hh, rfl, ?_, ?_, hO3'.out.size, (fun b hb => by have := hf.out b hb; have := hww'.out; omega), ?_⟩
        · rw [hw4'.out, order_length]; exact heap_new_at _ _ rfl
        · rw [hw4'.out, order_length]; exact hW3'.out.kept ((Only.refl (fun _ => False) _).alloc _) (fun _ _ h => h)
        · rw [hw4'.out]; exact hO3'.out.alloc _
end Bch
end Go.Proofs.YtlbinlhaejhobaaGreatDoor
