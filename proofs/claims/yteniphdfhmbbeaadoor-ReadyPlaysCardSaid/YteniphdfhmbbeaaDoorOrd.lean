/- The reference's Order: tasks by their priorities, the highest first. -/
import Derived.Test.YteniphdfhmbbeaaDoorConf8
import Derived.Test.YteniphdfhmbbeaaDoorWin
import Derived.BigRegion
import Derived.Deep.DrawnRows
import Derived.RegionCalls
import Derived.Deep.RegionLaw
namespace Go.Proofs.YteniphdfhmbbeaaDoor
open Go Go.RowKit

/-- The priority of a task. -/
def prio (ts : List TaskV) (k : Nat) : Int := (ts.map (·.p)).getD k 0
theorem prio_at {ts : List TaskV} {k : Nat} {t : TaskV} (h : ts[k]? = some t) : prio ts k = t.p := by
  unfold prio
  rw [List.getD_eq_getElem?_getD, List.getElem?_map, h]
  rfl
def ins (p : Nat → Int) (x : Nat) : List Nat → List Nat
  | [] => [x]
  | y :: l => if p x ≤ p y then y :: ins p x l else x :: y :: l
def orderUp (p : Nat → Int) : Nat → List Nat
  | 0 => []
  | n + 1 => ins p n (orderUp p n)
theorem ins_split {p : Nat → Int} {x : Nat} {B : List Nat} (hB : ∀ y ∈ B, p y < p x) : ∀ {A : List Nat}, (∀ y ∈ A, p x ≤ p y) → ins p x (A ++ B) = A ++ x :: B
  | [], _ => by
    cases B with
    | nil => rfl
    | cons y B =>
      have := hB y (by simp)
      show ins p x (y :: B) = x :: y :: B
      unfold ins
      rw [if_neg (by omega)]
  | a :: A, h => by
    show ins p x (a :: (A ++ B)) = a :: (A ++ x :: B)
    unfold ins
    rw [if_pos (h a (by simp)), ins_split hB (fun y hy => h y (by simp [hy]))]
theorem ins_mem {p : Nat → Int} {x y : Nat} : ∀ {l : List Nat}, y ∈ ins p x l ↔ y = x ∨ y ∈ l
  | [] => by simp [ins]
  | a :: l => by
    unfold ins
    by_cases h : p x ≤ p a
    · rw [if_pos h, List.mem_cons, ins_mem, List.mem_cons]
      constructor <;> (intro h; rcases h with h | h | h <;> simp [h])
    · rw [if_neg h, List.mem_cons]
theorem ins_length {p : Nat → Int} {x : Nat} : ∀ (l : List Nat), (ins p x l).length = l.length + 1
  | [] => rfl
  | a :: l => by
    unfold ins
    by_cases h : p x ≤ p a
    · rw [if_pos h]; simp [ins_length l]
    · rw [if_neg h]; rfl
theorem ins_sorted {p : Nat → Int} {x : Nat} : ∀ {l : List Nat}, l.Pairwise (fun a b => p b ≤ p a) → (ins p x l).Pairwise (fun a b => p b ≤ p a)
  | [], _ => by simp [ins]
  | a :: l, h => by
    rw [List.pairwise_cons] at h
    unfold ins
    by_cases hx : p x ≤ p a
    · rw [if_pos hx, List.pairwise_cons]
      refine ⟨fun y hy => ?_, ins_sorted h.2⟩
      rcases ins_mem.1 hy with rfl | hy
      · exact hx
      · exact h.1 y hy
    · rw [if_neg hx, List.pairwise_cons, List.pairwise_cons]
      refine ⟨fun y hy => ?_, h.1, h.2⟩
      rcases List.mem_cons.1 hy with rfl | hy
      · omega
      · have := h.1 y hy; omega
theorem order_length (p : Nat → Int) : ∀ n, (orderUp p n).length = n
  | 0 => rfl
  | n + 1 => by unfold orderUp; rw [ins_length, order_length p n]
theorem order_lt {p : Nat → Int} : ∀ {n y : Nat}, y ∈ orderUp p n → y < n
  | 0, y, h => by simp [orderUp] at h
  | n + 1, y, h => by
    unfold orderUp at h
    rcases ins_mem.1 h with rfl | h
    · omega
    · have := order_lt h; omega
theorem order_sorted (p : Nat → Int) : ∀ n, (orderUp p n).Pairwise (fun a b => p b ≤ p a)
  | 0 => List.Pairwise.nil
  | n + 1 => ins_sorted (order_sorted p n)

def dat (L : List Nat) : List Value := L.map (fun (k : Nat) => Value.int .i64 (k : Int))
theorem dat_set (L : List Nat) (i k : Nat) : (dat L).set i (.int .i64 (k : Int)) = dat (L.set i k) := by unfold dat; rw [List.map_set]
theorem dat_at {L : List Nat} {i k : Nat} (h : L[i]? = some k) : (dat L)[i]? = some (.int .i64 (k : Int)) := by unfold dat; rw [List.getElem?_map, h]; rfl
def RowAt (w : World) (g : Nat) (L : List Nat) : Prop := w.heap[g]? = some (.cells (dat L).toArray 3 (0, 0))
theorem RowAt.cell {w : World} {g : Nat} {L : List Nat} (h : RowAt w g L) {i k : Nat} (hk : L[i]? = some k) : w.cell? ⟨g, i, none⟩ = some (.int .i64 (k : Int)) := row_cell h (dat_at hk)
theorem RowAt.set {w : World} {g : Nat} {L : List Nat} (h : RowAt w g L) (i k : Nat) : RowAt (w.setCell ⟨g, i, none⟩ (.int .i64 (k : Int))) g (L.set i k) := by
  unfold RowAt
  rw [← dat_set]
  exact row_set h i _

def upto (p : Nat → Int) (x : Nat) : List Nat → Nat
  | [] => 0
  | y :: l => if p x ≤ p y then upto p x l + 1 else 0
theorem upto_le (p : Nat → Int) (x : Nat) : ∀ l, upto p x l ≤ l.length
  | [] => Nat.le_refl _
  | y :: l => by
    unfold upto
    have := upto_le p x l
    split <;> simp <;> omega
theorem ins_upto (p : Nat → Int) (x : Nat) : ∀ l, ins p x l = l.take (upto p x l) ++ x :: l.drop (upto p x l)
  | [] => rfl
  | y :: l => by
    unfold ins upto
    by_cases h : p x ≤ p y
    · rw [if_pos h, if_pos h, ins_upto p x l]; rfl
    · rw [if_neg h, if_neg h]; rfl
theorem upto_spec (p : Nat → Int) (x : Nat) : ∀ l, (∀ j, j < upto p x l → ∃ y, l[j]? = some y ∧ p x ≤ p y) ∧ (upto p x l < l.length → ∃ y, l[upto p x l]? = some y ∧ p y < p x)
  | [] => ⟨fun j hj => absurd hj (by simp [upto]), fun h => by simp at h⟩
  | y :: l => by
    obtain ⟨i1, i2⟩ := upto_spec p x l
    unfold upto
    by_cases h : p x ≤ p y
    · rw [if_pos h]
      refine ⟨fun j hj => ?_, fun hl => i2 (by simp at hl; omega)⟩
      cases j with
      | zero => exact ⟨y, rfl, h⟩
      | succ j => exact i1 j (by omega)
    · rw [if_neg h]
      exact ⟨fun j hj => absurd hj (by omega), fun _ => ⟨y, rfl, by omega⟩⟩
theorem ord_only {w w' : World} (h : Only (fun k => some k = none) w w') : Only (fun _ => False) w w' := h.mono (fun _ _ e => by cases e)
theorem dat_one (L : List Nat) : ∀ u ∈ dat L, u.oneCell' = true := by
  intro u hu
  unfold dat at hu
  obtain ⟨k, _, rfl⟩ := List.mem_map.1 hu
  rfl
theorem row_one {w : World} {X : Nat} {a : Value} {e : TypeId} (h : w.heap[X]? = some (.cells #[a] e (0, 0))) : ∀ j u, [a][j]? = some u → w.cell? ((⟨X, 0, none⟩ : Addr).add j) = some u := fun j u hu => by
  rw [Addr.add_lit, Nat.zero_add]
  exact row_cell (L := [a]) h hu
theorem info3 : (Tryd.prog.info? 3).map (fun i => (i.zero, i.size, i.bytes)) = some (some (Value.int .i64 0), 1, 8) := by kernel_rfl
theorem dat_length (L : List Nat) : (dat L).length = L.length := by simp [dat]

/-- What the reference's Order answers. -/
def ROrdEnd (w : World) (p : Nat → Int) (n : Nat) (e : Ending) (w' : World) : Prop :=
  ∃ A cap h, e = .returned (.slice A n cap) ∧ Win w' 3 1 (.slice A n cap) h n (dat (orderUp p n)) ∧ (∀ b, h = some b → w.heap.size ≤ b) ∧ Only (fun _ => False) w w'
set_option maxRecDepth 100000 in
set_option maxHeartbeats 8000000 in
theorem rorder_any {w : World} {c : ConfV} {ts : List TaskV} (hT : TasksAt w c.ta ts) (h20 : c.ta.n ≤ 20) : Calls Tryd.prog 12 #[c.val] w (ROrdEnd w (prio ts) c.ta.n) := by
  obtain ⟨p, hp⟩ : ∃ p, p = prio ts := ⟨_, rfl⟩
  have hpr := Lib.hid (fun (k : Nat) (t : TaskV) (ht : ts[k]? = some t) => show p k = t.p by rw [hp]; exact prio_at ht)
  rw [← hp]
  have hO := (Only.refl (fun _ => False) w).alloc (.cells c.cells.toArray 27)
  have hB := heap_new_at w (.cells c.cells.toArray 27) rfl
  obtain ⟨W1, hW1⟩ : ∃ W1, W1 = w.alloc (.cells c.cells.toArray 27) := ⟨_, rfl⟩
  have e8 := row_cell hB (i := 8) rfl
  have hqlt := row_lt hB
  rw [← hW1] at e8 hqlt hO
  obtain ⟨q, hq⟩ : ∃ q, q = w.heap.size := ⟨_, rfl⟩
  rw [← hq] at e8 hqlt
  unfold ConfV.cells at hW1
  have hT' := Lib.hid hT
  have hlen := hT.len
  rw [show c.val = .agg #[.int .i64 c.s, .int .i64 c.wy, .int .i64 c.h, .int .i64 c.mi, .slice c.mb.A c.mb.n c.mb.cap, .int .i64 c.g, .slice c.cn.A c.cn.n c.cn.cap, .slice c.ce.A c.ce.n c.ce.cap, .slice c.ta.A c.ta.n c.ta.cap, .slice c.li.A c.li.n c.li.cap] from rfl]
  obtain ⟨s, wy, h, mi, ⟨mA, mn, mc⟩, g, ⟨cA, cn, cc⟩, ⟨eA, en, ec⟩, ⟨tA, n, tc⟩, ⟨lA, ln, lc⟩⟩ := c
  simp only at *
  have hW1' := Lib.hid hW1
  have hO' := Lib.hid hO
  have hq' := Lib.hid hq
  have hlen' := Lib.hid hlen
  clear hT hB hW1 hO hq hp hlen
  go_enter Tryd.func12, Tryd.ntmps12
  go_wp2
  rw [← hW1'.out, ← hq'.out]
  have hfirst := Lib.hid (fun W (hW : Only (fun _ => False) W1 W) => show Only (fun _ => False) w W ∧ w.heap.size ≤ W1.heap.size from ⟨hO'.out.trans' hW, hO'.out.size⟩)
  clear hO'
  go_loopw [3, 10] (fun v i wr => ∃ (k : Nat) (V : Value) (h : Option Nat), k ≤ n ∧ v = V ∧ i = .int .i64 k ∧ Win wr 3 1 V h k (dat (orderUp p k)) ∧ (∀ b, h = some b → W1.heap.size ≤ b) ∧ Only (fun _ => False) W1 wr) (fun _ i _ => n - (intOf i).toNat)
  case atStart => exact ⟨0, _, none, Nat.zero_le _, rfl, rfl, Win.nil _ _ _, (fun b hb => by cases hb), Only.refl _ W1⟩
  case round =>
    obtain ⟨k, V, h, hk, rfl, rfl, hW, hf, hOk⟩ := hrel
    obtain ⟨wo, hwo⟩ : ∃ wo, wo = wr := ⟨_, rfl⟩
    subst hwo
    obtain ⟨A, cap, rfl, hcap, hcm⟩ := hW.form
    have hW' := Lib.hid hW
    have hf' := Lib.hid hf
    have hOk' := Lib.hid hOk
    replace e8 := hOk.cell e8 (fun h => h)
    replace hqlt := Nat.lt_of_lt_of_le hqlt hOk.size
    clear hW hf hOk
    by_cases hkn : k < n
    · have hkn' : (k : Int) < (n : Int) := by omega
      obtain ⟨t, ht⟩ : ∃ t, ts[k]? = some t := ⟨_, List.getElem?_eq_getElem (by have := hlen'.out; omega)⟩
      obtain ⟨bb, off, hA, hb, hC⟩ := hT'.out.at_ k t ht
      simp only at hA
      subst hA
      have hwk := (hfirst.out _ hOk'.out).1
      obtain ⟨c0, c1, c2, c3, c4, c5, c6⟩ := hC.new hwk
      have hb3 := Nat.lt_of_lt_of_le hb hwk.size
      have htp := hpr.out k t ht
      obtain ⟨l, hl⟩ : ∃ l, l = orderUp p k := ⟨_, rfl⟩
      have hll : l.length = k := by rw [hl, order_length]
      have hlt : ∀ y ∈ l, y < k := fun y hy => order_lt (p := p) (by rw [← hl]; exact hy)
      obtain ⟨J, hJ⟩ : ∃ J, J = upto p k l := ⟨_, rfl⟩
      have hJk : J ≤ k := by rw [hJ]; have := upto_le p k l; omega
      obtain ⟨hu1, hu2⟩ := upto_spec p k l
      rw [← hJ] at hu1 hu2
      have hins : dat (orderUp p (k + 1)) = [] ++ dat (l.take J) ++ [.int .i64 (k : Int)] ++ dat (l.drop J) := by
        show dat (ins p k (orderUp p k)) = _
        rw [← hl, ins_upto, ← hJ]
        simp [dat]
      rw [← hl] at hW'
      have hWt := hW'.out.take (k := J) hJk
      obtain ⟨hd, hWd, _⟩ := hW'.out.drop (k := J) hJk
      rw [show (dat l).take (J * 1) = dat (l.take J) by simp [dat, List.map_take]] at hWt
      rw [show (dat l).drop (J * 1) = dat (l.drop J) by simp [dat, List.map_drop]] at hWd
      have l1 : (dat (l.take J)).length = J * 1 := by rw [dat_length, List.length_take, hll]; omega
      have l2 : (dat (l.drop J)).length = (k - J) * 1 := by rw [dat_length, List.length_drop, hll]; omega
      have hH := Lib.hid (And.intro l1 l2)
      have hi1 : (J : Int) ≤ (cap : Int) := by omega
      have hi3 : (J : Int) ≤ (k : Int) := by omega
      have hWt' := Lib.hid hWt
      have hWd' := Lib.hid hWd
      have hins' := Lib.hid hins
      have hu1' := Lib.hid hu1
      have hu2' := Lib.hid hu2
      have hlt' := Lib.hid hlt
      have hJ' := Lib.hid hJ
      have hl' := Lib.hid hl
      have hll' := Lib.hid hll
      have htp' := Lib.hid htp
      clear hC ht hb hwk hl hll hlt hJ hu1 hu2 hins hWt hWd l1 l2 htp
      obtain ⟨tp, tth, tpe, tde, tfr, tfl, ⟨oA, on, oc⟩⟩ := t
      simp only at *
      go_wp2
      obtain ⟨B, hBe⟩ : ∃ B, B = wo.heap.size := ⟨_, rfl⟩
      rw [← hBe]
      have hBe' := Lib.hid hBe
      clear hBe
      have hst := Lib.hid (show ∀ o : List Value, (wo.alloc (.cells o.toArray 53)).heap[B]? = some (.cells o.toArray 53 (0, 0)) from fun o => heap_new_at wo _ hBe'.out.symm)
      go_loopw [6] (fun i wq => ∃ j : Nat, j ≤ J ∧ i = .int .i64 j ∧ Only (fun _ => False) wo wq ∧ wq.cell? ⟨B, 0, none⟩ = some (.int .i64 tp) ∧ B < wq.heap.size) (fun i _ => J - (intOf i).toNat)
      case atStart => exact ⟨0, Nat.zero_le _, rfl, (Only.refl _ wo).alloc _, row_cell (hst.out [.int .i64 tp, .int .i64 tth, .int .i64 tpe, .int .i64 tde, .int .i64 tfr, .int .i64 tfl, .slice oA on oc]) (i := 0) rfl, row_lt (hst.out [.int .i64 tp, .int .i64 tth, .int .i64 tpe, .int .i64 tde, .int .i64 tfr, .int .i64 tfl, .slice oA on oc])⟩
      case round =>
        obtain ⟨j, hj, rfl, hOq, d0, hBl⟩ := hrel
        have hOq' := Lib.hid hOq
        replace e8 := hOq.cell e8 (fun h => h)
        replace hqlt := Nat.lt_of_lt_of_le hqlt hOq.size
        replace hb3 := Nat.lt_of_lt_of_le hb3 hOq.size
        clear hOq c0 c1 c2 c3 c4 c5 c6
        by_cases hjJ : j < J
        · obtain ⟨y, hy, hpy⟩ := hu1'.out j hjJ
          have hyk := hlt'.out y (List.mem_of_getElem? hy)
          obtain ⟨u, hu⟩ : ∃ u, ts[y]? = some u := ⟨_, List.getElem?_eq_getElem (by have := hlen'.out; omega)⟩
          have hup := hpr.out y u hu
          obtain ⟨b2, off2, hA2, hb2, hD⟩ := hT'.out.at_ y u hu
          simp only at hA2
          cases hA2
          have u0 := ((hfirst.out _ hOk'.out).1.trans' hOq'.out).cell hD.c0 (fun h => h)
          obtain ⟨gg, goff, capp, _, hv, _, _, hgl, hgc, _⟩ := (hW'.out.kept hOq'.out (fun _ _ h => h)).at_ (by omega)
          cases hv
          have g0 := hgc j _ (dat_at hy)
          have hjn : (j : Int) < (k : Int) := by omega
          have hyn : (y : Int) < (n : Int) := by omega
          have htu := htp'.out
          clear hu hD hgc hy hst
          obtain ⟨up, uth, upe, ude, ufr, ufl, uo⟩ := u
          simp only at *
          have hge : tp ≤ up := by omega
          clear htu hup hpy
          go_wp2
          go_quiet (fail)
          go_wp2
          go_roundw
          case rel => exact ⟨j + 1, by omega, by go_num, hOq'.out.drewN _, by first | exact d0 | simpa using d0, by first | exact hBl | simpa using hBl⟩
          case measure => simp [intOf]; omega
        · obtain rfl : j = J := by omega
          by_cases hjk : j < k
          · obtain ⟨y, hy, hpy⟩ := hu2'.out (by have := hll'.out; omega)
            have hyk := hlt'.out y (List.mem_of_getElem? hy)
            obtain ⟨u, hu⟩ : ∃ u, ts[y]? = some u := ⟨_, List.getElem?_eq_getElem (by have := hlen'.out; omega)⟩
            have hup := hpr.out y u hu
            obtain ⟨b2, off2, hA2, hb2, hD⟩ := hT'.out.at_ y u hu
            simp only at hA2
            cases hA2
            have u0 := ((hfirst.out _ hOk'.out).1.trans' hOq'.out).cell hD.c0 (fun h => h)
            obtain ⟨gg, goff, capp, _, hv, _, _, hgl, hgc, _⟩ := (hW'.out.kept hOq'.out (fun _ _ h => h)).at_ (by omega)
            cases hv
            have g0 := hgc j _ (dat_at hy)
            have hjn : (j : Int) < (k : Int) := by omega
            have hyn : (y : Int) < (n : Int) := by omega
            have htu := htp'.out
            clear hu hD hgc hy hst
            obtain ⟨up, uth, upe, ude, ufr, ufl, uo⟩ := u
            simp only at *
            have hge : ¬ tp ≤ up := by omega
            have hcj : ¬ cap = j := by omega
            have s1 := Lib.hid (fun W (hW : Only (fun _ => False) wr W) => (hWt'.out.kept (hOq'.out.trans' hW) (fun _ _ h => h)).src)
            have s3 := Lib.hid (fun W (hW : Only (fun _ => False) wr W) (h0 : 0 < k - j) => show ∃ ad, some (⟨gg, goff + j, none⟩ : Addr) = some ad ∧ ∀ i u, (dat (l.drop j))[i]? = some u → W.cell? (ad.add i) = some u from by
              have := (hWd'.out.kept (hOq'.out.trans' hW) (fun _ _ h => h)).src h0
              rw [if_neg hcj] at this
              simpa [Addr.add_lit] using this)
            clear htu hup hpy
            go_wp2
            go_quiet (fail)
            go_wp2
            go_region_law (first
              | (refine step_append_win rfl (.tmp 35) (.tmp 38) 24 rfl 3 (.int .i64 0) 1 8 Tryd.underlying24 info3 rfl (by decide) (v := .slice _ 0 0) (by rfl) (Win.empty _ 3 1 _) _ j cap (by rfl) (dat (l.take j)) hH.out.1 (s1.out _ (by repeat (first | exact Only.refl _ _ | refine Only.drew ?_ | refine Only.drewN ?_ _ | refine Only.alloc ?_ _))) (dat_one _) (by unfold maxLen; omega) (by omega) ?_; intro v1 w1 h1 hW1 hO1 hh1; have q1 := Lib.hid (step_fresh (w := wr) (by repeat (first | exact Only.refl _ _ | refine Only.drew ?_ | refine Only.drewN ?_ _ | refine Only.alloc ?_ _)) hO1.out (fun k h => by cases h) hh1.out))
              | (refine step_append_win rfl (.tmp 39) (.tmp 41) 24 rfl 3 (.int .i64 0) 1 8 Tryd.underlying24 info3 rfl (by decide) (v := v1) (by rfl) (by first | exact hW1.out | exact hW1.out.kept ((Only.refl (fun _ => False) _).alloc _) (fun _ _ h => h)) _ 1 1 (by rfl) [.int .i64 (k : Int)] rfl (fun _ => ⟨_, rfl, (by first | exact row_one (heap_new_at _ _ rfl) | exact row_one ((ord_only hO1.out).heap (heap_new_at _ _ (by simp)) (fun h => h)) | exact row_one ((ord_only hO1.out).heap (heap_kept_alloc (heap_new_at _ _ rfl) _) (fun h => h)))⟩) (by intro u hu; simp at hu; subst hu; rfl) (by unfold maxLen; omega) (by omega) ?_; intro v2 w2 h2 hW2 hO2 hh2; have q2 := Lib.hid (step_fresh (by first | exact q1.out.1 | exact q1.out.1.alloc _) hO2.out q1.out.2 hh2.out))
              | (refine step_append_win rfl (.tmp 42) (.tmp 45) 24 rfl 3 (.int .i64 0) 1 8 Tryd.underlying24 info3 rfl (by decide) (v := v2) (by rfl) hW2.out _ (k - j) _ (by rfl) (dat (l.drop j)) (hH.out.2) (s3.out _ q2.out.1) (dat_one _) (by unfold maxLen; omega) (by omega) ?_; intro v3 w3 h3 hW3 hO3 hh3; have q3 := Lib.hid (step_fresh q2.out.1 hO3.out q2.out.2 hh3.out)))
            all_goals go_wp2
            all_goals
              have hW3' := hW3.out
              rw [show 0 + j + 1 + (k - j) = k + 1 by omega] at hW3'
              obtain ⟨p3, c3, rfl, _⟩ := hW3'.form
              rw [← hins'.out] at hW3'
              have hfin := Lib.hid (And.intro hW3' (And.intro q3.out.1 q3.out.2))
              clear hW3' hW1 hW2 hW3 hO1 hO2 hO3 hh1 hh2 hh3 q1 q2 q3
              go_roundw
              case rel => exact ⟨k + 1, _, h3, by omega, rfl, by go_num, hfin.out.1, fun b hb => by have := hfin.out.2.2 b hb; have := hOq'.out.size; have := hOk'.out.size; omega, hOk'.out.trans' (hOq'.out.trans' hfin.out.2.1)⟩
              case measure => simp [intOf]; omega
          · obtain rfl : j = k := by omega
            have hjn : ¬ (j : Int) < (j : Int) := by omega
            have s1 := Lib.hid (fun W (hW : Only (fun _ => False) wr W) => (hWt'.out.kept (hOq'.out.trans' hW) (fun _ _ h => h)).src)
            go_wp2
            go_quiet (fail)
            go_wp2
            go_region_law (first
              | (refine step_append_win rfl (.tmp 35) (.tmp 38) 24 rfl 3 (.int .i64 0) 1 8 Tryd.underlying24 info3 rfl (by decide) (v := .slice _ 0 0) (by rfl) (Win.empty _ 3 1 _) _ j cap (by rfl) (dat (l.take j)) hH.out.1 (s1.out _ (by repeat (first | exact Only.refl _ _ | refine Only.drew ?_ | refine Only.drewN ?_ _ | refine Only.alloc ?_ _))) (dat_one _) (by unfold maxLen; omega) (by omega) ?_; intro v1 w1 h1 hW1 hO1 hh1; have q1 := Lib.hid (step_fresh (w := wr) (by repeat (first | exact Only.refl _ _ | refine Only.drew ?_ | refine Only.drewN ?_ _ | refine Only.alloc ?_ _)) hO1.out (fun k h => by cases h) hh1.out))
              | (refine step_append_win rfl (.tmp 39) (.tmp 41) 24 rfl 3 (.int .i64 0) 1 8 Tryd.underlying24 info3 rfl (by decide) (v := v1) (by rfl) (by first | exact hW1.out | exact hW1.out.kept ((Only.refl (fun _ => False) _).alloc _) (fun _ _ h => h)) _ 1 1 (by rfl) [.int .i64 (j : Int)] rfl (fun _ => ⟨_, rfl, (by first | exact row_one (heap_new_at _ _ rfl) | exact row_one ((ord_only hO1.out).heap (heap_new_at _ _ (by simp)) (fun h => h)) | exact row_one ((ord_only hO1.out).heap (heap_kept_alloc (heap_new_at _ _ rfl) _) (fun h => h)))⟩) (by intro u hu; simp at hu; subst hu; rfl) (by unfold maxLen; omega) (by omega) ?_; intro v2 w2 h2 hW2 hO2 hh2; have q2 := Lib.hid (step_fresh (by first | exact q1.out.1 | exact q1.out.1.alloc _) hO2.out q1.out.2 hh2.out))
              | (refine step_append_win rfl (.tmp 42) (.tmp 45) 24 rfl 3 (.int .i64 0) 1 8 Tryd.underlying24 info3 rfl (by decide) (v := v2) (by rfl) hW2.out _ 0 _ (by rfl) (dat []) (rfl) (fun h => absurd h (by omega)) (dat_one _) (by unfold maxLen; omega) (by omega) ?_; intro v3 w3 h3 hW3 hO3 hh3; have q3 := Lib.hid (step_fresh q2.out.1 hO3.out q2.out.2 hh3.out)))
            all_goals go_wp2
            all_goals
              have hW3' := hW3.out
              rw [show 0 + j + 1 + 0 = j + 1 by omega] at hW3'
              obtain ⟨p3, c3, rfl, _⟩ := hW3'.form
              rw [show dat [] = dat (l.drop j) by rw [List.drop_eq_nil_of_le (by have := hll'.out; omega)]] at hW3'
              rw [← hins'.out] at hW3'
              have hfin := Lib.hid (And.intro hW3' (And.intro q3.out.1 q3.out.2))
              clear hW3' hW1 hW2 hW3 hO1 hO2 hO3 hh1 hh2 hh3 q1 q2 q3
              go_roundw
              case rel => exact ⟨j + 1, _, h3, by omega, rfl, by go_num, hfin.out.1, fun b hb => by have := hfin.out.2.2 b hb; have := hOq'.out.size; have := hOk'.out.size; omega, hOk'.out.trans' (hOq'.out.trans' hfin.out.2.1)⟩
              case measure => simp [intOf]; omega
    · obtain rfl : k = n := by omega
      have hE := Lib.hid (show ROrdEnd w p k (.returned (.slice A k cap)) wo from ⟨A, cap, h, rfl, hW'.out, fun b hb => by have := hf'.out b hb; have := (hfirst.out _ hOk'.out).2; omega, (hfirst.out _ hOk'.out).1⟩)
      go_wp2
      go_ret
      exact hE.out
end Go.Proofs.YteniphdfhmbbeaaDoor
