/- chain: whether more is told of tasks. -/
import Derived.Test.YtdoimkmhincmmaaBcRgt
namespace Go.Proofs.Ytdoimkmhincmmaa
namespace Bch
open Go Go.RowKit
def IdxEnd (v : Bool) (w : World) (e : Ending) (w' : World) : Prop :=
  ∃ z : Int, e = .returned (.int .i64 z) ∧ (0 ≤ z ↔ v = true) ∧ -1 ≤ z ∧ z ≤ 1000000 ∧ Only (fun _ => False) w w'

theorem priority_one {W : World} {p : Nat} {pr : Int} (t : TaskV) (hc : W.cell? ⟨p, 0, none⟩ = some (.int .i64 pr)) (hp : p < W.heap.size) : Calls Try.prog 72 #[t.val, .pointer (some ⟨p, 0, none⟩)] W (GrowB (decide (t.p = pr)) W) := by
  rw [show t.val = .agg #[.int .i64 t.p, .int .i64 t.th, .int .i64 t.pe, .int .i64 t.de, .int .i64 t.fr, .int .i64 t.fl, .slice t.o.A t.o.n t.o.cap] from rfl]
  obtain ⟨v, hv⟩ : ∃ v, v = decide (t.p = pr) := ⟨_, rfl⟩
  rw [← hv]
  have hv' := Lib.hid hv
  clear hv
  obtain ⟨p1, th, pe, de, fr, fl, ⟨oA, on, oc⟩⟩ := t
  simp only at *
  by_cases h : p1 = pr
  · have hz := Lib.hid (show true = v by rw [hv'.out]; simp [h])
    go_enter Try.func72, Try.ntmps72
    go_wp2
    go_ret
    exact retg_bool (by first | exact hz.out | (rw [← hz.out]; first | done | simp [h])) ((Only.refl _ W).alloc _)
  · have hz := Lib.hid (show false = v by rw [hv'.out]; simp [h])
    go_enter Try.func72, Try.ntmps72
    go_wp2
    go_ret
    exact retg_bool (by first | exact hz.out | (rw [← hz.out]; first | done | simp [h])) ((Only.refl _ W).alloc _)

theorem any_not {α : Type} {l : List α} {f : α → Bool} (h : ∀ (k : Nat) t, l[k]? = some t → f t = false) : l.any f = false := by
  rw [List.any_eq_false]
  intro t ht
  obtain ⟨k, hk⟩ := List.getElem?_of_mem ht
  simp [h k t hk]
theorem any_yes {α : Type} {l : List α} {f : α → Bool} {k : Nat} {t : α} (hk : l[k]? = some t) (h : f t = true) : l.any f = true :=
  List.any_eq_true.2 ⟨t, List.mem_of_getElem? hk, h⟩

set_option maxRecDepth 100000 in
theorem indexPr_any {w : World} {x : Sl} {l : List TaskV} (hT : TasksAt w x l) (h9 : x.n ≤ 1000000) {p : Nat} {pr : Int} (hc : w.cell? ⟨p, 0, none⟩ = some (.int .i64 pr)) (hp : p < w.heap.size) :
    Calls Try.prog 81 #[.slice x.A x.n x.cap, .func (.func 72) #[] #[.pointer (some ⟨p, 0, none⟩)]] w (IdxEnd (l.any fun t => decide (t.p = pr)) w) := by
  have q := Lib.hid (fun (W : World) (hW : Only (fun _ => False) w W) (t : TaskV) => priority_one (pr := pr) t (hW.cell hc (fun h => h)) (Nat.lt_of_lt_of_le hp hW.size))
  obtain ⟨A, n, cap⟩ := x
  have hl' := Lib.hid hT
  have hlen := hT.len
  simp only at *
  have hlen' := Lib.hid hlen
  clear hT hlen hc hp
  go_enter Try.func81, Try.ntmps81
  go_wp2
  go_loopw [8] (fun i wr => ∃ k : Nat, k ≤ n ∧ i = .int .i64 k ∧ (∀ (j : Nat) t, j < k → l[j]? = some t → decide (t.p = pr) = false) ∧ Only (fun _ => False) w wr) (fun i _ => n - (intOf i).toNat)
  case atStart => exact ⟨0, Nat.zero_le _, rfl, (fun j z hj => by omega), Only.refl _ w⟩
  case round =>
    obtain ⟨k, hk, rfl, hall, hO⟩ := hrel
    have hall' := Lib.hid hall
    have hO' := Lib.hid hO
    clear hall hO
    by_cases hkn : k < n
    · have hkn' : (k : Int) < (n : Int) := by omega
      obtain ⟨t, ht⟩ : ∃ t, l[k]? = some t := ⟨_, List.getElem?_eq_getElem (by have := hlen'.out; omega)⟩
      obtain ⟨b, off, hA, hb, hC⟩ := hl'.out.at_ k t ht
      simp only at hA
      subst hA
      obtain ⟨c0, c1, c2, c3, c4, c5, c6⟩ := hC.new hO'.out
      clear hC
      have ht' := Lib.hid ht
      clear ht
      have hq := q.out _ hO'.out t
      rw [show t.val = .agg #[.int .i64 t.p, .int .i64 t.th, .int .i64 t.pe, .int .i64 t.de, .int .i64 t.fr, .int .i64 t.fl, .slice t.o.A t.o.n t.o.cap] from rfl] at hq
      obtain ⟨v, hv⟩ : ∃ v, v = decide (t.p = pr) := ⟨_, rfl⟩
      rw [← hv] at hq
      have hv' := Lib.hid hv
      clear hv
      have hq' := Lib.hid hq
      clear hq
      obtain ⟨p1, th, pe, de, fr, fl, ⟨oA, on, oc⟩⟩ := t
      simp only at *
      go_wp2_with fail
      refine (hq'.out).mono ?_
      rintro e w1 ⟨rfl, hO1⟩
      have hO2 := Lib.hid (hO'.out.trans' hO1)
      clear hO1
      clear hq'
      cases hvc : v
      rotate_left
      · rw [hvc] at hv'
        subst hvc
        have hz := Lib.hid (any_yes (l := l) (f := fun t => decide (t.p = pr)) ht'.out (by simp only; exact hv'.out.symm))
        go_wp2
        go_ret
        exact ⟨_, rfl, by rw [hz.out]; simp, by omega, by omega, hO2.out⟩
      · rw [hvc] at hv'
        subst hvc
        have hnx := Lib.hid (show ∀ (j : Nat) y, j < k + 1 → l[j]? = some y → decide (y.p = pr) = false from fun j y hj hy => by
            by_cases hjk : j < k
            · exact hall'.out j y hjk hy
            · obtain rfl : j = k := by omega
              rw [ht'.out] at hy
              cases hy
              exact hv'.out.symm)
        go_wp2
        go_roundw
        case rel => exact ⟨k + 1, by omega, by go_num, hnx.out, hO2.out⟩
        case measure => simp [intOf]; omega
    · obtain rfl : k = n := by omega
      have hz := Lib.hid (any_not (l := l) (f := fun t => decide (t.p = pr)) (fun j z hz => hall'.out j z (by have := (List.getElem?_eq_some_iff.1 hz).1; have := hlen'.out; omega) hz))
      go_wp2
      go_ret
      exact ⟨_, rfl, by rw [hz.out]; simp, by omega, by omega, hO'.out⟩
theorem containsPr_any {w : World} {x : Sl} {l : List TaskV} (hT : TasksAt w x l) (h9 : x.n ≤ 1000000) {p : Nat} {pr : Int} (hc : w.cell? ⟨p, 0, none⟩ = some (.int .i64 pr)) (hp : p < w.heap.size) :
    Calls Try.prog 71 #[.slice x.A x.n x.cap, .func (.func 72) #[] #[.pointer (some ⟨p, 0, none⟩)]] w (GrowB (l.any fun t => decide (t.p = pr)) w) := by
  have q := Lib.hid (indexPr_any hT h9 hc hp)
  obtain ⟨v, hv⟩ : ∃ v, v = (l.any fun t => decide (t.p = pr)) := ⟨_, rfl⟩
  rw [← hv] at q ⊢
  obtain ⟨A, n, cap⟩ := x
  simp only at *
  clear hT hc hp hv
  go_enter Try.func71, Try.ntmps71
  go_wp2_with fail
  refine (q.out).mono ?_
  rintro e w1 ⟨z, rfl, hz, h1, h2, hO⟩
  have hz' := Lib.hid hz
  have hO' := Lib.hid hO
  clear hz hO q
  by_cases h0 : 0 ≤ z
  · have hv := Lib.hid (hz'.out.1 h0)
    go_wp2
    go_ret
    exact retg_bool (by first | exact hv.out.symm | (rw [hv.out]; simp [h0])) hO'.out
  · have hv := Lib.hid (show v = false by have := fun h => h0 (hz'.out.2 h); simpa using this)
    go_wp2
    go_ret
    exact retg_bool (by rw [hv.out]; first | rfl | simp [h0]) hO'.out

theorem okT_any {ts : List TaskV} {i : Nat} {t : TaskV} (ht : ts[i]? = some t) : (∀ k, k < i → prio ts k ≠ prio ts i) ↔ (ts.take i).any (fun u => decide (u.p = t.p)) = false := by
  have hil := (List.getElem?_eq_some_iff.1 ht).1
  constructor
  · intro h
    refine any_not (fun k u hu => ?_)
    have hk : k < i := by have := (List.getElem?_eq_some_iff.1 hu).1; simp at this; omega
    rw [List.getElem?_take_of_lt hk] at hu
    have := h k hk
    rw [prio_at hu, prio_at ht] at this
    exact decide_eq_false this
  · intro h k hk e
    obtain ⟨u, hu⟩ : ∃ u, ts[k]? = some u := ⟨_, List.getElem?_eq_getElem (by omega)⟩
    rw [prio_at hu, prio_at ht] at e
    have := any_yes (l := ts.take i) (f := fun u => decide (u.p = t.p)) (k := k) (t := u) (by rw [List.getElem?_take_of_lt hk]; exact hu) (decide_eq_true e)
    rw [h] at this
    cases this
set_option maxRecDepth 100000 in
set_option maxHeartbeats 4000000 in
theorem mayBe_any {w : World} {x : Sl} {ts : List TaskV} (hT : TasksAt w x ts) (hn : x.n ≤ 9223372036854775807) : Calls Try.prog 62 #[.slice x.A x.n x.cap] w (GrowB (rightB ts) w) := by
  have hlen := hT.len
  obtain ⟨tA, tn, tc⟩ := x
  dsimp only at *
  obtain ⟨V, hV⟩ : ∃ V, V = rightB ts := ⟨_, rfl⟩
  rw [← hV]
  obtain ⟨Z, hZ⟩ : ∃ Z, Z = GrowB V w := ⟨_, rfl⟩
  rw [← hZ]
  have hZ' := Lib.hid hZ
  have hV' := Lib.hid hV
  have hT' := Lib.hid hT
  have hlen' := Lib.hid hlen
  have hcap := hT.cap
  clear hT hlen hV hZ
  have hmf : ∀ (fn : Fn) (first cap : Array Value) (w : World), (Instr.makeFunc fn first cap).run Try.prog w = .ok (.func fn first cap) w := fun _ _ _ _ => rfl
  by_cases h12 : 12 < tn
  · have h12' : (12 : Int) < tn := by omega
    have hz := Lib.hid (show false = V by rw [hV'.out, rightB, decide_eq_false (fun h => by have := hlen'.out; omega)])
    clear h12
    go_enter Try.func62, Try.ntmps62
    go_wp2
    rw [hZ'.out]
    exact ⟨by rw [← hz.out]; first | done | rfl, Only.refl _ _⟩
  have h12' : ¬ (12 : Int) < tn := by omega
  have hbad := Lib.hid (fun i (hi : i < tn) (hno : ¬ okT ts i) => show false = V from by
    rw [hV'.out, rightB, decide_eq_false (fun h => hno (h.2 i (by have := hlen'.out; omega)))])
  go_enter Try.func62, Try.ntmps62
  go_wp2
  go_loopw [3, 4, 5, 11] (fun _ _ _ u11 wr => ∃ i : Nat, u11 = .int .i64 i ∧ i ≤ tn ∧ Hid (∀ k, k < i → okT ts k) ∧ Hid (Only (fun _ => False) w wr)) (fun _ _ _ i _ => (tn - intOf i).toNat)
  case atStart => exact ⟨0, rfl, Nat.zero_le _, Lib.hid (fun k hk => by omega), Only.refl _ _⟩
  case round =>
    obtain ⟨i, rfl, hi, hI, hOr⟩ := hrel
    by_cases hin : i < tn
    · have hin' : (i : Int) < tn := by omega
      obtain ⟨t, ht⟩ : ∃ t, ts[i]? = some t := ⟨_, List.getElem?_eq_getElem (by have := hlen'.out; omega)⟩
      obtain ⟨tb, toff, hA, htl, hC⟩ := (hT'.out.new hOr.out).at_ i t ht
      simp only at hA
      subst hA
      obtain ⟨c0, c1, c2, c3, c4, c5, c6⟩ := hC
      have hp := prio_at ht
      have hth := thr_at ht
      have hfr := frm_at ht
      have hany := Lib.hid (okT_any ht)
      have hbadi := Lib.hid (hbad.out i hin)
      clear ht
      obtain ⟨p1, th1, pe1, de1, fr1, fl1, ⟨oA, on, oc⟩⟩ := t
      dsimp only at *
      have hnum := Lib.hid (And.intro hp (And.intro hth hfr))
      clear hp hth hfr
      go_upto_region 6 with fail
      obtain ⟨Y, hY⟩ : ∃ Y, Y = wr.heap.size := ⟨_, rfl⟩
      obtain ⟨W2, hW2⟩ : ∃ W2, W2 = wr.alloc (Obj.cells #[.int .i64 p1, .int .i64 th1, .int .i64 pe1, .int .i64 de1, .int .i64 fr1, .int .i64 fl1, .slice oA on oc] 38) := ⟨_, rfl⟩
      rw [← hW2, ← hY]
      have hO2 := Lib.hid (show Only (fun _ => False) w W2 by rw [hW2]; exact hOr.out.alloc _)
      have hY2 := Lib.hid (show W2.heap[Y]? = some (.cells [.int .i64 p1, .int .i64 th1, .int .i64 pe1, .int .i64 de1, .int .i64 fr1, .int .i64 fl1, .slice oA on oc].toArray 38 (0, 0)) by rw [hW2]; exact heap_new_at _ _ hY.symm)
      obtain ⟨B, hBB⟩ : ∃ B, B = (ts.take i).any (fun u => decide (u.p = p1)) := ⟨_, rfl⟩
      have hcon := containsPr_any (p := Y) (pr := p1) ((hT'.out.new hO2.out).take (i := i) (Nat.le_of_lt hin)) (by show i ≤ 1000000; omega) (row_cell hY2.out (i := 0) rfl) (row_lt hY2.out)
      rw [← hBB] at hcon hany
      have hcon' := Lib.hid hcon
      have htl2 : tb < W2.heap.size := by rw [hW2]; simp; omega
      clear hW2 hY c0 c1 c2 c3 c4 c5 c6 htl hBB hcon
      go_wp2_with fail
      refine hcon'.out.mono ?_
      rintro e W3 ⟨rfl, ho⟩
      have hO3 := Lib.hid (hO2.out.trans' ho)
      have hY3 := Lib.hid (ho.heap hY2.out (fun h => h))
      have y0 := row_cell hY3.out (i := 0) rfl
      have y1 := row_cell hY3.out (i := 1) rfl
      have y4 := row_cell hY3.out (i := 4) rfl
      have yl := row_lt hY3.out
      clear ho hcon' htl2
      cases B
      rotate_left
      · have hz := Lib.hid (hbadi.out (fun h => by have := hany.out.1 (by exact h.2); cases this))
        go_wp2
        rw [hZ'.out]
        exact ⟨by rw [← hz.out]; first | done | rfl, hO3.out⟩
      by_cases g1 : th1 < p1
      · have hz := Lib.hid (hbadi.out (fun h => by obtain ⟨k1, k2, k3⟩ := hnum.out; unfold okT at h; rw [k1, k2, k3] at h; omega))
        go_wp2
        rw [hZ'.out]
        exact ⟨by rw [← hz.out]; first | done | rfl, hO3.out⟩
      by_cases g2 : fr1 < 0
      · have hz := Lib.hid (hbadi.out (fun h => by obtain ⟨k1, k2, k3⟩ := hnum.out; unfold okT at h; rw [k1, k2, k3] at h; omega))
        go_wp2
        rw [hZ'.out]
        exact ⟨by rw [← hz.out]; first | done | rfl, hO3.out⟩
      by_cases g3 : 1048576 < fr1
      · have hz := Lib.hid (hbadi.out (fun h => by obtain ⟨k1, k2, k3⟩ := hnum.out; unfold okT at h; rw [k1, k2, k3] at h; omega))
        go_wp2
        rw [hZ'.out]
        exact ⟨by rw [← hz.out]; first | done | rfl, hO3.out⟩
      have hok := Lib.hid (show okT ts i by
        obtain ⟨k1, k2, k3⟩ := hnum.out
        refine ⟨by rw [k1, k2, k3]; omega, ?_⟩
        exact hany.out.2 rfl)
      go_wp2
      go_roundw
      case rel => exact ⟨i + 1, by go_num, by omega, Lib.hid (fun m hm => by
        rcases Nat.lt_or_ge m i with h | h
        · exact hI.out m h
        · obtain rfl : m = i := by omega
          exact hok.out), hO3⟩
      case measure => simp [intOf]; omega
    · obtain rfl : i = tn := by omega
      have hz := Lib.hid (show true = V by
        rw [hV'.out, rightB, decide_eq_true]
        have e := hlen'.out
        exact ⟨by omega, fun k hk => hI.out k (by omega)⟩)
      go_wp2
      rw [hZ'.out]
      exact ⟨by rw [← hz.out]; first | done | rfl, hOr.out⟩
end Bch
end Go.Proofs.Ytdoimkmhincmmaa
