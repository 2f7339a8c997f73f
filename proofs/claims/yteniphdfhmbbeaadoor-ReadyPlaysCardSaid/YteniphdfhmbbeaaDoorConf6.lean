/- Locks below a priority. -/
import Derived.Test.YteniphdfhmbbeaaDoorConf5
import Derived.Test.YteniphdfhmbbeaaDoorCheck
namespace Go.Proofs.YteniphdfhmbbeaaDoor
open Go Go.RowKit

/-- Whether an operation locks a ceiling below a priority. -/
def lowB (ce : List Int) (p : Int) (o : Opn) : Bool := decide (o.k = 5) && decide (ce.getD o.a.toNat 0 < p)

theorem lowB_five {ce : List Int} {p b z : Int} {a : Nat} (h : ce.getD a 0 = z) : lowB ce p ⟨5, a, b⟩ = decide (z < p) := by
  subst h
  unfold lowB
  simp
theorem lowB_not {ce : List Int} {p k a b : Int} (h : ¬ k = 5) : lowB ce p ⟨k, a, b⟩ = false := by
  unfold lowB
  simp [h]
set_option maxRecDepth 100000 in
theorem low_one {W : World} {p q : Nat} {x : Sl} {ce : List Int} {t : TaskV} (hC : IntsAt W x ce) (h9 : x.n ≤ 1000000) (hx : W.cell? ⟨q, 0, none⟩ = some (.slice x.A x.n x.cap)) (hq : q < W.heap.size) (hc : W.cell? ⟨p, 0, none⟩ = some (.int .i64 t.p)) (hp : p < W.heap.size)
    (o : Opn) (ho : o.k = 5 → 0 ≤ o.a ∧ o.a < ce.length) :
    Calls Tryd.prog 53 #[o.val, .pointer (some ⟨q, 0, none⟩), .pointer (some ⟨p, 0, none⟩)] W (GrowB (lowB ce t.p o) W) := by
  rw [show o.val = .agg #[.int .i64 o.k, .int .i64 o.a, .int .i64 o.b] from rfl]
  obtain ⟨v, hv⟩ : ∃ v, v = lowB ce t.p o := ⟨_, rfl⟩
  rw [← hv]
  have hv' := Lib.hid hv
  clear hv
  have hO := Lib.hid ((Only.refl (fun _ => False) W).alloc (.cells [.int .i64 o.k, .int .i64 o.a, .int .i64 o.b].toArray 56))
  obtain ⟨k, a, b⟩ := o
  obtain ⟨A, n, cap⟩ := x
  obtain ⟨P, th, pe, de, fr, fl, ⟨oA, on, oc⟩⟩ := t
  simp only at *
  by_cases h : k = 5
  · subst h
    obtain ⟨h1, h2⟩ := ho rfl
    obtain ⟨a, rfl⟩ := Int.eq_ofNat_of_zero_le h1
    have hlen := hC.len
    simp only at hlen
    obtain ⟨z, hz⟩ : ∃ z, ce[a]? = some z := ⟨_, List.getElem?_eq_getElem (by omega)⟩
    obtain ⟨bb, off, hA, hb, c0⟩ := hC.at_ a z hz
    simp only at hA
    subst hA
    have han : (a : Int) < (n : Int) := by omega
    have han' : a < n := by omega
    have hgd := Lib.hid (show ce.getD a 0 = z by rw [List.getD_eq_getElem?_getD, hz]; rfl)
    clear hC hz ho hlen h2
    by_cases hlt : z < P
    · have hw := Lib.hid (show v = true by rw [hv'.out, lowB_five hgd.out]; simp [hlt])
      go_enter Tryd.func53, Tryd.ntmps53
      go_wp2
      go_quiet (fail)
      go_wp2
      go_ret
      exact retg_bool (by first | exact hw.out.symm | (rw [hw.out]; simp [hlt])) (hO.out.drewN _)
    · have hw := Lib.hid (show v = false by rw [hv'.out, lowB_five hgd.out]; simp; omega)
      go_enter Tryd.func53, Tryd.ntmps53
      go_wp2
      go_quiet (fail)
      go_wp2
      go_ret
      exact retg_bool (by first | exact hw.out.symm | (rw [hw.out]; simp [hlt])) (hO.out.drewN _)
  · have hw := Lib.hid (show v = false by rw [hv'.out, lowB_not h])
    clear hC ho
    go_enter Tryd.func53, Tryd.ntmps53
    go_wp2
    go_quiet (fail)
    go_wp2
    go_ret
    exact retg_bool (by first | exact hw.out.symm | (rw [hw.out]; simp [h])) (hO.out.drewN _)

set_option maxRecDepth 100000 in
theorem indexLow_any {w : World} {p q : Nat} {x : Sl} {ce : List Int} {t : TaskV} (hC : IntsAt w x ce) (h9 : x.n ≤ 1000000) (hx : w.cell? ⟨q, 0, none⟩ = some (.slice x.A x.n x.cap)) (hq : q < w.heap.size) (hc : w.cell? ⟨p, 0, none⟩ = some (.int .i64 t.p)) (hp : p < w.heap.size)
    {y : Sl} {l : List Opn} (hl : OpnRow w y.A l) (hn : l.length = y.n) (hm : y.n ≤ 1000000) (ho : ∀ o ∈ l, o.k = 5 → 0 ≤ o.a ∧ o.a < ce.length) :
    Calls Tryd.prog 66 #[.slice y.A y.n y.cap, .func (.func 53) #[] #[.pointer (some ⟨q, 0, none⟩), .pointer (some ⟨p, 0, none⟩)]] w (IdxEnd (l.any (lowB ce t.p)) w) := by
  have qq := Lib.hid (fun (W : World) (hW : Only (fun _ => False) w W) (o : Opn) (hh : o.k = 5 → 0 ≤ o.a ∧ o.a < ce.length) => low_one (t := t) (hC.new hW) h9 (hW.cell hx (fun h => h)) (Nat.lt_of_lt_of_le hq hW.size) (hW.cell hc (fun h => h)) (Nat.lt_of_lt_of_le hp hW.size) o hh)
  obtain ⟨A, n, cap⟩ := y
  have hl' := Lib.hid hl
  have ho' := Lib.hid ho
  simp only at *
  have hlen' := Lib.hid hn
  obtain ⟨P, hP⟩ : ∃ P, P = t.p := ⟨_, rfl⟩
  rw [← hP] at qq ⊢
  clear hl hn hc hp hx hq hC ho hP
  go_enter Tryd.func66, Tryd.ntmps66
  go_wp2
  go_loopw [8] (fun i wr => ∃ k : Nat, k ≤ n ∧ i = .int .i64 k ∧ (∀ (j : Nat) t, j < k → l[j]? = some t → lowB ce P t = false) ∧ Only (fun _ => False) w wr) (fun i _ => n - (intOf i).toNat)
  case atStart => exact ⟨0, Nat.zero_le _, rfl, (fun j z hj => by omega), Only.refl _ w⟩
  case round =>
    obtain ⟨k, hk, rfl, hall, hO⟩ := hrel
    have hall' := Lib.hid hall
    have hO' := Lib.hid hO
    clear hall hO
    by_cases hkn : k < n
    · have hkn' : (k : Int) < (n : Int) := by omega
      obtain ⟨o, ht⟩ : ∃ t, l[k]? = some t := ⟨_, List.getElem?_eq_getElem (by have := hlen'.out; omega)⟩
      obtain ⟨b, off, hA, hb, hC⟩ := hl'.out k o ht
      subst hA
      have c0 := hO'.out.cell hC.1 (fun h => h)
      have c1 := hO'.out.cell hC.2.1 (fun h => h)
      have c2 := hO'.out.cell hC.2.2 (fun h => h)
      clear hC
      have hq := qq.out _ hO'.out o (ho'.out o (List.mem_of_getElem? ht))
      have ht' := Lib.hid ht
      clear ht
      rw [show o.val = .agg #[.int .i64 o.k, .int .i64 o.a, .int .i64 o.b] from rfl] at hq
      obtain ⟨v, hv⟩ : ∃ v, v = lowB ce P o := ⟨_, rfl⟩
      rw [← hv] at hq
      have hv' := Lib.hid hv
      clear hv
      have hq' := Lib.hid hq
      clear hq
      obtain ⟨ok, oa, ob⟩ := o
      simp only at *
      go_wp2_with fail
      refine (hq'.out).mono ?_
      rintro e w1 ⟨rfl, hO1⟩
      have hO2 := Lib.hid (hO'.out.trans' hO1)
      clear hO1
      clear hq'
      cases hvc : v
      rotate_left
      · rw [hvc] at hv'
        subst hvc
        have hz := Lib.hid (any_yes (l := l) (f := lowB ce P) ht'.out hv'.out.symm)
        go_wp2
        go_ret
        exact ⟨_, rfl, by rw [hz.out]; simp, by omega, by omega, hO2.out⟩
      · rw [hvc] at hv'
        subst hvc
        have hnx := Lib.hid (show ∀ (j : Nat) y, j < k + 1 → l[j]? = some y → lowB ce P y = false from fun j y hj hy => by
            by_cases hjk : j < k
            · exact hall'.out j y hjk hy
            · obtain rfl : j = k := by omega
              rw [ht'.out] at hy
              cases hy
              exact hv'.out.symm)
        go_wp2
        go_roundw
        case rel => exact ⟨k + 1, by omega, by go_num, hnx.out, hO2.out⟩
        case measure => simp [intOf]; omega
    · obtain rfl : k = n := by omega
      have hz := Lib.hid (any_not (l := l) (f := lowB ce P) (fun j z hz => hall'.out j z (by have := (List.getElem?_eq_some_iff.1 hz).1; have := hlen'.out; omega) hz))
      go_wp2
      go_ret
      exact ⟨_, rfl, by rw [hz.out]; simp, by omega, by omega, hO'.out⟩
theorem containsLow_any {w : World} {p q : Nat} {x : Sl} {ce : List Int} {t : TaskV} (hC : IntsAt w x ce) (h9 : x.n ≤ 1000000) (hx : w.cell? ⟨q, 0, none⟩ = some (.slice x.A x.n x.cap)) (hq : q < w.heap.size) (hc : w.cell? ⟨p, 0, none⟩ = some (.int .i64 t.p)) (hp : p < w.heap.size)
    {y : Sl} {l : List Opn} (hl : OpnRow w y.A l) (hn : l.length = y.n) (hm : y.n ≤ 1000000) (ho : ∀ o ∈ l, o.k = 5 → 0 ≤ o.a ∧ o.a < ce.length) :
    Calls Tryd.prog 52 #[.slice y.A y.n y.cap, .func (.func 53) #[] #[.pointer (some ⟨q, 0, none⟩), .pointer (some ⟨p, 0, none⟩)]] w (GrowB (l.any (lowB ce t.p)) w) := by
  have qq := Lib.hid (indexLow_any hC h9 hx hq hc hp hl hn hm ho)
  obtain ⟨v, hv⟩ : ∃ v, v = l.any (lowB ce t.p) := ⟨_, rfl⟩
  rw [← hv] at qq ⊢
  obtain ⟨A, n, cap⟩ := y
  simp only at *
  clear hC hx hq hc hp hl hn hm ho hv
  go_enter Tryd.func52, Tryd.ntmps52
  go_wp2_with fail
  refine (qq.out).mono ?_
  rintro e w1 ⟨z, rfl, hz, h1, h2, hO⟩
  have hz' := Lib.hid hz
  have hO' := Lib.hid hO
  clear hz hO qq
  by_cases h0 : 0 ≤ z
  · have hv := Lib.hid (hz'.out.1 h0)
    go_wp2
    go_ret
    exact retg_bool (by first | exact hv.out.symm | (rw [hv.out]; simp [h0])) hO'.out
  · have hv := Lib.hid (show v = false by have := fun h => h0 (hz'.out.2 h); simpa using this)
    go_wp2
    go_ret
    exact retg_bool (by first | exact hv.out.symm | (rw [hv.out]; simp [h0])) hO'.out
theorem locksBelow_any {w : World} {x : Sl} {ce : List Int} {t : TaskV} (hC : IntsAt w x ce) (h9 : x.n ≤ 1000000)
    {l : List Opn} (hl : OpnRow w t.o.A l) (hn : l.length = t.o.n) (hm : t.o.n ≤ 1000000) (ho : ∀ o ∈ l, o.k = 5 → 0 ≤ o.a ∧ o.a < ce.length) :
    Calls Tryd.prog 45 #[t.val, .slice x.A x.n x.cap] w (GrowB (l.any (lowB ce t.p)) w) := by
  have hmf : ∀ (fn : Fn) (first cap : Array Value) (w : World), (Instr.makeFunc fn first cap).run Tryd.prog w = .ok (.func fn first cap) w := fun _ _ _ _ => rfl
  have hO := ((Only.refl (fun _ => False) w).alloc (.cells t.cells.toArray 53)).alloc (.cells [.slice x.A x.n x.cap].toArray 24)
  have hB := heap_kept_alloc (heap_new_at w (.cells t.cells.toArray 53) rfl) (.cells [.slice x.A x.n x.cap].toArray 24)
  have hB2 := heap_new_at (w.alloc (.cells t.cells.toArray 53)) (.cells [.slice x.A x.n x.cap].toArray 24) (X := w.heap.size + 1) (by simp)
  have qq := Lib.hid (containsLow_any (t := t) (hC.new hO) h9 (row_cell hB2 (i := 0) rfl) (row_lt hB2) (row_cell hB (i := 0) rfl) (row_lt hB) (hl.new hO) hn hm ho)
  rw [show t.val = .agg #[.int .i64 t.p, .int .i64 t.th, .int .i64 t.pe, .int .i64 t.de, .int .i64 t.fr, .int .i64 t.fl, .slice t.o.A t.o.n t.o.cap] from rfl]
  unfold TaskV.cells at qq hO hB hB2
  obtain ⟨v, hv⟩ : ∃ v, v = l.any (lowB ce t.p) := ⟨_, rfl⟩
  rw [← hv] at qq ⊢
  obtain ⟨A, n, cap⟩ := x
  obtain ⟨P, th, pe, de, fr, fl, ⟨oA, on, oc⟩⟩ := t
  simp only at *
  have c6 := row_cell hB (i := 6) rfl
  have hO' := Lib.hid hO
  clear hC hl hn ho hv hB hB2 hO
  go_enter Tryd.func45, Tryd.ntmps45
  go_wp2_with fail
  refine (qq.out).mono ?_
  rintro e w1 ⟨rfl, hO1⟩
  have hO2 := Lib.hid (hO'.out.trans' hO1)
  clear hO1 qq hO'
  go_wp2
  go_ret
  exact retg_bool rfl hO2.out
end Go.Proofs.YteniphdfhmbbeaaDoor
