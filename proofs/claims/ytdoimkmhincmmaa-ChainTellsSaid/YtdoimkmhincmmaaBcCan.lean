/- chain: who is there, who can displace whom. -/
import Derived.Test.YtdoimkmhincmmaaBcFew26
import Derived.Test.YtdoimkmhincmmaaWd
import Derived.Deep.DrawnRows
namespace Go.Proofs.Ytdoimkmhincmmaa
namespace Bch
open Go Go.RowKit
def thr (ts : List TaskV) (k : Nat) : Int := (ts.map (·.th)).getD k 0
theorem thr_at {ts : List TaskV} {k : Nat} {t : TaskV} (h : ts[k]? = some t) : thr ts k = t.th := by
  unfold thr
  rw [List.getD_eq_getElem?_getD, List.getElem?_map, h]
  rfl
def frm (ts : List TaskV) (k : Nat) : Int := (ts.map (·.fr)).getD k 0
theorem frm_at {ts : List TaskV} {k : Nat} {t : TaskV} (h : ts[k]? = some t) : frm ts k = t.fr := by
  unfold frm
  rw [List.getD_eq_getElem?_getD, List.getElem?_map, h]
  rfl
/-- Whether i can displace k. -/
def canB (ts : List TaskV) (i k : Nat) : Bool := decide (thr ts k < prio ts i)
def inZ (n : Nat) (i : Int) : Bool := decide (0 ≤ i ∧ i < n)
def canZ (ts : List TaskV) (a b : Int) : Bool := inZ ts.length a && (inZ ts.length b && canB ts a.toNat b.toNat)
theorem has_any {w : World} {c : ConfV} (i : Int) (hn : c.ta.n ≤ 9223372036854775807) : Calls Try.prog 58 #[c.val, .int .i64 i] w (GrowB (inZ c.ta.n i) w) := by
  rw [show c.val = .agg #[.int .i64 c.s, .int .i64 c.wy, .int .i64 c.h, .int .i64 c.mi, .slice c.mb.A c.mb.n c.mb.cap, .int .i64 c.g, .slice c.cn.A c.cn.n c.cn.cap, .slice c.ce.A c.ce.n c.ce.cap, .slice c.ta.A c.ta.n c.ta.cap, .slice c.li.A c.li.n c.li.cap] from rfl]
  obtain ⟨s, wy, h, mi, ⟨mA, mn, mc⟩, g, ⟨cA, cn, cc⟩, ⟨eA, en, ec⟩, ⟨tA, tn, tc⟩, ⟨lA, ln, lc⟩⟩ := c
  dsimp only at *
  obtain ⟨v, hv⟩ : ∃ v, v = inZ tn i := ⟨_, rfl⟩
  rw [← hv]
  have hv' := Lib.hid hv
  clear hv
  by_cases h0 : 0 ≤ i
  · by_cases h1 : i < tn
    · have hz := Lib.hid (show true = v by rw [hv'.out, inZ, decide_eq_true ⟨h0, h1⟩])
      go_enter Try.func58, Try.ntmps58
      go_wp2
      go_ret
      exact retg_bool (by first | exact hz.out | (rw [← hz.out]; simp [h0, h1])) ((Only.refl _ w).alloc _)
    · have hz := Lib.hid (show false = v by rw [hv'.out, inZ, decide_eq_false (by omega)])
      go_enter Try.func58, Try.ntmps58
      go_wp2
      go_ret
      exact retg_bool (by first | exact hz.out | (rw [← hz.out]; simp; omega)) ((Only.refl _ w).alloc _)
  · have hz := Lib.hid (show false = v by rw [hv'.out, inZ, decide_eq_false (by omega)])
    go_enter Try.func58, Try.ntmps58
    go_wp2
    go_ret
    exact retg_bool (by first | exact hz.out | (rw [← hz.out]; simp; omega)) ((Only.refl _ w).alloc _)
set_option maxRecDepth 100000 in
set_option maxHeartbeats 4000000 in
theorem can_any {w : World} {c : ConfV} {ts : List TaskV} (hT : TasksAt w c.ta ts) (hn : c.ta.n ≤ 9223372036854775807) (a b : Int) : Calls Try.prog 42 #[c.val, .int .i64 a, .int .i64 b] w (GrowB (canZ ts a b) w) := by
  have hlen := hT.len
  have hO := (Only.refl (fun _ => False) w).alloc (.cells c.cells.toArray 27)
  have hB := heap_new_at w (.cells c.cells.toArray 27) rfl
  obtain ⟨W1, hW1⟩ : ∃ W1, W1 = w.alloc (.cells c.cells.toArray 27) := ⟨_, rfl⟩
  have e0 := row_cell hB (i := 0) rfl
  have e1 := row_cell hB (i := 1) rfl
  have e2 := row_cell hB (i := 2) rfl
  have e3 := row_cell hB (i := 3) rfl
  have e4 := row_cell hB (i := 4) rfl
  have e5 := row_cell hB (i := 5) rfl
  have e6 := row_cell hB (i := 6) rfl
  have e7 := row_cell hB (i := 7) rfl
  have e8 := row_cell hB (i := 8) rfl
  have e9 := row_cell hB (i := 9) rfl
  have hlt1 := row_lt hB
  rw [← hW1] at e0 e1 e2 e3 e4 e5 e6 e7 e8 e9 hO hlt1
  have p0 := wd_cell e0
  have p1 := wd_cell e1
  have p2 := wd_cell e2
  have p3 := wd_cell e3
  have p4 := wd_cell e4
  have p5 := wd_cell e5
  have p6 := wd_cell e6
  have p7 := wd_cell e7
  have p8 := wd_cell e8
  have p9 := wd_cell e9
  have hex := wd_ex W1
  obtain ⟨va, hva⟩ : ∃ va, va = inZ c.ta.n a := ⟨_, rfl⟩
  obtain ⟨vb, hvb⟩ : ∃ vb, vb = inZ c.ta.n b := ⟨_, rfl⟩
  have qa := fun v : Wd W1 => Calls.wd (x := v) (has_any (w := v.W) (c := c) a hn)
  have qb := fun v : Wd W1 => Calls.wd (x := v) (has_any (w := v.W) (c := c) b hn)
  rw [← hva] at qa
  rw [← hvb] at qb
  rw [show c.val = .agg #[.int .i64 c.s, .int .i64 c.wy, .int .i64 c.h, .int .i64 c.mi, .slice c.mb.A c.mb.n c.mb.cap, .int .i64 c.g, .slice c.cn.A c.cn.n c.cn.cap, .slice c.ce.A c.ce.n c.ce.cap, .slice c.ta.A c.ta.n c.ta.cap, .slice c.li.A c.li.n c.li.cap] from rfl] at qa qb ⊢
  have qa' := Lib.hid qa
  have qb' := Lib.hid qb
  have hva' := Lib.hid hva
  have hvb' := Lib.hid hvb
  obtain ⟨V, hV⟩ : ∃ V, V = canZ ts a b := ⟨_, rfl⟩
  rw [← hV]
  have hV2 : V = (va && (vb && canB ts a.toNat b.toNat)) := by rw [hV, hva, hvb, canZ, hlen]
  have hV' := Lib.hid hV2
  have hT' := Lib.hid hT
  have hO' := Lib.hid hO
  have hlen' := Lib.hid hlen
  obtain ⟨Z, hZ⟩ : ∃ Z, Z = GrowB V w := ⟨_, rfl⟩
  rw [← hZ]
  have hZ' := Lib.hid hZ
  unfold ConfV.cells at hW1
  have hW1' := Lib.hid hW1
  clear hT hO hV hV2 hB qa qb hva hvb hlen hW1 hZ
  obtain ⟨s, wy, h, mi, ⟨mA, mn, mc⟩, g, ⟨cA, cn, cc⟩, ⟨eA, en, ec⟩, ⟨tA, tn, tc⟩, ⟨lA, ln, lc⟩⟩ := c
  dsimp only at *
  cases va
  · go_enter Try.func42, Try.ntmps42
    go_wp2_with fail
    rw [← hW1'.out]
    refine wp_region_wd (by kernel_rfl) (by kernel_rfl) ?_
    repeat (go_big_quiet_step (first | (go_at_call 58; with_reducible exact qa'.out _)))
    refine wpQuiet_nil ?_
    rintro _ ⟨v, rfl⟩
    have hOv := Lib.hid (hO'.out.trans' v.ok)
    go_wp2
    rw [hZ'.out]
    exact ⟨by rw [hV'.out]; rfl, hOv.out⟩
  cases vb
  · go_enter Try.func42, Try.ntmps42
    go_wp2_with fail
    rw [← hW1'.out]
    refine wp_region_wd (by kernel_rfl) (by kernel_rfl) ?_
    repeat (go_big_quiet_step (first | (go_at_call 58; first | with_reducible exact qa'.out _ | with_reducible exact qb'.out _)))
    refine wpQuiet_nil ?_
    rintro _ ⟨v, rfl⟩
    have hOv := Lib.hid (hO'.out.trans' v.ok)
    go_wp2
    rw [hZ'.out]
    exact ⟨by rw [hV'.out]; rfl, hOv.out⟩
  obtain ⟨i, rfl, hi⟩ : ∃ i : Nat, a = i ∧ i < tn := by
    have : (0 ≤ a ∧ a < tn) := by simpa [inZ] using hva'.out.symm
    exact ⟨a.toNat, by omega, by omega⟩
  obtain ⟨k, rfl, hk⟩ : ∃ k : Nat, b = k ∧ k < tn := by
    have : (0 ≤ b ∧ b < tn) := by simpa [inZ] using hvb'.out.symm
    exact ⟨b.toNat, by omega, by omega⟩
  obtain ⟨t, ht⟩ : ∃ t, ts[i]? = some t := ⟨_, List.getElem?_eq_getElem (by have := hlen'.out; omega)⟩
  obtain ⟨u, hu⟩ : ∃ u, ts[k]? = some u := ⟨_, List.getElem?_eq_getElem (by have := hlen'.out; omega)⟩
  obtain ⟨tb, toff, hA, htl, hC⟩ := (hT'.out.new hO'.out).at_ i t ht
  simp only at hA
  subst hA
  obtain ⟨tb', toff', hA, htl', hD⟩ := (hT'.out.new hO'.out).at_ k u hu
  cases hA
  have c0 := hC.c0
  have d1 := hD.c1
  have r0 := wd_cell c0
  have r1 := wd_cell d1
  have hi' : (i : Int) < tn := by omega
  have hk' : (k : Int) < tn := by omega
  have hfin := Lib.hid (show V = decide (u.th < t.p) by rw [hV'.out, Bool.true_and, Bool.true_and, canB, Int.toNat_natCast, Int.toNat_natCast, thr_at hu, prio_at ht])
  clear hC hD ht hu htl'
  obtain ⟨p1, th1, pe1, de1, fr1, fl1, o1⟩ := t
  obtain ⟨p2, th2, pe2, de2, fr2, fl2, o2⟩ := u
  dsimp only at *
  go_enter Try.func42, Try.ntmps42
  go_wp2_with fail
  rw [← hW1'.out]
  refine wp_region_wd (by kernel_rfl) (by kernel_rfl) ?_
  repeat (go_big_quiet_step (first | (go_at_call 58; first | with_reducible exact qa'.out _ | with_reducible exact qb'.out _)))
  refine wpQuiet_nil ?_
  rintro _ ⟨v, rfl⟩
  have hOv := Lib.hid (hO'.out.trans' v.ok)
  go_wp2
  rw [hZ'.out]
  exact ⟨by rw [hfin.out]; rfl, hOv.out⟩
end Bch
end Go.Proofs.Ytdoimkmhincmmaa
