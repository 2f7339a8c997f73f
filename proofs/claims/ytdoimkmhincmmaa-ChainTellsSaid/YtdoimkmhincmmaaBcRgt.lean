/- chain: which tasks may be. -/
import Derived.Test.YtdoimkmhincmmaaBcCan
import Derived.Deep.Cut
import Derived.Deep.CutRange
import Derived.Deep.DeepCutAuto
namespace Go.Proofs.Ytdoimkmhincmmaa
namespace Bch
open Go Go.RowKit
/-- Whether a task may be, beside those ahead of it. -/
def okT (ts : List TaskV) (i : Nat) : Prop := (prio ts i ≤ thr ts i ∧ 0 ≤ frm ts i ∧ frm ts i ≤ 1048576) ∧ ∀ k, k < i → prio ts k ≠ prio ts i
instance (ts : List TaskV) (i : Nat) : Decidable (okT ts i) := by unfold okT; infer_instance
def rightB (ts : List TaskV) : Bool := decide (ts.length ≤ 12 ∧ ∀ i, i < ts.length → okT ts i)
theorem frozen_new {w : World} {o : Obj} : (w.alloc o).heap.size = w.heap.size + 1 := by simp
set_option maxRecDepth 100000 in
set_option maxHeartbeats 4000000 in
theorem right_any {w : World} {c : ConfV} {ts : List TaskV} (hT : TasksAt w c.ta ts) (hn : c.ta.n ≤ 9223372036854775807) : Calls Try.prog 18 #[c.val] w (GrowB (rightB ts) w) := by
  have hlen := hT.len
  have hO := (Only.refl (fun _ => False) w).alloc (.cells c.cells.toArray 27)
  have hB := heap_new_at w (.cells c.cells.toArray 27) rfl
  obtain ⟨W1, hW1⟩ : ∃ W1, W1 = w.alloc (.cells c.cells.toArray 27) := ⟨_, rfl⟩
  rw [← hW1] at hB hO
  obtain ⟨q, hq⟩ : ∃ q, q = w.heap.size := ⟨_, rfl⟩
  rw [← hq] at hB
  have hbox := Lib.hid (fun W (ho : Only (fun _ => False) W1 W) => show W.cell? ⟨q, 8, none⟩ = some (.slice c.ta.A c.ta.n c.ta.cap) ∧ q < W.heap.size from
    ⟨row_cell (ho.heap hB (fun h => h)) (i := 8) rfl, row_lt (ho.heap hB (fun h => h))⟩)
  rw [show c.val = .agg #[.int .i64 c.s, .int .i64 c.wy, .int .i64 c.h, .int .i64 c.mi, .slice c.mb.A c.mb.n c.mb.cap, .int .i64 c.g, .slice c.cn.A c.cn.n c.cn.cap, .slice c.ce.A c.ce.n c.ce.cap, .slice c.ta.A c.ta.n c.ta.cap, .slice c.li.A c.li.n c.li.cap] from rfl]
  unfold ConfV.cells at hW1
  obtain ⟨s, wy, h, mi, ⟨mA, mn, mc⟩, g, ⟨cA, cn, cc⟩, ⟨eA, en, ec⟩, ⟨tA, tn, tc⟩, ⟨lA, ln, lc⟩⟩ := c
  dsimp only at *
  obtain ⟨V, hV⟩ : ∃ V, V = rightB ts := ⟨_, rfl⟩
  rw [← hV]
  obtain ⟨Z, hZ⟩ : ∃ Z, Z = GrowB V w := ⟨_, rfl⟩
  rw [← hZ]
  have hZ' := Lib.hid hZ
  have hV' := Lib.hid hV
  have hW1' := Lib.hid hW1
  have hq' := Lib.hid hq
  have hT' := Lib.hid hT
  have hO' := Lib.hid hO
  have hlen' := Lib.hid hlen
  have hbad := Lib.hid (fun i (hi : i < tn) (hno : ¬ okT ts i) => show false = V from by
    rw [hV'.out, rightB, decide_eq_false (fun h => hno (h.2 i (by have := hlen'.out; omega)))])
  obtain ⟨e8, el⟩ := hbox.out W1 (Only.refl _ _)
  clear hT hO hlen hB hV hZ hW1 hq
  go_enter Try.func18, Try.ntmps18
  go_wp2
  rw [← hW1'.out, ← hq'.out]
  go_loopw [3, 4, 5, 9] (fun _ _ _ u9 wr => ∃ i : Nat, u9 = .int .i64 i ∧ i ≤ tn ∧ Hid (∀ k, k < i → okT ts k) ∧ Hid (Only (fun _ => False) W1 wr)) (fun _ _ _ i _ => (tn - intOf i).toNat)
  case atStart => exact ⟨0, rfl, Nat.zero_le _, Lib.hid (fun k hk => by omega), Only.refl _ _⟩
  case round =>
    obtain ⟨i, rfl, hi, hI, hOr⟩ := hrel
    obtain ⟨f8, fl⟩ := hbox.out wr hOr.out
    by_cases hin : i < tn
    · have hin' : (i : Int) < tn := by omega
      obtain ⟨t, ht⟩ : ∃ t, ts[i]? = some t := ⟨_, List.getElem?_eq_getElem (by have := hlen'.out; omega)⟩
      obtain ⟨tb, toff, hA, htl, hC⟩ := (hT'.out.new (hO'.out.trans' hOr.out)).at_ i t ht
      simp only at hA
      subst hA
      obtain ⟨c0, c1, c2, c3, c4, c5, c6⟩ := hC
      have hp := prio_at ht
      have hth := thr_at ht
      have hfr := frm_at ht
      have hbadi := Lib.hid (hbad.out i hin)
      clear ht
      obtain ⟨p1, th1, pe1, de1, fr1, fl1, ⟨oA, on, oc⟩⟩ := t
      dsimp only at *
      have hnum := Lib.hid (And.intro hp (And.intro hth hfr))
      clear hp hth hfr
      have hOw := Lib.hid (hO'.out.trans' hOr.out)
      by_cases g1 : th1 < p1
      · have hz := Lib.hid (hbadi.out (fun h => by obtain ⟨k1, k2, k3⟩ := hnum.out; unfold okT at h; rw [k1, k2, k3] at h; omega))
        go_wp2
        rw [hZ'.out]
        exact ⟨by rw [← hz.out]; first | done | rfl, hOw.out.alloc _⟩
      by_cases g2 : fr1 < 0
      · have hz := Lib.hid (hbadi.out (fun h => by obtain ⟨k1, k2, k3⟩ := hnum.out; unfold okT at h; rw [k1, k2, k3] at h; omega))
        go_wp2
        rw [hZ'.out]
        exact ⟨by rw [← hz.out]; first | done | rfl, hOw.out.alloc _⟩
      by_cases g3 : 1048576 < fr1
      · have hz := Lib.hid (hbadi.out (fun h => by obtain ⟨k1, k2, k3⟩ := hnum.out; unfold okT at h; rw [k1, k2, k3] at h; omega))
        go_wp2
        rw [hZ'.out]
        exact ⟨by rw [← hz.out]; first | done | rfl, hOw.out.alloc _⟩
      have hg := Lib.hid (And.intro g1 (And.intro g2 g3))
      go_upto_region 6 with fail
      obtain ⟨Y, hY⟩ : ∃ Y, Y = wr.heap.size := ⟨_, rfl⟩
      obtain ⟨W2, hW2⟩ : ∃ W2, W2 = wr.alloc (Obj.cells #[.int .i64 p1, .int .i64 th1, .int .i64 pe1, .int .i64 de1, .int .i64 fr1, .int .i64 fl1, .slice oA on oc] 38) := ⟨_, rfl⟩
      rw [← hW2, ← hY]
      have hO2 := Lib.hid (show Only (fun _ => False) W1 W2 by rw [hW2]; exact hOr.out.alloc _)
      have hY2 := Lib.hid (show W2.heap[Y]? = some (.cells [.int .i64 p1, .int .i64 th1, .int .i64 pe1, .int .i64 de1, .int .i64 fr1, .int .i64 fl1, .slice oA on oc].toArray 38 (0, 0)) by rw [hW2]; exact heap_new_at _ _ hY.symm)
      obtain ⟨f8, fl⟩ := hbox.out W2 hO2.out
      have y0 := row_cell hY2.out (i := 0) rfl
      have yl := row_lt hY2.out
      clear hW2 hY c0 c1 c2 c3 c4 c5 c6 htl g1 g2 g3
      go_wp2
      go_loopw [5] (fun u5 ws => ∃ k : Nat, u5 = .int .i64 k ∧ k ≤ i ∧ Hid (∀ m, m < k → prio ts m ≠ p1) ∧ ∃ nq, Hid (ws = W2.drewN nq)) (fun k _ => (i - intOf k).toNat)
      case atStart => exact ⟨0, rfl, Nat.zero_le _, Lib.hid (fun m hm => by omega), 0, Lib.hid rfl⟩
      case round =>
        obtain ⟨k, rfl, hk, hK, nq, hws⟩ := hrel
        have hws2 := hws.out
        subst hws2
        by_cases hki : k < i
        · have hki' : (k : Int) < i := by omega
          obtain ⟨u, hu⟩ : ∃ u, ts[k]? = some u := ⟨_, List.getElem?_eq_getElem (by have := hlen'.out; omega)⟩
          obtain ⟨tb', toff', hA, htl, hD⟩ := (hT'.out.new (hO'.out.trans' hO2.out)).at_ k u hu
          cases hA
          have d0 := hD.c0
          have hup := Lib.hid (prio_at hu)
          clear hD hu
          obtain ⟨p2, th2, pe2, de2, fr2, fl2, o2⟩ := u
          dsimp only at *
          have hkt : (k : Int) < tn := by omega
          obtain ⟨B, hBB⟩ : ∃ B, B = (p2 == p1) := ⟨_, rfl⟩
          have hB' := Lib.hid hBB
          go_wp2
          go_quiet (fail)
          rw [← hBB]
          clear hBB
          cases B
          · go_wp2
            go_roundw
            case rel => exact ⟨k + 1, by go_num, by omega, Lib.hid (fun m hm => by
              rcases Nat.lt_or_ge m k with h | h
              · exact hK.out m h
              · obtain rfl : m = k := by omega
                rw [hup.out]
                intro e
                have := hB'.out
                rw [e] at this
                simp at this), _, Lib.hid rfl⟩
            case measure => simp [intOf]; omega
          · have hz := Lib.hid (hbadi.out (fun h => h.2 k hki (by
              rw [hup.out, hnum.out.1]
              have := hB'.out
              simpa using this.symm)))
            go_wp2
            rw [hZ'.out]
            exact ⟨by rw [← hz.out]; first | done | rfl, ((hO'.out.trans' hO2.out).drewN _).drewN _⟩
        · obtain rfl : k = i := by omega
          go_wp2
          go_roundw
          case rel => exact ⟨k + 1, by go_num, by omega, Lib.hid (fun m hm => by
            rcases Nat.lt_or_ge m k with h | h
            · exact hI.out m h
            · obtain rfl : m = k := by omega
              obtain ⟨k1, k2, k3⟩ := hnum.out
              obtain ⟨l1, l2, l3⟩ := hg.out
              unfold okT
              rw [k1, k2, k3]
              exact ⟨by omega, hK.out⟩), Lib.hid (hO2.out.drewN _)⟩
          case measure => simp [intOf]; omega
    · obtain rfl : i = tn := by omega
      have hfin := Lib.hid (show V = decide ((i : Int) ≤ 12) by
        rw [hV'.out, rightB]
        have e := hlen'.out
        apply Bool.eq_iff_iff.2
        rw [decide_eq_true_iff, decide_eq_true_iff]
        constructor
        · intro h; omega
        · intro h; exact ⟨by omega, fun k hk => hI.out k (by omega)⟩)
      go_wp2
      rw [hZ'.out]
      exact ⟨by rw [hfin.out]; rfl, hO'.out.trans' hOr.out⟩
end Bch
end Go.Proofs.Ytdoimkmhincmmaa
