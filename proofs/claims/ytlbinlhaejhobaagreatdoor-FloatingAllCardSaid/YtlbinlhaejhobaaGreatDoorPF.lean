/- Merged: Rcheck Conf9 Conf10 Conf22 Cin. -/
import Derived.Test.YtlbinlhaejhobaaGreatDoorRnest
import Derived.Test.YtlbinlhaejhobaaGreatDoorPD
/- The document's own Check of layer 6: the plain check. -/
namespace Go.Proofs.YtlbinlhaejhobaaGreatDoor
open Go Go.RowKit

theorem nestAll_snoc (a : List Opn) (x : Opn) (s : NS) : nestAll (a ++ [x]) s = match nestAll a s with
    | none => none
    | some t => stepN t x.k x.a := by
  induction a generalizing s with
  | nil =>
    simp only [List.nil_append, nestAll]
    cases stepN s x.k x.a <;> rfl
  | cons y a ih =>
    simp only [List.cons_append, nestAll]
    cases stepN s y.k y.a with
    | none => rfl
    | some t => exact ih t
theorem opn_take_snoc {α : Type} {m : List α} {j : Nat} {x : α} (h : m[j]? = some x) : m.take (j + 1) = m.take j ++ [x] := by
  rw [List.take_add_one, h]
  rfl

theorem rcheck_few (w : World) (A : Option Addr) (n cap : Nat) (m g c l : Int) (h : n = 0 ∨ 64 < n) : Calls Tryz.prog 82 #[.slice A n cap, .int .i64 m, .int .i64 g, .int .i64 c, .int .i64 l] w (GrowI (if n = 0 then 1 else 4) w) := by
  by_cases h0 : n = 0
  · have hv := Lib.hid (show (1 : Int) = (if n = 0 then 1 else 4) by rw [if_pos h0])
    obtain ⟨v, hvv⟩ : ∃ v : Int, v = (if n = 0 then 1 else 4) := ⟨_, rfl⟩
    rw [← hvv] at hv ⊢
    subst h0
    clear h hvv
    go_enter Tryz.func82, Tryz.ntmps82
    go_wp2
    go_ret
    exact ⟨ret_int hv.out, Only.refl _ w⟩
  · have h1 : 64 < n := by omega
    have hv := Lib.hid (show (4 : Int) = (if n = 0 then 1 else 4) by rw [if_neg h0])
    obtain ⟨v, hvv⟩ : ∃ v : Int, v = (if n = 0 then 1 else 4) := ⟨_, rfl⟩
    rw [← hvv] at hv ⊢
    have h2 : (64 : Int) < (n : Int) := by omega
    have h3 : ((n : Int) == 0) = false := by simpa using h0
    clear h hvv
    go_enter Tryz.func82, Tryz.ntmps82
    go_wp2
    go_ret
    exact ⟨ret_int hv.out, Only.refl _ w⟩

set_option maxRecDepth 100000 in
set_option maxHeartbeats 2000000 in
theorem rcheck_some {w : World} {A : Option Addr} {n cap : Nat} {l : List Opn} (hl : OpnRow w A l) (hn : l.length = n) (hcap : n ≤ cap) (r : RoomV) (hr : r.ok) (h0 : n ≠ 0) (h1 : n ≤ 64) : Calls Tryz.prog 82 #[.slice A n cap, .int .i64 r.m, .int .i64 r.g, .int .i64 r.c, .int .i64 r.l] w (GrowI (runZ l ns0 r) w) := by
  have hl' := Lib.hid hl
  have hn' := Lib.hid hn
  have hr' := Lib.hid hr
  have h2 : ¬ (64 : Int) < (n : Int) := by omega
  have h3 : ((n : Int) == 0) = false := by simpa using h0
  clear hl hn hr h0
  go_enter Tryz.func82, Tryz.ntmps82
  go_wp2
  go_loopw [22] (fun i wr => ∃ k : Nat, k ≤ n ∧ i = .int .i64 k ∧ (∃ s, nestAll (l.take k) ns0 = some s ∧ runZ l ns0 r = runZ (l.drop k) s r) ∧ (∀ x ∈ l.take k, 0 ≤ x.a ∧ x.a ≤ 5000) ∧ Only (fun _ => False) w wr) (fun i _ => n - (intOf i).toNat)
  case atStart => exact ⟨0, Nat.zero_le _, rfl, ⟨ns0, rfl, rfl⟩, (fun x hx => by simp at hx), Only.refl _ _⟩
  case round =>
    obtain ⟨k, hk, rfl, ⟨s, hnest, hrun⟩, hok, hO⟩ := hrel
    obtain ⟨ws, hws⟩ : ∃ ws : World, ws = wr := ⟨_, rfl⟩
    subst hws
    by_cases hkn : k < n
    · have hkn' : (k : Int) < (n : Int) := by omega
      obtain ⟨x, hx⟩ : ∃ x, l[k]? = some x := ⟨l[k]'(by have := hn'.out; omega), List.getElem?_eq_getElem _⟩
      obtain ⟨bb, off, hA, hbb, q0, q1, q2⟩ := (hl'.out.new hO) k x hx
      subst hA
      have hop := Lib.hid (fun W => rop_any W x r hr'.out)
      rw [show x.val = .agg #[.int .i64 x.k, .int .i64 x.a, .int .i64 x.b] from rfl] at hop
      have hS := Lib.hid (And.intro hnest (And.intro hrun (And.intro hok (And.intro hO hx))))
      by_cases hz : opZ x r = 0
      · have hz' := Lib.hid hz
        rw [hz] at hop
        have hok' : ∀ y ∈ l.take (k + 1), 0 ≤ y.a ∧ y.a ≤ 5000 := by
          intro y hy
          rw [opn_take_snoc hx] at hy
          rcases List.mem_append.1 hy with hy | hy
          · exact hok y hy
          · obtain rfl : y = x := by simpa using hy
            exact (opZ_zero hr'.out hz).2
        have hrow : OpnRow w (some ⟨bb, off, none⟩) (l.take (k + 1)) := fun i y hy => by
          rw [List.getElem?_take] at hy
          split at hy
          · exact hl'.out i y hy
          · cases hy
        have hlen1 : (l.take (k + 1)).length = k + 1 := by rw [List.length_take]; have := hn'.out; omega
        have hne := Lib.hid (fun W (hW : Only (fun _ => False) ws W) => rnest_any (cap := cap) (hrow.new (hO.trans' hW)) hlen1 (by omega) hok' false)
        have hokk := Lib.hid hok'
        have hns : nestB (l.take (k + 1)) false = (match stepN s x.k x.a with
            | none => false
            | some _ => true) := by
          unfold nestB
          rw [opn_take_snoc hx, nestAll_snoc, hnest]
          simp only
          cases hq : stepN s x.k x.a <;> simp
        have hi1 : (k : Int) + 1 ≤ (cap : Int) := by omega
        have hi0 : (0 : Int) ≤ (k : Int) + 1 := by omega
        have hwr : IntKind.i64.wrap ((k : Int) + 1) = (k : Int) + 1 := IntWalk.i64_in _ (by omega)
        have htn : ((k : Int) + 1).toNat = k + 1 := by omega
        clear hnest hrun hok hO hx hz hok' hrow hlen1
        cases hstep : stepN s x.k x.a with
        | none =>
          rw [hstep] at hns
          rw [hns] at hne
          have hstep' := Lib.hid hstep
          clear hstep hns
          go_wp2_with fail
          refine (hop.out _).mono ?_
          rintro e W2 ⟨rfl, hO2⟩
          have hO2' := Lib.hid (((Only.refl (fun _ => False) ws).alloc _).trans' hO2)
          clear hO2 q0 q1 q2
          go_wp2_with fail
          refine (hne.out W2 hO2'.out).mono ?_
          rintro e W3 ⟨rfl, hO3⟩
          have hO3' := Lib.hid hO3
          clear hO3
          go_wp2
          go_ret
          obtain ⟨hnest, hrun, hok, hO, hx⟩ := hS.out
          exact ⟨ret_int (by rw [hrun, run_step hx hz'.out, hstep'.out]), (hO.trans' hO2'.out).trans' hO3'.out⟩
        | some t =>
          rw [hstep] at hns
          rw [hns] at hne
          have hstep' := Lib.hid hstep
          clear hstep hns
          go_wp2_with fail
          refine (hop.out _).mono ?_
          rintro e W2 ⟨rfl, hO2⟩
          have hO2' := Lib.hid (((Only.refl (fun _ => False) ws).alloc _).trans' hO2)
          clear hO2 q0 q1 q2
          go_wp2_with fail
          refine (hne.out W2 hO2'.out).mono ?_
          rintro e W3 ⟨rfl, hO3⟩
          have hO3' := Lib.hid hO3
          clear hO3
          go_wp2
          go_roundw
          case rel =>
            obtain ⟨hnest, hrun, hok, hO, hx⟩ := hS.out
            exact ⟨k + 1, by omega, by go_num, ⟨t, by rw [opn_take_snoc hx, nestAll_snoc, hnest]; exact hstep'.out, by rw [hrun, run_step hx hz'.out, hstep'.out]⟩, hokk.out, (hO.trans' hO2'.out).trans' hO3'.out⟩
          case measure => simp [intOf]; omega
      · obtain ⟨z, hzz⟩ : ∃ z, z = opZ x r := ⟨_, rfl⟩
        rw [← hzz] at hop hz
        have hz0 : (z == 0) = false := by simpa using hz
        have hz1 : (z != 0) = true := by simpa using hz
        have hzz' := Lib.hid (And.intro hzz hz)
        clear hnest hrun hok hO hx hz hzz
        go_wp2_with fail
        refine (hop.out _).mono ?_
        rintro e W2 ⟨rfl, hO2⟩
        have hO2' := Lib.hid (((Only.refl (fun _ => False) ws).alloc _).trans' hO2)
        clear hO2 q0 q1 q2
        go_wp2
        go_ret
        obtain ⟨hnest, hrun, hok, hO, hx⟩ := hS.out
        exact ⟨ret_int (by rw [hrun, run_bad hx (by rw [← hzz'.out.1]; exact hzz'.out.2)]; exact hzz'.out.1), hO.trans' hO2'.out⟩
    · obtain rfl : k = n := by omega
      have hd : l.drop k = [] := List.drop_of_length_le (by have := hn'.out; omega)
      have ht : l.take k = l := List.take_of_length_le (by have := hn'.out; omega)
      rw [hd] at hrun
      rw [ht] at hnest hok
      have hne := Lib.hid (rnest_any (cap := cap) (hl'.out.new hO) hn'.out h1 hok true)
      have hnb : nestB l true = doneB s := by unfold nestB; rw [hnest]; rfl
      have hO' := Lib.hid hO
      rw [hnb] at hne
      cases hdn : doneB s with
      | true =>
        rw [hdn] at hne
        have hv := Lib.hid (show (0 : Int) = runZ l ns0 r by rw [hrun, runZ, if_pos hdn])
        clear hdn hnest hrun hok hO hd ht hnb
        go_wp2_with fail
        refine hne.out.mono ?_
        rintro e W2 ⟨rfl, hO2⟩
        have hO2' := Lib.hid hO2
        clear hO2
        go_wp2
        go_ret
        exact ⟨ret_int hv.out, hO'.out.trans' hO2'.out⟩
      | false =>
        rw [hdn] at hne
        have hv := Lib.hid (show (9 : Int) = runZ l ns0 r by rw [hrun, runZ, if_neg (by rw [hdn]; simp)])
        clear hdn hnest hrun hok hO hd ht hnb
        go_wp2_with fail
        refine hne.out.mono ?_
        rintro e W2 ⟨rfl, hO2⟩
        have hO2' := Lib.hid hO2
        clear hO2
        go_wp2
        go_ret
        exact ⟨ret_int hv.out, hO'.out.trans' hO2'.out⟩

theorem rcheck_any {w : World} {A : Option Addr} {cap : Nat} {l : List Opn} (hl : OpnRow w A l) (hcap : l.length ≤ cap) (r : RoomV) (hr : r.ok) : Calls Tryz.prog 82 #[.slice A l.length cap, .int .i64 r.m, .int .i64 r.g, .int .i64 r.c, .int .i64 r.l] w (GrowI (checkZ l r) w) := by
  by_cases h0 : l.length = 0 ∨ 64 < l.length
  · have := rcheck_few w A l.length cap r.m r.g r.c r.l h0
    rwa [show checkZ l r = (if l.length = 0 then 1 else 4) by
      unfold checkZ
      by_cases h : l.length = 0
      · rw [if_pos h, if_pos h]
      · rw [if_neg h, if_neg h, if_pos (by omega)]]
  · have := rcheck_some hl rfl hcap r hr (by omega) (by omega)
    rwa [show checkZ l r = runZ l ns0 r by unfold checkZ; rw [if_neg (by omega), if_neg (by omega)]]
end Go.Proofs.YtlbinlhaejhobaaGreatDoor
/- The reference's check of one task. -/
namespace Go.Proofs.YtlbinlhaejhobaaGreatDoor
open Go Go.RowKit

theorem taskB_not {t : TaskV} {b1 b2 b3 b4 b5 b6 : Bool} (e1 : b1 = inB 0 63 t.p) (e2 : b2 = inB t.p 63 t.th) (e3 : b3 = inB 1 1048576 t.pe) (e4 : b4 = inB 1 t.pe t.de) (e5 : b5 = inB 0 4096 t.fr) (e6 : b6 = inB 0 1048576 t.fl) : t.okB = (b1 && b2 && b3 && b4 && b5 && b6) := by
  unfold TaskV.okB taskB
  rw [e1, e2, e3, e4, e5, e6]

set_option maxRecDepth 100000 in
set_option maxHeartbeats 4000000 in
theorem rtask_any {w : World} {c : ConfV} {d : ConfL} (hd : ObjsAt w c d) {ts : List TaskV} (hT : TasksAt w c.ta ts) (hr : c.room.ok) {i : Nat} {t : TaskV} {l : List Opn} (ht : ts[i]? = some t) (hl : OpnRow w t.o.A l) (hn : l.length = t.o.n) (hm : t.o.n ≤ 1000000) (hcp : t.o.n ≤ t.o.cap) :
    Calls Tryz.prog 51 #[c.val, .int .i64 i, t.val] w (GrowI (taskZ c.room d.ce ts i t l) w) := by
  have hO := ((Only.refl (fun _ => False) w).alloc (.cells c.cells.toArray 27)).alloc (.cells t.cells.toArray 49)
  have hB := heap_kept_alloc (heap_new_at w (.cells c.cells.toArray 27) rfl) (.cells t.cells.toArray 49)
  have hB2 := heap_new_at (w.alloc (.cells c.cells.toArray 27)) (.cells t.cells.toArray 49) (X := w.heap.size + 1) (by simp)
  obtain ⟨W2, hW2⟩ : ∃ W2, W2 = (w.alloc (.cells c.cells.toArray 27)).alloc (.cells t.cells.toArray 49) := ⟨_, rfl⟩
  obtain ⟨b1, x1⟩ : ∃ b, b = inB 0 63 t.p := ⟨_, rfl⟩
  obtain ⟨b2, x2⟩ : ∃ b, b = inB t.p 63 t.th := ⟨_, rfl⟩
  obtain ⟨b3, x3⟩ : ∃ b, b = inB 1 1048576 t.pe := ⟨_, rfl⟩
  obtain ⟨b4, x4⟩ : ∃ b, b = inB 1 t.pe t.de := ⟨_, rfl⟩
  obtain ⟨b5, x5⟩ : ∃ b, b = inB 0 4096 t.fr := ⟨_, rfl⟩
  obtain ⟨b6, x6⟩ : ∃ b, b = inB 0 1048576 t.fl := ⟨_, rfl⟩
  have m1 := Lib.hid (fun W => rin_any W t.p 0 63)
  have m2 := Lib.hid (fun W => rin_any W t.th t.p 63)
  have m3 := Lib.hid (fun W => rin_any W t.pe 1 1048576)
  have m4 := Lib.hid (fun W => rin_any W t.de 1 t.pe)
  have m5 := Lib.hid (fun W => rin_any W t.fr 0 4096)
  have m6 := Lib.hid (fun W => rin_any W t.fl 0 1048576)
  rw [← x1] at m1
  rw [← x2] at m2
  rw [← x3] at m3
  rw [← x4] at m4
  rw [← x5] at m5
  rw [← x6] at m6
  have hok := taskB_not x1 x2 x3 x4 x5 x6
  have q3 := Lib.hid (fun (W : World) (h : Only (fun _ => False) w W) => rcheck_any (cap := t.o.cap) (hl.new h) (by rw [hn]; exact hcp) c.room hr)
  have hlk := Lib.hid (fun (h5 : checkZ l c.room = 0) (o : Opn) (ho : o ∈ l) (hk : o.k = 5) => show 0 ≤ o.a ∧ o.a < d.ce.length by
    have h1 := lock_in (checkZ_ops h5 o ho) hk (Int.natCast_nonneg _)
    have h2 := hd.ce.len
    have h3 : c.room.l = (c.ce.n : Int) := rfl
    omega)
  have hik : i < c.ta.n := by have := (List.getElem?_eq_some_iff.1 ht).1; have := hT.len; omega
  obtain ⟨z, hz⟩ : ∃ z, z = checkZ l c.room := ⟨_, rfl⟩
  obtain ⟨V, hV⟩ : ∃ V, V = taskZ c.room d.ce ts i t l := ⟨_, rfl⟩
  rw [← hV]
  have hV' := Lib.hid (show V = if (b1 && b2 && b3 && b4 && b5 && b6) = false then 5 else if z ≠ 0 then z else if l.any (lowB d.ce t.p) = true then 9 else if (ts.take i).any (fun u => decide (u.p = t.p)) = true then 10 else 0 by rw [hV]; unfold taskZ; rw [← hz, hok])
  rw [← hz, hn] at q3
  rw [← hz] at hlk
  have e0 := row_cell hB (i := 0) rfl
  have e1 := row_cell hB (i := 1) rfl
  have e2 := row_cell hB (i := 2) rfl
  have e3 := row_cell hB (i := 3) rfl
  have e4 := row_cell hB (i := 4) rfl
  have e5 := row_cell hB (i := 5) rfl
  have e6 := row_cell hB (i := 6) rfl
  have e7 := row_cell hB (i := 7) rfl
  have e8 := row_cell hB (i := 8) rfl
  have e9 := row_cell hB (i := 9) rfl
  have f0 := row_cell hB2 (i := 0) rfl
  have f1 := row_cell hB2 (i := 1) rfl
  have f2 := row_cell hB2 (i := 2) rfl
  have f3 := row_cell hB2 (i := 3) rfl
  have f4 := row_cell hB2 (i := 4) rfl
  have f5 := row_cell hB2 (i := 5) rfl
  have f6 := row_cell hB2 (i := 6) rfl
  have hlt1 := row_lt hB
  have hlt2 := row_lt hB2
  rw [← hW2] at e0 e1 e2 e3 e4 e5 e6 e7 e8 e9 f0 f1 f2 f3 f4 f5 f6 hO hlt1 hlt2
  have hT' := Lib.hid hT
  have hl' := Lib.hid hl
  have hC' := Lib.hid hd.ce
  have hcap := hT.cap
  have hs5 := hd.s.2.2.2.2
  have hs3 := hd.s.2.2.1
  rw [show c.val = .agg #[.int .i64 c.s, .int .i64 c.wy, .int .i64 c.h, .int .i64 c.mi, .slice c.mb.A c.mb.n c.mb.cap, .int .i64 c.g, .slice c.cn.A c.cn.n c.cn.cap, .slice c.ce.A c.ce.n c.ce.cap, .slice c.ta.A c.ta.n c.ta.cap, .slice c.li.A c.li.n c.li.cap] from rfl]
  rw [show t.val = .agg #[.int .i64 t.p, .int .i64 t.th, .int .i64 t.pe, .int .i64 t.de, .int .i64 t.fr, .int .i64 t.fl, .slice t.o.A t.o.n t.o.cap] from rfl]
  rw [show c.room = ⟨c.mb.n, c.g, c.cn.n, c.ce.n⟩ from rfl] at q3
  unfold ConfV.cells TaskV.cells at hW2
  obtain ⟨P, th, pe, de, fr, fl, ⟨oA, on, oc⟩⟩ := t
  obtain ⟨s, wy, h, mi, ⟨mA, mn, mc⟩, g, ⟨cA, cn, cc⟩, ⟨eA, en, ec⟩, ⟨tA, tn, tc⟩, ⟨lA, ln, lc⟩⟩ := c
  simp only at *
  have hik' : (i : Int) < (tn : Int) := by omega
  have hW2' := Lib.hid hW2
  have hO' := Lib.hid hO
  have hln' := Lib.hid hn
  clear hd hT hr ht hl hn hz hB hB2 hO hW2 hV x1 x2 x3 x4 x5 x6 hok
  cases b1
  · skip
    have hv := Lib.hid (show V = 5 by rw [hV'.out]; simp)
    go_enter Tryz.func51, Tryz.ntmps51
    go_wp2_with fail
    refine (m1.out _).mono ?_
    rintro e w' ⟨rfl, rfl⟩
    rw [← hW2'.out]
    go_wp2
    go_ret
    exact ⟨ret_int hv.out.symm, hO'.out⟩
  · skip
    cases b2
    · skip
      have hv := Lib.hid (show V = 5 by rw [hV'.out]; simp)
      go_enter Tryz.func51, Tryz.ntmps51
      go_wp2_with fail
      refine (m1.out _).mono ?_
      rintro e w' ⟨rfl, rfl⟩
      rw [← hW2'.out]
      go_wp2_with fail
      refine (m2.out _).mono ?_
      rintro e w' ⟨rfl, rfl⟩
      go_wp2
      go_ret
      exact ⟨ret_int hv.out.symm, hO'.out⟩
    · skip
      cases b3
      · skip
        have hv := Lib.hid (show V = 5 by rw [hV'.out]; simp)
        go_enter Tryz.func51, Tryz.ntmps51
        go_wp2_with fail
        refine (m1.out _).mono ?_
        rintro e w' ⟨rfl, rfl⟩
        rw [← hW2'.out]
        go_wp2_with fail
        refine (m2.out _).mono ?_
        rintro e w' ⟨rfl, rfl⟩
        go_wp2_with fail
        refine (m3.out _).mono ?_
        rintro e w' ⟨rfl, rfl⟩
        go_wp2
        go_ret
        exact ⟨ret_int hv.out.symm, hO'.out⟩
      · skip
        cases b4
        · skip
          have hv := Lib.hid (show V = 5 by rw [hV'.out]; simp)
          go_enter Tryz.func51, Tryz.ntmps51
          go_wp2_with fail
          refine (m1.out _).mono ?_
          rintro e w' ⟨rfl, rfl⟩
          rw [← hW2'.out]
          go_wp2_with fail
          refine (m2.out _).mono ?_
          rintro e w' ⟨rfl, rfl⟩
          go_wp2_with fail
          refine (m3.out _).mono ?_
          rintro e w' ⟨rfl, rfl⟩
          go_wp2_with fail
          refine (m4.out _).mono ?_
          rintro e w' ⟨rfl, rfl⟩
          go_wp2
          go_ret
          exact ⟨ret_int hv.out.symm, hO'.out⟩
        · skip
          cases b5
          · skip
            have hv := Lib.hid (show V = 5 by rw [hV'.out]; simp)
            go_enter Tryz.func51, Tryz.ntmps51
            go_wp2_with fail
            refine (m1.out _).mono ?_
            rintro e w' ⟨rfl, rfl⟩
            rw [← hW2'.out]
            go_wp2_with fail
            refine (m2.out _).mono ?_
            rintro e w' ⟨rfl, rfl⟩
            go_wp2_with fail
            refine (m3.out _).mono ?_
            rintro e w' ⟨rfl, rfl⟩
            go_wp2_with fail
            refine (m4.out _).mono ?_
            rintro e w' ⟨rfl, rfl⟩
            go_wp2_with fail
            refine (m5.out _).mono ?_
            rintro e w' ⟨rfl, rfl⟩
            go_wp2
            go_ret
            exact ⟨ret_int hv.out.symm, hO'.out⟩
          · skip
            cases b6
            · skip
              have hv := Lib.hid (show V = 5 by rw [hV'.out]; simp)
              go_enter Tryz.func51, Tryz.ntmps51
              go_wp2_with fail
              refine (m1.out _).mono ?_
              rintro e w' ⟨rfl, rfl⟩
              rw [← hW2'.out]
              go_wp2_with fail
              refine (m2.out _).mono ?_
              rintro e w' ⟨rfl, rfl⟩
              go_wp2_with fail
              refine (m3.out _).mono ?_
              rintro e w' ⟨rfl, rfl⟩
              go_wp2_with fail
              refine (m4.out _).mono ?_
              rintro e w' ⟨rfl, rfl⟩
              go_wp2_with fail
              refine (m5.out _).mono ?_
              rintro e w' ⟨rfl, rfl⟩
              go_wp2_with fail
              refine (m6.out _).mono ?_
              rintro e w' ⟨rfl, rfl⟩
              go_wp2
              go_ret
              exact ⟨ret_int hv.out.symm, hO'.out⟩
            · skip
              go_enter Tryz.func51, Tryz.ntmps51
              go_wp2_with fail
              refine (m1.out _).mono ?_
              rintro e w' ⟨rfl, rfl⟩
              rw [← hW2'.out]
              go_wp2_with fail
              refine (m2.out _).mono ?_
              rintro e w' ⟨rfl, rfl⟩
              go_wp2_with fail
              refine (m3.out _).mono ?_
              rintro e w' ⟨rfl, rfl⟩
              go_wp2_with fail
              refine (m4.out _).mono ?_
              rintro e w' ⟨rfl, rfl⟩
              go_wp2_with fail
              refine (m5.out _).mono ?_
              rintro e w' ⟨rfl, rfl⟩
              go_wp2_with fail
              refine (m6.out _).mono ?_
              rintro e w' ⟨rfl, rfl⟩
              have hv := Lib.hid (show V = if z ≠ 0 then z else if l.any (lowB d.ce P) = true then 9 else if (ts.take i).any (fun u => decide (u.p = P)) = true then 10 else 0 by rw [hV'.out]; simp)
              clear m1 m2 m3 m4 m5 m6 hV' hW2'
              go_wp2_with fail
              refine (q3.out _ hO'.out).mono ?_
              rintro e w3 ⟨rfl, hO3⟩
              replace e0 := hO3.cell e0 (fun h => h)
              replace e1 := hO3.cell e1 (fun h => h)
              replace e2 := hO3.cell e2 (fun h => h)
              replace e3 := hO3.cell e3 (fun h => h)
              replace e4 := hO3.cell e4 (fun h => h)
              replace e5 := hO3.cell e5 (fun h => h)
              replace e6 := hO3.cell e6 (fun h => h)
              replace e7 := hO3.cell e7 (fun h => h)
              replace e8 := hO3.cell e8 (fun h => h)
              replace e9 := hO3.cell e9 (fun h => h)
              replace f0 := hO3.cell f0 (fun h => h)
              replace f1 := hO3.cell f1 (fun h => h)
              replace f2 := hO3.cell f2 (fun h => h)
              replace f3 := hO3.cell f3 (fun h => h)
              replace f4 := hO3.cell f4 (fun h => h)
              replace f5 := hO3.cell f5 (fun h => h)
              replace f6 := hO3.cell f6 (fun h => h)
              replace hlt1 := Nat.lt_of_lt_of_le hlt1 hO3.size
              replace hlt2 := Nat.lt_of_lt_of_le hlt2 hO3.size
              have hP3 := Lib.hid (hO'.out.trans' hO3)
              clear hO3 q3 hO'
              by_cases hz0 : z = 0
              rotate_left
              · have hv2 := Lib.hid (show V = z by rw [hv.out]; simp [hz0])
                have hzb : (z != 0) = true := by simp [hz0]
                go_wp2
                go_ret
                exact ⟨ret_int hv2.out.symm, hP3.out⟩
              · subst hz0
                have hlk2 := Lib.hid (hlk.out rfl)
                have hv1 := Lib.hid (show V = if l.any (lowB d.ce P) = true then 9 else if (ts.take i).any (fun u => decide (u.p = P)) = true then 10 else 0 by rw [hv.out]; simp)
                clear hlk hv
                go_wp2
                go_loopw [69] (fun i wr => ∃ k : Nat, k ≤ on ∧ i = .int .i64 k ∧ (∀ (j : Nat) o, j < k → l[j]? = some o → lowB d.ce P o = false) ∧ Only (fun _ => False) w3 wr) (fun i _ => on - (intOf i).toNat)
                case atStart => exact ⟨0, Nat.zero_le _, rfl, (fun j z hj => by omega), Only.refl _ w3⟩
                case round =>
                  obtain ⟨k, hk, rfl, hall, hOk⟩ := hrel
                  replace e0 := hOk.cell e0 (fun h => h)
                  replace e1 := hOk.cell e1 (fun h => h)
                  replace e2 := hOk.cell e2 (fun h => h)
                  replace e3 := hOk.cell e3 (fun h => h)
                  replace e4 := hOk.cell e4 (fun h => h)
                  replace e5 := hOk.cell e5 (fun h => h)
                  replace e6 := hOk.cell e6 (fun h => h)
                  replace e7 := hOk.cell e7 (fun h => h)
                  replace e8 := hOk.cell e8 (fun h => h)
                  replace e9 := hOk.cell e9 (fun h => h)
                  replace f0 := hOk.cell f0 (fun h => h)
                  replace f1 := hOk.cell f1 (fun h => h)
                  replace f2 := hOk.cell f2 (fun h => h)
                  replace f3 := hOk.cell f3 (fun h => h)
                  replace f4 := hOk.cell f4 (fun h => h)
                  replace f5 := hOk.cell f5 (fun h => h)
                  replace f6 := hOk.cell f6 (fun h => h)
                  replace hlt1 := Nat.lt_of_lt_of_le hlt1 hOk.size
                  replace hlt2 := Nat.lt_of_lt_of_le hlt2 hOk.size
                  have hPk := Lib.hid (hP3.out.trans' hOk)
                  have hOk' := Lib.hid hOk
                  have hall' := Lib.hid hall
                  clear hall hOk
                  by_cases hkn : k < on
                  · have hkn' : (k : Int) < (on : Int) := by omega
                    obtain ⟨o, ho⟩ : ∃ t, l[k]? = some t := ⟨_, List.getElem?_eq_getElem (by have := hln'.out; omega)⟩
                    obtain ⟨b, off, hA, hb, hC⟩ := hl'.out k o ho
                    subst hA
                    have c0 := hPk.out.cell hC.1 (fun h => h)
                    have c1 := hPk.out.cell hC.2.1 (fun h => h)
                    have c2 := hPk.out.cell hC.2.2 (fun h => h)
                    have hin := hlk2.out o (List.mem_of_getElem? ho)
                    have hnx := Lib.hid (fun (hf : lowB d.ce P o = false) => show ∀ (j : Nat) y, j < k + 1 → l[j]? = some y → lowB d.ce P y = false from fun j y hj hy => by
                        by_cases hjk : j < k
                        · exact hall'.out j y hjk hy
                        · obtain rfl : j = k := by omega
                          rw [ho] at hy
                          cases hy
                          exact hf)
                    have hyes := Lib.hid (fun (hf : lowB d.ce P o = true) => any_yes (f := lowB d.ce P) ho hf)
                    have hbig := Nat.lt_of_lt_of_le hb hPk.out.size
                    clear hC ho
                    obtain ⟨ok, oa, ob⟩ := o
                    simp only at *
                    have hOa := Lib.hid (fun (v : Obj) => (Only.refl (fun _ => False) wr).alloc v)
                    by_cases h5 : ok = 5
                    · subst h5
                      obtain ⟨h1, h2⟩ := hin rfl
                      obtain ⟨a, rfl⟩ := Int.eq_ofNat_of_zero_le h1
                      have hclen := hC'.out.len
                      simp only at hclen
                      obtain ⟨y, hy⟩ : ∃ y, d.ce[a]? = some y := ⟨_, List.getElem?_eq_getElem (by omega)⟩
                      obtain ⟨bb, off2, hA2, hb2, y0⟩ := hC'.out.at_ a y hy
                      simp only at hA2
                      subst hA2
                      have han : (a : Int) < (en : Int) := by omega
                      have han' : a < en := by omega
                      have y1 := hPk.out.cell y0 (fun h => h)
                      have hb3 := Nat.lt_of_lt_of_le hb2 hPk.out.size
                      have hgd := Lib.hid (show d.ce.getD a 0 = y by rw [List.getD_eq_getElem?_getD, hy]; rfl)
                      clear hy hin hclen h2 y0 hb2
                      by_cases hlt : y < P
                      · have hw := Lib.hid (hyes.out (by rw [lowB_five hgd.out]; simp [hlt]))
                        have hv2 := Lib.hid (show V = 9 by rw [hv1.out, if_pos hw.out])
                        go_wp2
                        go_quiet (fail)
                        go_wp2
                        go_ret
                        exact ⟨ret_int hv2.out.symm, (hPk.out.alloc _).drewN _⟩
                      · have hw := Lib.hid (hnx.out (by rw [lowB_five hgd.out]; simp; omega))
                        go_wp2
                        go_quiet (fail)
                        go_wp2
                        go_roundw
                        case rel => exact ⟨k + 1, by omega, by go_num, hw.out, (hOk'.out.alloc _).drewN _⟩
                        case measure => simp [intOf]; omega
                    · have hw := Lib.hid (hnx.out (lowB_not h5))
                      have h5b : (ok == 5) = false := by simp [h5]
                      clear hin
                      go_wp2
                      go_quiet (fail)
                      go_wp2
                      go_roundw
                      case rel => exact ⟨k + 1, by omega, by go_num, hw.out, (hOk'.out.alloc _).drewN _⟩
                      case measure => simp [intOf]; omega
                  · obtain rfl : k = on := by omega
                    have hno := Lib.hid (any_not (l := l) (f := lowB d.ce P) (fun j z hz => hall'.out j z (by have := (List.getElem?_eq_some_iff.1 hz).1; have := hln'.out; omega) hz))
                    have hv2 := Lib.hid (show V = if (ts.take i).any (fun u => decide (u.p = P)) = true then 10 else 0 by rw [hv1.out, hno.out]; simp)
                    clear hv1 hno hall'
                    go_wp2
                    go_loopw [10] (fun i' wq => ∃ k' : Nat, k' ≤ i ∧ i' = .int .i64 k' ∧ (∀ (j : Nat) u, j < k' → ts[j]? = some u → decide (u.p = P) = false) ∧ Only (fun _ => False) wr wq) (fun i' _ => i - (intOf i').toNat)
                    case atStart => exact ⟨0, Nat.zero_le _, rfl, (fun j z hj => by omega), Only.refl _ wr⟩
                    case round =>
                      obtain ⟨k', hk', rfl, hall, hOq⟩ := hrel
                      replace e0 := hOq.cell e0 (fun h => h)
                      replace e1 := hOq.cell e1 (fun h => h)
                      replace e2 := hOq.cell e2 (fun h => h)
                      replace e3 := hOq.cell e3 (fun h => h)
                      replace e4 := hOq.cell e4 (fun h => h)
                      replace e5 := hOq.cell e5 (fun h => h)
                      replace e6 := hOq.cell e6 (fun h => h)
                      replace e7 := hOq.cell e7 (fun h => h)
                      replace e8 := hOq.cell e8 (fun h => h)
                      replace e9 := hOq.cell e9 (fun h => h)
                      replace f0 := hOq.cell f0 (fun h => h)
                      replace f1 := hOq.cell f1 (fun h => h)
                      replace f2 := hOq.cell f2 (fun h => h)
                      replace f3 := hOq.cell f3 (fun h => h)
                      replace f4 := hOq.cell f4 (fun h => h)
                      replace f5 := hOq.cell f5 (fun h => h)
                      replace f6 := hOq.cell f6 (fun h => h)
                      replace hlt1 := Nat.lt_of_lt_of_le hlt1 hOq.size
                      replace hlt2 := Nat.lt_of_lt_of_le hlt2 hOq.size
                      have hPq := Lib.hid (hPk.out.trans' hOq)
                      have hOq' := Lib.hid hOq
                      have hall' := Lib.hid hall
                      clear hall hOq
                      have htl := Lib.hid hT'.out.len
                      by_cases hki : k' < i
                      · have hki' : (k' : Int) < (i : Int) := by omega
                        obtain ⟨u, hu⟩ : ∃ u, ts[k']? = some u := ⟨_, List.getElem?_eq_getElem (by have := htl.out; simp only at this; omega)⟩
                        obtain ⟨bb, off, hA, hb, hCC⟩ := hT'.out.at_ k' u hu
                        simp only at hA
                        subst hA
                        have t0 := hPq.out.cell hCC.c0 (fun h => h)
                        have hb3 := Nat.lt_of_lt_of_le hb hPq.out.size
                        have hkt : (k' : Int) < (tn : Int) := by omega
                        have hnx := Lib.hid (fun (hf : decide (u.p = P) = false) => show ∀ (j : Nat) y, j < k' + 1 → ts[j]? = some y → decide (y.p = P) = false from fun j y hj hy => by
                          by_cases hjk : j < k'
                          · exact hall'.out j y hjk hy
                          · obtain rfl : j = k' := by omega
                            rw [hu] at hy
                            cases hy
                            exact hf)
                        have hyes := Lib.hid (fun (hf : decide (u.p = P) = true) => any_yes (l := ts.take i) (k := k') (f := fun u => decide (u.p = P)) (by rw [List.getElem?_take_of_lt hki]; exact hu) hf)
                        clear hCC hu hb
                        obtain ⟨up, uth, upe, ude, ufr, ufl, uo⟩ := u
                        simp only at *
                        by_cases hup : up = P
                        · have hw := Lib.hid (hyes.out (by simp [hup]))
                          have hv3 := Lib.hid (show V = 10 by rw [hv2.out, if_pos hw.out])
                          have hupb : (up == P) = true := by simp [hup]
                          go_wp2
                          go_quiet (fail)
                          go_wp2
                          go_ret
                          exact ⟨ret_int hv3.out.symm, hPq.out.drewN _⟩
                        · have hw := Lib.hid (hnx.out (by simp [hup]))
                          have hupb : (up == P) = false := by simp [hup]
                          go_wp2
                          go_quiet (fail)
                          go_wp2
                          go_roundw
                          case rel => exact ⟨k' + 1, by omega, by go_num, hw.out, hOq'.out.drewN _⟩
                          case measure => simp [intOf]; omega
                      · obtain rfl : k' = i := by omega
                        have hno := Lib.hid (any_not (l := ts.take k') (f := fun u => decide (u.p = P)) (fun j z hz => by
                          have hj : j < k' := by
                            have := (List.getElem?_eq_some_iff.1 hz).1
                            rw [List.length_take] at this
                            omega
                          rw [List.getElem?_take_of_lt hj] at hz
                          exact hall'.out j z hj hz))
                        have hv3 := Lib.hid (show V = 0 by rw [hv2.out, hno.out]; simp)
                        go_wp2
                        go_ret
                        exact ⟨ret_int hv3.out.symm, hPq.out⟩
end Go.Proofs.YtlbinlhaejhobaaGreatDoor
/- The reference's check of a configuration. -/
namespace Go.Proofs.YtlbinlhaejhobaaGreatDoor
open Go Go.RowKit

set_option maxRecDepth 100000 in
set_option maxHeartbeats 8000000 in
theorem rconfCheck_any {w : World} {c : ConfV} {d : ConfL} {pl : Tks} (hc : ConfAt w c d pl) : Calls Tryz.prog 14 #[c.val] w (GrowI (confZ c d pl) w) := by
  have hO := ((Only.refl (fun _ => False) w).alloc (.cells c.cells.toArray 27)).alloc (.cells [.int .i64 c.s, .int .i64 c.wy, .int .i64 c.h, .int .i64 c.mi].toArray 23)
  have hB := heap_kept_alloc (heap_new_at w (.cells c.cells.toArray 27) rfl) (.cells [.int .i64 c.s, .int .i64 c.wy, .int .i64 c.h, .int .i64 c.mi].toArray 23)
  have hB2 := heap_new_at (w.alloc (.cells c.cells.toArray 27)) (.cells [.int .i64 c.s, .int .i64 c.wy, .int .i64 c.h, .int .i64 c.mi].toArray 23) (X := w.heap.size + 1) (by simp)
  obtain ⟨W2, hW2⟩ : ∃ W2, W2 = (w.alloc (.cells c.cells.toArray 27)).alloc (.cells [.int .i64 c.s, .int .i64 c.wy, .int .i64 c.h, .int .i64 c.mi].toArray 23) := ⟨_, rfl⟩
  obtain ⟨b1, x1⟩ : ∃ b, b = inB 1 16 c.s := ⟨_, rfl⟩
  obtain ⟨b2, x2⟩ : ∃ b, b = inB 1 4 c.wy := ⟨_, rfl⟩
  obtain ⟨b3, x3⟩ : ∃ b, b = inB 1 100 c.h := ⟨_, rfl⟩
  obtain ⟨b4, x4⟩ : ∃ b, b = inB c.h 100 c.mi := ⟨_, rfl⟩
  have m1 := Lib.hid (fun W => rin_any W c.s 1 16)
  have m2 := Lib.hid (fun W => rin_any W c.wy 1 4)
  have m3 := Lib.hid (fun W => rin_any W c.h 1 100)
  have m4 := Lib.hid (fun W => rin_any W c.mi c.h 100)
  rw [← x1] at m1
  rw [← x2] at m2
  rw [← x3] at m3
  rw [← x4] at m4
  obtain ⟨k1, y1⟩ : ∃ b, b = allIn 1 8 d.mb := ⟨_, rfl⟩
  obtain ⟨k2, y2⟩ : ∃ b, b = allIn 1 8 d.cn := ⟨_, rfl⟩
  obtain ⟨k3, y3⟩ : ∃ b, b = allIn 0 63 d.ce := ⟨_, rfl⟩
  obtain ⟨k4, y4⟩ : ∃ b, b = allIn 0 ((c.ta.n : Int) - 1) d.li := ⟨_, rfl⟩
  have n1 := Lib.hid (fun (W : World) (hW : Only (fun _ => False) w W) => rall_any (hc.o.new hW).mb hc.o.s.1 1 8)
  have n2 := Lib.hid (fun (W : World) (hW : Only (fun _ => False) w W) => rall_any (hc.o.new hW).cn hc.o.s.2.1 1 8)
  have n3 := Lib.hid (fun (W : World) (hW : Only (fun _ => False) w W) => rall_any (hc.o.new hW).ce hc.o.s.2.2.1 0 63)
  have n4 := Lib.hid (fun (W : World) (hW : Only (fun _ => False) w W) => rall_any (hc.o.new hW).li hc.o.s.2.2.2.1 0 ((c.ta.n : Int) - 1))
  rw [← y1] at n1
  rw [← y2] at n2
  rw [← y3] at n3
  rw [← y4] at n4
  have q4 := Lib.hid (fun (h1 : c.room.ok) (W : World) (h : Only (fun _ => False) w W) (i : Nat) (t : TaskV) (ht : pl.ts[i]? = some t) => show Calls Tryz.prog 51 #[c.val, .int .i64 i, t.val] W (GrowI (taskAt c.room d.ce pl i) W) by
    unfold Tks.ts at ht
    rw [List.getElem?_map] at ht
    obtain ⟨⟨t', l⟩, hp, rfl⟩ := Option.map_eq_some_iff.1 ht
    rw [taskAt_some hp]
    obtain ⟨p1, p2, p3, p4⟩ := hc.p.row i t' l hp
    exact rtask_any (hc.o.new h) (hc.t.new h) h1 (ts_some hp) (p1.new h) p2 p3 p4)
  have hrk := Lib.hid (fun (h1 : manyB c = false) (h2 : ¬ c.g < 0) => room_ok h1 h2)
  obtain ⟨V, hV⟩ : ∃ V, V = confZ c d pl := ⟨_, rfl⟩
  obtain ⟨f, hf⟩ : ∃ f, f = taskAt c.room d.ce pl := ⟨_, rfl⟩
  rw [← hV]
  have hV' := Lib.hid (show V = if (b1 && b2 && b3 && b4) = false then 5 else if manyB c = true then 4 else if c.ta.n = 0 ∨ c.g < 0 then 1 else if (k1 && k2 && k3 && k4) = false then 5
    else firstNZ f c.ta.n by rw [hV, hf, x1, x2, x3, x4, y1, y2, y3, y4]; rfl)
  rw [← hf] at q4
  rw [show c.val = .agg #[.int .i64 c.s, .int .i64 c.wy, .int .i64 c.h, .int .i64 c.mi, .slice c.mb.A c.mb.n c.mb.cap, .int .i64 c.g, .slice c.cn.A c.cn.n c.cn.cap, .slice c.ce.A c.ce.n c.ce.cap, .slice c.ta.A c.ta.n c.ta.cap, .slice c.li.A c.li.n c.li.cap] from rfl] at q4 ⊢
  have e0 := row_cell hB (i := 0) rfl
  have e1 := row_cell hB (i := 1) rfl
  have e2 := row_cell hB (i := 2) rfl
  have e3 := row_cell hB (i := 3) rfl
  have e4 := row_cell hB (i := 4) rfl
  have e5 := row_cell hB (i := 5) rfl
  have e6 := row_cell hB (i := 6) rfl
  have e7 := row_cell hB (i := 7) rfl
  have e8 := row_cell hB (i := 8) rfl
  have e9 := row_cell hB (i := 9) rfl
  have hlt1 := row_lt hB
  have f0 := row_cell hB2 (i := 0) rfl
  have f1 := row_cell hB2 (i := 1) rfl
  have f2 := row_cell hB2 (i := 2) rfl
  have f3 := row_cell hB2 (i := 3) rfl
  have hlt2 := row_lt hB2
  rw [← hW2] at f0 f1 f2 f3 hlt2 e0 e1 e2 e3 e4 e5 e6 e7 e8 e9 hO hlt1
  have hs5 := hc.o.s.2.2.2.2
  have hT' := Lib.hid hc.t
  unfold ConfV.cells at hW2
  generalize c.room.ok = RO at q4 hrk
  have hmk := Lib.hid (show manyB c = decide (4 < (c.mb.n : Int) ∨ 4 < c.g ∨ 4 < (c.cn.n : Int) ∨ 4 < (c.ce.n : Int) ∨ 8 < (c.ta.n : Int) ∨ 8 < (c.li.n : Int)) from rfl)
  rw [hmk.out] at hrk hV'
  clear hmk
  obtain ⟨s, wy, h, mi, ⟨mA, mn, mc⟩, g, ⟨cA, cn, cc⟩, ⟨eA, en, ec⟩, ⟨tA, tn, tc⟩, ⟨lA, ln, lc⟩⟩ := c
  simp only at *
  have hW2' := Lib.hid hW2
  have hO' := Lib.hid hO
  clear hc hB hB2 hO hW2 hV x1 x2 x3 x4 y1 y2 y3 y4 hf
  cases b1
  · skip
    have hv := Lib.hid (show V = 5 by rw [hV'.out]; simp)
    go_enter Tryz.func14, Tryz.ntmps14
    go_wp2_with fail
    refine (m1.out _).mono ?_
    rintro e w' ⟨rfl, rfl⟩
    rw [← hW2'.out]
    go_wp2
    go_ret
    exact ⟨ret_int hv.out.symm, hO'.out⟩
  · skip
    cases b2
    · skip
      have hv := Lib.hid (show V = 5 by rw [hV'.out]; simp)
      go_enter Tryz.func14, Tryz.ntmps14
      go_wp2_with fail
      refine (m1.out _).mono ?_
      rintro e w' ⟨rfl, rfl⟩
      rw [← hW2'.out]
      go_wp2_with fail
      refine (m2.out _).mono ?_
      rintro e w' ⟨rfl, rfl⟩
      go_wp2
      go_ret
      exact ⟨ret_int hv.out.symm, hO'.out⟩
    · skip
      cases b3
      · skip
        have hv := Lib.hid (show V = 5 by rw [hV'.out]; simp)
        go_enter Tryz.func14, Tryz.ntmps14
        go_wp2_with fail
        refine (m1.out _).mono ?_
        rintro e w' ⟨rfl, rfl⟩
        rw [← hW2'.out]
        go_wp2_with fail
        refine (m2.out _).mono ?_
        rintro e w' ⟨rfl, rfl⟩
        go_wp2_with fail
        refine (m3.out _).mono ?_
        rintro e w' ⟨rfl, rfl⟩
        go_wp2
        go_ret
        exact ⟨ret_int hv.out.symm, hO'.out⟩
      · skip
        cases b4
        · skip
          have hv := Lib.hid (show V = 5 by rw [hV'.out]; simp)
          go_enter Tryz.func14, Tryz.ntmps14
          go_wp2_with fail
          refine (m1.out _).mono ?_
          rintro e w' ⟨rfl, rfl⟩
          rw [← hW2'.out]
          go_wp2_with fail
          refine (m2.out _).mono ?_
          rintro e w' ⟨rfl, rfl⟩
          go_wp2_with fail
          refine (m3.out _).mono ?_
          rintro e w' ⟨rfl, rfl⟩
          go_wp2_with fail
          refine (m4.out _).mono ?_
          rintro e w' ⟨rfl, rfl⟩
          go_wp2
          go_ret
          exact ⟨ret_int hv.out.symm, hO'.out⟩
        · skip
          go_enter Tryz.func14, Tryz.ntmps14
          go_wp2_with fail
          refine (m1.out _).mono ?_
          rintro e w' ⟨rfl, rfl⟩
          rw [← hW2'.out]
          go_wp2_with fail
          refine (m2.out _).mono ?_
          rintro e w' ⟨rfl, rfl⟩
          go_wp2_with fail
          refine (m3.out _).mono ?_
          rintro e w' ⟨rfl, rfl⟩
          go_wp2_with fail
          refine (m4.out _).mono ?_
          rintro e w' ⟨rfl, rfl⟩
          clear m1 m2 m3 m4 hW2' f0 f1 f2 f3
          by_cases u0 : 4 < (mn : Int)
          · have hv := Lib.hid (show V = 4 by rw [hV'.out, if_neg (by simp), if_pos (by simp only [decide_eq_true_eq]; omega)])
            go_wp2
            go_ret
            exact ⟨ret_int hv.out.symm, hO'.out⟩
          · skip
            by_cases u1 : 4 < g
            · have hv := Lib.hid (show V = 4 by rw [hV'.out, if_neg (by simp), if_pos (by simp only [decide_eq_true_eq]; omega)])
              go_wp2
              go_ret
              exact ⟨ret_int hv.out.symm, hO'.out⟩
            · skip
              by_cases u2 : 4 < (cn : Int)
              · have hv := Lib.hid (show V = 4 by rw [hV'.out, if_neg (by simp), if_pos (by simp only [decide_eq_true_eq]; omega)])
                go_wp2
                go_ret
                exact ⟨ret_int hv.out.symm, hO'.out⟩
              · skip
                by_cases u3 : 4 < (en : Int)
                · have hv := Lib.hid (show V = 4 by rw [hV'.out, if_neg (by simp), if_pos (by simp only [decide_eq_true_eq]; omega)])
                  go_wp2
                  go_ret
                  exact ⟨ret_int hv.out.symm, hO'.out⟩
                · skip
                  by_cases u4 : 8 < (tn : Int)
                  · have hv := Lib.hid (show V = 4 by rw [hV'.out, if_neg (by simp), if_pos (by simp only [decide_eq_true_eq]; omega)])
                    go_wp2
                    go_ret
                    exact ⟨ret_int hv.out.symm, hO'.out⟩
                  · skip
                    by_cases u5 : 8 < (ln : Int)
                    · have hv := Lib.hid (show V = 4 by rw [hV'.out, if_neg (by simp), if_pos (by simp only [decide_eq_true_eq]; omega)])
                      go_wp2
                      go_ret
                      exact ⟨ret_int hv.out.symm, hO'.out⟩
                    · skip
                      have hmf := Lib.hid (show decide (4 < (mn : Int) ∨ 4 < g ∨ 4 < (cn : Int) ∨ 4 < (en : Int) ∨ 8 < (tn : Int) ∨ 8 < (ln : Int)) = false by simp only [decide_eq_false_iff_not]; omega)
                      rw [hmf.out] at hV' hrk
                      clear hmf
                      by_cases hn0 : tn = 0
                      · subst hn0
                        have hv := Lib.hid (show V = 1 by rw [hV'.out]; simp)
                        go_wp2
                        go_ret
                        exact ⟨ret_int hv.out.symm, hO'.out⟩
                      · have hnb : ((tn : Int) == 0) = false := by simp [hn0]
                        have hnb' : ¬ (tn : Int) = 0 := by omega
                        by_cases hg : g < 0
                        · have hv := Lib.hid (show V = 1 by rw [hV'.out, if_neg (by simp), if_neg (by simp), if_pos (.inr hg)])
                          go_wp2
                          go_ret
                          exact ⟨ret_int hv.out.symm, hO'.out⟩
                        · have hgb : ¬ g < 0 := hg
                          have hv0 := Lib.hid (show V = if (k1 && k2 && k3 && k4) = false then 5 else firstNZ f tn by rw [hV'.out, if_neg (by simp), if_neg (by simp), if_neg (by omega)])
                          have q5 := Lib.hid (q4.out (hrk.out rfl (by omega)))
                          clear q4 hrk hV'
                          cases k1
                          · skip
                            have hv := Lib.hid (show V = 5 by rw [hv0.out]; simp)
                            go_wp2_with fail
                            refine (n1.out _ hO'.out).mono ?_
                            rintro e w' ⟨rfl, rfl⟩
                            go_wp2
                            go_ret
                            exact ⟨ret_int hv.out.symm, hO'.out⟩
                          · skip
                            cases k2
                            · skip
                              have hv := Lib.hid (show V = 5 by rw [hv0.out]; simp)
                              go_wp2_with fail
                              refine (n1.out _ hO'.out).mono ?_
                              rintro e w' ⟨rfl, rfl⟩
                              go_wp2_with fail
                              refine (n2.out _ hO'.out).mono ?_
                              rintro e w' ⟨rfl, rfl⟩
                              go_wp2
                              go_ret
                              exact ⟨ret_int hv.out.symm, hO'.out⟩
                            · skip
                              cases k3
                              · skip
                                have hv := Lib.hid (show V = 5 by rw [hv0.out]; simp)
                                go_wp2_with fail
                                refine (n1.out _ hO'.out).mono ?_
                                rintro e w' ⟨rfl, rfl⟩
                                go_wp2_with fail
                                refine (n2.out _ hO'.out).mono ?_
                                rintro e w' ⟨rfl, rfl⟩
                                go_wp2_with fail
                                refine (n3.out _ hO'.out).mono ?_
                                rintro e w' ⟨rfl, rfl⟩
                                go_wp2
                                go_ret
                                exact ⟨ret_int hv.out.symm, hO'.out⟩
                              · skip
                                cases k4
                                · skip
                                  have hv := Lib.hid (show V = 5 by rw [hv0.out]; simp)
                                  go_wp2_with fail
                                  refine (n1.out _ hO'.out).mono ?_
                                  rintro e w' ⟨rfl, rfl⟩
                                  go_wp2_with fail
                                  refine (n2.out _ hO'.out).mono ?_
                                  rintro e w' ⟨rfl, rfl⟩
                                  go_wp2_with fail
                                  refine (n3.out _ hO'.out).mono ?_
                                  rintro e w' ⟨rfl, rfl⟩
                                  go_wp2_with fail
                                  refine (n4.out _ hO'.out).mono ?_
                                  rintro e w' ⟨rfl, rfl⟩
                                  go_wp2
                                  go_ret
                                  exact ⟨ret_int hv.out.symm, hO'.out⟩
                                · skip
                                  go_wp2_with fail
                                  refine (n1.out _ hO'.out).mono ?_
                                  rintro e w' ⟨rfl, rfl⟩
                                  go_wp2_with fail
                                  refine (n2.out _ hO'.out).mono ?_
                                  rintro e w' ⟨rfl, rfl⟩
                                  go_wp2_with fail
                                  refine (n3.out _ hO'.out).mono ?_
                                  rintro e w' ⟨rfl, rfl⟩
                                  go_wp2_with fail
                                  refine (n4.out _ hO'.out).mono ?_
                                  rintro e w' ⟨rfl, rfl⟩
                                  have hv := Lib.hid (show V = firstNZ f tn by rw [hv0.out]; simp)
                                  clear n1 n2 n3 n4 hv0
                                  go_wp2
                                  go_loopw [104] (fun i wr => ∃ k : Nat, k ≤ tn ∧ i = .int .i64 k ∧ (∀ j : Nat, j < k → f j = 0) ∧ Only (fun _ => False) W2 wr) (fun i _ => tn - (intOf i).toNat)
                                  case atStart => exact ⟨0, Nat.zero_le _, rfl, (fun j hj => by omega), Only.refl _ W2⟩
                                  case round =>
                                    obtain ⟨k, hk, rfl, hall, hOk⟩ := hrel
                                    replace e0 := hOk.cell e0 (fun h => h)
                                    replace e1 := hOk.cell e1 (fun h => h)
                                    replace e2 := hOk.cell e2 (fun h => h)
                                    replace e3 := hOk.cell e3 (fun h => h)
                                    replace e4 := hOk.cell e4 (fun h => h)
                                    replace e5 := hOk.cell e5 (fun h => h)
                                    replace e6 := hOk.cell e6 (fun h => h)
                                    replace e7 := hOk.cell e7 (fun h => h)
                                    replace e8 := hOk.cell e8 (fun h => h)
                                    replace e9 := hOk.cell e9 (fun h => h)
                                    replace hlt1 := Nat.lt_of_lt_of_le hlt1 hOk.size
                                    have hPk := Lib.hid (hO'.out.trans' hOk)
                                    have hOk' := Lib.hid hOk
                                    have hall' := Lib.hid hall
                                    clear hall hOk
                                    by_cases hkn : k < tn
                                    · have hkn' : (k : Int) < (tn : Int) := by omega
                                      obtain ⟨t, ht⟩ : ∃ t, pl.ts[k]? = some t := ⟨_, List.getElem?_eq_getElem (by have := hT'.out.len; simp only at this; omega)⟩
                                      obtain ⟨bb, off, hA, hb, hC⟩ := hT'.out.at_ k t ht
                                      simp only at hA
                                      subst hA
                                      obtain ⟨c0, c1, c2, c3, c4, c5, c6⟩ := hC.new hPk.out
                                      have hb3 := Nat.lt_of_lt_of_le hb hPk.out.size
                                      obtain ⟨z, hz⟩ : ∃ z, z = f k := ⟨_, rfl⟩
                                      have q6 := fun (W : World) (h : Only (fun _ => False) wr W) => q5.out W (hPk.out.trans' h) k t ht
                                      rw [← hz] at q6
                                      rw [show t.val = .agg #[.int .i64 t.p, .int .i64 t.th, .int .i64 t.pe, .int .i64 t.de, .int .i64 t.fr, .int .i64 t.fl, .slice t.o.A t.o.n t.o.cap] from rfl] at q6
                                      have q6' := Lib.hid q6
                                      have hz' := Lib.hid hz
                                      clear q6 hz hC ht hb
                                      have hOa := Lib.hid ((Only.refl (fun _ => False) wr).alloc (.cells t.cells.toArray 49))
                                      unfold TaskV.cells at hOa
                                      obtain ⟨P, th, pe, de, fr, fl, ⟨oA, on, oc⟩⟩ := t
                                      simp only at *
                                      go_wp2_with fail
                                      refine (q6'.out _ hOa.out).mono ?_
                                      rintro e w4 ⟨rfl, hO4⟩
                                      replace hO4 := hOa.out.trans' hO4
                                      replace e0 := hO4.cell e0 (fun h => h)
                                      replace e1 := hO4.cell e1 (fun h => h)
                                      replace e2 := hO4.cell e2 (fun h => h)
                                      replace e3 := hO4.cell e3 (fun h => h)
                                      replace e4 := hO4.cell e4 (fun h => h)
                                      replace e5 := hO4.cell e5 (fun h => h)
                                      replace e6 := hO4.cell e6 (fun h => h)
                                      replace e7 := hO4.cell e7 (fun h => h)
                                      replace e8 := hO4.cell e8 (fun h => h)
                                      replace e9 := hO4.cell e9 (fun h => h)
                                      replace hlt1 := Nat.lt_of_lt_of_le hlt1 hO4.size
                                      have hP4 := Lib.hid (hPk.out.trans' hO4)
                                      have hO4' := Lib.hid (hOk'.out.trans' hO4)
                                      clear hO4 q6' hOa
                                      by_cases hz0 : z = 0
                                      · subst hz0
                                        have hnx := Lib.hid (show ∀ j : Nat, j < k + 1 → f j = 0 from fun j hj => by
                                          by_cases hjk : j < k
                                          · exact hall'.out j hjk
                                          · obtain rfl : j = k := by omega
                                            exact hz'.out.symm)
                                        go_wp2
                                        go_roundw
                                        case rel => exact ⟨k + 1, by omega, by go_num, hnx.out, hO4'.out⟩
                                        case measure => simp [intOf]; omega
                                      · have hv2 := Lib.hid (show V = z by rw [hv.out, firstNZ_at hall'.out (by rw [← hz'.out]; exact hz0) hkn, ← hz'.out])
                                        have hzb : (z != 0) = true := by simp [hz0]
                                        go_wp2
                                        go_ret
                                        exact ⟨ret_int hv2.out.symm, hP4.out⟩
                                    · obtain rfl : k = tn := by omega
                                      have hv2 := Lib.hid (show V = 0 by rw [hv.out, firstNZ_zero hall'.out])
                                      go_wp2
                                      go_ret
                                      exact ⟨ret_int hv2.out.symm, hPk.out⟩
end Go.Proofs.YtlbinlhaejhobaaGreatDoor
/- Few. -/
namespace Go.Proofs.YtlbinlhaejhobaaGreatDoor
open Go Go.RowKit

def fewB (c : ConfV) (ts : List TaskV) : Bool := ts.all (fun t => decide (t.o.n ≤ 80)) && decide (c.mb.n ≤ 20 ∧ c.cn.n ≤ 20 ∧ c.ce.n ≤ 20 ∧ c.ta.n ≤ 20 ∧ c.li.n ≤ 20)
theorem few_all {ts : List TaskV} {n : Nat} (hn : ts.length = n) (h : ∀ (j : Nat) t, j < n → ts[j]? = some t → t.o.n ≤ 80) : ts.all (fun t => decide (t.o.n ≤ 80)) = true := by
  rw [List.all_eq_true]
  intro t ht
  obtain ⟨k, hk⟩ := List.getElem?_of_mem ht
  exact decide_eq_true (h k t (by have := (List.getElem?_eq_some_iff.1 hk).1; omega) hk)
theorem few_bad {ts : List TaskV} {k : Nat} {t : TaskV} (hk : ts[k]? = some t) (h : 80 < t.o.n) : ts.all (fun t => decide (t.o.n ≤ 80)) = false := by
  rw [List.all_eq_false]
  exact ⟨t, List.mem_of_getElem? hk, by simp; omega⟩

set_option maxRecDepth 100000 in
set_option maxHeartbeats 2000000 in
theorem few_any {w : World} {c : ConfV} {ts : List TaskV} (hT : TasksAt w c.ta ts) (hs : c.ta.n ≤ 9223372036854775807) : Calls Tryz.prog 11 #[c.val] w (GrowB (fewB c ts) w) := by
  have hO := (Only.refl (fun _ => False) w).alloc (.cells c.cells.toArray 27)
  have hB := heap_new_at w (.cells c.cells.toArray 27) rfl
  obtain ⟨W1, hW1⟩ : ∃ W1, W1 = w.alloc (.cells c.cells.toArray 27) := ⟨_, rfl⟩
  have e0 := row_cell hB (i := 0) rfl
  have e1 := row_cell hB (i := 1) rfl
  have e2 := row_cell hB (i := 2) rfl
  have e3 := row_cell hB (i := 3) rfl
  have e4 := row_cell hB (i := 4) rfl
  have e5 := row_cell hB (i := 5) rfl
  have e6 := row_cell hB (i := 6) rfl
  have e7 := row_cell hB (i := 7) rfl
  have e8 := row_cell hB (i := 8) rfl
  have e9 := row_cell hB (i := 9) rfl
  have hlt1 := row_lt hB
  rw [← hW1] at e0 e1 e2 e3 e4 e5 e6 e7 e8 e9 hO hlt1
  obtain ⟨V, hV⟩ : ∃ V, V = fewB c ts := ⟨_, rfl⟩
  rw [← hV]
  unfold fewB at hV
  obtain ⟨F, hF⟩ : ∃ F, F = ts.all (fun t => decide (t.o.n ≤ 80)) := ⟨_, rfl⟩
  rw [← hF] at hV
  have hlen := hT.len
  rw [show c.val = .agg #[.int .i64 c.s, .int .i64 c.wy, .int .i64 c.h, .int .i64 c.mi, .slice c.mb.A c.mb.n c.mb.cap, .int .i64 c.g, .slice c.cn.A c.cn.n c.cn.cap, .slice c.ce.A c.ce.n c.ce.cap, .slice c.ta.A c.ta.n c.ta.cap, .slice c.li.A c.li.n c.li.cap] from rfl]
  unfold ConfV.cells at hW1
  have hT' := Lib.hid hT
  obtain ⟨s, wy, h, mi, ⟨mA, mn, mc⟩, g, ⟨cA, cn, cc⟩, ⟨eA, en, ec⟩, ⟨tA, tn, tc⟩, ⟨lA, ln, lc⟩⟩ := c
  simp only at *
  have hW1' := Lib.hid hW1
  have hO' := Lib.hid hO
  have hV' := Lib.hid hV
  have hF' := Lib.hid hF
  have hlen' := Lib.hid hlen
  clear hT hB hW1 hO hV hF hlen
  go_enter Tryz.func11, Tryz.ntmps11
  go_wp2
  rw [← hW1'.out]
  go_loopw [8] (fun i wr => ∃ k : Nat, k ≤ tn ∧ i = .int .i64 k ∧ (∀ (j : Nat) t, j < k → ts[j]? = some t → t.o.n ≤ 80) ∧ Only (fun _ => False) W1 wr) (fun i _ => tn - (intOf i).toNat)
  case atStart => exact ⟨0, Nat.zero_le _, rfl, (fun j _ hj => by omega), Only.refl _ W1⟩
  case round =>
    obtain ⟨k, hk, rfl, hall, hOk⟩ := hrel
    replace e0 := hOk.cell e0 (fun h => h)
    replace e1 := hOk.cell e1 (fun h => h)
    replace e2 := hOk.cell e2 (fun h => h)
    replace e3 := hOk.cell e3 (fun h => h)
    replace e4 := hOk.cell e4 (fun h => h)
    replace e5 := hOk.cell e5 (fun h => h)
    replace e6 := hOk.cell e6 (fun h => h)
    replace e7 := hOk.cell e7 (fun h => h)
    replace e8 := hOk.cell e8 (fun h => h)
    replace e9 := hOk.cell e9 (fun h => h)
    replace hlt1 := Nat.lt_of_lt_of_le hlt1 hOk.size
    have hOk' := Lib.hid hOk
    have hPk := Lib.hid (hO'.out.trans' hOk)
    have hall' := Lib.hid hall
    clear hall hOk
    by_cases hkn : k < tn
    · have hkn' : (k : Int) < (tn : Int) := by omega
      obtain ⟨t, ht⟩ : ∃ t, ts[k]? = some t := ⟨_, List.getElem?_eq_getElem (by have := hlen'.out; omega)⟩
      obtain ⟨bb, off, hA, hb, hC⟩ := hT'.out.at_ k t ht
      simp only at hA
      subst hA
      obtain ⟨c0, c1, c2, c3, c4, c5, c6⟩ := hC.new hPk.out
      have hb3 := Nat.lt_of_lt_of_le hb hPk.out.size
      have hbad := Lib.hid (fun (h : 80 < t.o.n) => show V = false by rw [hV'.out, hF'.out, few_bad ht h]; rfl)
      have hnx := Lib.hid (fun (h : t.o.n ≤ 80) => show ∀ (j : Nat) u, j < k + 1 → ts[j]? = some u → u.o.n ≤ 80 from fun j u hj hu => by
        by_cases hjk : j < k
        · exact hall'.out j u hjk hu
        · obtain rfl : j = k := by omega
          rw [ht] at hu
          cases hu
          exact h)
      clear hC ht hb
      obtain ⟨P, th, pe, de, fr, fl, ⟨oA, on, oc⟩⟩ := t
      simp only at *
      by_cases h80 : 80 < on
      · have hv := Lib.hid (hbad.out h80)
        have h80' : (80 : Int) < (on : Int) := by omega
        clear hbad hnx
        go_wp2
        go_ret
        exact retg_bool hv.out.symm (hPk.out.alloc _)
      · have hnw := Lib.hid (hnx.out (by omega))
        have h80' : ¬ (80 : Int) < (on : Int) := by omega
        clear hbad hnx
        go_wp2
        go_roundw
        case rel => exact ⟨k + 1, by omega, by go_num, hnw.out, hOk'.out.alloc _⟩
        case measure => simp [intOf]; omega
    · obtain rfl : k = tn := by omega
      have hF2 := Lib.hid (show F = true by rw [hF'.out]; exact few_all hlen'.out hall'.out)
      by_cases u0 : mn ≤ 20
      rotate_left
      · have hv := Lib.hid (show V = false by rw [hV'.out, hF2.out, decide_eq_false (by omega)]; rfl)
        have uu : ¬ (mn : Int) ≤ 20 := by omega
        go_wp2
        go_ret
        exact retg_bool (by first | exact hv.out.symm | (rw [hv.out]; simp)) hPk.out
      · have uu0 : (mn : Int) ≤ 20 := by omega
        by_cases u1 : cn ≤ 20
        rotate_left
        · have hv := Lib.hid (show V = false by rw [hV'.out, hF2.out, decide_eq_false (by omega)]; rfl)
          have uu : ¬ (cn : Int) ≤ 20 := by omega
          go_wp2
          go_ret
          exact retg_bool (by first | exact hv.out.symm | (rw [hv.out]; simp)) hPk.out
        · have uu1 : (cn : Int) ≤ 20 := by omega
          by_cases u2 : en ≤ 20
          rotate_left
          · have hv := Lib.hid (show V = false by rw [hV'.out, hF2.out, decide_eq_false (by omega)]; rfl)
            have uu : ¬ (en : Int) ≤ 20 := by omega
            go_wp2
            go_ret
            exact retg_bool (by first | exact hv.out.symm | (rw [hv.out]; simp)) hPk.out
          · have uu2 : (en : Int) ≤ 20 := by omega
            by_cases u3 : k ≤ 20
            rotate_left
            · have hv := Lib.hid (show V = false by rw [hV'.out, hF2.out, decide_eq_false (by omega)]; rfl)
              have uu : ¬ (k : Int) ≤ 20 := by omega
              go_wp2
              go_ret
              exact retg_bool (by first | exact hv.out.symm | (rw [hv.out]; simp)) hPk.out
            · have uu3 : (k : Int) ≤ 20 := by omega
              by_cases u4 : ln ≤ 20
              rotate_left
              · have hv := Lib.hid (show V = false by rw [hV'.out, hF2.out, decide_eq_false (by omega)]; rfl)
                have uu : ¬ (ln : Int) ≤ 20 := by omega
                go_wp2
                go_ret
                exact retg_bool (by first | exact hv.out.symm | (rw [hv.out]; simp)) hPk.out
              · have uu4 : (ln : Int) ≤ 20 := by omega
                have hv := Lib.hid (show V = true by rw [hV'.out, hF2.out, decide_eq_true (by omega)]; rfl)
                go_wp2
                go_ret
                exact retg_bool (by first | exact hv.out.symm | (rw [hv.out]; simp)) hPk.out
end Go.Proofs.YtlbinlhaejhobaaGreatDoor
/- A configuration that came in. -/
namespace Go.Proofs.YtlbinlhaejhobaaGreatDoor
open Go Go.RowKit

structure ConfIn (w : World) (c : ConfV) (d : ConfL) (pl : Tks) : Prop where
  mb : IntsAt w c.mb d.mb
  cn : IntsAt w c.cn d.cn
  ce : IntsAt w c.ce d.ce
  li : IntsAt w c.li d.li
  t : TasksAt w c.ta pl.ts
  p : ∀ (i : Nat) t l, pl[i]? = some (t, l) → OpnRow w t.o.A l ∧ l.length = t.o.n ∧ t.o.n ≤ t.o.cap
  n : c.ta.n ≤ 9223372036854775807
theorem ConfIn.new {w w' : World} {c : ConfV} {d : ConfL} {pl : Tks} (h : ConfIn w c d pl) (ho : Only (fun _ => False) w w') : ConfIn w' c d pl :=
  ⟨h.mb.new ho, h.cn.new ho, h.ce.new ho, h.li.new ho, h.t.new ho, fun i t l ht => ⟨(h.p i t l ht).1.new ho, (h.p i t l ht).2⟩, h.n⟩
theorem ConfIn.small {w : World} {c : ConfV} {d : ConfL} {pl : Tks} (_ : ConfIn w c d pl) (hf : fewB c pl.ts = true) : c.mb.n ≤ 20 ∧ c.cn.n ≤ 20 ∧ c.ce.n ≤ 20 ∧ c.ta.n ≤ 20 ∧ c.li.n ≤ 20 ∧ ∀ (i : Nat) t l, pl[i]? = some (t, l) → t.o.n ≤ 80 := by
  unfold fewB at hf
  rw [Bool.and_eq_true, decide_eq_true_eq, List.all_eq_true] at hf
  obtain ⟨h1, h2, h3, h4, h5, h6⟩ := hf
  refine ⟨h2, h3, h4, h5, h6, fun i t l hi => ?_⟩
  have := h1 t (List.mem_of_getElem? (i := i) (by unfold Tks.ts; rw [List.getElem?_map, hi]; rfl))
  simpa using this
theorem ConfIn.conf {w : World} {c : ConfV} {d : ConfL} {pl : Tks} (h : ConfIn w c d pl) (hf : fewB c pl.ts = true) : ConfAt w c d pl := by
  obtain ⟨h1, h2, h3, h4, h5, h6⟩ := h.small hf
  exact ⟨⟨h.mb, h.cn, h.ce, h.li, by omega⟩, h.t, ⟨fun i t l ht => ⟨(h.p i t l ht).1, (h.p i t l ht).2.1, by have := h6 i t l ht; omega, (h.p i t l ht).2.2⟩⟩⟩
theorem ConfIn.few {w : World} {c : ConfV} {d : ConfL} {pl : Tks} (h : ConfIn w c d pl) : Calls Tryz.prog 11 #[.agg #[.int .i64 c.s, .int .i64 c.wy, .int .i64 c.h, .int .i64 c.mi, .slice c.mb.A c.mb.n c.mb.cap, .int .i64 c.g, .slice c.cn.A c.cn.n c.cn.cap, .slice c.ce.A c.ce.n c.ce.cap, .slice c.ta.A c.ta.n c.ta.cap, .slice c.li.A c.li.n c.li.cap]] w (GrowB (fewB c pl.ts) w) := few_any h.t h.n
end Go.Proofs.YtlbinlhaejhobaaGreatDoor
