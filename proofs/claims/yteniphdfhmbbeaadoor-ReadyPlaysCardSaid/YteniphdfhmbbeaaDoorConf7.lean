/- One task's check. -/
import Derived.Test.YteniphdfhmbbeaaDoorConf6
namespace Go.Proofs.YteniphdfhmbbeaaDoor
open Go Go.RowKit

def TaskV.okB (t : TaskV) : Bool := taskB t.p t.th t.pe t.de t.fr t.fl
def taskZ (r : RoomV) (ce : List Int) (ts : List TaskV) (i : Nat) (t : TaskV) (l : List Opn) : Int :=
  if t.okB = false then 5 else if checkZ l r ≠ 0 then checkZ l r else if l.any (lowB ce t.p) = true then 9
  else if (ts.take i).any (fun u => decide (u.p = t.p)) = true then 10 else 0
theorem runZ_ops {r : RoomV} : ∀ {l : List Opn} {s : NS}, runZ l s r = 0 → ∀ o ∈ l, opZ o r = 0
  | [], _, _, o, h => by simp at h
  | x :: l, s, hz, o, h => by
    unfold runZ at hz
    by_cases hx : opZ x r = 0
    · rw [if_pos hx] at hz
      rcases List.mem_cons.1 h with rfl | h
      · exact hx
      · cases hs : stepN s x.k x.a with
        | none => rw [hs] at hz; simp at hz
        | some t => rw [hs] at hz; exact runZ_ops hz o h
    · rw [if_neg hx] at hz
      exact absurd hz hx
theorem checkZ_ops {l : List Opn} {r : RoomV} (h : checkZ l r = 0) : ∀ o ∈ l, opZ o r = 0 := by
  unfold checkZ at h
  by_cases h0 : l.length = 0
  · rw [if_pos h0] at h; simp at h
  · rw [if_neg h0] at h
    by_cases h1 : 64 < l.length
    · rw [if_pos h1] at h; simp at h
    · rw [if_neg h1] at h
      exact runZ_ops h
theorem lock_in {o : Opn} {r : RoomV} (h : opZ o r = 0) (hk : o.k = 5) (hl : 0 ≤ r.l) : 0 ≤ o.a ∧ o.a < r.l := by
  obtain ⟨k, a, b⟩ := o
  simp only at hk
  subst hk
  unfold opZ at h
  simp [opV, loA, hiA, hiB, inB] at h
  simp only
  omega

set_option maxRecDepth 100000 in
set_option maxHeartbeats 2000000 in
theorem checkTask_any {w : World} (hw : Words w) {c : ConfV} {d : ConfL} (hd : ObjsAt w c d) {ts : List TaskV} (hT : TasksAt w c.ta ts) (hr : c.room.ok) {i : Nat} {t : TaskV} {l : List Opn} (ht : ts[i]? = some t) (hl : OpnRow w t.o.A l) (hn : l.length = t.o.n) (hm : t.o.n ≤ 1000000) :
    Calls Tryd.prog 32 #[c.val, .int .i64 i] w (GrowI (taskZ c.room d.ce ts i t l) w) := by
  have hO := ((Only.refl (fun _ => False) w).alloc (.cells c.cells.toArray 27)).alloc (.cells t.cells.toArray 53)
  have hB := heap_kept_alloc (heap_new_at w (.cells c.cells.toArray 27) rfl) (.cells t.cells.toArray 53)
  have hB2 := heap_new_at (w.alloc (.cells c.cells.toArray 27)) (.cells t.cells.toArray 53) (X := w.heap.size + 1) (by simp)
  obtain ⟨W2, hW2⟩ : ∃ W2, W2 = (w.alloc (.cells c.cells.toArray 27)).alloc (.cells t.cells.toArray 53) := ⟨_, rfl⟩
  have q1 := Lib.hid (fun (W : World) => mayTask_any W t)
  have q2 := Lib.hid (fun (W : World) => room_any c W)
  have q3 := Lib.hid (fun (W : World) (h : Only (fun _ => False) w W) => check_any (cap := t.o.cap) (hw.new h) (hl.new h) c.room hr)
  have q4 := Lib.hid (fun (W : World) (h : Only (fun _ => False) w W) (h5 : checkZ l c.room = 0) => locksBelow_any (hd.ce.new h) hd.s.2.2.1 (hl.new h) hn hm (fun o ho hk => by
    have h1 := lock_in (checkZ_ops h5 o ho) hk (Int.natCast_nonneg _)
    have h2 := hd.ce.len
    have h3 : c.room.l = (c.ce.n : Int) := rfl
    omega))
  have hik : i < c.ta.n := by have := (List.getElem?_eq_some_iff.1 ht).1; have := hT.len; omega
  have q5 := Lib.hid (fun (W : World) (h : Only (fun _ => False) w W) => hasPr_any ((hT.new h).take (i := i) (Nat.le_of_lt hik)) (by have := hd.s.2.2.2.2; show i ≤ 1000000; omega) t.p)
  obtain ⟨z, hz⟩ : ∃ z, z = checkZ l c.room := ⟨_, rfl⟩
  obtain ⟨b1, hb1⟩ : ∃ b, b = t.okB := ⟨_, rfl⟩
  obtain ⟨b2, hb2⟩ : ∃ b, b = l.any (lowB d.ce t.p) := ⟨_, rfl⟩
  obtain ⟨b3, hb3⟩ : ∃ b, b = (ts.take i).any (fun u => decide (u.p = t.p)) := ⟨_, rfl⟩
  have hv := Lib.hid (show taskZ c.room d.ce ts i t l = if b1 = false then 5 else if z ≠ 0 then z else if b2 = true then 9 else if b3 = true then 10 else 0 by unfold taskZ; rw [← hb1, ← hb2, ← hb3, ← hz])
  obtain ⟨V, hV⟩ : ∃ V, V = taskZ c.room d.ce ts i t l := ⟨_, rfl⟩
  have hV' := Lib.hid hV
  rw [hv.out] at hV'
  rw [← hV]
  rw [show taskB t.p t.th t.pe t.de t.fr t.fl = t.okB from rfl, ← hb1] at q1
  rw [← hz, hn] at q3
  rw [← hz, ← hb2] at q4
  rw [← hb3] at q5
  rw [show c.room.val = .agg #[.int .i64 c.mb.n, .int .i64 c.g, .int .i64 c.cn.n, .int .i64 c.ce.n] from rfl] at q2 q3
  rw [show c.val = .agg #[.int .i64 c.s, .int .i64 c.wy, .int .i64 c.h, .int .i64 c.mi, .slice c.mb.A c.mb.n c.mb.cap, .int .i64 c.g, .slice c.cn.A c.cn.n c.cn.cap, .slice c.ce.A c.ce.n c.ce.cap, .slice c.ta.A c.ta.n c.ta.cap, .slice c.li.A c.li.n c.li.cap] from rfl] at q2 ⊢
  rw [show t.val = .agg #[.int .i64 t.p, .int .i64 t.th, .int .i64 t.pe, .int .i64 t.de, .int .i64 t.fr, .int .i64 t.fl, .slice t.o.A t.o.n t.o.cap] from rfl] at q1 q4
  have e0 := row_cell hB (i := 0) rfl
  have e1 := row_cell hB (i := 1) rfl
  have e2 := row_cell hB (i := 2) rfl
  have e3 := row_cell hB (i := 3) rfl
  have e4 := row_cell hB (i := 4) rfl
  have e5 := row_cell hB (i := 5) rfl
  have e6 := row_cell hB (i := 6) rfl
  have e7 := row_cell hB (i := 7) rfl
  have e8 := row_cell hB (i := 8) rfl
  have e9 := row_cell hB (i := 9) rfl
  have f0 := row_cell hB2 (i := 0) rfl
  have f1 := row_cell hB2 (i := 1) rfl
  have f2 := row_cell hB2 (i := 2) rfl
  have f3 := row_cell hB2 (i := 3) rfl
  have f4 := row_cell hB2 (i := 4) rfl
  have f5 := row_cell hB2 (i := 5) rfl
  have f6 := row_cell hB2 (i := 6) rfl
  have hlt1 := row_lt hB
  have hlt2 := row_lt hB2
  rw [← hW2] at e0 e1 e2 e3 e4 e5 e6 e7 e8 e9 f0 f1 f2 f3 f4 f5 f6 hO hlt1 hlt2
  obtain ⟨bb, off, hA, hb, ⟨t0, t1, t2, t3, t4, t5, t6⟩⟩ := hT.at_ i t ht
  have hcap := hT.cap
  have hs5 := hd.s.2.2.2.2
  unfold ConfV.cells TaskV.cells at hW2
  obtain ⟨P, th, pe, de, fr, fl, ⟨oA, on, oc⟩⟩ := t
  obtain ⟨s, wy, h, mi, ⟨mA, mn, mc⟩, g, ⟨cA, cn, cc⟩, ⟨eA, en, ec⟩, ⟨tA, tn, tc⟩, ⟨lA, ln, lc⟩⟩ := c
  simp only at *
  subst hA
  have hik' : (i : Int) < (tn : Int) := by omega
  have hW2' := Lib.hid hW2
  have hO' := Lib.hid hO
  clear hw hd hT hr ht hl hn hz hb1 hb2 hb3 hv hB hB2 hO hW2 hV
  go_enter Tryd.func32, Tryd.ntmps32
  go_wp2_with fail
  refine (q1.out _).mono ?_
  rintro e w1 ⟨rfl, hO1⟩
  rw [← hW2'.out] at hO1
  replace e0 := hO1.cell e0 (fun h => h)
  replace e1 := hO1.cell e1 (fun h => h)
  replace e2 := hO1.cell e2 (fun h => h)
  replace e3 := hO1.cell e3 (fun h => h)
  replace e4 := hO1.cell e4 (fun h => h)
  replace e5 := hO1.cell e5 (fun h => h)
  replace e6 := hO1.cell e6 (fun h => h)
  replace e7 := hO1.cell e7 (fun h => h)
  replace e8 := hO1.cell e8 (fun h => h)
  replace e9 := hO1.cell e9 (fun h => h)
  replace f0 := hO1.cell f0 (fun h => h)
  replace f1 := hO1.cell f1 (fun h => h)
  replace f2 := hO1.cell f2 (fun h => h)
  replace f3 := hO1.cell f3 (fun h => h)
  replace f4 := hO1.cell f4 (fun h => h)
  replace f5 := hO1.cell f5 (fun h => h)
  replace f6 := hO1.cell f6 (fun h => h)
  replace hlt1 := Nat.lt_of_lt_of_le hlt1 hO1.size
  replace hlt2 := Nat.lt_of_lt_of_le hlt2 hO1.size
  have hP1 := Lib.hid (hO'.out.trans' hO1)
  clear hO1 q1 hO' hW2' t0 t1 t2 t3 t4 t5 t6
  cases b1
  · have hv := Lib.hid (show V = 5 by rw [hV'.out]; simp)
    go_wp2
    go_ret
    exact ⟨ret_int hv.out.symm, hP1.out⟩
  · go_wp2
    have p0 := wd_cell e0
    have p1 := wd_cell e1
    have p2 := wd_cell e2
    have p3 := wd_cell e3
    have p4 := wd_cell e4
    have p5 := wd_cell e5
    have p6 := wd_cell e6
    have p7 := wd_cell e7
    have p8 := wd_cell e8
    have p9 := wd_cell e9
    have g6 := wd_cell f6
    have hex := wd_ex w1
    have r2 := Lib.hid (fun v : Wd w1 => Calls.wd (x := v) (q2.out v.W))
    have r3 := Lib.hid (fun v : Wd w1 => Calls.wd (x := v) (q3.out v.W (hP1.out.trans' v.ok)))
    refine wp_region_wd (by kernel_rfl) (by kernel_rfl) ?_
    repeat (go_big_quiet_step (first | (go_at_call 42; exact r2.out _) | (go_at_call 44; exact r3.out _)))
    refine wpQuiet_nil ?_
    rintro _ ⟨v, rfl⟩
    have hP2 := Lib.hid (hP1.out.trans' v.ok)
    clear p0 p1 p2 p3 p4 p5 p6 p7 p8 p9 g6 hex r2 r3 q2 q3
    replace e0 := v.ok.cell e0 (fun h => h)
    replace e1 := v.ok.cell e1 (fun h => h)
    replace e2 := v.ok.cell e2 (fun h => h)
    replace e3 := v.ok.cell e3 (fun h => h)
    replace e4 := v.ok.cell e4 (fun h => h)
    replace e5 := v.ok.cell e5 (fun h => h)
    replace e6 := v.ok.cell e6 (fun h => h)
    replace e7 := v.ok.cell e7 (fun h => h)
    replace e8 := v.ok.cell e8 (fun h => h)
    replace e9 := v.ok.cell e9 (fun h => h)
    replace f0 := v.ok.cell f0 (fun h => h)
    replace f1 := v.ok.cell f1 (fun h => h)
    replace f2 := v.ok.cell f2 (fun h => h)
    replace f3 := v.ok.cell f3 (fun h => h)
    replace f4 := v.ok.cell f4 (fun h => h)
    replace f5 := v.ok.cell f5 (fun h => h)
    replace f6 := v.ok.cell f6 (fun h => h)
    replace hlt1 := Nat.lt_of_lt_of_le hlt1 v.ok.size
    replace hlt2 := Nat.lt_of_lt_of_le hlt2 v.ok.size
    obtain ⟨w2, hw2⟩ := v
    simp only at *
    clear hP1 hw2
    by_cases hz0 : z = 0
    · subst hz0
      have hv := Lib.hid (show V = if b2 = true then 9 else if b3 = true then 10 else 0 by rw [hV'.out]; simp)
      clear hV'
      have r4 := Lib.hid (q4.out w2 hP2.out rfl)
      clear q4
      go_wp2_with fail
      refine (r4.out).mono ?_
      rintro e w3 ⟨rfl, hO3⟩
      replace e0 := hO3.cell e0 (fun h => h)
      replace e1 := hO3.cell e1 (fun h => h)
      replace e2 := hO3.cell e2 (fun h => h)
      replace e3 := hO3.cell e3 (fun h => h)
      replace e4 := hO3.cell e4 (fun h => h)
      replace e5 := hO3.cell e5 (fun h => h)
      replace e6 := hO3.cell e6 (fun h => h)
      replace e7 := hO3.cell e7 (fun h => h)
      replace e8 := hO3.cell e8 (fun h => h)
      replace e9 := hO3.cell e9 (fun h => h)
      replace f0 := hO3.cell f0 (fun h => h)
      replace f1 := hO3.cell f1 (fun h => h)
      replace f2 := hO3.cell f2 (fun h => h)
      replace f3 := hO3.cell f3 (fun h => h)
      replace f4 := hO3.cell f4 (fun h => h)
      replace f5 := hO3.cell f5 (fun h => h)
      replace f6 := hO3.cell f6 (fun h => h)
      replace hlt1 := Nat.lt_of_lt_of_le hlt1 hO3.size
      replace hlt2 := Nat.lt_of_lt_of_le hlt2 hO3.size
      have hP3 := Lib.hid (hP2.out.trans' hO3)
      clear hO3 hP2 r4
      cases b2
      rotate_left
      · have hv2 := Lib.hid (show V = 9 by rw [hv.out]; simp)
        go_wp2
        go_ret
        exact ⟨ret_int hv2.out.symm, hP3.out⟩
      · go_wp2
        have p0 := wd_cell e0
        have p1 := wd_cell e1
        have p2 := wd_cell e2
        have p3 := wd_cell e3
        have p4 := wd_cell e4
        have p5 := wd_cell e5
        have p6 := wd_cell e6
        have p7 := wd_cell e7
        have p8 := wd_cell e8
        have p9 := wd_cell e9
        have g0 := wd_cell f0
        have hex := wd_ex w3
        have r5 := Lib.hid (fun v : Wd w3 => Calls.wd (x := v) (q5.out v.W (hP3.out.trans' v.ok)))
        have hit : (i : Int) ≤ (tn : Int) := by omega
        have hic : (i : Int) ≤ (tc : Int) := by omega
        refine wp_region_wd (by kernel_rfl) (by kernel_rfl) ?_
        repeat (go_big_quiet_step (first | (go_at_call 46; exact r5.out _)))
        refine wpQuiet_nil ?_
        rintro _ ⟨v, rfl⟩
        have hP4 := Lib.hid (hP3.out.trans' v.ok)
        clear p0 p1 p2 p3 p4 p5 p6 p7 p8 p9 g0 hex r5
        cases b3
        · have hv2 := Lib.hid (show V = 0 by rw [hv.out]; simp)
          go_wp2
          go_ret
          exact ⟨ret_int hv2.out.symm, hP4.out⟩
        · have hv2 := Lib.hid (show V = 10 by rw [hv.out]; simp)
          go_wp2
          go_ret
          exact ⟨ret_int hv2.out.symm, hP4.out⟩
    · have hv := Lib.hid (show V = z by rw [hV'.out]; simp [hz0])
      have hzb : (z != 0) = true := by simp [hz0]
      go_wp2
      go_ret
      exact ⟨ret_int hv.out.symm, hP2.out⟩
end Go.Proofs.YteniphdfhmbbeaaDoor
