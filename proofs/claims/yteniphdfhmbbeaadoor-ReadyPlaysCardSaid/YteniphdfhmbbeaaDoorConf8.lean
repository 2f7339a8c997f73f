/- The check of a configuration. -/
import Derived.Test.YteniphdfhmbbeaaDoorConf7
namespace Go.Proofs.YteniphdfhmbbeaaDoor
open Go Go.RowKit

def firstNZ (f : Nat → Int) : Nat → Int
  | 0 => 0
  | n + 1 => if firstNZ f n ≠ 0 then firstNZ f n else f n
theorem firstNZ_zero {f : Nat → Int} : ∀ {n : Nat}, (∀ j, j < n → f j = 0) → firstNZ f n = 0
  | 0, _ => rfl
  | n + 1, h => by
    unfold firstNZ
    rw [firstNZ_zero (fun j hj => h j (by omega)), if_neg (by simp)]
    exact h n (by omega)
theorem firstNZ_at {f : Nat → Int} {k : Nat} (h : ∀ j, j < k → f j = 0) (hk : f k ≠ 0) : ∀ {n : Nat}, k < n → firstNZ f n = f k
  | 0, hn => by omega
  | n + 1, hn => by
    unfold firstNZ
    by_cases hkn : k = n
    · subst hkn
      rw [firstNZ_zero h, if_neg (by simp)]
    · rw [firstNZ_at h hk (n := n) (by omega), if_pos hk]

abbrev Tks := List (TaskV × List Opn)
def Tks.ts (pl : Tks) : List TaskV := pl.map Prod.fst
def taskAt (r : RoomV) (ce : List Int) (pl : Tks) (i : Nat) : Int := match pl[i]? with
  | some (t, l) => taskZ r ce pl.ts i t l
  | none => 0
def confZ (c : ConfV) (d : ConfL) (pl : Tks) : Int :=
  if machB c.s c.wy c.h c.mi = false then 5 else if manyB c = true then 4 else if c.ta.n = 0 ∨ c.g < 0 then 1 else if objB c d = false then 5
  else firstNZ (taskAt c.room d.ce pl) c.ta.n
/-- The programs of tasks. -/
structure ProgsAt (w : World) (pl : Tks) : Prop where
  row : ∀ (i : Nat) t l, pl[i]? = some (t, l) → OpnRow w t.o.A l ∧ l.length = t.o.n ∧ t.o.n ≤ 1000000 ∧ t.o.n ≤ t.o.cap
theorem ProgsAt.new {w w' : World} {pl : Tks} (h : ProgsAt w pl) (ho : Only (fun _ => False) w w') : ProgsAt w' pl := ⟨fun i t l ht => ⟨(h.row i t l ht).1.new ho, (h.row i t l ht).2⟩⟩
/-- A configuration, all of it. -/
structure ConfAt (w : World) (c : ConfV) (d : ConfL) (pl : Tks) : Prop where
  o : ObjsAt w c d
  t : TasksAt w c.ta pl.ts
  p : ProgsAt w pl
theorem ConfAt.new {w w' : World} {c : ConfV} {d : ConfL} {pl : Tks} (h : ConfAt w c d pl) (ho : Only (fun _ => False) w w') : ConfAt w' c d pl := ⟨h.o.new ho, h.t.new ho, h.p.new ho⟩
theorem room_ok {c : ConfV} (h1 : manyB c = false) (h2 : ¬ c.g < 0) : c.room.ok := by
  unfold manyB at h1
  simp only [decide_eq_false_iff_not] at h1
  unfold RoomV.ok ConfV.room
  simp only
  omega
theorem taskAt_some {r : RoomV} {ce : List Int} {pl : Tks} {i : Nat} {t : TaskV} {l : List Opn} (h : pl[i]? = some (t, l)) : taskAt r ce pl i = taskZ r ce pl.ts i t l := by unfold taskAt; rw [h]
theorem ts_some {pl : Tks} {i : Nat} {t : TaskV} {l : List Opn} (h : pl[i]? = some (t, l)) : pl.ts[i]? = some t := by unfold Tks.ts; rw [List.getElem?_map, h]; rfl

set_option maxRecDepth 100000 in
set_option maxHeartbeats 4000000 in
theorem confCheck_any {w : World} (hw : Words w) {c : ConfV} {d : ConfL} {pl : Tks} (hc : ConfAt w c d pl) : Calls Tryd.prog 14 #[c.val] w (GrowI (confZ c d pl) w) := by
  have hO := (Only.refl (fun _ => False) w).alloc (.cells c.cells.toArray 27)
  have hB := heap_new_at w (.cells c.cells.toArray 27) rfl
  obtain ⟨W1, hW1⟩ : ∃ W1, W1 = w.alloc (.cells c.cells.toArray 27) := ⟨_, rfl⟩
  have q1 := Lib.hid (fun (W : World) => machine_any W c.s c.wy c.h c.mi)
  have q2 := Lib.hid (fun (W : World) => many_any c W)
  have q3 := Lib.hid (fun (W : World) (h : Only (fun _ => False) w W) => confObjs_any (hc.o.new h))
  have q4 := Lib.hid (fun (h1 : c.room.ok) (W : World) (h : Only (fun _ => False) w W) (i : Nat) (hi : i < c.ta.n) => show Calls Tryd.prog 32 #[c.val, .int .i64 i] W (GrowI (taskAt c.room d.ce pl i) W) by
    have hlen := hc.t.len
    unfold Tks.ts at hlen
    rw [List.length_map] at hlen
    obtain ⟨⟨t, l⟩, ht⟩ : ∃ x, pl[i]? = some x := ⟨_, List.getElem?_eq_getElem (by omega)⟩
    rw [taskAt_some ht]
    obtain ⟨p1, p2, p3, p4⟩ := hc.p.row i t l ht
    exact checkTask_any (hw.new h) (hc.o.new h) (hc.t.new h) h1 (ts_some ht) (p1.new h) p2 p3)
  have hrk := Lib.hid (fun (h1 : manyB c = false) (h2 : ¬ c.g < 0) => room_ok h1 h2)
  obtain ⟨b1, hb1⟩ : ∃ b, b = machB c.s c.wy c.h c.mi := ⟨_, rfl⟩
  obtain ⟨b2, hb2⟩ : ∃ b, b = manyB c := ⟨_, rfl⟩
  obtain ⟨b3, hb3⟩ : ∃ b, b = objB c d := ⟨_, rfl⟩
  obtain ⟨V, hV⟩ : ∃ V, V = confZ c d pl := ⟨_, rfl⟩
  obtain ⟨f, hf⟩ : ∃ f, f = taskAt c.room d.ce pl := ⟨_, rfl⟩
  rw [← hV]
  unfold confZ at hV
  rw [← hb1, ← hb2, ← hb3, ← hf] at hV
  rw [← hb1] at q1
  rw [← hb2] at q2 hrk
  rw [← hb3] at q3
  rw [← hf] at q4
  rw [show c.val = .agg #[.int .i64 c.s, .int .i64 c.wy, .int .i64 c.h, .int .i64 c.mi, .slice c.mb.A c.mb.n c.mb.cap, .int .i64 c.g, .slice c.cn.A c.cn.n c.cn.cap, .slice c.ce.A c.ce.n c.ce.cap, .slice c.ta.A c.ta.n c.ta.cap, .slice c.li.A c.li.n c.li.cap] from rfl] at q2 q3 q4 ⊢
  have e0 := row_cell hB (i := 0) rfl
  have e1 := row_cell hB (i := 1) rfl
  have e2 := row_cell hB (i := 2) rfl
  have e3 := row_cell hB (i := 3) rfl
  have e4 := row_cell hB (i := 4) rfl
  have e5 := row_cell hB (i := 5) rfl
  have e6 := row_cell hB (i := 6) rfl
  have e7 := row_cell hB (i := 7) rfl
  have e8 := row_cell hB (i := 8) rfl
  have e9 := row_cell hB (i := 9) rfl
  have hlt1 := row_lt hB
  rw [← hW1] at e0 e1 e2 e3 e4 e5 e6 e7 e8 e9 hO hlt1
  have hs5 := hc.o.s.2.2.2.2
  unfold ConfV.cells at hW1
  generalize c.room.ok = RO at q4 hrk
  obtain ⟨s, wy, h, mi, ⟨mA, mn, mc⟩, g, ⟨cA, cn, cc⟩, ⟨eA, en, ec⟩, ⟨tA, tn, tc⟩, ⟨lA, ln, lc⟩⟩ := c
  simp only at *
  have hW1' := Lib.hid hW1
  have hO' := Lib.hid hO
  have hV' := Lib.hid hV
  clear hw hc hB hO hW1 hb1 hb2 hb3 hV hf
  go_enter Tryd.func14, Tryd.ntmps14
  go_wp2_with fail
  refine (q1.out _).mono ?_
  rintro e w1 ⟨rfl, hO1⟩
  rw [← hW1'.out] at hO1
  replace e0 := hO1.cell e0 (fun h => h)
  replace e1 := hO1.cell e1 (fun h => h)
  replace e2 := hO1.cell e2 (fun h => h)
  replace e3 := hO1.cell e3 (fun h => h)
  replace e4 := hO1.cell e4 (fun h => h)
  replace e5 := hO1.cell e5 (fun h => h)
  replace e6 := hO1.cell e6 (fun h => h)
  replace e7 := hO1.cell e7 (fun h => h)
  replace e8 := hO1.cell e8 (fun h => h)
  replace e9 := hO1.cell e9 (fun h => h)
  replace hlt1 := Nat.lt_of_lt_of_le hlt1 hO1.size
  have hP1 := Lib.hid (hO'.out.trans' hO1)
  clear hO1 q1 hO' hW1'
  cases b1
  · have hv := Lib.hid (show V = 5 by rw [hV'.out]; simp)
    go_wp2
    go_ret
    exact ⟨ret_int hv.out.symm, hP1.out⟩
  · go_wp2_with fail
    refine (q2.out _).mono ?_
    rintro e w2 ⟨rfl, hO2⟩
    replace e0 := hO2.cell e0 (fun h => h)
    replace e1 := hO2.cell e1 (fun h => h)
    replace e2 := hO2.cell e2 (fun h => h)
    replace e3 := hO2.cell e3 (fun h => h)
    replace e4 := hO2.cell e4 (fun h => h)
    replace e5 := hO2.cell e5 (fun h => h)
    replace e6 := hO2.cell e6 (fun h => h)
    replace e7 := hO2.cell e7 (fun h => h)
    replace e8 := hO2.cell e8 (fun h => h)
    replace e9 := hO2.cell e9 (fun h => h)
    replace hlt1 := Nat.lt_of_lt_of_le hlt1 hO2.size
    have hP2 := Lib.hid (hP1.out.trans' hO2)
    clear hO2 q2 hP1
    cases b2
    rotate_left
    · have hv := Lib.hid (show V = 4 by rw [hV'.out]; simp)
      go_wp2
      go_ret
      exact ⟨ret_int hv.out.symm, hP2.out⟩
    · by_cases hn0 : tn = 0
      · subst hn0
        have hv := Lib.hid (show V = 1 by rw [hV'.out]; simp)
        go_wp2
        go_ret
        exact ⟨ret_int hv.out.symm, hP2.out⟩
      · by_cases hg : g < 0
        · have hv := Lib.hid (show V = 1 by rw [hV'.out]; simp [hg])
          go_wp2
          go_ret
          exact ⟨ret_int hv.out.symm, hP2.out⟩
        · have q5 := Lib.hid (q4.out (hrk.out rfl (by omega)))
          clear q4 hrk
          have hnb : ((tn : Int) == 0) = false := by simp [hn0]
          have hnb' : ¬ (tn : Int) = 0 := by omega
          have hgb : ¬ g < 0 := hg
          go_wp2_with fail
          refine (q3.out _ hP2.out).mono ?_
          rintro e w3 ⟨rfl, hO3⟩
          replace e0 := hO3.cell e0 (fun h => h)
          replace e1 := hO3.cell e1 (fun h => h)
          replace e2 := hO3.cell e2 (fun h => h)
          replace e3 := hO3.cell e3 (fun h => h)
          replace e4 := hO3.cell e4 (fun h => h)
          replace e5 := hO3.cell e5 (fun h => h)
          replace e6 := hO3.cell e6 (fun h => h)
          replace e7 := hO3.cell e7 (fun h => h)
          replace e8 := hO3.cell e8 (fun h => h)
          replace e9 := hO3.cell e9 (fun h => h)
          replace hlt1 := Nat.lt_of_lt_of_le hlt1 hO3.size
          have hP3 := Lib.hid (hP2.out.trans' hO3)
          clear hO3 q3 hP2
          cases b3
          · have hv := Lib.hid (show V = 5 by rw [hV'.out, if_neg (by simp), if_neg (by simp), if_neg (by omega)]; simp)
            go_wp2
            go_ret
            exact ⟨ret_int hv.out.symm, hP3.out⟩
          · have hv := Lib.hid (show V = firstNZ f tn by rw [hV'.out, if_neg (by simp), if_neg (by simp), if_neg (by omega)]; simp)
            clear hV'
            go_wp2
            go_loopw [30] (fun i wr => ∃ k : Nat, k ≤ tn ∧ i = .int .i64 k ∧ (∀ j : Nat, j < k → f j = 0) ∧ Only (fun _ => False) w3 wr) (fun i _ => tn - (intOf i).toNat)
            case atStart => exact ⟨0, Nat.zero_le _, rfl, (fun j hj => by omega), Only.refl _ w3⟩
            case round =>
              obtain ⟨k, hk, rfl, hall, hOk⟩ := hrel
              replace e0 := hOk.cell e0 (fun h => h)
              replace e1 := hOk.cell e1 (fun h => h)
              replace e2 := hOk.cell e2 (fun h => h)
              replace e3 := hOk.cell e3 (fun h => h)
              replace e4 := hOk.cell e4 (fun h => h)
              replace e5 := hOk.cell e5 (fun h => h)
              replace e6 := hOk.cell e6 (fun h => h)
              replace e7 := hOk.cell e7 (fun h => h)
              replace e8 := hOk.cell e8 (fun h => h)
              replace e9 := hOk.cell e9 (fun h => h)
              replace hlt1 := Nat.lt_of_lt_of_le hlt1 hOk.size
              have hPk := Lib.hid (hP3.out.trans' hOk)
              have hOk' := Lib.hid hOk
              have hall' := Lib.hid hall
              clear hall hOk
              by_cases hkn : k < tn
              · have hkn' : (k : Int) < (tn : Int) := by omega
                obtain ⟨z, hz⟩ : ∃ z, z = f k := ⟨_, rfl⟩
                have q6 := q5.out wr hPk.out k hkn
                rw [← hz] at q6
                have q6' := Lib.hid q6
                have hz' := Lib.hid hz
                clear q6 hz
                go_wp2_with fail
                refine (q6'.out).mono ?_
                rintro e w4 ⟨rfl, hO4⟩
                replace e0 := hO4.cell e0 (fun h => h)
                replace e1 := hO4.cell e1 (fun h => h)
                replace e2 := hO4.cell e2 (fun h => h)
                replace e3 := hO4.cell e3 (fun h => h)
                replace e4 := hO4.cell e4 (fun h => h)
                replace e5 := hO4.cell e5 (fun h => h)
                replace e6 := hO4.cell e6 (fun h => h)
                replace e7 := hO4.cell e7 (fun h => h)
                replace e8 := hO4.cell e8 (fun h => h)
                replace e9 := hO4.cell e9 (fun h => h)
                replace hlt1 := Nat.lt_of_lt_of_le hlt1 hO4.size
                have hP4 := Lib.hid (hPk.out.trans' hO4)
                have hO4' := Lib.hid (hOk'.out.trans' hO4)
                clear hO4 q6'
                by_cases hz0 : z = 0
                · subst hz0
                  have hnx := Lib.hid (show ∀ j : Nat, j < k + 1 → f j = 0 from fun j hj => by
                    by_cases hjk : j < k
                    · exact hall'.out j hjk
                    · obtain rfl : j = k := by omega
                      exact hz'.out.symm)
                  go_wp2
                  go_roundw
                  case rel => exact ⟨k + 1, by omega, by go_num, hnx.out, hO4'.out⟩
                  case measure => simp [intOf]; omega
                · have hv2 := Lib.hid (show V = z by rw [hv.out, firstNZ_at hall'.out (by rw [← hz'.out]; exact hz0) hkn, ← hz'.out])
                  have hzb : (z != 0) = true := by simp [hz0]
                  go_wp2
                  go_ret
                  exact ⟨ret_int hv2.out.symm, hP4.out⟩
              · obtain rfl : k = tn := by omega
                have hv2 := Lib.hid (show V = 0 by rw [hv.out, firstNZ_zero hall'.out])
                go_wp2
                go_ret
                exact ⟨ret_int hv2.out.symm, hPk.out⟩
end Go.Proofs.YteniphdfhmbbeaaDoor
