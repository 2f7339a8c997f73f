/- chain: how deep the deepest chain is; which one it is. -/
import Derived.Test.YtdoimkmhincmmaaBcChf
namespace Go.Proofs.Ytdoimkmhincmmaa
namespace Bch
open Go Go.RowKit Go.Maps Go.Shelf
noncomputable def bndZ (ts : List TaskV) : Int := Chn.depth (frm ts) (deepL ts)
theorem foll_first {L : Chn.Lks} {f : Option Nat} {c : List Nat} (h : Foll L f c) (hc : ∀ x ∈ c, x < 12) : -1 ≤ optZ f ∧ optZ f ≤ 12 := by
  cases f with
  | none => exact ⟨by decide, by decide⟩
  | some t =>
    cases c with
    | nil => exact h.elim
    | cons x c =>
      obtain ⟨rfl, _⟩ := h
      have := hc x (by simp)
      show -1 ≤ (x : Int) ∧ (x : Int) ≤ 12
      omega
set_option maxRecDepth 100000 in
set_option maxHeartbeats 4000000 in
theorem bound_any {w : World} {c : ConfV} {ts : List TaskV} (hT : TasksAt w c.ta ts) (hn : c.ta.n ≤ 9223372036854775807) : Calls Try.prog 20 #[c.val] w (GrowI (bndZ ts) w) := by
  have hO := (Only.refl (fun _ => False) w).alloc (.cells c.cells.toArray 27)
  have hB := heap_new_at w (.cells c.cells.toArray 27) rfl
  have hlen := hT.len
  obtain ⟨W1, hW1⟩ : ∃ W1, W1 = w.alloc (.cells c.cells.toArray 27) := ⟨_, rfl⟩
  rw [← hW1] at hB hO
  have d0 := row_cell hB (i := 0) rfl
  have d1 := row_cell hB (i := 1) rfl
  have d2 := row_cell hB (i := 2) rfl
  have d3 := row_cell hB (i := 3) rfl
  have d4 := row_cell hB (i := 4) rfl
  have d5 := row_cell hB (i := 5) rfl
  have d6 := row_cell hB (i := 6) rfl
  have d7 := row_cell hB (i := 7) rfl
  have d8 := row_cell hB (i := 8) rfl
  have d9 := row_cell hB (i := 9) rfl
  have hlk := Lib.hid (linked_any (hT.new hO) hn)
  have hdp := deepL_ok ts
  have hdep := lkG_depth (lks ts) (firstO ts)
  rw [hdp.2.2.2.1] at hdep
  have hfz : -1 ≤ optZ (firstO ts) ∧ optZ (firstO ts) ≤ 12 := by
    refine foll_first hdp.1 (fun x hx => ?_)
    have h1 := hdp.2.2.1 x hx
    cases hr : rightB ts with
    | true => have := (right_facts hr).1; omega
    | false => rw [hdp.2.2.2.2.1 hr] at hx; simp at hx
  obtain ⟨V, hV⟩ : ∃ V, V = bndZ ts := ⟨_, rfl⟩
  have hdep' : (lkG (lks ts) (optZ (firstO ts))).1 = V := hdep.trans hV.symm
  rw [← hV]
  obtain ⟨Z, hZ⟩ : ∃ Z, Z = GrowI V w := ⟨_, rfl⟩
  rw [← hZ]
  have hZ' := Lib.hid hZ
  have hlook := Lib.hid (fun (W : World) (b : Nat) (hm : MapL W b 12 (lkG (lks ts))) => show ∃ y : Int, (Instr.lookup 58 (.map (some b)) (.int .i64 (optZ (firstO ts))) false).run Try.prog W = .ok (.agg #[.int .i64 V, .int .i64 y]) W from
    ⟨(lkG (lks ts) (optZ (firstO ts))).2, by rw [hm.look (by omega) (by omega), ← hdep']; rfl⟩)
  have hfo : optZ (Chn.pick (fun _ => true) (Chn.dOf (lks ts)) (ordL ts) none) = optZ (firstO ts) := rfl
  unfold LnkEnd at hlk
  rw [hfo] at hlk
  obtain ⟨z, hz⟩ : ∃ z, z = optZ (firstO ts) := ⟨_, rfl⟩
  rw [← hz] at hlk hlook
  unfold ConfV.val at hlk ⊢
  unfold ConfV.cells at hW1
  have hW1' := Lib.hid hW1
  have hO' := Lib.hid hO
  clear hT hB hO hW1 hZ hdp hdep hdep' hV hfz hfo hz
  go_enter Try.func20, Try.ntmps20
  go_wp2_with fail
  rw [← hW1'.out]
  refine hlk.out.mono ?_
  rintro e w2 ⟨b, rfl, hM, ho⟩
  obtain ⟨y, hy⟩ := hlook.out w2 b hM
  have hOw := Lib.hid (hO'.out.trans' ho)
  have fl0 := field0
  clear hM ho hlook hlk d0 d1 d2 d3 d4 d5 d6 d7 d8 d9
  go_wp2
  rw [hZ'.out]
  exact ⟨rfl, hOw.out⟩
/-- A row of numbers of the call's own. -/
def RowEnd (w : World) (C : List Nat) (e : Ending) (w' : World) : Prop :=
  ∃ (A : Option Addr) (cap : Nat) (h : Option Nat), e = .returned (.slice A C.length cap) ∧ Win w' 3 1 (.slice A C.length cap) h C.length (dat C) ∧ (∀ b, h = some b → w.heap.size ≤ b) ∧ Only (fun _ => False) w w'
set_option maxRecDepth 100000 in
set_option maxHeartbeats 4000000 in
theorem deepest_any {w : World} {c : ConfV} {ts : List TaskV} (hT : TasksAt w c.ta ts) (hn : c.ta.n ≤ 9223372036854775807) : Calls Try.prog 19 #[c.val] w (RowEnd w (deepL ts)) := by
  have hO := (Only.refl (fun _ => False) w).alloc (.cells c.cells.toArray 27)
  have hB := heap_new_at w (.cells c.cells.toArray 27) rfl
  have hlen := hT.len
  obtain ⟨W1, hW1⟩ : ∃ W1, W1 = w.alloc (.cells c.cells.toArray 27) := ⟨_, rfl⟩
  rw [← hW1] at hB hO
  have d0 := row_cell hB (i := 0) rfl
  have d1 := row_cell hB (i := 1) rfl
  have d2 := row_cell hB (i := 2) rfl
  have d3 := row_cell hB (i := 3) rfl
  have d4 := row_cell hB (i := 4) rfl
  have d5 := row_cell hB (i := 5) rfl
  have d6 := row_cell hB (i := 6) rfl
  have d7 := row_cell hB (i := 7) rfl
  have d8 := row_cell hB (i := 8) rfl
  have d9 := row_cell hB (i := 9) rfl
  have hlk := Lib.hid (linked_any (hT.new hO) hn)
  have hdp := deepL_ok ts
  have hc12 : ∀ x ∈ deepL ts, x < 12 := fun x hx => by
    have h1 := hdp.2.2.1 x hx
    cases hr : rightB ts with
    | true => have := (right_facts hr).1; omega
    | false => rw [hdp.2.2.2.2.1 hr] at hx; simp at hx
  obtain ⟨C, hC⟩ : ∃ C, C = deepL ts := ⟨_, rfl⟩
  rw [← hC] at hdp hc12 ⊢
  obtain ⟨hfoll, hC12, -⟩ := hdp
  obtain ⟨Z, hZ⟩ : ∃ Z, Z = RowEnd w C := ⟨_, rfl⟩
  rw [← hZ]
  have hZ' := Lib.hid hZ
  have hfo : optZ (Chn.pick (fun _ => true) (Chn.dOf (lks ts)) (ordL ts) none) = optZ (firstO ts) := rfl
  unfold LnkEnd at hlk
  rw [hfo] at hlk
  obtain ⟨F, hF⟩ : ∃ F, F = firstO ts := ⟨_, rfl⟩
  rw [← hF] at hlk hfoll
  unfold ConfV.val at hlk ⊢
  unfold ConfV.cells at hW1
  have hW1' := Lib.hid hW1
  have hO' := Lib.hid hO
  have hfoll' := Lib.hid hfoll
  have hc12' := Lib.hid hc12
  obtain ⟨G, hG⟩ : ∃ G, G = lks ts := ⟨_, rfl⟩
  rw [← hG] at hlk hfoll'
  clear hT hB hO hW1 hZ hfoll hC hfo hF hc12 hG
  go_enter Try.func19, Try.ntmps19
  go_wp2_with fail
  rw [← hW1'.out]
  refine hlk.out.mono ?_
  rintro e w2 ⟨b, rfl, hM, ho⟩
  have hOw := Lib.hid (hO'.out.trans' ho)
  have hM' := Lib.hid hM
  clear hM ho hlk d0 d1 d2 d3 d4 d5 d6 d7 d8 d9
  go_wp2
  go_loopw [4, 5] (fun u4 u5 wr => ∃ (f : Option Nat) (pre rest : List Nat) (A : Option Addr) (cap : Nat) (hh : Option Nat), u4 = .int .i64 (optZ f) ∧ u5 = .slice A pre.length cap ∧ Hid (C = pre ++ rest) ∧ Hid (Foll G f rest) ∧ Hid (Win wr 3 1 (.slice A pre.length cap) hh pre.length (dat pre)) ∧ Hid (∀ b, hh = some b → w2.heap.size ≤ b) ∧ Hid (Only (fun _ => False) w2 wr)) (fun _ u5 _ => match u5 with | .slice _ m _ => 12 - m | _ => 0)
  case atStart => exact ⟨F, [], C, none, 0, none, rfl, rfl, rfl, hfoll'.out, Lib.hid (Win.nil _ _ _), Lib.hid (fun b hb => by cases hb), Only.refl _ _⟩
  case round =>
    obtain ⟨f, pre, rest, A, cap, hh, rfl, rfl, hCp, hfl, hW, hf, hOr⟩ := hrel
    obtain ⟨ws, hws⟩ : ∃ ws : World, ws = wr := ⟨_, rfl⟩
    subst hws
    cases f with
    | none =>
      have hr : rest = [] := by
        have := hfl.out
        cases rest with
        | nil => rfl
        | cons y r => simp [Foll] at this
      subst hr
      rw [show optZ none = -1 from rfl]
      have hfin := Lib.hid (show Z (.returned (.slice A pre.length cap)) ws from by
        have hCp' := hCp.out
        rw [List.append_nil] at hCp'
        rw [hZ'.out, hCp']
        exact ⟨A, cap, hh, rfl, hW.out, fun b hb => Nat.le_trans hOw.out.size (hf.out b hb), hOw.out.trans' hOr.out⟩)
      go_wp2
      exact hfin.out
    | some t =>
      cases rest with
      | nil => exact hfl.out.elim
      | cons x rest =>
        obtain ⟨rfl, d, f2, hL, hf2⟩ := hfl.out
        have hx12 := hc12'.out x (by rw [hCp.out]; simp)
        have hpl : pre.length + 1 ≤ 12 := by have := congrArg List.length hCp.out; simp at this; omega
        have hlk : ∀ W, Only (fun _ => False) w2 W → (Instr.lookup 58 (.map (some b)) (.int .i64 (x : Int)) false).run Try.prog W = .ok (.agg #[.int .i64 d, .int .i64 (optZ f2)]) W := fun W ho => by
          rw [(hM'.out.kept ho (fun h => h)).look (by omega) (by omega), lkG_at hL]
          rfl
        have fl1 := field1
        have hne : ¬ (x : Int) = -1 := by omega
        rw [show optZ (some x) = (x : Int) from rfl]
        go_wp2_with (at_builtin; (refine wpList_append_win rfl _ _ 24 rfl 3 (Value.int .i64 0) 1 8 Try.underlying24 info3 rfl (by decide) rfl (hW.out.kept ((Only.refl (fun _ => False) _).alloc _) (fun _ _ h => h)) _ 1 1 rfl [.int .i64 (x : Int)] rfl (fun _ => ⟨_, rfl, row_one (heap_new_at _ _ (by simp))⟩) (by simp [Value.oneCell']) (by unfold maxLen; omega) (by omega) ?_; intro v4 w6 h4 hW4 hO4' hh4; obtain ⟨p4, c4, rfl, _, _⟩ := hW4.out.form; have hst := Lib.hid (step_fresh (hOr.out.alloc (.cells #[.int .i64 (x : Int)] 3)) hO4'.out hf.out hh4.out); have hl6 := hlk w6 hst.out.1))
        go_roundw
        case rel =>
          refine ⟨f2, pre ++ [x], rest, p4, c4, h4, rfl, by rw [List.length_append, List.length_singleton], Lib.hid (by rw [hCp.out]; simp), hf2, ?_, Lib.hid hst.out.2, hst.out.1⟩
          have := hW4.out
          rw [show dat pre ++ [Value.int .i64 (x : Int)] = dat (pre ++ [x]) by rw [dat, dat, List.map_append]; rfl] at this
          rw [List.length_append, List.length_singleton]
          exact Lib.hid this
        case measure => simp; omega
end Bch
end Go.Proofs.Ytdoimkmhincmmaa
