/- A new job: its program a copy. -/
import Derived.Test.YtifpndjpijohfaaJob6
import Derived.Deep.RegionHeld3
namespace Go.Proofs.Ytifpndjpijohfaa
open Go Go.RowKit

theorem oclone_any {w : World} {A : Option Addr} {n cap : Nat} {l : List Opn} (hl : OpnRow w A l) (hn : l.length = n) (hb : n ≤ 1000) :
    Calls Try.prog 20 #[.slice A n cap] w fun e w' => ∃ v h, e = .returned v ∧ Win w' 39 3 v h n (opCells l) ∧ (∀ k, h = some k → w.heap.size ≤ k) ∧ Only (fun _ => False) w w' := by
  cases A with
  | none =>
    have h0 : l = [] := by
      cases l with
      | nil => rfl
      | cons x r =>
        obtain ⟨_, _, e, _⟩ := hl 0 x rfl
        cases e
    subst h0
    obtain rfl : n = 0 := hn.symm
    have hnil : Sem.run Try.prog (binOp .eql 22 (.slice none 0 cap) (.slice none 0 0)) w = .ok (.bool true) w := by kernel_rfl
    clear hl hn hb
    go_enter Try.func20, Try.ntmps20
    go_wp2
    go_ret
    exact ⟨_, none, rfl, Win.nil _ _ _, fun k hk => (by cases hk), Only.refl _ _⟩
  | some a =>
    have hl' := Lib.hid hl
    have hn' := Lib.hid hn
    have hnil : Sem.run Try.prog (binOp .eql 22 (.slice (some a) n cap) (.slice none 0 0)) w = .ok (.bool false) w := by kernel_rfl
    clear hl hn
    go_enter Try.func20, Try.ntmps20
    go_wp2_with (at_builtin; refine wpList_append_win rfl _ _ 22 rfl 39 zop.val 3 24 Try.underlying22 info39 rfl (by decide) rfl (Win.empty (w.alloc (.cells #[] 39)) 39 3 (some ⟨w.heap.size, 0, none⟩)) (some a) n cap rfl (opCells l) (by rw [opCells_length, hn'.out]) ((hl'.out.new ((Only.refl (fun _ => False) w).alloc _)).src hn'.out) (opAll l) (by unfold maxLen; omega) (by omega) ?_; intro v' w4 h4 hW4 hO4 hh4)
    go_ret
    refine ⟨v', h4, rfl, ?_, ?_, ?_⟩
    · have := hW4.out
      rwa [Nat.zero_add, List.nil_append] at this
    · intro k hk
      rcases hh4.out with rfl | ⟨g, rfl, hg⟩
      · cases hk
      · cases hk
        simp at hg
        omega
    · exact ((Only.refl (fun _ => False) w).alloc _).trans hO4.out (fun _ _ e => by cases e)

/-- A new job. -/
def newJ (t : TaskV) (l : List Opn) : Jb := ⟨l, t.fr, 0, 0, 0, 0, max t.fl 0, false, false⟩
theorem newJ_ok {t : TaskV} {l : List Opn} (hn : l.length ≤ 1000) (hf : t.fl ≤ 9223372036854775807) : (newJ t l).Ok :=
  ⟨⟨Int.le_refl _, by simp only [newJ]; decide⟩, ⟨by simp only [newJ]; omega, by simp only [newJ]; omega⟩, ⟨hn, Nat.zero_le _⟩, fun h => absurd h (by simp [newJ])⟩
def JNewEnd (w : World) (t : TaskV) (l : List Opn) (e : Ending) (w' : World) : Prop :=
  ∃ b o, e = .returned (.pointer (some ⟨b, 0, none⟩)) ∧ JbAt w' b o (newJ t l) ∧ (∀ k, jfp b o k → w.heap.size ≤ k) ∧ Only (fun _ => False) w w'
theorem box_job {w W : World} {b : Nat} {v : Value} {h : Option Nat} {t : TaskV} {l : List Opn} {n : Nat} {lf : Int} (hb : b = W.heap.size) (hn : l.length = n) (hlf : lf = max t.fl 0) (hw : Win W 39 3 v h n (opCells l)) (hh : ∀ k, h = some k → w.heap.size ≤ k) (ho : Only (fun _ => False) w W) :
    JNewEnd w t l (.returned (.pointer (some ⟨b, 0, none⟩))) (W.alloc (.cells #[v, .int .i64 t.fr, .int .i64 0, .int .i64 0, .int .i64 0, .int .i64 0, .int .i64 lf, .bool false, .bool false] 47)) := by
  subst hb hn hlf
  refine ⟨W.heap.size, h, rfl, ⟨v, heap_new_at _ _ rfl, hw.kept ((Only.refl (fun _ => False) W).alloc _) (fun _ _ h => h), fun k hk => ?_⟩, ?_, ho.alloc _⟩
  · have := hw.lt k hk
    omega
  · rintro k (rfl | hk)
    · exact ho.size
    · exact hh k hk
set_option maxHeartbeats 1000000 in
theorem jnew_any {w : World} {t : TaskV} {l : List Opn} (hl : OpnRow w t.o.A l) (hn : l.length = t.o.n) (hb : t.o.n ≤ 1000) : Calls Try.prog 8 #[t.val] w (JNewEnd w t l) := by
  obtain ⟨pr, th, pe, de, fr, fl, ⟨A, n, cap⟩⟩ := t
  dsimp only at hl hn hb
  have hc := Lib.hid (show ∀ W1, Only (fun _ => False) w W1 → ∀ W, Only (fun _ => False) W1 W → Calls Try.prog 20 #[.slice A n cap] W fun e w' => ∃ v h, e = .returned v ∧ Win w' 39 3 v h n (opCells l) ∧ (∀ k, h = some k → w.heap.size ≤ k) ∧ Only (fun _ => False) W1 w' from fun W1 hW1 W hW => (oclone_any (cap := cap) (hl.new (hW1.trans' hW)) hn hb).mono fun e w' ⟨v, h, h1, h2, h3, h4⟩ => ⟨v, h, h1, h2, fun k hk => Nat.le_trans (hW1.trans' hW).size (h3 k hk), hW.trans' h4⟩)
  have hn' := Lib.hid hn
  have hend := Lib.hid (fun W b v h lf => box_job (w := w) (W := W) (b := b) (v := v) (h := h) (t := ⟨pr, th, pe, de, fr, fl, ⟨A, n, cap⟩⟩) (n := n) (l := l) (lf := lf))
  unfold TaskV.val
  dsimp only
  clear hl hn
  go_enter Try.func8, Try.ntmps8
  go_upto_region 1 with fail
  obtain ⟨X, hX⟩ : ∃ X, X = w.heap.size := ⟨_, rfl⟩
  obtain ⟨W1, hW1⟩ : ∃ W1, W1 = w.alloc (.cells #[.int .i64 pr, .int .i64 th, .int .i64 pe, .int .i64 de, .int .i64 fr, .int .i64 fl, .slice A n cap] 24) := ⟨_, rfl⟩
  have hXc : W1.heap[X]? = some (.cells [.int .i64 pr, .int .i64 th, .int .i64 pe, .int .i64 de, .int .i64 fr, .int .i64 fl, .slice A n cap].toArray 24 (0, 0)) := by rw [hW1]; exact heap_new_at _ _ hX.symm
  have hO1 : Only (fun _ => False) w W1 := by rw [hW1]; exact (Only.refl _ w).alloc _
  rw [← hX, ← hW1]
  have d4 := row_cell hXc (i := 4) rfl
  have d5 := row_cell hXc (i := 5) rfl
  have d6 := row_cell hXc (i := 6) rfl
  have hcells := Lib.hid (fun W (hW : Only (fun _ => False) W1 W) => show W.cell? ⟨X, 4, none⟩ = some (.int .i64 fr) ∧ W.cell? ⟨X, 5, none⟩ = some (.int .i64 fl) ∧ W.cell? ⟨X, 6, none⟩ = some (.slice A n cap) from ⟨hW.cell d4 (fun h => h), hW.cell d5 (fun h => h), hW.cell d6 (fun h => h)⟩)
  have hO1' := Lib.hid hO1
  have hc1 := Lib.hid (hc.out W1 hO1)
  clear hc hXc hW1 hX hO1
  have hcase : 0 ≤ fl ∨ fl < 0 := by omega
  rcases hcase with hf | hf
  · have hf' := Lib.hid hf
    go_region_held3 (fun w' => w'.cell? ⟨X, 4, none⟩ = some (.int .i64 fr) ∧ w'.cell? ⟨X, 5, none⟩ = some (.int .i64 fl) ∧ w'.cell? ⟨X, 6, none⟩ = some (.slice A n cap))
      (exact hcells.out _ (by repeat (first | assumption | exact Only.refl _ _ | apply Only.drew | apply Only.alloc)))
      (first | (go_at_call 20; (with_reducible refine (hc1.out _ (by repeat (first | assumption | exact Only.refl _ _ | apply Only.drew))).mono ?_); rintro _ w6 ⟨v6, h6, rfl, hW6, hh6, hO6⟩; obtain ⟨p6, c6, rfl, -⟩ := hW6.form; have hW6' := Lib.hid hW6; have hh6' := Lib.hid hh6; clear hW6 hh6))
    all_goals
      have hO6' := Lib.hid (hO1'.out.trans' hO6)
      clear hO6 hcells d4 d5 d6 hO1' hc1
      go_wp2
      go_ret
      first
        | exact hend.out _ _ _ _ _ rfl hn'.out (by have := hf'.out; omega) hW6'.out hh6'.out hO6'.out
        | (have := hend.out _ _ _ _ _ rfl hn'.out (by have := hf'.out; omega) (hW6'.out.same (by rfl)) hh6'.out hO6'.out.drew; exact this)
  · have hf' := Lib.hid hf
    go_region_held3 (fun w' => w'.cell? ⟨X, 4, none⟩ = some (.int .i64 fr) ∧ w'.cell? ⟨X, 5, none⟩ = some (.int .i64 fl) ∧ w'.cell? ⟨X, 6, none⟩ = some (.slice A n cap))
      (exact hcells.out _ (by repeat (first | assumption | exact Only.refl _ _ | apply Only.drew | apply Only.alloc)))
      (first | (go_at_call 20; (with_reducible refine (hc1.out _ (by repeat (first | assumption | exact Only.refl _ _ | apply Only.drew))).mono ?_); rintro _ w6 ⟨v6, h6, rfl, hW6, hh6, hO6⟩; obtain ⟨p6, c6, rfl, -⟩ := hW6.form; have hW6' := Lib.hid hW6; have hh6' := Lib.hid hh6; clear hW6 hh6))
    all_goals
      have hO6' := Lib.hid (hO1'.out.trans' hO6)
      clear hO6 hcells d4 d5 d6 hO1' hc1
      go_wp2
      go_ret
      first
        | exact hend.out _ _ _ _ _ rfl hn'.out (by have := hf'.out; omega) hW6'.out hh6'.out hO6'.out
        | (have := hend.out _ _ _ _ _ rfl hn'.out (by have := hf'.out; omega) (hW6'.out.same (by rfl)) hh6'.out hO6'.out.drew; exact this)
end Go.Proofs.Ytifpndjpijohfaa
