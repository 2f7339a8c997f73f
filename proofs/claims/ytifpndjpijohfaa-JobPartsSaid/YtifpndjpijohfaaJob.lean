/- A job: its program's operations, a copy of its own, and what it has done of them. -/
import Derived.Test.YtifpndjpijohfaaOpBase
namespace Go.Proofs.Ytifpndjpijohfaa
open Go Go.RowKit

def opCells (l : List Opn) : List Value := l.flatMap Opn.cells
def zop : Opn := ⟨0, 0, 0⟩
theorem opCells_length (l : List Opn) : (opCells l).length = l.length * 3 := by
  induction l with
  | nil => rfl
  | cons x l ih => simp only [opCells, List.flatMap_cons, List.length_append, List.length_cons] at ih ⊢; rw [ih]; simp [Opn.cells]; omega
theorem opCells_at (l : List Opn) (i : Nat) (x : Opn) (h : l[i]? = some x) (j : Nat) (hj : j < 3) : (opCells l)[i * 3 + j]? = x.cells[j]? := by
  induction l generalizing i with
  | nil => cases h
  | cons y l ih =>
    cases i with
    | zero =>
      cases h
      simp only [opCells, List.flatMap_cons]
      rw [List.getElem?_append_left (by simp [Opn.cells]; omega)]
      simp
    | succ i =>
      simp only [opCells, List.flatMap_cons]
      rw [List.getElem?_append_right (by simp [Opn.cells]; omega)]
      have := ih i (by simpa using h)
      rw [← this]
      congr 1
      simp [Opn.cells]
      omega
theorem opOne (x : Opn) : ∀ u ∈ x.cells, u.oneCell' = true := by
  intro u hu
  simp only [Opn.cells, List.mem_cons, List.mem_nil_iff, or_false] at hu
  rcases hu with rfl | rfl | rfl <;> rfl
theorem opAll (l : List Opn) : ∀ u ∈ opCells l, u.oneCell' = true := by
  intro u hu
  obtain ⟨x, _, hx⟩ := List.mem_flatMap.1 hu
  exact opOne x u hx
theorem info39 : (Try.prog.info? 39).map (fun i => (i.zero, i.size, i.bytes)) = some (some zop.val, 3, 24) := by kernel_rfl
theorem win_op {w : World} {v : Value} {o : Option Nat} {n : Nat} {l : List Opn} (h : Win w 39 3 v o n (opCells l)) (hn : 0 < n) : ∃ g off cap, o = some g ∧ v = .slice (some ⟨g, off, none⟩) n cap ∧ n ≤ cap ∧ cap ≤ maxLen ∧ g < w.heap.size ∧ (∀ i x, l[i]? = some x → OpnCells w g (off + i * 3) x) ∧ ∀ i, w.frozen? ⟨g, i, none⟩ = false := by
  obtain ⟨g, off, cap, h1, h2, h3, h4, h5, h6, h7⟩ := h.at_ hn
  refine ⟨g, off, cap, h1, h2, h3, h4, h5, fun i x hx => ?_, h7⟩
  have q : ∀ j u, j < 3 → x.cells[j]? = some u → w.cell? ⟨g, off + i * 3 + j, none⟩ = some u := fun j u hj hu => by
    have := h6 (i * 3 + j) u ((opCells_at l i x hx j hj).trans hu)
    rwa [← Nat.add_assoc] at this
  exact ⟨q 0 _ (by omega) rfl, q 1 _ (by omega) rfl, q 2 _ (by omega) rfl⟩
/-- What append asks of a program that came in. -/
theorem OpnRow.src {w : World} {A : Option Addr} {l : List Opn} {n : Nat} (h : OpnRow w A l) (hn : l.length = n) : 0 < n → ∃ ad, A = some ad ∧ ∀ j u, (opCells l)[j]? = some u → w.cell? (ad.add j) = some u := fun h0 => by
  obtain ⟨x, hx⟩ : ∃ x, l[0]? = some x := ⟨_, List.getElem?_eq_getElem (by omega)⟩
  obtain ⟨b, off, rfl, _, _⟩ := h 0 x hx
  refine ⟨_, rfl, fun j u hu => ?_⟩
  rw [Addr.add_lit]
  have hj : j < l.length * 3 := by
    have := (List.getElem?_eq_some_iff.1 hu).1
    rwa [opCells_length] at this
  obtain ⟨y, hy⟩ : ∃ y, l[j / 3]? = some y := ⟨_, List.getElem?_eq_getElem (by omega)⟩
  have e : j = j / 3 * 3 + j % 3 := by omega
  obtain ⟨b', off', hb', _, c0, c1, c2⟩ := h (j / 3) y hy
  cases hb'
  have hu' := opCells_at l (j / 3) y hy (j % 3) (by omega)
  rw [← e, hu] at hu'
  have hj3 : j % 3 = 0 ∨ j % 3 = 1 ∨ j % 3 = 2 := by omega
  rw [e, ← Nat.add_assoc]
  rcases hj3 with h3 | h3 | h3 <;> rw [h3] at hu' ⊢ <;> simp only [Opn.cells, List.getElem?_cons_zero, List.getElem?_cons_succ, Option.some.injEq] at hu' <;> subst hu'
  · exact c0
  · exact c1
  · exact c2

/-- A job. -/
structure Jb where
  ops : List Opn
  frame : Int
  at_ : Nat
  rest : Int
  regions : Int
  pushed : Int
  left : Int
  armed : Bool
  fault : Bool
/-- What holds of each job that New makes. -/
structure Jb.Ok (j : Jb) : Prop where
  r : 0 ≤ j.rest ∧ j.rest ≤ 9223372036854775807
  l : 0 ≤ j.left ∧ j.left ≤ 9223372036854775807
  n : j.ops.length ≤ 1000 ∧ j.at_ ≤ j.ops.length
  u : 0 < j.rest → j.at_ < j.ops.length
def JbAt (w : World) (b : Nat) (o : Option Nat) (j : Jb) : Prop :=
  ∃ v, w.heap[b]? = some (.cells #[v, .int .i64 j.frame, .int .i64 j.at_, .int .i64 j.rest, .int .i64 j.regions, .int .i64 j.pushed, .int .i64 j.left, .bool j.armed, .bool j.fault] 47 (0, 0)) ∧ Win w 39 3 v o j.ops.length (opCells j.ops) ∧ ∀ k, o = some k → k ≠ b
def jfp (b : Nat) (o : Option Nat) (k : Nat) : Prop := k = b ∨ o = some k
section
variable {w w' : World} {b : Nat} {o : Option Nat} {j : Jb}
theorem JbAt.lt (h : JbAt w b o j) : ∀ k, jfp b o k → k < w.heap.size := by
  obtain ⟨v, h1, h2, h3⟩ := h
  rintro k (rfl | hk)
  · exact row_lt h1
  · exact h2.lt k hk
theorem JbAt.kept {S : Nat → Prop} (h : JbAt w b o j) (ho : Only S w w') (hS : ∀ k, jfp b o k → ¬ S k) : JbAt w' b o j := by
  obtain ⟨v, h1, h2, h3⟩ := h
  exact ⟨v, ho.heap h1 (hS b (.inl rfl)), h2.kept ho (fun k hk => hS k (.inr hk)), h3⟩
theorem JbAt.new (h : JbAt w b o j) (ho : Only (fun _ => False) w w') : JbAt w' b o j := h.kept ho (fun _ _ h => h)
theorem JbAt.drew (h : JbAt w b o j) (n : Nat) : JbAt (w.drewN n) b o j := h.new ((Only.refl _ w).drewN n)
/-- The job's block, the program's slice as it is. -/
theorem JbAt.block (h : JbAt w b o j) : ∃ p cap, j.ops.length ≤ cap ∧ cap ≤ maxLen ∧ w.heap[b]? = some (.cells [.slice p j.ops.length cap, .int .i64 j.frame, .int .i64 j.at_, .int .i64 j.rest, .int .i64 j.regions, .int .i64 j.pushed, .int .i64 j.left, .bool j.armed, .bool j.fault].toArray 47 (0, 0)) ∧ Win w 39 3 (.slice p j.ops.length cap) o j.ops.length (opCells j.ops) ∧ ∀ k, o = some k → k ≠ b := by
  obtain ⟨v, h1, h2, h3⟩ := h
  obtain ⟨p, cap, rfl, h4, h5⟩ := h2.form
  exact ⟨p, cap, h4, h5, h1, h2, h3⟩
/-- The block turned, the program as it was. -/
theorem JbAt.turn (h : JbAt w b o j) (ho : Only (fun k => k = b) w w') {p : Option Addr} {cap : Nat} (hp : w.heap[b]? = some (.cells [.slice p j.ops.length cap, .int .i64 j.frame, .int .i64 j.at_, .int .i64 j.rest, .int .i64 j.regions, .int .i64 j.pushed, .int .i64 j.left, .bool j.armed, .bool j.fault].toArray 47 (0, 0))) {j' : Jb} (hj : j'.ops = j.ops)
    (hb : w'.heap[b]? = some (.cells [.slice p j.ops.length cap, .int .i64 j'.frame, .int .i64 j'.at_, .int .i64 j'.rest, .int .i64 j'.regions, .int .i64 j'.pushed, .int .i64 j'.left, .bool j'.armed, .bool j'.fault].toArray 47 (0, 0))) : JbAt w' b o j' := by
  obtain ⟨v, h1, h2, h3⟩ := h
  have e := hp.symm.trans h1
  simp at e
  obtain rfl := e
  rw [← hj] at h2 hb
  exact ⟨_, hb, h2.kept ho (fun k hk e => h3 k hk e), h3⟩
end

/-! ### What leaves it as it is -/
def overB (j : Jb) : Bool := decide (j.rest = 0) && (j.fault || decide (j.ops.length ≤ j.at_))
def DrewV (v : Value) (w : World) (e : Ending) (w' : World) : Prop := e = .returned v ∧ ∃ m, w' = w.drewN m
theorem DrewV.only {v : Value} {w w' : World} {e : Ending} (h : DrewV v w e w') : e = .returned v ∧ Only (fun _ => False) w w' := by
  obtain ⟨rfl, m, rfl⟩ := h
  exact ⟨rfl, (Only.refl _ w).drewN m⟩
section
variable {w : World} {b : Nat} {o : Option Nat} {j : Jb}
theorem jover_nil (w : World) : Calls Try.prog 15 #[.pointer none] w (DrewV (.bool true) w) := by
  go_enter Try.func15, Try.ntmps15
  go_wp2
  go_quiet (fail)
  go_wp2
  go_ret
  exact ⟨rfl, _, rfl⟩
theorem jover_any (h : JbAt w b o j) : Calls Try.prog 15 #[.pointer (some ⟨b, 0, none⟩)] w (DrewV (.bool (overB j)) w) := by
  obtain ⟨p, cap, h1, h2, hb, h3, h4⟩ := h.block
  have c0 := row_cell hb (i := 0) rfl
  have c2 := row_cell hb (i := 2) rfl
  have c3 := row_cell hb (i := 3) rfl
  have c8 := row_cell hb (i := 8) rfl
  have hl := row_lt hb
  obtain ⟨n, hn⟩ : ∃ n, n = j.ops.length := ⟨_, rfl⟩
  obtain ⟨A, hA⟩ : ∃ A, A = j.at_ := ⟨_, rfl⟩
  obtain ⟨R, hR⟩ : ∃ R, R = j.rest := ⟨_, rfl⟩
  obtain ⟨F, hF⟩ : ∃ F, F = j.fault := ⟨_, rfl⟩
  have hv := Lib.hid (show overB j = (decide (R = 0) && (F || decide (n ≤ A))) by rw [hn, hA, hR, hF]; rfl)
  rw [hv.out]
  rw [← hn] at c0
  rw [← hA] at c2
  rw [← hR] at c3
  rw [← hF] at c8
  clear hv h h1 h2 hb h3 h4 hn hA hR hF
  go_enter Try.func15, Try.ntmps15
  go_wp2
  by_cases hr : R = 0
  · subst hr
    cases F
    · go_quiet (fail)
      go_wp2
      go_ret
      exact ⟨by congr 2, _, rfl⟩
    · go_quiet (fail)
      go_wp2
      go_ret
      exact ⟨by simp, _, rfl⟩
  · have hr' : (R == 0) = false := by simpa using hr
    go_quiet (fail)
    go_wp2
    go_ret
    exact ⟨by simp [hr], _, rfl⟩
end
end Go.Proofs.Ytifpndjpijohfaa
