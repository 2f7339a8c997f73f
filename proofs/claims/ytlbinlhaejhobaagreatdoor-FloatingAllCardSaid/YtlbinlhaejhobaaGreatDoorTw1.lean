/- Copies: of ints, of operations, of tasks and their programs. Written by mktw1.py. -/
import Derived.Test.YtlbinlhaejhobaaGreatDoorKRows
import Derived.Test.YtlbinlhaejhobaaGreatDoorPre6
namespace Go.Proofs.YtlbinlhaejhobaaGreatDoor
namespace Twn
open Go Go.RowKit Krn

def tkV (p : TaskV × List Opn) : List Value := p.1.cells
def ztask : Value := .agg #[.int .i64 0, .int .i64 0, .int .i64 0, .int .i64 0, .int .i64 0, .int .i64 0, .slice none 0 0]
theorem info63 : (Tryz.prog.info? 49).map (fun i => (i.zero, i.size, i.bytes)) = some (some ztask, 7, 72) := by kernel_rfl
theorem infoI : (Tryz.prog.info? 3).map (fun i => (i.zero, i.size, i.bytes)) = some (some (.int .i64 0), 1, 8) := by kernel_rfl
/-- A copy in new memory. -/
def CloneEnd (w : World) (t : TypeId) (sz : Nat) (n : Nat) (xs : List Value) (e : Ending) (w' : World) : Prop :=
  ∃ v h, e = .returned v ∧ Win w' t sz v h n xs ∧ (∀ k, h = some k → w.heap.size ≤ k) ∧ Only (fun _ => False) w w'
theorem rowCone {α : Type} {f : α → List Value} (hf : ∀ x, ∀ u ∈ f x, u.oneCell' = true) (l : List α) : ∀ u ∈ rowC f l, u.oneCell' = true := by
  intro u hu
  obtain ⟨x, _, hx⟩ := List.mem_flatMap.1 hu
  exact hf x u hx
theorem cell_only_new {w w' : World} (h : Only (fun _ => False) w w') {a : Addr} {u : Value} (hc : w.cell? a = some u) : w'.cell? a = some u := h.cell hc (fun h => h)
theorem iclone_any {w : World} {A : Option Addr} {n cap : Nat} {xs : List Value} (hxl : xs.length = n * 1) (hsrc : 0 < n → ∃ ad, A = some ad ∧ ∀ j u, xs[j]? = some u → w.cell? (ad.add j) = some u) (h1 : ∀ u ∈ xs, u.oneCell' = true) (hn : n ≤ 1000000000) : Calls Tryz.prog 90 #[.slice A n cap] w (CloneEnd w 3 1 n xs) := by
  cases A with
  | none =>
    have h0 : n = 0 := by
      by_cases hc : 0 < n
      · obtain ⟨_, e, _⟩ := hsrc hc
        cases e
      · omega
    subst h0
    obtain rfl : xs = [] := List.eq_nil_of_length_eq_zero (by omega)
    have hnil : Sem.run Tryz.prog (binOp .eql 24 (.slice none 0 cap) (.slice none 0 0)) w = .ok (.bool true) w := by kernel_rfl
    clear h1 hsrc hn hxl
    go_enter Tryz.func90, Tryz.ntmps90
    go_wp2
    go_ret
    exact ⟨_, none, rfl, Win.nil _ _ _, fun k hk => (by cases hk), Only.refl _ _⟩
  | some a =>
    have hs' := Lib.hid (fun (h0 : 0 < n) => show ∃ ad, (some a : Option Addr) = some ad ∧ ∀ j u, xs[j]? = some u → (w.alloc (.cells #[] 3)).cell? (ad.add j) = some u from by
      obtain ⟨ad, q1, q2⟩ := hsrc h0
      exact ⟨ad, q1, fun j u hu => cell_only_new ((Only.refl (fun _ => False) w).alloc _) (q2 j u hu)⟩)
    have hx' := Lib.hid hxl
    have hnil : Sem.run Tryz.prog (binOp .eql 24 (.slice (some a) n cap) (.slice none 0 0)) w = .ok (.bool false) w := by kernel_rfl
    clear hsrc hxl
    go_enter Tryz.func90, Tryz.ntmps90
    go_wp2_with (at_builtin; refine wpList_append_win rfl _ _ 24 rfl 3 (.int .i64 0) 1 8 Tryz.underlying24 infoI rfl (by decide) rfl (Win.empty (w.alloc (.cells #[] 3)) 3 1 (some ⟨w.heap.size, 0, none⟩)) (some a) n cap rfl xs hx'.out hs'.out h1 (by unfold maxLen; omega) (by omega) ?_; intro v' w4 h4 hW4 hO4 hh4)
    go_ret
    refine ⟨v', h4, rfl, ?_, ?_, ?_⟩
    · have := hW4.out
      rwa [Nat.zero_add, List.nil_append] at this
    · intro k hk
      rcases hh4.out with rfl | ⟨g, rfl, hg⟩
      · cases hk
      · cases hk
        simp at hg
        omega
    · exact ((Only.refl (fun _ => False) w).alloc _).trans hO4.out (fun _ _ e => by cases e)
def jopCells (l : List Opn) : List Value := l.flatMap Opn.cells
def jzop : Opn := ⟨0, 0, 0⟩
theorem jopCells_length (l : List Opn) : (jopCells l).length = l.length * 3 := by
  induction l with
  | nil => rfl
  | cons x l ih => simp only [jopCells, List.flatMap_cons, List.length_append, List.length_cons] at ih ⊢; rw [ih]; simp [Opn.cells]; omega
theorem jopCells_at (l : List Opn) (i : Nat) (x : Opn) (h : l[i]? = some x) (j : Nat) (hj : j < 3) : (jopCells l)[i * 3 + j]? = x.cells[j]? := by
  induction l generalizing i with
  | nil => cases h
  | cons y l ih =>
    cases i with
    | zero =>
      cases h
      simp only [jopCells, List.flatMap_cons]
      rw [List.getElem?_append_left (by simp [Opn.cells]; omega)]
      simp
    | succ i =>
      simp only [jopCells, List.flatMap_cons]
      rw [List.getElem?_append_right (by simp [Opn.cells]; omega)]
      have := ih i (by simpa using h)
      rw [← this]
      congr 1
      simp [Opn.cells]
      omega
theorem jopOne (x : Opn) : ∀ u ∈ x.cells, u.oneCell' = true := by
  intro u hu
  simp only [Opn.cells, List.mem_cons, List.mem_nil_iff, or_false] at hu
  rcases hu with rfl | rfl | rfl <;> rfl
theorem jopAll (l : List Opn) : ∀ u ∈ jopCells l, u.oneCell' = true := by
  intro u hu
  obtain ⟨x, _, hx⟩ := List.mem_flatMap.1 hu
  exact jopOne x u hx
theorem jinfoOp : (Tryz.prog.info? 90).map (fun i => (i.zero, i.size, i.bytes)) = some (some jzop.val, 3, 24) := by kernel_rfl
/-- What append asks of a program that came in. -/
theorem oprow_src {w : World} {A : Option Addr} {l : List Opn} {n : Nat} (h : OpnRow w A l) (hn : l.length = n) : 0 < n → ∃ ad, A = some ad ∧ ∀ j u, (jopCells l)[j]? = some u → w.cell? (ad.add j) = some u := fun h0 => by
  obtain ⟨x, hx⟩ : ∃ x, l[0]? = some x := ⟨_, List.getElem?_eq_getElem (by omega)⟩
  obtain ⟨b, off, rfl, _, _⟩ := h 0 x hx
  refine ⟨_, rfl, fun j u hu => ?_⟩
  rw [Addr.add_lit]
  have hj : j < l.length * 3 := by
    have := (List.getElem?_eq_some_iff.1 hu).1
    rwa [jopCells_length] at this
  obtain ⟨y, hy⟩ : ∃ y, l[j / 3]? = some y := ⟨_, List.getElem?_eq_getElem (by omega)⟩
  have e : j = j / 3 * 3 + j % 3 := by omega
  obtain ⟨b', off', hb', _, c0, c1, c2⟩ := h (j / 3) y hy
  cases hb'
  have hu' := jopCells_at l (j / 3) y hy (j % 3) (by omega)
  rw [← e, hu] at hu'
  have hj3 : j % 3 = 0 ∨ j % 3 = 1 ∨ j % 3 = 2 := by omega
  rw [e, ← Nat.add_assoc]
  rcases hj3 with h3 | h3 | h3 <;> rw [h3] at hu' ⊢ <;> simp only [Opn.cells, List.getElem?_cons_zero, List.getElem?_cons_succ, Option.some.injEq] at hu' <;> subst hu'
  · exact c0
  · exact c1
  · exact c2

theorem oclone0_any {w : World} {A : Option Addr} {n cap : Nat} {xs : List Value} (hxl : xs.length = n * 3) (hsrc : 0 < n → ∃ ad, A = some ad ∧ ∀ j u, xs[j]? = some u → w.cell? (ad.add j) = some u) (h1 : ∀ u ∈ xs, u.oneCell' = true) (hn : n ≤ 1000000000) : Calls Tryz.prog 127 #[.slice A n cap] w (CloneEnd w 90 3 n xs) := by
  cases A with
  | none =>
    have h0 : n = 0 := by
      by_cases hc : 0 < n
      · obtain ⟨_, e, _⟩ := hsrc hc
        cases e
      · omega
    subst h0
    obtain rfl : xs = [] := List.eq_nil_of_length_eq_zero (by omega)
    have hnil : Sem.run Tryz.prog (binOp .eql 47 (.slice none 0 cap) (.slice none 0 0)) w = .ok (.bool true) w := by kernel_rfl
    clear h1 hsrc hn hxl
    go_enter Tryz.func127, Tryz.ntmps127
    go_wp2
    go_ret
    exact ⟨_, none, rfl, Win.nil _ _ _, fun k hk => (by cases hk), Only.refl _ _⟩
  | some a =>
    have hs' := Lib.hid (fun (h0 : 0 < n) => show ∃ ad, (some a : Option Addr) = some ad ∧ ∀ j u, xs[j]? = some u → (w.alloc (.cells #[] 90)).cell? (ad.add j) = some u from by
      obtain ⟨ad, q1, q2⟩ := hsrc h0
      exact ⟨ad, q1, fun j u hu => cell_only_new ((Only.refl (fun _ => False) w).alloc _) (q2 j u hu)⟩)
    have hx' := Lib.hid hxl
    have hnil : Sem.run Tryz.prog (binOp .eql 47 (.slice (some a) n cap) (.slice none 0 0)) w = .ok (.bool false) w := by kernel_rfl
    clear hsrc hxl
    go_enter Tryz.func127, Tryz.ntmps127
    go_wp2_with (at_builtin; refine wpList_append_win rfl _ _ 47 rfl 90 jzop.val 3 24 Tryz.underlying47 jinfoOp rfl (by decide) rfl (Win.empty (w.alloc (.cells #[] 90)) 90 3 (some ⟨w.heap.size, 0, none⟩)) (some a) n cap rfl xs hx'.out hs'.out h1 (by unfold maxLen; omega) (by omega) ?_; intro v' w4 h4 hW4 hO4 hh4)
    go_ret
    refine ⟨v', h4, rfl, ?_, ?_, ?_⟩
    · have := hW4.out
      rwa [Nat.zero_add, List.nil_append] at this
    · intro k hk
      rcases hh4.out with rfl | ⟨g, rfl, hg⟩
      · cases hk
      · cases hk
        simp at hg
        omega
    · exact ((Only.refl (fun _ => False) w).alloc _).trans hO4.out (fun _ _ e => by cases e)
theorem oclone_any {w : World} {A : Option Addr} {n cap : Nat} {l : List Opn} (hl : OpnRow w A l) (hn : l.length = n) (hb : n ≤ 1000) :
    Calls Tryz.prog 127 #[.slice A n cap] w (CloneEnd w 90 3 n (jopCells l)) :=
  oclone0_any (by rw [jopCells_length, hn]) (oprow_src hl hn) (jopAll l) (by omega)
theorem tclone_any {w : World} {A : Option Addr} {n cap : Nat} {xs : List Value} (hxl : xs.length = n * 7) (hsrc : 0 < n → ∃ ad, A = some ad ∧ ∀ j u, xs[j]? = some u → w.cell? (ad.add j) = some u) (h1 : ∀ u ∈ xs, u.oneCell' = true) (hn : n ≤ 1000000000) : Calls Tryz.prog 126 #[.slice A n cap] w (CloneEnd w 49 7 n xs) := by
  cases A with
  | none =>
    have h0 : n = 0 := by
      by_cases hc : 0 < n
      · obtain ⟨_, e, _⟩ := hsrc hc
        cases e
      · omega
    subst h0
    obtain rfl : xs = [] := List.eq_nil_of_length_eq_zero (by omega)
    have hnil : Sem.run Tryz.prog (binOp .eql 25 (.slice none 0 cap) (.slice none 0 0)) w = .ok (.bool true) w := by kernel_rfl
    clear h1 hsrc hn hxl
    go_enter Tryz.func126, Tryz.ntmps126
    go_wp2
    go_ret
    exact ⟨_, none, rfl, Win.nil _ _ _, fun k hk => (by cases hk), Only.refl _ _⟩
  | some a =>
    have hs' := Lib.hid (fun (h0 : 0 < n) => show ∃ ad, (some a : Option Addr) = some ad ∧ ∀ j u, xs[j]? = some u → (w.alloc (.cells #[] 49)).cell? (ad.add j) = some u from by
      obtain ⟨ad, q1, q2⟩ := hsrc h0
      exact ⟨ad, q1, fun j u hu => cell_only_new ((Only.refl (fun _ => False) w).alloc _) (q2 j u hu)⟩)
    have hx' := Lib.hid hxl
    have hnil : Sem.run Tryz.prog (binOp .eql 25 (.slice (some a) n cap) (.slice none 0 0)) w = .ok (.bool false) w := by kernel_rfl
    clear hsrc hxl
    go_enter Tryz.func126, Tryz.ntmps126
    go_wp2_with (at_builtin; refine wpList_append_win rfl _ _ 25 rfl 49 ztask 7 72 Tryz.underlying25 info63 rfl (by decide) rfl (Win.empty (w.alloc (.cells #[] 49)) 49 7 (some ⟨w.heap.size, 0, none⟩)) (some a) n cap rfl xs hx'.out hs'.out h1 (by unfold maxLen; omega) (by omega) ?_; intro v' w4 h4 hW4 hO4 hh4)
    go_ret
    refine ⟨v', h4, rfl, ?_, ?_, ?_⟩
    · have := hW4.out
      rwa [Nat.zero_add, List.nil_append] at this
    · intro k hk
      rcases hh4.out with rfl | ⟨g, rfl, hg⟩
      · cases hk
      · cases hk
        simp at hg
        omega
    · exact ((Only.refl (fun _ => False) w).alloc _).trans hO4.out (fun _ _ e => by cases e)
theorem tkV_len (p : TaskV × List Opn) : (tkV p).length = 7 := rfl
theorem tkV_one (p : TaskV × List Opn) : ∀ u ∈ tkV p, u.oneCell' = true := by
  intro u hu
  simp only [tkV, TaskV.cells, List.mem_cons, List.mem_nil_iff, or_false] at hu
  rcases hu with rfl | rfl | rfl | rfl | rfl | rfl | rfl <;> rfl
/-- The tasks' cells, as a copy asks for them. -/
theorem tasks_src {w : World} {x : Sl} {pl : Tks} (h : TasksAt w x pl.ts) (h0 : 0 < x.n) : ∃ ad, x.A = some ad ∧ ∀ j u, (rowC tkV pl)[j]? = some u → w.cell? (ad.add j) = some u := by
  have hl : pl.length = x.n := by rw [← h.len]; unfold Tks.ts; rw [List.length_map]
  have get : ∀ i (hi : i < pl.length), pl.ts[i]? = some (pl[i]'hi).1 := fun i hi => ts_some (l := (pl[i]'hi).2) (List.getElem?_eq_getElem hi)
  obtain ⟨b, off, hA, -, -⟩ := h.at_ 0 _ (get 0 (by omega))
  refine ⟨_, hA, fun j u hu => ?_⟩
  have hjl := (List.getElem?_eq_some_iff.1 hu).1
  rw [rowC_len tkV_len] at hjl
  have hq : j / 7 < pl.length := by omega
  have hj : j = j / 7 * 7 + j % 7 := by omega
  have hm : j % 7 < 7 := Nat.mod_lt _ (by omega)
  obtain ⟨b', off', hA', -, hc⟩ := h.at_ (j / 7) _ (get _ hq)
  rw [hA] at hA'
  cases hA'
  have h2 := rowC_at tkV_len pl (j / 7) _ (List.getElem?_eq_getElem hq) (j % 7) hm
  rw [← hj, hu] at h2
  rw [Addr.add_lit]
  have e : off + j = off + j / 7 * 7 + j % 7 := by omega
  rw [e]
  obtain ⟨c0, c1, c2, c3, c4, c5, c6⟩ := hc
  have : j % 7 = 0 ∨ j % 7 = 1 ∨ j % 7 = 2 ∨ j % 7 = 3 ∨ j % 7 = 4 ∨ j % 7 = 5 ∨ j % 7 = 6 := by omega
  rcases this with h3 | h3 | h3 | h3 | h3 | h3 | h3
  all_goals
    rw [h3] at h2 ⊢
    simp only [tkV, TaskV.cells, List.getElem?_cons_zero, List.getElem?_cons_succ, Option.some.injEq] at h2
    rw [h2]
    assumption
/-- The first k tasks have programs of their own. -/
structure TkRel (w : World) (pl : Tks) (v : Value) (tb : Option Nat) (k : Nat) (us : List (TaskV × List Opn)) (tp : List (Option Nat)) (W : World) : Prop where
  len : us.length = pl.length
  same : ∀ (i : Nat) t l, pl[i]? = some (t, l) → ∃ o, us[i]? = some ({ t with o := o }, l) ∧ (k ≤ i → o = t.o)
  win : Win W 49 7 v tb pl.length (rowC tkV us)
  tpl : tp.length = k
  own : ∀ (i : Nat) t l o, us[i]? = some (t, l) → tp[i]? = some o → Win W 90 3 t.o.val o l.length (jopCells l) ∧ l.length = t.o.n
  fb : ∀ g, tb = some g → w.heap.size ≤ g
  fp : ∀ g, some g ∈ tp → w.heap.size ≤ g ∧ some g ≠ tb
  only : Only (fun _ => False) w W
theorem TkRel.next {w W W3 : World} {pl : Tks} {g off n cap k : Nat} {us : List (TaskV × List Opn)} {tp : List (Option Nat)} {t : TaskV} {l : List Opn} {p' : Option Addr} {cap' : Nat} {h' : Option Nat}
    (h : TkRel w pl (.slice (some ⟨g, off, none⟩) n cap) (some g) k us tp W) (hn : n = pl.length) (hx : pl[k]? = some (t, l)) (hW3 : Only (fun _ => False) W W3) (hw : Win W3 90 3 (.slice p' l.length cap') h' l.length (jopCells l)) (hf : ∀ x, h' = some x → W.heap.size ≤ x) (hgW : g < W.heap.size) :
    ∃ us' tp', TkRel w pl (.slice (some ⟨g, off, none⟩) n cap) (some g) (k + 1) us' tp' (W3.setCell ⟨g, off + k * 7 + 6, none⟩ (.slice p' l.length cap')) := by
  obtain ⟨o, ho, -⟩ := h.same k t l hx
  have hk := (List.getElem?_eq_some_iff.1 ho).1
  have hO9 : Only (fun x => x = g) W3 (W3.setCell ⟨g, off + k * 7 + 6, none⟩ (.slice p' l.length cap')) := (Only.refl (fun x => x = g) W3).setCell (p := ⟨g, off + k * 7 + 6, none⟩) (fun _ => rfl) _
  have hne : ∀ x, h' = some x → x ≠ g := fun x hx e => by have := hf x hx; omega
  refine ⟨us.set k ({ t with o := ⟨p', l.length, cap'⟩ }, l), tp ++ [h'], ?_, fun i t1 l1 hi => ?_, ?_, ?_, fun i t1 l1 o1 hi ho1 => ?_, h.fb, fun x hx1 => ?_, ?_⟩
  · rw [List.length_set]; exact h.len
  · by_cases e : i = k
    · subst e
      rw [hx] at hi
      cases hi
      exact ⟨_, List.getElem?_set_self hk, fun hlt => by omega⟩
    · obtain ⟨o2, q1, q2⟩ := h.same i t1 l1 hi
      exact ⟨o2, by rw [List.getElem?_set_ne (fun h => e h.symm)]; exact q1, fun hlt => q2 (by omega)⟩
  · have hw0 := h.win.kept hW3 (fun _ _ h => h)
    rw [hn, ← h.len] at hw0
    have := win_turn (y := ({ t with o := ⟨p', l.length, cap'⟩ }, l)) (j := 6) (u := .slice p' l.length cap') tkV_len hw0 ho (by decide) rfl
    rw [List.length_set, h.len] at this
    rw [hn]
    exact this
  · rw [List.length_append, h.tpl]; rfl
  · by_cases e : i = k
    · subst e
      rw [List.getElem?_set_self hk] at hi
      cases hi
      rw [List.getElem?_append_right (by rw [h.tpl]; exact Nat.le_refl _), h.tpl, Nat.sub_self] at ho1
      have : h' = o1 := by simpa using ho1
      subst this
      exact ⟨hw.kept hO9 (fun x hx1 e => hne x hx1 e), rfl⟩
    · rw [List.getElem?_set_ne (fun h => e h.symm)] at hi
      have hik : i < k := by
        have := (List.getElem?_eq_some_iff.1 ho1).1
        rw [List.length_append, h.tpl] at this
        have : [h'].length = 1 := rfl
        omega
      rw [List.getElem?_append_left (by rw [h.tpl]; exact hik)] at ho1
      obtain ⟨q1, q2⟩ := h.own i t1 l1 o1 hi ho1
      exact ⟨(q1.kept hW3 (fun _ _ h => h)).kept hO9 (fun x hx1 e => (h.fp x (by rw [← hx1]; exact List.mem_of_getElem? ho1)).2 (by rw [e])), q2⟩
  · rcases List.mem_append.1 hx1 with hx1 | hx1
    · exact h.fp x hx1
    · have : h' = some x := (List.mem_singleton.1 hx1).symm
      exact ⟨Nat.le_trans h.only.size (hf x this), fun e => hne x this (by cases e; rfl)⟩
  · exact (h.only.trans' hW3).trans hO9 (fun x hx e => by have := h.fb g rfl; omega)
/-- What copying the tasks leaves. -/
def TasksEnd (w : World) (pl : Tks) (e : Ending) (w' : World) : Prop :=
  ∃ v tb us tp, e = .returned v ∧ TkRel w pl v tb pl.length us tp w'
set_option maxRecDepth 100000 in
theorem tasks_any {w : World} {x : Sl} {pl : Tks} (ht : TasksAt w x pl.ts) (hp : ProgsAt w pl) (hn : pl.length ≤ 1000) (hol : ∀ (i : Nat) t l, pl[i]? = some (t, l) → l.length ≤ 1000) : Calls Tryz.prog 91 #[.slice x.A x.n x.cap] w (TasksEnd w pl) := by
  have hl : pl.length = x.n := by rw [← ht.len]; unfold Tks.ts; rw [List.length_map]
  have hcl := Lib.hid (tclone_any (A := x.A) (n := x.n) (cap := x.cap) (xs := rowC tkV pl) (by rw [rowC_len tkV_len, hl]) (tasks_src ht) (rowCone tkV_one _) (by omega))
  have hp' := Lib.hid hp
  have hol' := Lib.hid hol
  have hl' := Lib.hid hl
  rw [← hl] at hcl ⊢
  obtain ⟨n, hnn⟩ : ∃ n, n = pl.length := ⟨_, rfl⟩
  rw [← hnn] at hcl hn ⊢
  have hn' := Lib.hid hnn
  clear ht hp hol hl
  obtain ⟨Z, hZ⟩ : ∃ Z, Z = TasksEnd w pl := ⟨_, rfl⟩
  rw [← hZ]
  have hZ' := Lib.hid hZ
  clear hZ hnn
  go_enter Tryz.func91, Tryz.ntmps91
  go_wp2_with fail
  refine hcl.out.mono ?_
  rintro e w1 ⟨v, h, rfl, hw1, hf1, hO1⟩
  have hst : TkRel w pl v h 0 pl [] w1 := by
    refine ⟨rfl, fun i t l hi => ⟨t.o, hi, fun _ => rfl⟩, by rw [← hn'.out]; exact hw1, rfl, fun i t l o hi ho => (by simp at ho), fun g hg => hf1 g hg, fun g hg => (by cases hg), hO1⟩
  obtain ⟨p, cap, hv, -, -⟩ := hw1.form
  have hst' := Lib.hid hst
  have hv' := Lib.hid hv
  clear hw1 hf1 hO1 hst hcl
  subst hv
  go_wp2
  go_loopw [8] (fun i wr => ∃ (k : Nat) (us : List (TaskV × List Opn)) (tp : List (Option Nat)), k ≤ n ∧ i = .int .i64 k ∧ TkRel w pl (.slice p n cap) h k us tp wr) (fun i _ => n - (intOf i).toNat)
  case atStart => exact ⟨0, pl, [], Nat.zero_le _, rfl, hst'.out⟩
  case round =>
    obtain ⟨k, us, tp, hk, rfl, hR⟩ := hrel
    by_cases hkn : k < n
    · have hkn' : (k : Int) < (n : Int) := by omega
      obtain ⟨⟨t, l⟩, hx⟩ : ∃ x, pl[k]? = some x := ⟨_, List.getElem?_eq_getElem (by have := hn'.out; omega)⟩
      obtain ⟨o, ho, ho2⟩ := hR.same k t l hx
      obtain rfl := ho2 (Nat.le_refl _)
      have hw0 : Win wr 49 7 (.slice p n cap) h us.length (rowC tkV us) := by
        have := hR.win
        rw [← hR.len] at this
        exact this
      obtain ⟨g, off, cap', hg1, hv1, -, -, -, hgl, hc, hf⟩ := win_row (f := tkV) tkV_len hw0 ho
      obtain ⟨rfl, -, rfl⟩ : p = some ⟨g, off, none⟩ ∧ True ∧ cap = cap' := by
        injection hv1 with q1 q2 q3
        exact ⟨q1, trivial, q3⟩
      subst hg1
      have x6 := hc 6 _ rfl
      have f6 := hf (off + k * 7 + 6)
      obtain ⟨r1, r2, r3, -⟩ := hp'.out.row k t l hx
      have hcl2 := Lib.hid (oclone_any (cap := t.o.cap) (r1.new hR.only) r2 (by have := hol'.out k t l hx; omega))
      have hnx := Lib.hid (fun (W3 : World) (p' : Option Addr) (cap3 : Nat) (h3 : Option Nat) hO3 hw3 hf3 => hR.next (p' := p') (cap' := cap3) (h' := h3) (W3 := W3) hn'.out hx hO3 hw3 hf3 hgl)
      rw [← r2] at x6 hcl2
      obtain ⟨ln, hln⟩ : ∃ ln, ln = l.length := ⟨_, rfl⟩
      obtain ⟨tA, htA⟩ : ∃ tA, tA = t.o.A := ⟨_, rfl⟩
      obtain ⟨tc, htc⟩ : ∃ tc, tc = t.o.cap := ⟨_, rfl⟩
      rw [← hln] at x6 hcl2 hnx
      rw [← htA, ← htc] at x6 hcl2
      clear hR ho hw0 hc hf r1 r2 r3 hx hv1 hln htA htc ho2
      go_wp2_with fail
      refine hcl2.out.mono ?_
      rintro e w3 ⟨v3, h3, rfl, hw3, hf3, hO3⟩
      obtain ⟨p3, cap3, rfl, -, -⟩ := hw3.form
      have hnx2 := Lib.hid (hnx.out w3 p3 cap3 h3 hO3 hw3 hf3)
      have y6 := hO3.cell x6 (fun h => h)
      have g6 := Nat.lt_of_lt_of_le hgl hO3.size
      have e6 : w3.frozen? ⟨g, off + k * 7 + 6, none⟩ = false := by
        simp only [World.frozen?] at f6 ⊢
        rw [hO3.block g hgl (fun h => h)]
        exact f6
      clear hw3 hf3 hO3 hnx x6 f6
      go_wp2
      go_roundw
      case rel =>
        obtain ⟨us', tp', hR'⟩ := hnx2.out
        exact ⟨k + 1, us', tp', by omega, by go_num, hR'⟩
      case measure => simp [intOf]; omega
    · obtain rfl : k = n := by omega
      have hend := Lib.hid (show Z (.returned (.slice p k cap)) wr from by rw [hZ'.out]; exact ⟨_, h, us, tp, rfl, by have := hn'.out; subst this; exact hR⟩)
      clear hR
      go_wp2
      exact hend.out
end Twn
end Go.Proofs.YtlbinlhaejhobaaGreatDoor
