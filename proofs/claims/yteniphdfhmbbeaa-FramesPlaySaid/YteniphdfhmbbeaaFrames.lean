/- Frames: a row of structs of three numbers; each stands on the one below. -/
import Derived.BigQuiet
import Derived.BigRegion
import Derived.Deep.CutRange
import Derived.Deep.DeepCutAuto
import Derived.Deep.LoopGhost
import Derived.Deep.QuietTactic
import Derived.Deep.RegionLaw
import Derived.Deep.RegionWith
import Derived.IntWalk
import Derived.KernelRfl
import Derived.LoopTactic
import Derived.OpenShut
import Derived.Outline
import Derived.OwnWalk
import Derived.ProofKit
import Derived.RegionTactic
import Derived.StillTailTactics
import Derived.Test.YteniphdfhmbbeaaMem
import Derived.Test.YteniphdfhmbbeaaRowed
import Derived.Test.YteniphdfhmbbeaaRows
import Derived.Test.YteniphdfhmbbeaaWin
import Derived.Test.YteniphdfhmbbeaaWd
import Derived.WalkLawsBesides
import Derived.WalkSmall
import Derived.WalkSpells
import Derived.Deep.DrawnRows
namespace Go.Proofs.Yteniphdfhmbbeaa
open Go Go.RowKit

/-- A frame. -/
structure Fr where
  who : Int
  base : Int
  size : Int
def Fr.cells (f : Fr) : List Value := [.int .i64 f.who, .int .i64 f.base, .int .i64 f.size]
def Fr.val (f : Fr) : Value := .agg #[.int .i64 f.who, .int .i64 f.base, .int .i64 f.size]
def frCells (l : List Fr) : List Value := l.flatMap Fr.cells
def zfr : Fr := ⟨0, 0, 0⟩
theorem frCells_length (l : List Fr) : (frCells l).length = l.length * 3 := by
  induction l with
  | nil => rfl
  | cons x l ih => simp only [frCells, List.flatMap_cons, List.length_append, List.length_cons] at ih ⊢; rw [ih]; simp [Fr.cells]; omega
theorem frCells_at (l : List Fr) (i : Nat) (x : Fr) (h : l[i]? = some x) (j : Nat) (hj : j < 3) : (frCells l)[i * 3 + j]? = x.cells[j]? := by
  induction l generalizing i with
  | nil => cases h
  | cons y l ih =>
    cases i with
    | zero =>
      cases h
      simp only [frCells, List.flatMap_cons]
      rw [List.getElem?_append_left (by simp [Fr.cells]; omega)]
      simp
    | succ i =>
      simp only [frCells, List.flatMap_cons]
      rw [List.getElem?_append_right (by simp [Fr.cells]; omega)]
      have := ih i (by simpa using h)
      rw [← this]
      congr 1
      simp [Fr.cells]
      omega
theorem frCells_append (a b : List Fr) : frCells (a ++ b) = frCells a ++ frCells b := by simp [frCells]
theorem frCells_one (x : Fr) : frCells [x] = x.cells := by simp [frCells]
theorem frOne (x : Fr) : ∀ u ∈ x.cells, u.oneCell' = true := by
  intro u hu
  simp only [Fr.cells, List.mem_cons, List.mem_nil_iff, or_false] at hu
  rcases hu with rfl | rfl | rfl <;> rfl
theorem frAll (l : List Fr) : ∀ u ∈ frCells l, u.oneCell' = true := by
  intro u hu
  obtain ⟨x, _, hx⟩ := List.mem_flatMap.1 hu
  exact frOne x u hx
theorem row_all {w : World} {X : Nat} {L : List Value} {e : TypeId} (h : w.heap[X]? = some (.cells L.toArray e (0, 0))) : ∀ j u, L[j]? = some u → w.cell? ((⟨X, 0, none⟩ : Addr).add j) = some u := fun j u hu => by
  rw [Addr.add_lit, Nat.zero_add]
  exact row_cell (L := L) h hu
theorem info31 : (Try.prog.info? 31).map (fun i => (i.zero, i.size, i.bytes)) = some (some zfr.val, 3, 24) := by kernel_rfl

def FrCells (w : World) (g off : Nat) (x : Fr) : Prop :=
  w.cell? ⟨g, off, none⟩ = some (.int .i64 x.who) ∧ w.cell? ⟨g, off + 1, none⟩ = some (.int .i64 x.base) ∧ w.cell? ⟨g, off + 2, none⟩ = some (.int .i64 x.size)
theorem win_fr {w : World} {v : Value} {o : Option Nat} {n : Nat} {fs : List Fr} (h : Win w 31 3 v o n (frCells fs)) (hn : 0 < n) : ∃ g off cap, o = some g ∧ v = .slice (some ⟨g, off, none⟩) n cap ∧ n ≤ cap ∧ cap ≤ maxLen ∧ g < w.heap.size ∧ (∀ i x, fs[i]? = some x → FrCells w g (off + i * 3) x) ∧ ∀ i, w.frozen? ⟨g, i, none⟩ = false := by
  obtain ⟨g, off, cap, h1, h2, h3, h4, h5, h6, h7⟩ := h.at_ hn
  refine ⟨g, off, cap, h1, h2, h3, h4, h5, fun i x hx => ?_, h7⟩
  have q : ∀ j u, j < 3 → x.cells[j]? = some u → w.cell? ⟨g, off + i * 3 + j, none⟩ = some u := fun j u hj hu => by
    have := h6 (i * 3 + j) u ((frCells_at fs i x hx j hj).trans hu)
    rwa [← Nat.add_assoc] at this
  exact ⟨q 0 _ (by omega) rfl, q 1 _ (by omega) rfl, q 2 _ (by omega) rfl⟩
theorem FrCells.only {S : Nat → Prop} {w w' : World} {g off : Nat} {x : Fr} (h : FrCells w g off x) (ho : Only S w w') (hg : ¬ S g) : FrCells w' g off x :=
  ⟨ho.cell h.1 hg, ho.cell h.2.1 hg, ho.cell h.2.2 hg⟩

/-- The frames stand on each other. -/
def Stand : Int → List Fr → Prop
  | _, [] => True
  | d, f :: r => f.base = d ∧ (0 ≤ f.size ∧ f.size ≤ 4096) ∧ Stand (d + f.size) r
def deep (fs : List Fr) : Int := (fs.map Fr.size).sum
theorem deep_append (a b : List Fr) : deep (a ++ b) = deep a + deep b := by simp [deep]
theorem deep_one (f : Fr) : deep [f] = f.size := by simp [deep]
theorem stand_append {d : Int} {a b : List Fr} : Stand d (a ++ b) ↔ Stand d a ∧ Stand (d + deep a) b := by
  induction a generalizing d with
  | nil => simp [Stand, deep]
  | cons f r ih =>
    simp only [List.cons_append, Stand, ih]
    have : d + f.size + deep r = d + deep (f :: r) := by simp [deep]; omega
    rw [this]
    constructor
    · rintro ⟨h1, h2, h3, h4⟩; exact ⟨⟨h1, h2, h3⟩, h4⟩
    · rintro ⟨⟨h1, h2, h3⟩, h4⟩; exact ⟨h1, h2, h3, h4⟩
theorem stand_bound {d : Int} {fs : List Fr} (h : Stand d fs) : 0 ≤ deep fs ∧ deep fs ≤ 4096 * fs.length := by
  induction fs generalizing d with
  | nil => simp [deep]
  | cons f r ih =>
    have := ih h.2.2
    have h2 := h.2.1
    have e : deep (f :: r) = f.size + deep r := by simp [deep]
    rw [e, List.length_cons]
    omega

/-- The stack at block b: its frames in block o, the peak. -/
def StAt (w : World) (b : Nat) (o : Option Nat) (pk : Int) (fs : List Fr) : Prop :=
  ∃ v, w.heap[b]? = some (.cells #[v, .int .i64 pk] 43 (0, 0)) ∧ Win w 31 3 v o fs.length (frCells fs) ∧ ∀ k, o = some k → k ≠ b
def fp (b : Nat) (o : Option Nat) (k : Nat) : Prop := k = b ∨ o = some k
section
variable {w w' : World} {b : Nat} {o : Option Nat} {pk : Int} {fs : List Fr}
theorem StAt.lt (h : StAt w b o pk fs) : ∀ k, fp b o k → k < w.heap.size := by
  obtain ⟨v, h1, h2, h3⟩ := h
  rintro k (rfl | hk)
  · exact row_lt h1
  · exact h2.lt k hk
theorem StAt.kept {S : Nat → Prop} (h : StAt w b o pk fs) (ho : Only S w w') (hS : ∀ k, fp b o k → ¬ S k) : StAt w' b o pk fs := by
  obtain ⟨v, h1, h2, h3⟩ := h
  exact ⟨v, ho.heap h1 (hS b (.inl rfl)), h2.kept ho (fun k hk => hS k (.inr hk)), h3⟩
theorem StAt.new (h : StAt w b o pk fs) (ho : Only (fun _ => False) w w') : StAt w' b o pk fs := h.kept ho (fun _ _ h => h)
theorem StAt.block (h : StAt w b o pk fs) : ∃ p cap, fs.length ≤ cap ∧ cap ≤ maxLen ∧ w.heap[b]? = some (.cells [.slice p fs.length cap, .int .i64 pk].toArray 43 (0, 0)) ∧ Win w 31 3 (.slice p fs.length cap) o fs.length (frCells fs) ∧ ∀ k, o = some k → k ≠ b := by
  obtain ⟨v, h1, h2, h3⟩ := h
  obtain ⟨p, cap, rfl, h4, h5⟩ := h2.form
  exact ⟨p, cap, h4, h5, h1, h2, h3⟩
end

def SNewEnd (w : World) (e : Ending) (w' : World) : Prop := e = .returned (.pointer (some ⟨w.heap.size, 0, none⟩)) ∧ StAt w' w.heap.size none 0 [] ∧ Only (fun _ => False) w w'
theorem snew_any (w : World) : Calls Try.prog 6 #[] w (SNewEnd w) := by
  go_enter Try.func6, Try.ntmps6
  go_wp2
  go_ret
  exact ⟨rfl, ⟨_, heap_new_at _ _ rfl, Win.nil _ _ _, fun k hk => by cases hk⟩, (Only.refl _ w).alloc _⟩

/-- A struct of three laid anew in a block of the call's own. -/
theorem only_laid {w : World} {B : Nat} (hB : w.heap.size ≤ B) {W : World} (hW : Only (fun _ => False) w W) (a b c : Value) : Only (fun _ => False) w (((W.setCell ⟨B, 0, none⟩ a).setCell ⟨B, 1, none⟩ b).setCell ⟨B, 2, none⟩ c) :=
  ((hW.setCell (p := ⟨B, 0, none⟩) (fun h => absurd h (by simp; omega)) a).setCell (p := ⟨B, 1, none⟩) (fun h => absurd h (by simp; omega)) b).setCell (p := ⟨B, 2, none⟩) (fun h => absurd h (by simp; omega)) c

theorem top_nil (w : World) : Calls Try.prog 10 #[.pointer none] w fun e w' => e = .returned (.tuple #[zfr.val, .bool false]) ∧ Only (fun _ => False) w w' := by
  go_enter Try.func10, Try.ntmps10
  go_wp2
  exact bodyPost_ret (v := .tuple #[zfr.val, .bool false]) (by simp [results, Try.results10, go_sem, zfr, Fr.val]) rfl ⟨rfl, (Only.refl _ w).alloc _⟩

section
variable {w : World} {b : Nat} {o : Option Nat} {pk : Int} {fs : List Fr} {x : Fr}
theorem top_none (h : StAt w b o pk []) : Calls Try.prog 10 #[.pointer (some ⟨b, 0, none⟩)] w fun e w' => e = .returned (.tuple #[zfr.val, .bool false]) ∧ Only (fun _ => False) w w' := by
  obtain ⟨p, cap, h1, h2, hb, h3, h4⟩ := h.block
  have hr := row_lt hb
  have c0 : w.cell? ⟨b, 0, none⟩ = some (.slice p 0 cap) := row_cell hb (i := 0) rfl
  clear h h1 h2 hb h3 h4
  go_enter Try.func10, Try.ntmps10
  go_wp2
  exact bodyPost_ret (v := .tuple #[zfr.val, .bool false]) (by simp [results, Try.results10, go_sem, zfr, Fr.val]) rfl ⟨rfl, (Only.refl _ w).alloc _⟩

set_option maxHeartbeats 400000 in
theorem top_some (h : StAt w b o pk (fs ++ [x])) (hn : fs.length ≤ 1000) : Calls Try.prog 10 #[.pointer (some ⟨b, 0, none⟩)] w fun e w' => e = .returned (.tuple #[x.val, .bool true]) ∧ Only (fun _ => False) w w' := by
  obtain ⟨p, cap, h1, h2, hb, h3, h4⟩ := h.block
  obtain ⟨n, hn'⟩ : ∃ n, n = fs.length := ⟨_, rfl⟩
  have hl : (fs ++ [x]).length = n + 1 := by simp [hn']
  obtain ⟨L, hL⟩ : ∃ L, L = n + 1 := ⟨_, rfl⟩
  rw [hl, ← hL] at h1 hb h3
  obtain ⟨g, off, cap', ho, hv, h5, h6, h7, h8, h9⟩ := win_fr h3 (by omega)
  cases hv
  have hr := row_lt hb
  have c0 := row_cell hb (i := 0) rfl
  obtain ⟨a0, a1, a2⟩ := h8 n x (by simp [hn'])
  have hL0 : ((L : Int) == 0) = false := by simp; omega
  have hL1 : (L : Int) - 1 = (n : Int) := by omega
  have hn1 : (n : Int) < (L : Int) := by omega
  have hn3 : n ≤ 1000 := by omega
  have hL3 : L ≤ 1001 := by omega
  have hs := Lib.hid (Only.refl (fun _ => False) w)
  unfold Fr.val
  clear h h1 h2 h3 h4 hb hn' hl h5 h6 h8 h9 ho hL hn
  go_enter Try.func10, Try.ntmps10
  go_wp2
  go_region
  go_wp2
  exact bodyPost_ret (v := .tuple #[.agg #[.int .i64 x.who, .int .i64 x.base, .int .i64 x.size], .bool true]) (by simp [results, Try.results10, go_sem]) rfl ⟨rfl, ((Only.refl _ w).alloc _).drew⟩
end

def TopEnd (w : World) (f : Fr) (t : Bool) (e : Ending) (w' : World) : Prop := e = .returned (.tuple #[f.val, .bool t]) ∧ Only (fun _ => False) w w'
theorem depth_of {w : World} {p : Value} {f : Fr} {t : Bool} (h : Calls Try.prog 10 #[p] w (TopEnd w f t)) (h0 : 0 ≤ f.base + f.size) (h1 : f.base + f.size ≤ 4194304) : Calls Try.prog 11 #[p] w fun e w' => e = .returned (.int .i64 (f.base + f.size)) ∧ Only (fun _ => False) w w' := by
  have h' := Lib.hid h
  have hwr : IntKind.i64.wrap (f.base + f.size) = f.base + f.size := IntWalk.i64_in _ (by omega)
  clear h
  go_enter Try.func11, Try.ntmps11
  go_wp2_with fail
  refine h'.out.mono ?_
  rintro e w1 ⟨rfl, ho⟩
  have ho' := Lib.hid ho
  clear ho
  unfold Fr.val
  go_wp2
  go_ret
  exact ⟨rfl, ho'.out.alloc _⟩
theorem pop_none {w : World} {p : Value} (h : Calls Try.prog 10 #[p] w (TopEnd w zfr false)) (who : Int) : Calls Try.prog 7 #[p, .int .i64 who] w fun e w' => e = .returned (.int .i64 8) ∧ Only (fun _ => False) w w' := by
  have h' := Lib.hid h
  clear h
  go_enter Try.func7, Try.ntmps7
  go_wp2_with fail
  refine h'.out.mono ?_
  rintro e w1 ⟨rfl, ho⟩
  have ho' := Lib.hid ho
  clear ho
  unfold Fr.val
  go_wp2
  go_ret
  exact ⟨rfl, ho'.out.alloc _⟩
theorem pop_other {w : World} {p : Value} {f : Fr} (h : Calls Try.prog 10 #[p] w (TopEnd w f true)) {who : Int} (hw : f.who ≠ who) : Calls Try.prog 7 #[p, .int .i64 who] w fun e w' => e = .returned (.int .i64 9) ∧ Only (fun _ => False) w w' := by
  have h' := Lib.hid h
  have hne : (f.who != who) = true := by simpa using hw
  clear h hw
  go_enter Try.func7, Try.ntmps7
  go_wp2_with fail
  refine h'.out.mono ?_
  rintro e w1 ⟨rfl, ho⟩
  have ho' := Lib.hid ho
  clear ho
  unfold Fr.val
  go_wp2
  go_ret
  exact ⟨rfl, ho'.out.alloc _⟩

section
variable {w : World} {b : Nat} {o : Option Nat} {pk : Int} {fs : List Fr} {x : Fr}
def PopEnd (w : World) (b : Nat) (o : Option Nat) (pk : Int) (fs : List Fr) (e : Ending) (w' : World) : Prop := e = .returned (.int .i64 0) ∧ StAt w' b o pk fs ∧ Only (fun k => k = b) w w'
set_option maxHeartbeats 400000 in
theorem pop_ok (h : StAt w b o pk (fs ++ [x])) (hn : fs.length ≤ 1000) : Calls Try.prog 7 #[.pointer (some ⟨b, 0, none⟩), .int .i64 x.who] w (PopEnd w b o pk fs) := by
  have htop := Lib.hid (top_some h hn)
  obtain ⟨p, cap, h1, h2, hb, h3, h4⟩ := h.block
  obtain ⟨n, hn'⟩ : ∃ n, n = fs.length := ⟨_, rfl⟩
  have hl : (fs ++ [x]).length = n + 1 := by simp [hn']
  obtain ⟨L, hL⟩ : ∃ L, L = n + 1 := ⟨_, rfl⟩
  rw [hl, ← hL] at h1 hb h3
  obtain ⟨g, off, cap', ho, hv, h5, h6, h7, h8, h9⟩ := win_fr h3 (by omega)
  cases hv
  have hbn := row_lt hb
  have hL1 : (L : Int) - 1 = (n : Int) := by omega
  have hcn : (n : Int) ≤ (cap : Int) := by omega
  have hn1 : (n : Int) < (L : Int) := by omega
  have hn2 : (0 : Int) ≤ (n : Int) := by omega
  have hn3 : n ≤ 1000 := by omega
  have hb' := Lib.hid hb
  have hE := Lib.hid (fun W (hW : W.heap[b]? = some (.cells [.slice (some ⟨g, off, none⟩) n cap, .int .i64 pk].toArray 43 (0, 0)) ∧ Only (fun k => k = b) w W) => show StAt W b o pk fs from by
    have ht := h3.take (k := n) (by omega)
    rw [frCells_append, List.take_left' (by rw [frCells_length, hn'])] at ht
    subst hn'
    exact ⟨_, hW.1, ht.kept hW.2 (fun k hk e => h4 k hk e), h4⟩)
  have hne : (x.who != x.who) = false := by simp
  clear h h1 h2 h3 h4 hb hn' hl h5 h6 h8 h9 ho hL hn
  go_enter Try.func7, Try.ntmps7
  go_wp2_with fail
  refine htop.out.mono ?_
  rintro e w1 ⟨rfl, ho⟩
  have hb1 := ho.heap hb'.out (fun h => h)
  have c0 := row_cell hb1 (i := 0) rfl
  have f0 := row_free hb1 0
  have hb1' := Lib.hid hb1
  have hr := row_lt hb1
  have ho' := Lib.hid ho
  clear ho hb1 hbn
  unfold Fr.val
  go_wp2
  go_region
  all_goals
    go_wp2
    go_ret
    have hO : Only (fun k => k = b) w ((w1.setCell ⟨b, 0, none⟩ (.slice (some ⟨g, off, none⟩) n cap)).alloc (.cells #[.int .i64 x.who, .int .i64 x.base, .int .i64 x.size] 31)).drew := (((ho'.out.mono (T := fun k => k = b) (fun _ _ h => h.elim)).setCell (p := ⟨b, 0, none⟩) (fun _ => rfl) _).alloc _).drew
    exact ⟨rfl, hE.out _ ⟨heap_kept_alloc (row_set hb1'.out 0 _) _, hO⟩, hO⟩
end

/-- What telling all frames leaves. -/
def AllEnd (w : World) (fs : List Fr) (e : Ending) (w' : World) : Prop :=
  ∃ v h, e = .returned v ∧ Win w' 31 3 v h fs.length (frCells fs) ∧ (∀ k, h = some k → w.heap.size ≤ k) ∧ Only (fun _ => False) w w'
theorem clone_any {w : World} {v : Value} {h : Option Nat} {fs : List Fr} (hW : Win w 31 3 v h fs.length (frCells fs)) (hn : fs.length ≤ 1000) : Calls Try.prog 13 #[v] w (AllEnd w fs) := by
  obtain ⟨p, cap, rfl, h1, h2⟩ := hW.form
  cases p with
  | none =>
    have h0 : fs = [] := by
      refine List.eq_nil_of_length_eq_zero ?_
      by_cases hc : 0 < fs.length
      · obtain ⟨_, _, _, _, e, _⟩ := hW.at_ hc
        cases e
      · omega
    subst h0
    have hnil : Sem.run Try.prog (binOp .eql 26 (.slice none 0 cap) (.slice none 0 0)) w = .ok (.bool true) w := by kernel_rfl
    clear h1 h2 hW hn
    simp only [List.length_nil]
    go_enter Try.func13, Try.ntmps13
    go_wp2
    go_ret
    exact ⟨_, none, rfl, Win.nil _ _ _, fun k hk => (by cases hk), Only.refl _ _⟩
  | some a =>
    obtain ⟨n, hn'⟩ : ∃ n, n = fs.length := ⟨_, rfl⟩
    have hW' := Lib.hid hW
    have hn'' := Lib.hid hn'
    rw [← hn'] at h1 hn ⊢
    have hnil : Sem.run Try.prog (binOp .eql 26 (.slice (some a) n cap) (.slice none 0 0)) w = .ok (.bool false) w := by kernel_rfl
    clear hW hn'
    go_enter Try.func13, Try.ntmps13
    go_wp2_with (at_builtin; refine wpList_append_win rfl _ _ 26 rfl 31 zfr.val 3 24 Try.underlying26 info31 rfl (by decide) rfl (Win.empty (w.alloc (.cells #[] 31)) 31 3 (some ⟨w.heap.size, 0, none⟩)) (some a) n cap rfl (frCells fs) (by rw [frCells_length, hn''.out]) (by rw [hn''.out]; exact (hW'.out.kept ((Only.refl (fun _ => False) w).alloc _) (fun _ _ h => h)).src) (frAll fs) (by unfold maxLen; omega) (by omega) ?_; intro v' w4 h4 hW4 hO4 hh4)
    go_ret
    refine ⟨v', h4, rfl, ?_, ?_, ?_⟩
    · have := hW4.out
      rwa [Nat.zero_add, List.nil_append, hn''.out] at this
    · intro k hk
      rcases hh4.out with rfl | ⟨g, rfl, hg⟩
      · cases hk
      · cases hk
        simp at hg
        omega
    · exact ((Only.refl (fun _ => False) w).alloc _).trans hO4.out (fun _ _ e => by cases e)
theorem all_nil (w : World) : Calls Try.prog 9 #[.pointer none] w (AllEnd w []) := by
  go_enter Try.func9, Try.ntmps9
  go_wp2
  go_ret
  exact ⟨_, none, rfl, Win.nil _ _ _, fun k hk => (by cases hk), Only.refl _ _⟩
theorem peak_nil (w : World) : Calls Try.prog 12 #[.pointer none] w fun e w' => e = .returned (.int .i64 0) ∧ w = w' := by
  go_enter Try.func12, Try.ntmps12
  go_wp2
  go_ret
  exact ⟨rfl, rfl⟩
section
variable {w : World} {b : Nat} {o : Option Nat} {pk : Int} {fs : List Fr} {x : Fr}
theorem peak_any (h : StAt w b o pk fs) : Calls Try.prog 12 #[.pointer (some ⟨b, 0, none⟩)] w fun e w' => e = .returned (.int .i64 pk) ∧ w = w' := by
  obtain ⟨p, cap, h1, h2, hb, h3, h4⟩ := h.block
  have c1 := row_cell hb (i := 1) rfl
  clear h h1 h2 hb h3 h4
  go_enter Try.func12, Try.ntmps12
  go_wp2
  go_ret
  exact ⟨rfl, rfl⟩
theorem all_any (h : StAt w b o pk fs) (hn : fs.length ≤ 1000) : Calls Try.prog 9 #[.pointer (some ⟨b, 0, none⟩)] w (AllEnd w fs) := by
  obtain ⟨p, cap, h1, h2, hb, h3, h4⟩ := h.block
  have c0 := row_cell hb (i := 0) rfl
  have hc := Lib.hid (clone_any h3 hn)
  obtain ⟨n, hn'⟩ : ∃ n, n = fs.length := ⟨_, rfl⟩
  rw [← hn'] at c0 hc
  clear h h1 h2 hb h3 h4 hn' hn
  go_enter Try.func9, Try.ntmps9
  go_wp2_with fail
  refine hc.out.mono ?_
  rintro e w' he
  have he' := Lib.hid he
  obtain ⟨v, h, rfl, -⟩ := he
  go_wp2
  go_ret
  exact he'.out
theorem depth_any (h : StAt w b o pk fs) (hs : Stand 0 fs) (hn : fs.length ≤ 1000) : Calls Try.prog 11 #[.pointer (some ⟨b, 0, none⟩)] w fun e w' => e = .returned (.int .i64 (deep fs)) ∧ Only (fun _ => False) w w' := by
  rcases List.eq_nil_or_concat fs with rfl | ⟨gs, x, rfl⟩
  · exact depth_of (f := zfr) (t := false) (top_none h) (by decide) (by decide)
  · rw [List.concat_eq_append] at h hs hn ⊢
    have hb := stand_bound hs
    obtain ⟨h1, h2⟩ := stand_append.1 hs
    have e : deep (gs ++ [x]) = x.base + x.size := by
      rw [deep_append, deep_one, h2.1]
      omega
    rw [List.length_append, List.length_singleton] at hn hb
    rw [e] at hb ⊢
    exact depth_of (top_some h (by omega)) hb.1 (by omega)
end
end Go.Proofs.Yteniphdfhmbbeaa
