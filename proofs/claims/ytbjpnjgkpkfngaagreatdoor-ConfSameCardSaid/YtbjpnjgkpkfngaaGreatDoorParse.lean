/- Package prog's Parse: a program is read of its text. -/
import Derived.Test.YtbjpnjgkpkfngaaGreatDoorOpof
namespace Go.Proofs.YtbjpnjgkpkfngaaGreatDoor
open Go Go.RowKit

def zop : Value := .agg #[.int .i64 0, .int .i64 0, .int .i64 0]
theorem info29 : (Tryz.prog.info? 69).map (fun i => (i.zero, i.size, i.bytes)) = some (some zop, 3, 24) := by kernel_rfl
def opCells (l : List Opn) : List Value := l.flatMap Opn.cells
theorem opCells_length (l : List Opn) : (opCells l).length = l.length * 3 := by
  induction l with
  | nil => rfl
  | cons x l ih => simp only [opCells, List.flatMap_cons, List.length_append, List.length_cons] at ih ⊢; rw [ih]; simp [Opn.cells]; omega
theorem opCells_append (a b : List Opn) : opCells (a ++ b) = opCells a ++ opCells b := by simp [opCells]
theorem opOne (x : Opn) : ∀ u ∈ x.cells, u.oneCell' = true := by
  intro u hu
  simp [Opn.cells] at hu
  rcases hu with rfl | rfl | rfl <;> rfl
theorem oneT_no (x : Opn) (hx : x.k.toNat < 16) : 59 ∉ oneT x := by
  unfold oneT
  have h1 := (wname_fit x.k.toNat hx).2.1
  have h2 := dec_no 59 (by decide) x.a.toNat
  have h3 := dec_no 59 (by decide) x.b.toNat
  simp only [List.mem_append, not_or]
  refine ⟨h1, ?_, ?_⟩ <;> split <;> simp_all
theorem oneT_len (x : Opn) (hx : Short x) : (oneT x).length ≤ 40 := by
  unfold oneT
  have h1 := (wname_fit x.k.toNat (by have := hx.k2; omega)).2.2
  have h2 := dec_nine (u := x.a.toNat) (by have := hx.a1; omega)
  have h3 := dec_nine (u := x.b.toNat) (by have := hx.b1; omega)
  simp only [List.length_append]
  split <;> split <;> simp <;> omega

/-- What is left of a program's text behind k operations. -/
def leftT (l : List Opn) (k : Nat) : List UInt8 := preT oneT (l.drop k)
theorem preT_cons (g : Opn → List UInt8) (x : Opn) (r : List Opn) : preT g (x :: r) = if 0 < r.length then g x ++ 59 :: preT g r else g x := by
  cases r with
  | nil => simp [preT]
  | cons y r => simp [preT]
theorem leftT_at {l : List Opn} {k : Nat} {x : Opn} (hx : l[k]? = some x) : leftT l k = if k + 1 < l.length then oneT x ++ 59 :: leftT l (k + 1) else oneT x := by
  have hk := (List.getElem?_eq_some_iff.1 hx).1
  have hxe := (List.getElem?_eq_some_iff.1 hx).2
  unfold leftT
  rw [List.drop_eq_getElem_cons hk, hxe, preT_cons, List.length_drop]
  by_cases h : k + 1 < l.length
  · rw [if_pos h, if_pos (by omega)]
  · rw [if_neg h, if_neg (by omega)]
theorem leftT_end (l : List Opn) : leftT l l.length = [] := by
  unfold leftT
  rw [List.drop_length]
  rfl
theorem leftT_len (l : List Opn) (hl : ∀ x ∈ l, Short x) (hn : l.length ≤ 80) (k : Nat) : (leftT l k).length ≤ 8080 := by
  have := preT_length oneT (l.drop k) (fun x hx => by have := oneT_len x (hl x (List.mem_of_mem_drop hx)); omega)
  rw [List.length_drop] at this
  unfold leftT
  omega

/-- What Parse leaves of a text that is read. -/
def ParseEnd (l : List Opn) (w : World) (e : Ending) (w' : World) : Prop :=
  ∃ p cap h, e = .returned (.tuple #[.slice p l.length cap, .int .i64 0]) ∧ Win w' 69 3 (.slice p l.length cap) h l.length (opCells l) ∧ (∀ k, h = some k → w.heap.size ≤ k) ∧ Only (fun _ => False) w w'
def ParseRel (l : List Opn) (w : World) (n : Nat) (s v m : Value) (w' : World) : Prop :=
  ∃ k p cap h, n = l.length - k ∧ k ≤ l.length ∧ s = .string (toBA (leftT l k)) ∧ v = .slice p k cap ∧ m = .bool (decide (k < l.length)) ∧ Win w' 69 3 (.slice p k cap) h k (opCells (l.take k)) ∧ (∀ k, h = some k → w.heap.size ≤ k) ∧ Only (fun _ => False) w w'

set_option maxRecDepth 100000 in
set_option maxHeartbeats 1000000 in
theorem parse_any {w : World} (hb : Bas w) (l : List Opn) (hl : ∀ x ∈ l, Short x) (hn : l.length ≤ 80) (h0 : 0 < l.length) : Calls Tryz.prog 78 #[.string (toBA (leftT l 0))] w (ParseEnd l w) := by
  have hb' := Lib.hid hb
  have hl' := Lib.hid hl
  have h0' := Lib.hid h0
  clear hb hl h0
  go_enter Tryz.func78, Tryz.ntmps78
  go_wp2
  go_loopg [0, 4, 5] l.length (fun n s v m wr => ParseRel l w n s v m wr)
  case atStart => exact ⟨0, none, 0, none, by omega, Nat.zero_le _, rfl, rfl, by simp [h0'.out], Win.nil _ _ _, (fun k hk => by cases hk), Only.refl _ _⟩
  case round =>
    obtain ⟨k, p, cap, h, hnk, hk, rfl, rfl, rfl, hW, hf, hO⟩ := hrel
    obtain ⟨ws, hws⟩ : ∃ ws : World, ws = wr := ⟨_, rfl⟩
    subst hws
    by_cases hkl : k < l.length
    · obtain ⟨x, hx⟩ : ∃ x, l[k]? = some x := ⟨_, List.getElem?_eq_getElem hkl⟩
      have hxs : Short x := hl'.out x (List.mem_of_getElem? hx)
      have e1 : decide (k < l.length) = true := by simpa using hkl
      rw [e1]
      have hle := leftT_len l hl'.out hn (k + 1)
      have hlo := oneT_len x hxs
      have hcut := Lib.hid (show Calls Tryz.prog 59 #[.string (toBA (leftT l k)), .string ⟨#[59]⟩] ws (CutEnd (oneT x) (leftT l (k + 1)) (decide (k + 1 < l.length)) ws) from by
        have hno := oneT_no x (by have := hxs.k2; omega)
        rw [leftT_at hx]
        by_cases h : k + 1 < l.length
        · rw [if_pos h, decide_eq_true h]
          exact cut_yes (hb'.out.new hO) 59 _ _ hno (by omega)
        · rw [if_neg h, decide_eq_false h]
          have : k + 1 = l.length := by omega
          rw [this, leftT_end]
          exact cut_no (hb'.out.new hO) 59 _ hno (by omega))
      have hop := Lib.hid (fun W (hW : Only (fun _ => False) ws W) => opOf_any (hb'.out.new (hO.trans' hW)) x hxs)
      have hS := Lib.hid (And.intro hW (And.intro hf (And.intro hO hx)))
      obtain ⟨T1, hT1⟩ : ∃ T, T = oneT x := ⟨_, rfl⟩
      obtain ⟨T2, hT2⟩ : ∃ T, T = leftT l (k + 1) := ⟨_, rfl⟩
      obtain ⟨M2, hM2⟩ : ∃ T, T = decide (k + 1 < l.length) := ⟨_, rfl⟩
      rw [← hT1, ← hT2, ← hM2] at hcut
      rw [← hT1] at hop
      have hT2' := Lib.hid hT2
      have hM2' := Lib.hid hM2
      clear hW hf hO hx e1 hT1 hT2 hM2 hle hlo
      go_wp2_with fail
      refine hcut.out.mono ?_
      rintro e W1 ⟨rfl, hO1⟩
      have hO1' := Lib.hid hO1
      clear hO1
      go_wp2_with fail
      refine (hop.out _ hO1'.out).mono ?_
      rintro e W2 ⟨rfl, hO2⟩
      have hO2' := Lib.hid (hO1'.out.trans' hO2)
      clear hO2
      rw [show x.val = .agg #[.int .i64 x.k, .int .i64 x.a, .int .i64 x.b] from rfl]
      have hWin := Lib.hid (show Win ((W2.alloc (.cells #[.int .i64 x.k, .int .i64 x.a, .int .i64 x.b] 69)).alloc (.cells #[.int .i64 x.k, .int .i64 x.a, .int .i64 x.b] 69)) 69 3 (.slice p k cap) h k (opCells (l.take k)) from
        hS.out.1.kept ((hO2'.out.alloc _).alloc _) (fun _ _ h => h))
      go_wp2_with (at_builtin; refine wpList_append_win rfl _ _ 43 rfl 69 zop 3 24 Tryz.underlying43 info29 rfl (by decide) rfl hWin.out _ 1 1 rfl (Opn.cells x) rfl (fun _ => ⟨_, rfl, row_all (heap_new_at _ _ (by simp))⟩) (opOne _) (by unfold maxLen; omega) (by omega) ?_; intro v4 w4 h4 hW4 hO4 hh4; obtain ⟨p4, c4, rfl, _, _⟩ := hW4.out.form)
      go_roundg (l.length - (k + 1))
      case measure => omega
      case rel =>
        obtain ⟨hW, hf, hO, hx⟩ := hS.out
        have hs := hO.size
        have hs2 := hO2'.out.size
        refine ⟨k + 1, p4, c4, h4, rfl, by omega, by rw [hT2'.out], rfl, by rw [hM2'.out], ?_, ?_, ?_⟩
        · have := hW4.out
          rw [List.take_add_one, hx]
          simp only [Option.toList]
          rw [opCells_append]
          rw [show opCells [x] = x.cells from by simp [opCells]]
          exact this
        · rintro k rfl
          rcases hh4.out with hh | ⟨g, hg, hge⟩
          · exact hf k hh.symm
          · cases hg
            rw [alloc_size, alloc_size] at hge
            omega
        · exact (((hO.trans' hO2'.out).alloc _).alloc _).trans hO4.out (fun k hk e => by have := hf k e.symm; omega)
    · obtain rfl : k = l.length := by omega
      have e1 : decide (l.length < l.length) = false := by simp
      rw [e1]
      have hW' := Lib.hid hW
      have hf' := Lib.hid hf
      have hO' := Lib.hid hO
      clear hW hf hO
      go_wp2
      go_ret2
      exact ⟨p, cap, h, rfl, by have := hW'.out; rwa [List.take_length] at this, hf'.out, hO'.out⟩
end Go.Proofs.YtbjpnjgkpkfngaaGreatDoor
