/- Text: the program's. -/
import Derived.Test.YthippdgmbfaijaaDoorBuild
namespace Go.Proofs.YthippdgmbfaijaaDoor
open Go Go.RowKit

theorem builder_new {T e : TypeId} {B b : Nat} {p : Value} {bs : List Value} {w w' : World} (h : Lib.BuilderAt T e B b p bs w) (ho : Only (fun _ => False) w w') : Lib.BuilderAt T e B b p bs w' := by
  obtain ⟨hB, v, hb, hown, hne⟩ := h
  exact ⟨hB, v, ho.heap hb (fun h => h), ho.owns hown (fun _ _ h => h), hne⟩
theorem isBuilder_new {T e : TypeId} {B b : Nat} {bs : List Value} {w w' : World} (h : Lib.IsBuilder T e B b bs w) (ho : Only (fun _ => False) w w') : Lib.IsBuilder T e B b bs w' := by
  rcases h with h | h
  · exact .inl (builder_new h ho)
  · exact .inr (builder_new h ho)
theorem strCells_toBA (l : List UInt8) : Lib.strCells (toBA l) = Lib.byteCells l := by simp [Lib.strCells, Lib.byteCells, toBA]
theorem byteCells_append (a b : List UInt8) : Lib.byteCells (a ++ b) = Lib.byteCells a ++ Lib.byteCells b := by simp [Lib.byteCells]
/-- All are of a kind. -/
def allK (l : List RecV) : Bool := l.all fun r => okK r.k
theorem allK_iff {l : List RecV} : allK l = true ↔ ∀ r ∈ l, okK r.k = true := by simp [allK]
theorem allK_no {l : List RecV} {r : RecV} (hr : r ∈ l) (h : okK r.k = false) : allK l = false := by
  unfold allK
  rw [List.all_eq_false]
  exact ⟨r, hr, by simp [h]⟩
theorem text_len : ∀ l : List RecV, (∀ r ∈ l, r.fit) → allK l = true → (textL l).length ≤ l.length * 191
  | [], _, _ => by simp [textL]
  | r :: l, hf, hk => by
    have h1 := text_len l (fun x hx => hf x (List.mem_cons_of_mem _ hx)) (allK_iff.2 fun x hx => allK_iff.1 hk x (List.mem_cons_of_mem _ hx))
    have h2 := lineL_len (hf r (by simp)) (of_decide_eq_true (allK_iff.1 hk r (by simp)))
    have : textL (r :: l) = (lineL r ++ [10]) ++ textL l := by simp [textL]
    rw [this]
    simp only [List.length_append, List.length_cons, List.length_nil]
    omega
def TextEnd (l : List RecV) (w : World) (e : Ending) (w' : World) : Prop :=
  e = .returned (.tuple #[.string (if allK l = true then toBA (textL l) else ⟨#[]⟩), .bool (allK l)]) ∧ Only (fun _ => False) w w'

set_option maxRecDepth 100000 in
set_option maxHeartbeats 4000000 in
theorem text_any {w : World} {A : Option Addr} {n cap : Nat} {l : List RecV} (hbs : Bas w) (hl : RecRow w A l) (hn : l.length = n) (hb : n ≤ 60) (hfit : ∀ r ∈ l, r.fit) :
    Calls Tryd.prog 13 #[.slice A n cap] w (TextEnd l w) := by
  have hl' := Lib.hid hl
  have hn' := Lib.hid hn
  have hfit' := Lib.hid hfit
  have hone := Lib.hid (fun W (hW : Only (fun _ => False) w W) (r : RecV) (hr : r.fit) => line_any (hbs.new hW) r hr)
  unfold LineEnd at hone
  obtain ⟨B, hB⟩ : ∃ B, B = w.heap.size := ⟨_, rfl⟩
  have hB' := Lib.hid hB
  have hst := Lib.hid (show Lib.IsBuilder 59 5 B B (Lib.byteCells (textL (l.take 0))) (w.alloc (.cells #[.pointer none, .slice none 0 0] 59)) from by
    refine .inl ⟨Nat.le_refl _, .slice none 0 0, heap_new_at _ _ hB.symm, ?_, by simp [Value.ownBlock]⟩
    exact World.ownsRow_nil _ _ _ _)
  have hO0 := Lib.hid (show Only (fun _ => False) w (w.alloc (.cells #[.pointer none, .slice none 0 0] 59)) from (Only.refl _ w).alloc _)
  clear hl hn hfit hB hbs
  go_enter Tryd.func13, Tryd.ntmps13
  go_wp2
  rw [← hB'.out]
  generalize World.alloc w _ = W0 at hst hO0 ⊢
  go_loopw [11] (fun i wr => ∃ k : Nat, k ≤ n ∧ i = .int .i64 k ∧ allK (l.take k) = true ∧ Lib.IsBuilder 59 5 B B (Lib.byteCells (textL (l.take k))) wr ∧ Only (fun _ => False) w wr) (fun i _ => n - (intOf i).toNat)
  case atStart => exact ⟨0, Nat.zero_le _, rfl, rfl, hst.out, hO0.out⟩
  case round =>
    obtain ⟨k, hk, rfl, hall, hbld, hO⟩ := hrel
    obtain ⟨ws, hws⟩ : ∃ ws : World, ws = wr := ⟨_, rfl⟩
    subst hws
    by_cases hkn : k < n
    · have hkn' : (k : Int) < (n : Int) := by omega
      obtain ⟨x, hx⟩ : ∃ x, l[k]? = some x := ⟨l[k]'(by have := hn'.out; omega), List.getElem?_eq_getElem _⟩
      obtain ⟨bb, off, rfl, hbb, q0, q1, q2, q3, q4, q5, q6⟩ := (hl'.out.new hO) k x hx
      have hxm : x ∈ l := List.mem_of_getElem? hx
      have hxf := hfit'.out x hxm
      have h1 := Lib.hid (fun W hW => hone.out W hW x hxf)
      have hS := Lib.hid (And.intro hall (And.intro hbld hO))
      have htk := Lib.hid (show l.take (k + 1) = l.take k ++ [x] by rw [List.take_add_one, hx]; rfl)
      have hpl := text_len (l.take k) (fun y hy => hfit'.out y (List.mem_of_mem_take hy)) hall
      rw [List.length_take] at hpl
      have hxm' := Lib.hid hxm
      have hxf' := Lib.hid hxf
      unfold RecV.val at h1
      clear hall hbld hO hx hxm hxf
      cases hf : okK x.k with
      | false =>
        have hno := Lib.hid (allK_no hxm'.out hf)
        rw [hf] at h1
        simp only [Bool.false_eq_true, if_false] at h1
        clear hf
        go_wp2_with fail
        refine (h1.out _ (hS.out.2.2.alloc _)).mono ?_
        rintro e W1 ⟨rfl, hO1⟩
        have hO1' := Lib.hid hO1
        clear hO1
        go_wp2
        go_ret2
        unfold TextEnd
        rw [hno.out]
        exact ⟨rfl, (hS.out.2.2.alloc _).trans' hO1'.out⟩
      | true =>
        have hyes := Lib.hid (show allK (l.take (k + 1)) = true by
          rw [htk.out]
          have := hS.out.1
          unfold allK at this ⊢
          simp [this, hf])
        have hgl := lineL_len hxf'.out (of_decide_eq_true hf)
        rw [hf] at h1
        simp only [if_true] at h1
        clear hf
        have hpre := Lib.hid (show textL (l.take (k + 1)) = (textL (l.take k) ++ lineL x) ++ [10] by rw [htk.out, text_snoc, List.append_assoc])
        obtain ⟨s, hs⟩ : ∃ s, s = lineL x := ⟨_, rfl⟩
        rw [← hs] at h1 hgl hpre
        clear hs
        go_wp2_with fail
        refine (h1.out _ (hS.out.2.2.alloc _)).mono ?_
        rintro e W1 ⟨rfl, hO1⟩
        have hOW1 := Lib.hid (((Only.refl (fun _ => False) ws).alloc _).trans' hO1)
        clear hO1
        have hb1 := Lib.hid (isBuilder_new hS.out.2.1 hOW1.out)
        have hszW1 := Lib.hid (show B ≤ W1.heap.size by have := hS.out.2.2.size; have := hOW1.out.size; have := hB'.out; omega)
        have hwr := Lib.hid (write_any hb1.out (toBA s) (by rw [Lib.byteCells_length, toBA_size]; omega) hszW1.out)
        unfold WroteEnd at hwr
        obtain ⟨SB, hSB⟩ : ∃ SB, SB = toBA s := ⟨_, rfl⟩
        rw [← hSB] at hwr
        clear q0 q1 q2 q3 q4 q5 q6
        go_wp2_with fail
        rw [← hSB]
        refine hwr.out.mono ?_
        rintro e W2 ⟨rfl, hbd, hbel⟩
        rw [hSB] at hbd
        have hE := Lib.hid (And.intro hbd hbel)
        have hwr2 := Lib.hid (write_any (.inr hbd) (toBA [10]) (by rw [List.length_append, Lib.byteCells_length, Lib.strCells_length, toBA_size, toBA_size]; show _ + _ + 1 ≤ _; omega) (by have := hszW1.out; have := hbel.size; omega))
        rw [show toBA [10] = ⟨#[10]⟩ from rfl] at hwr2
        clear hbd hbel
        go_wp2_with fail
        refine hwr2.out.mono ?_
        rintro e W3 ⟨rfl, hbd, hbel⟩
        have hE2 := Lib.hid (And.intro hbd hbel)
        clear hbd hbel
        go_wp2
        go_roundw
        case rel =>
          obtain ⟨hbd, hbel⟩ := hE.out
          obtain ⟨hbd2, hbel2⟩ := hE2.out
          refine ⟨k + 1, by omega, by go_num, hyes.out, .inr ?_, ((hS.out.2.2.trans' hOW1.out).trans (Only.of_below hbel) (fun x hx h => by have := hB'.out; omega)).trans (Only.of_below hbel2) (fun x hx h => by have := hB'.out; omega)⟩
          rw [hpre.out, byteCells_append, byteCells_append, ← strCells_toBA s, ← strCells_toBA [10]]
          exact hbd2
        case measure => simp [intOf]; omega
    · obtain rfl : k = n := by omega
      have ht : l.take k = l := List.take_of_length_le (by have := hn'.out; omega)
      rw [ht] at hall hbld
      have hst2 := Lib.hid (Tryd.Builder_String_any B B (textL l) ws hbld (by have := hO.size; have := hB'.out; omega))
      have hE := Lib.hid (And.intro hall hO)
      clear hall hbld hO ht
      go_wp2_with fail
      refine hst2.out.mono ?_
      rintro e W1 ⟨rfl, hbel⟩
      have hbel' := Lib.hid hbel
      clear hbel
      go_wp2
      go_ret2
      unfold TextEnd
      rw [hE.out.1]
      exact ⟨rfl, hE.out.2.trans (Only.of_below hbel'.out) (fun x hx h => by have := hB'.out; omega)⟩

set_option maxRecDepth 100000 in
set_option maxHeartbeats 4000000 in
theorem rtext_any {w : World} {A : Option Addr} {n cap : Nat} {l : List RecV} (hl : RecRow w A l) (hn : l.length = n) (hb : n ≤ 60) (hfit : ∀ r ∈ l, r.fit) :
    Calls Tryd.prog 14 #[.slice A n cap] w (TextEnd l w) := by
  have hl' := Lib.hid hl
  have hn' := Lib.hid hn
  have hfit' := Lib.hid hfit
  have hone := Lib.hid (fun W (r : RecV) (hr : r.fit) => rline_any W r hr)
  unfold LineEnd at hone
  clear hl hn hfit
  go_enter Tryd.func14, Tryd.ntmps14
  go_wp2
  go_loopw [4, 11] (fun t i wr => ∃ k : Nat, k ≤ n ∧ i = .int .i64 k ∧ t = .string (toBA (textL (l.take k))) ∧ allK (l.take k) = true ∧ Only (fun _ => False) w wr) (fun _ i _ => n - (intOf i).toNat)
  case atStart => exact ⟨0, Nat.zero_le _, rfl, rfl, rfl, Only.refl _ _⟩
  case round =>
    obtain ⟨k, hk, rfl, rfl, hall, hO⟩ := hrel
    obtain ⟨ws, hws⟩ : ∃ ws : World, ws = wr := ⟨_, rfl⟩
    subst hws
    by_cases hkn : k < n
    · have hkn' : (k : Int) < (n : Int) := by omega
      obtain ⟨x, hx⟩ : ∃ x, l[k]? = some x := ⟨l[k]'(by have := hn'.out; omega), List.getElem?_eq_getElem _⟩
      obtain ⟨bb, off, rfl, hbb, q0, q1, q2, q3, q4, q5, q6⟩ := (hl'.out.new hO) k x hx
      have hxm : x ∈ l := List.mem_of_getElem? hx
      have hxf := hfit'.out x hxm
      have h1 := Lib.hid (fun W => hone.out W x hxf)
      have hS := Lib.hid (And.intro hall hO)
      have htk := Lib.hid (show l.take (k + 1) = l.take k ++ [x] by rw [List.take_add_one, hx]; rfl)
      have hpl := text_len (l.take k) (fun y hy => hfit'.out y (List.mem_of_mem_take hy)) hall
      rw [List.length_take] at hpl
      have hxm' := Lib.hid hxm
      have hxf' := Lib.hid hxf
      unfold RecV.val at h1
      clear hall hO hx hxm hxf
      cases hf : okK x.k with
      | false =>
        have hno := Lib.hid (allK_no hxm'.out hf)
        rw [hf] at h1
        simp only [Bool.false_eq_true, if_false] at h1
        clear hf
        go_wp2_with fail
        refine (h1.out _).mono ?_
        rintro e W1 ⟨rfl, hO1⟩
        have hO1' := Lib.hid hO1
        clear hO1
        go_wp2
        go_ret2
        unfold TextEnd
        rw [hno.out]
        exact ⟨rfl, (hS.out.2.alloc _).trans' hO1'.out⟩
      | true =>
        have hyes := Lib.hid (show allK (l.take (k + 1)) = true by
          rw [htk.out]
          have := hS.out.1
          unfold allK at this ⊢
          simp [this, hf])
        have hgl := lineL_len hxf'.out (of_decide_eq_true hf)
        rw [hf] at h1
        simp only [if_true] at h1
        clear hf
        have hpre := Lib.hid (show (toBA (textL (l.take k)) ++ toBA (lineL x)) ++ (⟨#[10]⟩ : ByteArray) = toBA (textL (l.take (k + 1))) by
          rw [htk.out, text_snoc, ← List.append_assoc, show (⟨#[10]⟩ : ByteArray) = toBA [10] from rfl, toBA_app, toBA_app])
        have s1 : (toBA (lineL x)).size ≤ 190 := by rw [toBA_size]; exact hgl
        have s2 : (toBA (textL (l.take k))).size ≤ 12000 := by rw [toBA_size]; omega
        have s3 : (⟨#[10]⟩ : ByteArray).size = 1 := rfl
        obtain ⟨s, hs⟩ : ∃ s, s = toBA (lineL x) := ⟨_, rfl⟩
        rw [← hs] at h1 s1 hpre
        obtain ⟨t, ht⟩ : ∃ t, t = toBA (textL (l.take k)) := ⟨_, rfl⟩
        rw [← ht] at s2 hpre ⊢
        have s4 : (t ++ s).size = t.size + s.size := ByteArray.size_append
        clear hs ht
        go_wp2_with fail
        refine (h1.out _).mono ?_
        rintro e W1 ⟨rfl, hO1⟩
        have hO1' := Lib.hid ((hS.out.2.alloc _).trans' hO1)
        clear hO1
        go_wp2
        go_roundw
        case rel => exact ⟨k + 1, by omega, by go_num, by rw [← hpre.out], hyes.out, hO1'.out⟩
        case measure => simp [intOf]; omega
    · obtain rfl : k = n := by omega
      have ht : l.take k = l := List.take_of_length_le (by have := hn'.out; omega)
      rw [ht] at hall ⊢
      have hE := Lib.hid (And.intro hall hO)
      clear hall hO ht
      go_wp2
      go_ret2
      unfold TextEnd
      rw [hE.out.1]
      exact ⟨rfl, hE.out.2⟩
end Go.Proofs.YthippdgmbfaijaaDoor
