/- Scripts as texts: the program's and the document's. -/
import Derived.Test.YtgfgjbbpochiiaaDoorSy
namespace Go.Proofs.YtgfgjbbpochiiaaDoor
open Go Go.RowKit

theorem builder_new {T e : TypeId} {B b : Nat} {p : Value} {bs : List Value} {w w' : World} (h : Lib.BuilderAt T e B b p bs w) (ho : Only (fun _ => False) w w') : Lib.BuilderAt T e B b p bs w' := by
  obtain ⟨hB, v, hb, hown, hne⟩ := h
  exact ⟨hB, v, ho.heap hb (fun h => h), ho.owns hown (fun _ _ h => h), hne⟩
theorem isBuilder_new {T e : TypeId} {B b : Nat} {bs : List Value} {w w' : World} (h : Lib.IsBuilder T e B b bs w) (ho : Only (fun _ => False) w w') : Lib.IsBuilder T e B b bs w' := by
  rcases h with h | h
  · exact .inl (builder_new h ho)
  · exact .inr (builder_new h ho)
theorem strCells_toBA (l : List UInt8) : Lib.strCells (toBA l) = Lib.byteCells l := by simp [Lib.strCells, Lib.byteCells, toBA]
theorem byteCells_append (a b : List UInt8) : Lib.byteCells (a ++ b) = Lib.byteCells a ++ Lib.byteCells b := by simp [Lib.byteCells]
/-- All have a line. -/
def allE (l : List EvV) : Bool := l.all fun r => decide (okE r)
theorem allE_iff {l : List EvV} : allE l = true ↔ ∀ r ∈ l, okE r := by simp [allE]
theorem allE_no {l : List EvV} {r : EvV} (hr : r ∈ l) (h : ¬ okE r) : allE l = false := by
  unfold allE
  rw [List.all_eq_false]
  exact ⟨r, hr, by simp [h]⟩
theorem flat_len : ∀ l : List EvV, allE l = true → (flatE l).length ≤ l.length * 61
  | [], _ => by simp [flatE]
  | r :: l, hk => by
    have h1 := flat_len l (allE_iff.2 fun x hx => allE_iff.1 hk x (List.mem_cons_of_mem _ hx))
    have h2 := lineE_len (allE_iff.1 hk r (by simp))
    rw [flatE_cons]
    simp only [List.length_append, List.length_cons]
    omega
theorem allE_snoc {l : List EvV} {k : Nat} {x : EvV} (hx : l[k]? = some x) (h : allE (l.take k) = true) (hok : okE x) : allE (l.take (k + 1)) = true := by
  rw [List.take_add_one, hx]
  unfold allE at h ⊢
  simp [h, hok]
def okT (l : List EvV) (u : Int) : Bool := decide (inN u) && allE l
def TextEnd (l : List EvV) (u : Int) (w : World) (e : Ending) (w' : World) : Prop :=
  e = .returned (.tuple #[.string (if okT l u = true then toBA (textE l u) else ⟨#[]⟩), .bool (okT l u)]) ∧ Only (fun _ => False) w w'
theorem textEnd_no {l : List EvV} {u : Int} (h : okT l u = false) {w w' : World} (hO : Only (fun _ => False) w w') : TextEnd l u w (.returned (.tuple #[.string ⟨#[]⟩, .bool false])) w' := by
  unfold TextEnd
  rw [h]
  exact ⟨rfl, hO⟩
theorem textEnd_yes {l : List EvV} {u : Int} (h : okT l u = true) {w w' : World} {T : ByteArray} (hT : T = toBA (textE l u)) (hO : Only (fun _ => False) w w') : TextEnd l u w (.returned (.tuple #[.string T, .bool true])) w' := by
  unfold TextEnd
  rw [h, hT]
  exact ⟨rfl, hO⟩
theorem okT_bad {l : List EvV} {u : Int} (h : allE l = false) : okT l u = false := by unfold okT; rw [h]; simp
theorem okT_until {l : List EvV} {u : Int} (h : ¬ inN u) : okT l u = false := by unfold okT; rw [decide_eq_false h]; rfl
theorem okT_yes {l : List EvV} {u : Int} (h : inN u) (h2 : allE l = true) : okT l u = true := by unfold okT; rw [decide_eq_true h, h2]; rfl

set_option maxRecDepth 100000 in
set_option maxHeartbeats 4000000 in
theorem text_any {w : World} {A : Option Addr} {n cap : Nat} {l : List EvV} {u : Int} (hbs : Bas w) (hl : EvRow w A l) (hn : l.length = n) (hb : n ≤ 60) (hfit : ∀ r ∈ l, r.fit) :
    Calls Tryd.prog 14 #[.slice A n cap, .int .i64 u] w (TextEnd l u w) := by
  have hl' := Lib.hid hl
  have hn' := Lib.hid hn
  have hfit' := Lib.hid hfit
  have hbs' := Lib.hid hbs
  have hone := Lib.hid (fun W (hW : Only (fun _ => False) w W) (r : EvV) (hr : r.fit) => line_any (hbs.new hW) r hr)
  unfold LineEnd at hone
  have hby := Lib.hid (isBeyond_any u)
  by_cases hu : inN u
  case neg =>
    have hno := Lib.hid (okT_until (l := l) hu)
    have hb2 : beyond u = true := by unfold beyond; rw [decide_eq_false hu]; rfl
    rw [hb2] at hby
    clear hu hb2 hl hn hfit hbs
    go_enter Tryd.func14, Tryd.ntmps14
    go_wp2_with fail
    refine (hby.out w).mono ?_
    rintro e w1 ⟨rfl, rfl⟩
    go_wp2
    go_ret2
    exact textEnd_no hno.out (Only.refl _ _)
  have hb2 : beyond u = false := by unfold beyond; rw [decide_eq_true hu]; rfl
  rw [hb2] at hby
  have hu' := Lib.hid hu
  obtain ⟨B, hB⟩ : ∃ B, B = w.heap.size := ⟨_, rfl⟩
  have hB' := Lib.hid hB
  have hst := Lib.hid (show Lib.IsBuilder 70 5 B B (Lib.byteCells (flatE (l.take 0))) (w.alloc (.cells #[.pointer none, .slice none 0 0] 70)) from by
    refine .inl ⟨Nat.le_refl _, .slice none 0 0, heap_new_at _ _ hB.symm, ?_, by simp [Value.ownBlock]⟩
    exact World.ownsRow_nil _ _ _ _)
  have hO0 := Lib.hid (show Only (fun _ => False) w (w.alloc (.cells #[.pointer none, .slice none 0 0] 70)) from (Only.refl _ w).alloc _)
  clear hl hn hfit hB hbs hu hb2
  go_enter Tryd.func14, Tryd.ntmps14
  go_wp2_with fail
  refine (hby.out w).mono ?_
  rintro e w1 ⟨rfl, rfl⟩
  go_wp2
  rw [← hB'.out]
  generalize World.alloc w _ = W0 at hst hO0 ⊢
  go_loopw [15] (fun i wr => ∃ k : Nat, k ≤ n ∧ i = .int .i64 k ∧ allE (l.take k) = true ∧ Lib.IsBuilder 70 5 B B (Lib.byteCells (flatE (l.take k))) wr ∧ Only (fun _ => False) w wr) (fun i _ => n - (intOf i).toNat)
  case atStart => exact ⟨0, Nat.zero_le _, rfl, rfl, hst.out, hO0.out⟩
  case round =>
    obtain ⟨k, hk, rfl, hall, hbld, hO⟩ := hrel
    obtain ⟨ws, hws⟩ : ∃ ws : World, ws = wr := ⟨_, rfl⟩
    subst hws
    by_cases hkn : k < n
    · have hkn' : (k : Int) < (n : Int) := by omega
      obtain ⟨x, hx⟩ : ∃ x, l[k]? = some x := ⟨l[k]'(by have := hn'.out; omega), List.getElem?_eq_getElem _⟩
      obtain ⟨bb, off, rfl, hbb, q0, q1, q2, q3, q4⟩ := (hl'.out.new hO) k x hx
      have hxm : x ∈ l := List.mem_of_getElem? hx
      have hxf := hfit'.out x hxm
      have h1 := Lib.hid (fun W hW => hone.out W hW x hxf)
      have hS := Lib.hid (And.intro hall (And.intro hbld hO))
      have htk := Lib.hid (show l.take (k + 1) = l.take k ++ [x] by rw [List.take_add_one, hx]; rfl)
      have hpl := flat_len (l.take k) hall
      rw [List.length_take] at hpl
      have hxm' := Lib.hid hxm
      have hx' := Lib.hid hx
      unfold EvV.val at h1
      clear hall hbld hO hx hxm hxf
      by_cases hf : okE x
      case neg =>
        have hno := Lib.hid (okT_bad (u := u) (allE_no hxm'.out hf))
        rw [if_neg hf, decide_eq_false hf] at h1
        clear hf
        go_wp2_with fail
        refine (h1.out _ (hS.out.2.2.alloc _)).mono ?_
        rintro e W1 ⟨rfl, hO1⟩
        have hO1' := Lib.hid hO1
        clear hO1
        go_wp2
        go_ret2
        exact textEnd_no hno.out ((hS.out.2.2.alloc _).trans' hO1'.out)
      case pos =>
        have hyes := Lib.hid (allE_snoc hx'.out hS.out.1 hf)
        have hgl := lineE_len hf
        rw [if_pos hf, decide_eq_true hf] at h1
        clear hf
        have hpre := Lib.hid (show flatE (l.take (k + 1)) = flatE (l.take k) ++ (lineE x ++ [10]) by rw [htk.out, flatE_snoc])
        have hcat := Lib.hid (show toBA (lineE x) ++ (⟨#[10]⟩ : ByteArray) = toBA (lineE x ++ [10]) from by
          rw [show (⟨#[10]⟩ : ByteArray) = toBA [10] from rfl, toBA_app])
        have hs10 : (⟨#[10]⟩ : ByteArray).size = 1 := rfl
        have hsl : (toBA (lineE x)).size ≤ 60 := by rw [toBA_size]; exact hgl
        obtain ⟨s, hs⟩ : ∃ s, s = lineE x ++ [10] := ⟨_, rfl⟩
        have hslen : s.length ≤ 61 := by rw [hs]; simp; omega
        rw [← hs] at hpre hcat
        obtain ⟨SL, hSL⟩ : ∃ S, S = toBA (lineE x) := ⟨_, rfl⟩
        rw [← hSL] at h1 hcat hsl
        clear hs hSL hgl
        go_wp2_with fail
        refine (h1.out _ (hS.out.2.2.alloc _)).mono ?_
        rintro e W1 ⟨rfl, hO1⟩
        have hOW1 := Lib.hid (((Only.refl (fun _ => False) ws).alloc _).trans' hO1)
        clear hO1
        have hb1 := Lib.hid (isBuilder_new hS.out.2.1 hOW1.out)
        have hszW1 := Lib.hid (show B ≤ W1.heap.size by have := hS.out.2.2.size; have := hOW1.out.size; have := hB'.out; omega)
        have hwr := Lib.hid (write_any hb1.out (toBA s) (by rw [Lib.byteCells_length, toBA_size]; omega) hszW1.out)
        unfold WroteEnd at hwr
        obtain ⟨SB, hSB⟩ : ∃ SB, SB = toBA s := ⟨_, rfl⟩
        rw [← hSB] at hwr hcat
        clear q0 q1 q2 q3 q4
        go_wp2_with fail
        rw [hcat.out]
        refine hwr.out.mono ?_
        rintro e W2 ⟨rfl, hbd, hbel⟩
        rw [hSB] at hbd
        have hE := Lib.hid (And.intro hbd hbel)
        clear hbd hbel
        go_wp2
        go_roundw
        case rel =>
          obtain ⟨hbd, hbel⟩ := hE.out
          refine ⟨k + 1, by omega, by go_num, hyes.out, .inr ?_, (hS.out.2.2.trans' hOW1.out).trans (Only.of_below hbel) (fun x hx h => by have := hB'.out; omega)⟩
          rw [hpre.out, byteCells_append, ← strCells_toBA s]
          exact hbd
        case measure => simp [intOf]; omega
    · obtain rfl : k = n := by omega
      have ht : l.take k = l := List.take_of_length_le (by have := hn'.out; omega)
      rw [ht] at hall hbld
      have hE := Lib.hid (And.intro hall (And.intro hbld hO))
      have hyes := Lib.hid (okT_yes hu'.out hall)
      have hfl := flat_len l hall
      have hit := Lib.hid (itoa_any (hbs'.out.new hO) u hu'.out.fit)
      have hul := hu'.out.len
      have hcat := Lib.hid (show ((⟨#[117, 110, 116, 105, 108, 32]⟩ : ByteArray) ++ toBA (Lib.itoa u)) ++ (⟨#[10]⟩ : ByteArray) = toBA (lastL u ++ [10]) from by
        rw [show (⟨#[117, 110, 116, 105, 108, 32]⟩ : ByteArray) = toBA [117, 110, 116, 105, 108, 32] from rfl, show (⟨#[10]⟩ : ByteArray) = toBA [10] from rfl, toBA_app, toBA_app]
        rfl)
      have hs10 : (⟨#[10]⟩ : ByteArray).size = 1 := rfl
      have hs6 : (⟨#[117, 110, 116, 105, 108, 32]⟩ : ByteArray).size = 6 := rfl
      have hsl : (toBA (Lib.itoa u)).size ≤ 9 := by rw [toBA_size]; exact hul
      have hll := lastL_len hu'.out
      obtain ⟨s, hs⟩ : ∃ s, s = lastL u ++ [10] := ⟨_, rfl⟩
      have hslen : s.length ≤ 16 := by rw [hs]; simp; omega
      have hfin := Lib.hid (show flatE l ++ s = textE l u from by rw [hs]; rfl)
      rw [← hs] at hcat
      obtain ⟨SL, hSL⟩ : ∃ S, S = toBA (Lib.itoa u) := ⟨_, rfl⟩
      unfold GrowS at hit
      rw [← hSL] at hit hcat hsl
      obtain ⟨SB, hSB⟩ : ∃ SB, SB = toBA s := ⟨_, rfl⟩
      rw [← hSB] at hcat
      clear hall hbld hO ht hs hSL hul hll
      go_wp2_with fail
      refine hit.out.mono ?_
      rintro e W1 ⟨rfl, hO1⟩
      have hO1' := Lib.hid hO1
      have hb1 := Lib.hid (isBuilder_new hE.out.2.1 hO1)
      have hszW1 := Lib.hid (show B ≤ W1.heap.size by have := hE.out.2.2.size; have := hO1.size; have := hB'.out; omega)
      have hwr := Lib.hid (write_any hb1.out (toBA s) (by rw [Lib.byteCells_length, toBA_size]; have := hn'.out; omega) hszW1.out)
      unfold WroteEnd at hwr
      rw [← hSB] at hwr
      clear hO1
      go_wp2_with fail
      rw [hcat.out]
      refine hwr.out.mono ?_
      rintro e W2 ⟨rfl, hbd, hbel⟩
      rw [hSB, strCells_toBA, ← byteCells_append, hfin.out] at hbd
      have hst2 := Lib.hid (Tryd.Builder_String_any B B (textE l u) W2 (.inr hbd) (by have := hszW1.out; have := hbel.size; omega))
      have hOW2 := Lib.hid ((hE.out.2.2.trans' hO1'.out).trans (Only.of_below hbel) (fun x hx h => by have := hB'.out; omega))
      clear hbd hbel
      go_wp2_with fail
      refine hst2.out.mono ?_
      rintro e W3 ⟨rfl, hbel⟩
      have hbel' := Lib.hid hbel
      clear hbel
      go_wp2
      go_ret2
      exact textEnd_yes hyes.out rfl (hOW2.out.trans (Only.of_below hbel'.out) (fun x hx h => by have := hB'.out; omega))

set_option maxRecDepth 100000 in
set_option maxHeartbeats 4000000 in
theorem rtext_any {w : World} {A : Option Addr} {n cap : Nat} {l : List EvV} {u : Int} (hl : EvRow w A l) (hn : l.length = n) (hb : n ≤ 60) :
    Calls Tryd.prog 15 #[.slice A n cap, .int .i64 u] w (TextEnd l u w) := by
  have hl' := Lib.hid hl
  have hn' := Lib.hid hn
  have hone := Lib.hid (fun W (r : EvV) => rline_any W r)
  unfold LineEnd at hone
  clear hl hn
  go_enter Tryd.func15, Tryd.ntmps15
  go_wp2
  go_loopw [6, 13] (fun t i wr => ∃ k : Nat, k ≤ n ∧ i = .int .i64 k ∧ t = .string (toBA (flatE (l.take k))) ∧ allE (l.take k) = true ∧ Only (fun _ => False) w wr) (fun _ i _ => n - (intOf i).toNat)
  case atStart => exact ⟨0, Nat.zero_le _, rfl, rfl, rfl, Only.refl _ _⟩
  case round =>
    obtain ⟨k, hk, rfl, rfl, hall, hO⟩ := hrel
    obtain ⟨ws, hws⟩ : ∃ ws : World, ws = wr := ⟨_, rfl⟩
    subst hws
    by_cases hkn : k < n
    · have hkn' : (k : Int) < (n : Int) := by omega
      obtain ⟨x, hx⟩ : ∃ x, l[k]? = some x := ⟨l[k]'(by have := hn'.out; omega), List.getElem?_eq_getElem _⟩
      obtain ⟨bb, off, rfl, hbb, q0, q1, q2, q3, q4⟩ := (hl'.out.new hO) k x hx
      have hxm : x ∈ l := List.mem_of_getElem? hx
      have h1 := Lib.hid (fun W => hone.out W x)
      have hS := Lib.hid (And.intro hall hO)
      have htk := Lib.hid (show l.take (k + 1) = l.take k ++ [x] by rw [List.take_add_one, hx]; rfl)
      have hpl := flat_len (l.take k) hall
      rw [List.length_take] at hpl
      have hxm' := Lib.hid hxm
      have hx' := Lib.hid hx
      unfold EvV.val at h1
      clear hall hO hx hxm
      by_cases hf : okE x
      case neg =>
        have hno := Lib.hid (okT_bad (u := u) (allE_no hxm'.out hf))
        rw [if_neg hf, decide_eq_false hf] at h1
        clear hf
        go_wp2_with fail
        refine (h1.out _).mono ?_
        rintro e W1 ⟨rfl, hO1⟩
        have hO1' := Lib.hid hO1
        clear hO1
        go_wp2
        go_ret2
        exact textEnd_no hno.out ((hS.out.2.alloc _).trans' hO1'.out)
      case pos =>
        have hyes := Lib.hid (allE_snoc hx'.out hS.out.1 hf)
        have hgl := lineE_len hf
        rw [if_pos hf, decide_eq_true hf] at h1
        clear hf
        have hpre := Lib.hid (show (toBA (flatE (l.take k)) ++ toBA (lineE x)) ++ (⟨#[10]⟩ : ByteArray) = toBA (flatE (l.take (k + 1))) from by
          rw [htk.out, flatE_snoc, ← List.append_assoc, show (⟨#[10]⟩ : ByteArray) = toBA [10] from rfl, toBA_app, toBA_app])
        have s1 : (toBA (lineE x)).size ≤ 60 := by rw [toBA_size]; exact hgl
        have s2 : (toBA (flatE (l.take k))).size ≤ 12000 := by rw [toBA_size]; omega
        have s3 : (⟨#[10]⟩ : ByteArray).size = 1 := rfl
        obtain ⟨s, hs⟩ : ∃ s, s = toBA (lineE x) := ⟨_, rfl⟩
        rw [← hs] at h1 s1 hpre
        obtain ⟨t, ht⟩ : ∃ t, t = toBA (flatE (l.take k)) := ⟨_, rfl⟩
        rw [← ht] at s2 hpre ⊢
        have s4 : (t ++ s).size = t.size + s.size := ByteArray.size_append
        clear hs ht
        go_wp2_with fail
        refine (h1.out _).mono ?_
        rintro e W1 ⟨rfl, hO1⟩
        have hO1' := Lib.hid ((hS.out.2.alloc _).trans' hO1)
        clear hO1
        go_wp2
        go_roundw
        case rel => exact ⟨k + 1, by omega, by go_num, by rw [← hpre.out], hyes.out, hO1'.out⟩
        case measure => simp [intOf]; omega
    · obtain rfl : k = n := by omega
      have ht : l.take k = l := List.take_of_length_le (by have := hn'.out; omega)
      rw [ht] at hall ⊢
      have hE := Lib.hid (And.intro hall hO)
      have hfl := flat_len l hall
      by_cases hu : inN u
      case neg =>
        have hno := Lib.hid (okT_until (l := l) hu)
        have hq := Lib.hid (fun W => in_not hu W)
        clear hall hO ht hu
        go_wp2_with fail
        refine (hq.out _).mono ?_
        rintro e w1 ⟨rfl, rfl⟩
        go_wp2
        go_ret2
        exact textEnd_no hno.out hE.out.2
      case pos =>
        have hyes := Lib.hid (okT_yes hu hall)
        have hq := Lib.hid (fun W => in_yes hu W)
        obtain ⟨m, hm⟩ : ∃ m : Nat, u = m := ⟨u.toNat, by have := hu.1; omega⟩
        have lm : m ≤ 999999999 := by have := hu.2; omega
        have hdg := Lib.hid (fun W => digits_any m (by omega) W)
        have hit : Lib.itoa u = Lib.decDigits m := by rw [itoa_dec hu, hm]; rfl
        have hcat := Lib.hid (show ((toBA (flatE l) ++ (⟨#[117, 110, 116, 105, 108, 32]⟩ : ByteArray)) ++ toBA (Lib.decDigits m)) ++ (⟨#[10]⟩ : ByteArray) = toBA (textE l u) from by
          rw [show (⟨#[117, 110, 116, 105, 108, 32]⟩ : ByteArray) = toBA [117, 110, 116, 105, 108, 32] from rfl, show (⟨#[10]⟩ : ByteArray) = toBA [10] from rfl, toBA_app, toBA_app, toBA_app, ← hit]
          unfold textE lastL untilW
          simp)
        have s1 : (toBA (Lib.decDigits m)).size ≤ 9 := by rw [toBA_size]; exact dec_small 8 m (by omega)
        have s2 : (toBA (flatE l)).size ≤ 12000 := by rw [toBA_size]; have := hn'.out; omega
        have s3 : (⟨#[10]⟩ : ByteArray).size = 1 := rfl
        have s6 : (⟨#[117, 110, 116, 105, 108, 32]⟩ : ByteArray).size = 6 := rfl
        unfold GrowS at hdg
        obtain ⟨t, ht2⟩ : ∃ t, t = toBA (flatE l) := ⟨_, rfl⟩
        rw [← ht2] at hcat s2 ⊢
        obtain ⟨D, hD⟩ : ∃ D, D = toBA (Lib.decDigits m) := ⟨_, rfl⟩
        rw [← hD] at hdg hcat s1
        have hm' := Lib.hid hm
        rw [hm] at hq ⊢
        have g1 : ¬ 9223372036854775807 < t.size + 6 := by omega
        have g2 : ¬ 9223372036854775807 < t.size + 6 + D.size := by omega
        have g3 : ¬ 9223372036854775807 < t.size + 6 + D.size + 1 := by omega
        clear hall hO ht hu hm lm ht2 hD hit hfl
        go_wp2_with fail
        refine (hq.out _).mono ?_
        rintro e w1 ⟨rfl, rfl⟩
        go_wp2_with fail
        refine (hdg.out _).mono ?_
        rintro e w2 ⟨rfl, hO2⟩
        have hO2' := Lib.hid hO2
        clear hO2
        go_wp2
        go_ret2
        exact textEnd_yes hyes.out hcat.out (hE.out.2.trans' hO2'.out)
end Go.Proofs.YtgfgjbbpochiiaaDoor
