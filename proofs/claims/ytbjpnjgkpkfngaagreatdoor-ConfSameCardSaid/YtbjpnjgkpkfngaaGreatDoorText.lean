/- Package prog's Text, whatever its operations' texts are. -/
import Derived.Test.YtbjpnjgkpkfngaaGreatDoorTextF
import Derived.Test.YtbjpnjgkpkfngaaGreatDoorCheck
namespace Go.Proofs.YtbjpnjgkpkfngaaGreatDoor
open Go Go.RowKit

/-- The texts one behind the other, with ';' between. -/
def preT (g : Opn → List UInt8) : List Opn → List UInt8
  | [] => []
  | x :: l => g x ++ l.flatMap (fun y => 59 :: g y)
theorem preT_snoc (g : Opn → List UInt8) (l : List Opn) (x : Opn) : preT g (l ++ [x]) = if l = [] then g x else preT g l ++ 59 :: g x := by
  cases l with
  | nil => simp [preT]
  | cons y l => simp [preT]
theorem preT_length (g : Opn → List UInt8) (l : List Opn) (h : ∀ x ∈ l, (g x).length ≤ 100) : (preT g l).length ≤ l.length * 101 := by
  cases l with
  | nil => simp [preT]
  | cons y l =>
    have h1 := h y (by simp)
    have h2 : ∀ l : List Opn, (∀ x ∈ l, (g x).length ≤ 100) → (l.flatMap (fun y => 59 :: g y)).length ≤ l.length * 101 := by
      intro l
      induction l with
      | nil => intro _; simp
      | cons z l ih =>
        intro hz
        have := ih (fun x hx => hz x (by simp [hx]))
        have := hz z (by simp)
        simp only [List.flatMap_cons, List.length_append, List.length_cons] at *
        omega
    have := h2 l (fun x hx => h x (by simp [hx]))
    simp only [preT, List.length_append, List.length_cons]
    omega
theorem builder_new {T e : TypeId} {B b : Nat} {p : Value} {bs : List Value} {w w' : World} (h : Lib.BuilderAt T e B b p bs w) (ho : Only (fun _ => False) w w') : Lib.BuilderAt T e B b p bs w' := by
  obtain ⟨hB, v, hb, hown, hne⟩ := h
  exact ⟨hB, v, ho.heap hb (fun h => h), ho.owns hown (fun _ _ h => h), hne⟩
theorem isBuilder_new {T e : TypeId} {B b : Nat} {bs : List Value} {w w' : World} (h : Lib.IsBuilder T e B b bs w) (ho : Only (fun _ => False) w w') : Lib.IsBuilder T e B b bs w' := by
  rcases h with h | h
  · exact .inl (builder_new h ho)
  · exact .inr (builder_new h ho)
def toBA (l : List UInt8) : ByteArray := ⟨l.toArray⟩
theorem strCells_toBA (l : List UInt8) : Lib.strCells (toBA l) = Lib.byteCells l := by simp [Lib.strCells, Lib.byteCells, toBA]
theorem byteCells_append (a b : List UInt8) : Lib.byteCells (a ++ b) = Lib.byteCells a ++ Lib.byteCells b := by simp [Lib.byteCells]
theorem toBA_size (l : List UInt8) : (toBA l).size = l.length := by simp [toBA, ByteArray.size]

/-- One operation's text: what textOf answers in each world that has grown out of w. -/
def OneOk (w : World) (f : Opn → Option (List UInt8)) (x : Opn) : Prop := ∀ W, Only (fun _ => False) w W → Calls Tryz.prog 75 #[x.val] W (match f x with
  | none => GrowT ⟨#[]⟩ false W
  | some s => GrowT (toBA s) true W)
def gOf (f : Opn → Option (List UInt8)) (x : Opn) : List UInt8 := (f x).getD []
def allB (f : Opn → Option (List UInt8)) (l : List Opn) : Bool := l.all (fun x => (f x).isSome)
/-- What Text answers. -/
def TextEnd (f : Opn → Option (List UInt8)) (l : List Opn) (w : World) (e : Ending) (w' : World) : Prop :=
  e = .returned (.tuple #[.string (if allB f l = true then toBA (preT (gOf f) l) else ⟨#[]⟩), .bool (allB f l)]) ∧ Only (fun _ => False) w w'

set_option maxRecDepth 100000 in
set_option maxHeartbeats 1000000 in
theorem text_any {w : World} {A : Option Addr} {n cap : Nat} {l : List Opn} (f : Opn → Option (List UInt8)) (hl : OpnRow w A l) (hn : l.length = n) (hb : n ≤ 80) (hone : ∀ x ∈ l, OneOk w f x) (hlen : ∀ x ∈ l, (gOf f x).length ≤ 100) :
    Calls Tryz.prog 50 #[.slice A n cap] w (TextEnd f l w) := by
  have hl' := Lib.hid hl
  have hn' := Lib.hid hn
  have hone' := Lib.hid hone
  have hlen' := Lib.hid hlen
  obtain ⟨B, hB⟩ : ∃ B, B = w.heap.size := ⟨_, rfl⟩
  have hB' := Lib.hid hB
  have hst := Lib.hid (show Lib.IsBuilder 104 5 B B (Lib.byteCells (preT (gOf f) (l.take 0))) (w.alloc (.cells #[.pointer none, .slice none 0 0] 104)) from by
    refine .inl ⟨Nat.le_refl _, .slice none 0 0, heap_new_at _ _ hB.symm, ?_, by simp [Value.ownBlock]⟩
    exact World.ownsRow_nil _ _ _ _)
  have hO0 := Lib.hid (show Only (fun _ => False) w (w.alloc (.cells #[.pointer none, .slice none 0 0] 104)) from (Only.refl _ w).alloc _)
  clear hl hn hone hlen hB
  go_enter Tryz.func50, Tryz.ntmps50
  go_wp2
  rw [← hB'.out]
  generalize World.alloc w _ = W0 at hst hO0 ⊢
  go_loopw [11] (fun i wr => ∃ k : Nat, k ≤ n ∧ i = .int .i64 k ∧ allB f (l.take k) = true ∧ Lib.IsBuilder 104 5 B B (Lib.byteCells (preT (gOf f) (l.take k))) wr ∧ Only (fun _ => False) w wr) (fun i _ => n - (intOf i).toNat)
  case atStart => exact ⟨0, Nat.zero_le _, rfl, rfl, hst.out, hO0.out⟩
  case round =>
    obtain ⟨k, hk, rfl, hall, hbld, hO⟩ := hrel
    obtain ⟨ws, hws⟩ : ∃ ws : World, ws = wr := ⟨_, rfl⟩
    subst hws
    by_cases hkn : k < n
    · have hkn' : (k : Int) < (n : Int) := by omega
      obtain ⟨x, hx⟩ : ∃ x, l[k]? = some x := ⟨l[k]'(by have := hn'.out; omega), List.getElem?_eq_getElem _⟩
      obtain ⟨bb, off, hA, hbb, q0, q1, q2⟩ := (hl'.out.new hO) k x hx
      subst hA
      have hxm : x ∈ l := List.mem_of_getElem? hx
      have h1 := Lib.hid (hone'.out x hxm)
      have hS := Lib.hid (And.intro hall (And.intro hbld (And.intro hO hx)))
      have hpl := preT_length (gOf f) (l.take k) (fun y hy => hlen'.out y (List.mem_of_mem_take hy))
      rw [List.length_take] at hpl
      have hgl := hlen'.out x hxm
      clear hall hbld hO hx
      cases hf : f x with
      | none =>
        have h2 := Lib.hid (show ∀ W, Only (fun _ => False) w W → Calls Tryz.prog 75 #[.agg #[.int .i64 x.k, .int .i64 x.a, .int .i64 x.b]] W (GrowT ⟨#[]⟩ false W) from fun W hW => by have := h1.out W hW; rw [hf] at this; exact this)
        have hf' := Lib.hid hf
        clear hf
        go_wp2_with fail
        refine (h2.out _ (hS.out.2.2.1.alloc _)).mono ?_
        rintro e W1 ⟨rfl, hO1⟩
        have hO1' := Lib.hid hO1
        clear hO1
        go_wp2
        go_ret2
        obtain ⟨hall, hbld, hO, hx⟩ := hS.out
        have hno : allB f l = false := by
          unfold allB
          rw [List.all_eq_false]
          exact ⟨x, hxm, by rw [hf'.out]; simp⟩
        unfold TextEnd
        rw [hno]
        exact ⟨rfl, (hO.alloc _).trans' hO1'.out⟩
      | some s =>
        have h2 := Lib.hid (show ∀ W, Only (fun _ => False) w W → Calls Tryz.prog 75 #[.agg #[.int .i64 x.k, .int .i64 x.a, .int .i64 x.b]] W (GrowT (toBA s) true W) from fun W hW => by have := h1.out W hW; rw [hf] at this; exact this)
        have hg : gOf f x = s := by unfold gOf; rw [hf]; rfl
        rw [hg] at hgl
        have hf' := Lib.hid (And.intro hf hg)
        clear hf hg
        go_wp2_with fail
        refine (h2.out _ (hS.out.2.2.1.alloc _)).mono ?_
        rintro e W1 ⟨rfl, hO1⟩
        have hOW1 := Lib.hid (((Only.refl (fun _ => False) ws).alloc _).trans' hO1)
        clear hO1
        have hb1 := Lib.hid (isBuilder_new hS.out.2.1 hOW1.out)
        have hszW1 := Lib.hid (show B ≤ W1.heap.size by have := hS.out.2.2.1.size; have := hOW1.out.size; have := hB'.out; omega)
        have hall1 := Lib.hid (show allB f (l.take (k + 1)) = true by
          rw [List.take_add_one, hS.out.2.2.2]
          have := hS.out.1
          unfold allB at this ⊢
          simp [this, hf'.out.1])
        by_cases hk0 : k = 0
        · have hk1 : ¬ (0 : Int) < (k : Int) := by omega
          have hpre := Lib.hid (show preT (gOf f) (l.take (k + 1)) = preT (gOf f) (l.take k) ++ s by
            rw [List.take_add_one, hS.out.2.2.2, show l.take k = [] by rw [hk0]; rfl]
            simp [preT, hf'.out.2])
          have hwr := Lib.hid (write_any hb1.out (toBA s) (by rw [Lib.byteCells_length, toBA_size]; omega) hszW1.out)
          clear hk0 q0 q1 q2
          go_wp2_with fail
          refine hwr.out.mono ?_
          rintro e W2 ⟨rfl, hbd, hbel⟩
          have hE := Lib.hid (And.intro hbd hbel)
          clear hbd hbel
          go_wp2
          go_roundw
          case rel =>
            obtain ⟨hbd, hbel⟩ := hE.out
            refine ⟨k + 1, by omega, by go_num, hall1.out, .inr ?_, (hS.out.2.2.1.trans' hOW1.out).trans (Only.of_below hbel) (fun x hx h => by have := hB'.out; omega)⟩
            rw [hpre.out, byteCells_append, ← strCells_toBA s]
            exact hbd
          case measure => simp [intOf]; omega
        · have hk1 : (0 : Int) < (k : Int) := by omega
          have hpre := Lib.hid (show preT (gOf f) (l.take (k + 1)) = (preT (gOf f) (l.take k) ++ [59]) ++ s by
            have hne : l.take k ≠ [] := fun h => by
              have := congrArg List.length h
              rw [List.length_take, List.length_nil] at this
              have := hn'.out
              omega
            rw [List.take_add_one, hS.out.2.2.2]
            simp only [Option.toList]
            rw [preT_snoc, if_neg hne, hf'.out.2]
            simp)
          have hwr := Lib.hid (write_any hb1.out (toBA [59]) (by rw [Lib.byteCells_length, toBA_size]; simp; omega) hszW1.out)
          rw [show toBA [59] = ⟨#[59]⟩ from rfl] at hwr
          clear hk0 q0 q1 q2
          go_wp2_with fail
          refine hwr.out.mono ?_
          rintro e W2 ⟨rfl, hbd, hbel⟩
          have hE := Lib.hid (And.intro hbd hbel)
          have hwr2 := Lib.hid (write_any (.inr hbd) (toBA s) (by rw [List.length_append, Lib.byteCells_length, Lib.strCells_length, toBA_size]; show _ + 1 + _ ≤ _; omega) (by have := hszW1.out; have := hbel.size; omega))
          clear hbd hbel
          go_wp2_with fail
          refine hwr2.out.mono ?_
          rintro e W3 ⟨rfl, hbd, hbel⟩
          have hE2 := Lib.hid (And.intro hbd hbel)
          clear hbd hbel
          go_wp2
          go_roundw
          case rel =>
            obtain ⟨hbd, hbel⟩ := hE.out
            obtain ⟨hbd2, hbel2⟩ := hE2.out
            refine ⟨k + 1, by omega, by go_num, hall1.out, .inr ?_, ((hS.out.2.2.1.trans' hOW1.out).trans (Only.of_below hbel) (fun x hx h => by have := hB'.out; omega)).trans (Only.of_below hbel2) (fun x hx h => by have := hB'.out; omega)⟩
            rw [hpre.out, byteCells_append, byteCells_append, ← strCells_toBA s, ← strCells_toBA [59]]
            exact hbd2
          case measure => simp [intOf]; omega
    · obtain rfl : k = n := by omega
      have ht : l.take k = l := List.take_of_length_le (by have := hn'.out; omega)
      rw [ht] at hall hbld
      have hst2 := Lib.hid (Tryz.Builder_String_any B B (preT (gOf f) l) ws hbld (by have := hO.size; have := hB'.out; omega))
      have hE := Lib.hid (And.intro hall hO)
      clear hall hbld hO ht
      go_wp2_with fail
      refine hst2.out.mono ?_
      rintro e W1 ⟨rfl, hbel⟩
      have hbel' := Lib.hid hbel
      clear hbel
      go_wp2
      go_ret2
      unfold TextEnd
      rw [hE.out.1]
      exact ⟨rfl, hE.out.2.trans (Only.of_below hbel'.out) (fun x hx h => by have := hB'.out; omega)⟩
end Go.Proofs.YtbjpnjgkpkfngaaGreatDoor
