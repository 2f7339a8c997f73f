/- Lines' heads: words with numbers behind them; the code's and the reference's. -/
import Derived.Test.YtbjpnjgkpkfngaaGreatDoorConf
import Derived.Test.YtbjpnjgkpkfngaaGreatDoorTextof
import Derived.Test.YtbjpnjgkpkfngaaGreatDoorDigits
import Derived.Test.YtbjpnjgkpkfngaaGreatDoorRtext
import Derived.Test.YtbjpnjgkpkfngaaGreatDoorGA
import Derived.Test.YtbjpnjgkpkfngaaGreatDoorConf8
namespace Go.Proofs.YtbjpnjgkpkfngaaGreatDoor
open Go Go.RowKit

/-- Numbers, each with a blank ahead. -/
def numsL (l : List Int) : List UInt8 := l.flatMap fun n => 32 :: Lib.decDigits n.toNat
def headL (word : List UInt8) (l : List Int) : List UInt8 := word ++ numsL l
def linesL (word : List UInt8) (l : List Int) : List UInt8 := l.flatMap fun n => headL word [n] ++ [10]
theorem numsL_snoc (l : List Int) (n : Int) : numsL (l ++ [n]) = numsL l ++ 32 :: Lib.decDigits n.toNat := by simp [numsL]
theorem linesL_snoc (word : List UInt8) (l : List Int) (n : Int) : linesL word (l ++ [n]) = linesL word l ++ (headL word [n] ++ [10]) := by simp [linesL]
/-- Numbers that are of few digits. -/
def Few9 (l : List Int) : Prop := ∀ n ∈ l, 0 ≤ n ∧ n < 1000000000
theorem numsL_len (l : List Int) (h : Few9 l) : (numsL l).length ≤ l.length * 10 := by
  induction l with
  | nil => simp [numsL]
  | cons n l ih =>
    have h1 := ih (fun x hx => h x (List.mem_cons_of_mem _ hx))
    have h2 := h n (List.mem_cons_self ..)
    have h3 := dec_nine (u := n.toNat) (by omega)
    have e : numsL (n :: l) = (32 :: Lib.decDigits n.toNat) ++ numsL l := by simp [numsL]
    rw [e]
    simp only [List.length_append, List.length_cons]
    omega
theorem headL_len (word : List UInt8) (l : List Int) (h : Few9 l) : (headL word l).length ≤ word.length + l.length * 10 := by
  have := numsL_len l h
  unfold headL
  rw [List.length_append]
  omega
theorem linesL_len (word : List UInt8) (l : List Int) (h : Few9 l) : (linesL word l).length ≤ l.length * (word.length + 11) := by
  induction l with
  | nil => simp [linesL]
  | cons n l ih =>
    have h1 := ih (fun x hx => h x (List.mem_cons_of_mem _ hx))
    have h2 := headL_len word [n] (fun x hx => h x (by simp at hx; subst hx; exact List.mem_cons_self ..))
    have e : linesL word (n :: l) = (headL word [n] ++ [10]) ++ linesL word l := by simp [linesL]
    rw [e]
    simp only [List.length_append, List.length_cons, List.length_nil] at *
    rw [Nat.add_mul]
    omega
theorem Few9.take {l : List Int} (h : Few9 l) (k : Nat) : Few9 (l.take k) := fun n hn => h n (List.mem_of_mem_take hn)
theorem list_take_snoc {α : Type} {l : List α} {k : Nat} {x : α} (h : l[k]? = some x) : l.take (k + 1) = l.take k ++ [x] := by rw [List.take_add_one, h]; rfl

theorem fit_few {n : Int} (h : 0 ≤ n ∧ n < 1000000000) : fitI (n.toNat : Nat) := by unfold fitI; omega
theorem toBA_cons (c : UInt8) (l : List UInt8) : (⟨#[c]⟩ : ByteArray) ++ toBA l = toBA (c :: l) := toBA_app [c] l

theorem ret_str {a b : ByteArray} (h : a = b) : Ending.returned (.string a) = .returned (.string b) := by rw [h]

set_option maxRecDepth 100000 in
theorem headOf_any {w : World} (hb : Bas w) (word : List UInt8) {x : Sl} {l : List Int} (hl : IntsAt w x l) (h9 : Few9 l) (hw : word.length ≤ 100) (hn : x.n ≤ 100) :
    Calls Tryz.prog 29 #[.string (toBA word), .slice x.A x.n x.cap] w (GrowS (headL word l) w) := by
  obtain ⟨A, n, cap⟩ := x
  have hl' := Lib.hid hl
  have hlen := hl.len
  simp only at hlen hn ⊢
  have hlen' := Lib.hid hlen
  have hb' := Lib.hid hb
  have h9' := Lib.hid h9
  clear hl hlen hb h9
  go_enter Tryz.func29, Tryz.ntmps29
  go_wp2
  go_loopw [5, 11] (fun s i wr => ∃ k : Nat, k ≤ n ∧ i = .int .i64 k ∧ s = .string (toBA (headL word (l.take k))) ∧ Only (fun _ => False) w wr) (fun _ i _ => n - (intOf i).toNat)
  case atStart => exact ⟨0, Nat.zero_le _, rfl, by simp [headL, numsL], Only.refl _ _⟩
  case round =>
    obtain ⟨k, hk, rfl, rfl, hO⟩ := hrel
    obtain ⟨ws, hws⟩ : ∃ ws : World, ws = wr := ⟨_, rfl⟩
    subst hws
    have hO' := Lib.hid hO
    clear hO
    by_cases hkn : k < n
    · have hkn' : (k : Int) < (n : Int) := by omega
      obtain ⟨z, hz⟩ : ∃ z, l[k]? = some z := ⟨_, List.getElem?_eq_getElem (by have := hlen'.out; omega)⟩
      obtain ⟨b, off, hA, hbl, c0⟩ := (hl'.out.new hO'.out).at_ k z hz
      simp only at hA
      subst hA
      have hz9 := h9'.out z (List.mem_of_getElem? hz)
      have hit := Lib.hid (itoa_any (hb'.out.new hO'.out) z.toNat (fit_few hz9))
      rw [Int.toNat_of_nonneg hz9.1] at hit
      have hs1 := headL_len word (l.take k) (h9'.out.take k)
      rw [List.length_take] at hs1
      have hs2 := dec_nine (u := z.toNat) (by omega)
      have hnx := Lib.hid (show toBA (headL word (l.take k)) ++ ((⟨#[32]⟩ : ByteArray) ++ toBA (Lib.decDigits z.toNat)) = toBA (headL word (l.take (k + 1))) by
        rw [toBA_cons, toBA_app, list_take_snoc hz]
        unfold headL
        rw [numsL_snoc, List.append_assoc])
      obtain ⟨S, hS⟩ : ∃ S, S = toBA (headL word (l.take k)) := ⟨_, rfl⟩
      obtain ⟨D, hD⟩ : ∃ D, D = toBA (Lib.decDigits z.toNat) := ⟨_, rfl⟩
      have hSs : S.size ≤ 2000 := by rw [hS, toBA_size]; omega
      have hDs : D.size ≤ 9 := by rw [hD, toBA_size]; exact hs2
      rw [← hS, ← hD] at hnx
      rw [← hD] at hit
      rw [← hS]
      clear hz hs1 hs2 hS hD
      have hD1 : ((⟨#[32]⟩ : ByteArray) ++ D).size ≤ 10 := by rw [ByteArray.size_append]; show 1 + D.size ≤ 10; omega
      go_wp2_with (go_at_call 48; refine hit.out.mono ?_; rintro e w3 ⟨rfl, hO3⟩; have hO3' := Lib.hid hO3; clear hO3)
      go_roundw
      case rel => exact ⟨k + 1, by omega, by go_num, by rw [hnx.out], hO'.out.trans' hO3'.out⟩
      case measure => simp [intOf]; omega
    · obtain rfl : k = n := by omega
      have hall := Lib.hid (show l.take k = l from List.take_of_length_le (by have := hlen'.out; omega))
      go_wp2
      go_ret
      exact ⟨ret_str (by rw [hall.out]), hO'.out⟩

/-- One number in a row of its own. -/
theorem ints_one {w : World} {b : Nat} (z : Int) (h : w.heap[b]? = some (.cells #[.int .i64 z] 3 (0, 0))) : IntsAt w ⟨some ⟨b, 0, none⟩, 1, 1⟩ [z] :=
  ⟨rfl, Nat.le_refl _, fun k y hy => by
    cases k with
    | zero => cases hy; exact ⟨b, 0, rfl, row_lt h, row_cell (L := [.int .i64 z]) h rfl⟩
    | succ k => simp at hy⟩

set_option maxRecDepth 100000 in
theorem linesOf_any {w : World} (hb : Bas w) (word : List UInt8) {x : Sl} {l : List Int} (hl : IntsAt w x l) (h9 : Few9 l) (hw : word.length ≤ 100) (hn : x.n ≤ 100) :
    Calls Tryz.prog 30 #[.string (toBA word), .slice x.A x.n x.cap] w (GrowS (linesL word l) w) := by
  obtain ⟨A, n, cap⟩ := x
  have hl' := Lib.hid hl
  have hlen := hl.len
  simp only at hlen hn ⊢
  have hlen' := Lib.hid hlen
  have hb' := Lib.hid hb
  have h9' := Lib.hid h9
  clear hl hlen hb h9
  go_enter Tryz.func30, Tryz.ntmps30
  go_wp2
  go_loopw [5, 10] (fun s i wr => ∃ k : Nat, k ≤ n ∧ i = .int .i64 k ∧ s = .string (toBA (linesL word (l.take k))) ∧ Only (fun _ => False) w wr) (fun _ i _ => n - (intOf i).toNat)
  case atStart => exact ⟨0, Nat.zero_le _, rfl, by simp [linesL, toBA], Only.refl _ _⟩
  case round =>
    obtain ⟨k, hk, rfl, rfl, hO⟩ := hrel
    obtain ⟨ws, hws⟩ : ∃ ws : World, ws = wr := ⟨_, rfl⟩
    subst hws
    have hO' := Lib.hid hO
    clear hO
    by_cases hkn : k < n
    · have hkn' : (k : Int) < (n : Int) := by omega
      obtain ⟨z, hz⟩ : ∃ z, l[k]? = some z := ⟨_, List.getElem?_eq_getElem (by have := hlen'.out; omega)⟩
      obtain ⟨b, off, hA, hbl, c0⟩ := (hl'.out.new hO'.out).at_ k z hz
      simp only at hA
      subst hA
      have hz9 : Few9 [z] := fun y hy => by simp at hy; subst hy; exact h9'.out _ (List.mem_of_getElem? hz)
      have hO1 : Only (fun _ => False) w (ws.alloc (.cells #[.int .i64 z] 3)) := hO'.out.alloc _
      have hit := Lib.hid (headOf_any (hb'.out.new hO1) word (x := ⟨some ⟨ws.heap.size, 0, none⟩, 1, 1⟩) (ints_one z (heap_new_at ws _ rfl)) hz9 hw (by simp))
      have hs1 := linesL_len word (l.take k) (h9'.out.take k)
      rw [List.length_take] at hs1
      have hs2 := headL_len word [z] hz9
      have hs3 : (linesL word (l.take k)).length ≤ 12000 := Nat.le_trans hs1 (by
        have : min k l.length * (word.length + 11) ≤ 100 * 111 := Nat.mul_le_mul (by omega) (by omega)
        omega)
      have hnx := Lib.hid (show toBA (linesL word (l.take k)) ++ (toBA (headL word [z]) ++ (⟨#[10]⟩ : ByteArray)) = toBA (linesL word (l.take (k + 1))) by
        rw [show (⟨#[10]⟩ : ByteArray) = toBA [10] from rfl, toBA_app, toBA_app, list_take_snoc hz, linesL_snoc])
      obtain ⟨S, hS⟩ : ∃ S, S = toBA (linesL word (l.take k)) := ⟨_, rfl⟩
      obtain ⟨D, hD⟩ : ∃ D, D = toBA (headL word [z]) := ⟨_, rfl⟩
      have hSs : S.size ≤ 12000 := by rw [hS, toBA_size]; exact hs3
      have hDs : D.size ≤ 200 := by rw [hD, toBA_size]; simp at hs2; omega
      unfold GrowS at hit
      rw [← hS, ← hD] at hnx
      rw [← hD] at hit
      rw [← hS]
      clear hz hs1 hs2 hs3 hS hD
      have hD1 : (D ++ (⟨#[10]⟩ : ByteArray)).size ≤ 201 := by rw [ByteArray.size_append]; show D.size + 1 ≤ 201; omega
      go_wp2_with (go_at_call 29; refine hit.out.mono ?_; rintro e w3 ⟨rfl, hO3⟩; have hO3' := Lib.hid hO3; clear hO3)
      go_roundw
      case rel => exact ⟨k + 1, by omega, by go_num, by rw [hnx.out], hO1.trans' hO3'.out⟩
      case measure => simp [intOf]; omega
    · obtain rfl : k = n := by omega
      have hall := Lib.hid (show l.take k = l from List.take_of_length_le (by have := hlen'.out; omega))
      go_wp2
      go_ret
      exact ⟨ret_str (by rw [hall.out]), hO'.out⟩
end Go.Proofs.YtbjpnjgkpkfngaaGreatDoor
namespace Go.Proofs.YtbjpnjgkpkfngaaGreatDoor
open Go Go.RowKit

set_option maxRecDepth 100000 in
theorem nums_any {w : World} {x : Sl} {l : List Int} (hl : IntsAt w x l) (h9 : Few9 l) (hn : x.n ≤ 100) :
    Calls Tryz.prog 34 #[.slice x.A x.n x.cap] w (GrowS (numsL l) w) := by
  obtain ⟨A, n, cap⟩ := x
  have hl' := Lib.hid hl
  have hlen := hl.len
  simp only at hlen hn ⊢
  have hlen' := Lib.hid hlen
  have h9' := Lib.hid h9
  clear hl hlen h9
  go_enter Tryz.func34, Tryz.ntmps34
  go_wp2
  go_loopw [3, 8] (fun s i wr => ∃ k : Nat, k ≤ n ∧ i = .int .i64 k ∧ s = .string (toBA (numsL (l.take k))) ∧ Only (fun _ => False) w wr) (fun _ i _ => n - (intOf i).toNat)
  case atStart => exact ⟨0, Nat.zero_le _, rfl, by simp [numsL, toBA], Only.refl _ _⟩
  case round =>
    obtain ⟨k, hk, rfl, rfl, hO⟩ := hrel
    obtain ⟨ws, hws⟩ : ∃ ws : World, ws = wr := ⟨_, rfl⟩
    subst hws
    have hO' := Lib.hid hO
    clear hO
    by_cases hkn : k < n
    · have hkn' : (k : Int) < (n : Int) := by omega
      obtain ⟨z, hz⟩ : ∃ z, l[k]? = some z := ⟨_, List.getElem?_eq_getElem (by have := hlen'.out; omega)⟩
      obtain ⟨b, off, hA, hbl, c0⟩ := (hl'.out.new hO'.out).at_ k z hz
      simp only at hA
      subst hA
      have hz9 := h9'.out z (List.mem_of_getElem? hz)
      have hit := Lib.hid (digits_any z.toNat (by omega) ws)
      rw [Int.toNat_of_nonneg hz9.1] at hit
      have hs1 := numsL_len (l.take k) (h9'.out.take k)
      rw [List.length_take] at hs1
      have hs2 := dec_nine (u := z.toNat) (by omega)
      have hnx := Lib.hid (show (toBA (numsL (l.take k)) ++ (⟨#[32]⟩ : ByteArray)) ++ toBA (Lib.decDigits z.toNat) = toBA (numsL (l.take (k + 1))) by
        rw [show (⟨#[32]⟩ : ByteArray) = toBA [32] from rfl, toBA_app, toBA_app, list_take_snoc hz, numsL_snoc, List.append_assoc]
        rfl)
      obtain ⟨S, hS⟩ : ∃ S, S = toBA (numsL (l.take k)) := ⟨_, rfl⟩
      obtain ⟨D, hD⟩ : ∃ D, D = toBA (Lib.decDigits z.toNat) := ⟨_, rfl⟩
      have hSs : S.size ≤ 2000 := by rw [hS, toBA_size]; omega
      have hDs : D.size ≤ 9 := by rw [hD, toBA_size]; exact hs2
      unfold GrowS at hit
      rw [← hS, ← hD] at hnx
      rw [← hD] at hit
      rw [← hS]
      clear hz hs1 hs2 hS hD
      have hD1 : (S ++ (⟨#[32]⟩ : ByteArray)).size ≤ 2001 := by rw [ByteArray.size_append]; show S.size + 1 ≤ 2001; omega
      go_wp2_with (go_at_call 61; refine hit.out.mono ?_; rintro e w3 ⟨rfl, hO3⟩; have hO3' := Lib.hid hO3; clear hO3)
      go_roundw
      case rel => exact ⟨k + 1, by omega, by go_num, by rw [hnx.out], hO'.out.trans' hO3'.out⟩
      case measure => simp [intOf]; omega
    · obtain rfl : k = n := by omega
      have hall := Lib.hid (show l.take k = l from List.take_of_length_le (by have := hlen'.out; omega))
      go_wp2
      go_ret
      exact ⟨ret_str (by rw [hall.out]), hO'.out⟩

/-- A program that may be: short, and each operation's numbers of few digits. -/
def FineP (l : List Opn) : Prop := l.length ≤ 64 ∧ ∀ x ∈ l, Short x
theorem short_ok {x : Opn} (h : Short x) : okT x = true := decide_eq_true ⟨h.k1, h.k2, h.a0, h.b0, h.ha, h.hb⟩
theorem short_g {x : Opn} (h : Short x) : gOf optT x = oneT x := by unfold gOf optT; rw [if_pos (short_ok h)]; rfl
theorem allB_short {l : List Opn} (h : ∀ x ∈ l, Short x) : allB optT l = true := by
  unfold allB
  rw [List.all_eq_true]
  intro x hx
  unfold optT
  rw [if_pos (short_ok (h x hx))]
  rfl
theorem preT_congr (f g : Opn → List UInt8) : ∀ l : List Opn, (∀ x ∈ l, f x = g x) → preT f l = preT g l
  | [], _ => rfl
  | x :: r, h => by
    rw [preT_cons, preT_cons, h x (List.mem_cons_self ..), preT_congr f g r (fun y hy => h y (List.mem_cons_of_mem _ hy))]
theorem short_fit {x : Opn} (h : Short x) : fitI x.a ∧ fitI x.b := by
  have := h.a0; have := h.a1; have := h.b0; have := h.b1
  unfold fitI
  omega
/-- A program's text. -/
def progT (l : List Opn) : List UInt8 := preT oneT l
theorem progT_len {l : List Opn} (h : FineP l) : (progT l).length ≤ 6464 := by
  have := preT_length oneT l (fun x hx => by have := oneT_len x (h.2 x hx); omega)
  have h1 := h.1
  unfold progT
  have : l.length * 101 ≤ 64 * 101 := Nat.mul_le_mul_right _ h1
  omega
def PtEnd (l : List Opn) (w : World) (e : Ending) (w' : World) : Prop := e = .returned (.tuple #[.string (toBA (progT l)), .bool true]) ∧ Only (fun _ => False) w w'
theorem textEnd_fine {l : List Opn} (h : FineP l) {w : World} {e : Ending} {w' : World} (ht : TextEnd optT l w e w') : PtEnd l w e w' := by
  obtain ⟨he, ho⟩ := ht
  refine ⟨?_, ho⟩
  rw [he, allB_short h.2, if_pos rfl, preT_congr (gOf optT) oneT l (fun x hx => short_g (h.2 x hx))]
  rfl
theorem ptext_any {w : World} (hb : Bas w) {A : Option Addr} {n cap : Nat} {l : List Opn} (hl : OpnRow w A l) (hn : l.length = n) (h : FineP l) : Calls Tryz.prog 50 #[.slice A n cap] w (PtEnd l w) :=
  (text_any optT hl hn (by have := h.1; omega) (fun x hx => one_ok hb x (short_fit (h.2 x hx)).1 (short_fit (h.2 x hx)).2) (fun x hx => by rw [short_g (h.2 x hx)]; have := oneT_len x (h.2 x hx); omega)).mono fun _ _ ht => textEnd_fine h ht
theorem prtext_any {w : World} {A : Option Addr} {n cap : Nat} {l : List Opn} (hl : OpnRow w A l) (hn : l.length = n) (h : FineP l) : Calls Tryz.prog 35 #[.slice A n cap] w (PtEnd l w) :=
  (rtext_any hl hn (by have := h.1; omega) (fun x hx => short_fit (h.2 x hx))).mono fun _ _ ht => textEnd_fine h ht

/-- A task's numbers, its line. -/
def TaskV.nums (t : TaskV) : List Int := [t.p, t.th, t.pe, t.de, t.fr, t.fl]
def taskL (t : TaskV) (l : List Opn) : List UInt8 := headL [116, 97, 115, 107] t.nums ++ (32 :: (progT l ++ [10]))
theorem taskL_len {t : TaskV} {l : List Opn} (h9 : Few9 t.nums) (h : FineP l) : (taskL t l).length ≤ 6600 := by
  have h1 := headL_len [116, 97, 115, 107] t.nums h9
  have h2 := progT_len h
  unfold taskL
  simp [TaskV.nums] at h1 ⊢
  omega
theorem ints_six {w : World} {b : Nat} {a1 a2 a3 a4 a5 a6 : Int} {t : TypeId} (h : w.heap[b]? = some (.cells #[.int .i64 a1, .int .i64 a2, .int .i64 a3, .int .i64 a4, .int .i64 a5, .int .i64 a6] t (0, 0))) : IntsAt w ⟨some ⟨b, 0, none⟩, 6, 6⟩ [a1, a2, a3, a4, a5, a6] :=
  ⟨rfl, Nat.le_refl _, fun k y hy => ⟨b, 0, rfl, row_lt h, by
    rw [Nat.zero_add]
    exact row_cell (L := ([a1, a2, a3, a4, a5, a6] : List Int).map (Value.int .i64)) h (by rw [List.getElem?_map, hy]; rfl)⟩⟩

set_option maxRecDepth 100000 in
set_option maxHeartbeats 1000000 in
theorem taskLine_any {w : World} (hb : Bas w) {t : TaskV} {l : List Opn} (hl : OpnRow w t.o.A l) (hn : l.length = t.o.n) (h9 : Few9 t.nums) (h : FineP l) : Calls Tryz.prog 31 #[t.val] w (GrowS (taskL t l) w) := by
  have hnx := Lib.hid (show ((toBA (headL [116, 97, 115, 107] t.nums) ++ (⟨#[32]⟩ : ByteArray)) ++ toBA (progT l)) ++ (⟨#[10]⟩ : ByteArray) = toBA (taskL t l) by
    rw [show (⟨#[32]⟩ : ByteArray) = toBA [32] from rfl, show (⟨#[10]⟩ : ByteArray) = toBA [10] from rfl, toBA_app, toBA_app, toBA_app]
    unfold taskL
    simp)
  have hs1 := headL_len [116, 97, 115, 107] t.nums h9
  have hs2 := progT_len h
  have q1 := Lib.hid (fun W => figures_any W t)
  have q2 := Lib.hid (fun W (hW : Only (fun _ => False) w W) => ptext_any (cap := t.o.cap) (hb.new hW) (hl.new hW) hn h)
  have q3 := Lib.hid (fun W b (hW : Only (fun _ => False) w W) (hh : W.heap[b]? = some (.cells #[.int .i64 t.p, .int .i64 t.th, .int .i64 t.pe, .int .i64 t.de, .int .i64 t.fr, .int .i64 t.fl] 81 (0, 0))) => headOf_any (hb.new hW) [116, 97, 115, 107] (x := ⟨some ⟨b, 0, none⟩, 6, 6⟩) (ints_six hh) h9 (by simp) (by simp))
  have e1 : t.nums.length = 6 := rfl
  rw [e1] at hs1
  rw [show t.val = .agg #[.int .i64 t.p, .int .i64 t.th, .int .i64 t.pe, .int .i64 t.de, .int .i64 t.fr, .int .i64 t.fl, .slice t.o.A t.o.n t.o.cap] from rfl] at q1 ⊢
  unfold TaskV.figs at q1
  obtain ⟨S, hS⟩ : ∃ S, S = toBA (headL [116, 97, 115, 107] t.nums) := ⟨_, rfl⟩
  obtain ⟨D, hD⟩ : ∃ D, D = toBA (progT l) := ⟨_, rfl⟩
  have hSs : S.size ≤ 100 := by rw [hS, toBA_size]; simp at hs1; omega
  have hDs : D.size ≤ 6464 := by rw [hD, toBA_size]; exact hs2
  unfold PtEnd at q2
  unfold GrowS at q3 ⊢
  rw [← hD] at q2
  rw [show headL [116, 97, 115, 107] [t.p, t.th, t.pe, t.de, t.fr, t.fl] = headL [116, 97, 115, 107] t.nums from rfl] at q3
  rw [← hS] at q3
  rw [← hS, ← hD] at hnx
  have hS1 : (S ++ (⟨#[32]⟩ : ByteArray)).size ≤ 101 := by rw [ByteArray.size_append]; show S.size + 1 ≤ 101; omega
  have hS2 : ((S ++ (⟨#[32]⟩ : ByteArray)) ++ D).size ≤ 6600 := by rw [ByteArray.size_append]; omega
  rw [← hnx.out]
  clear hs1 hs2 hS hD hl hn h h9 hb e1 hnx
  go_enter Tryz.func31, Tryz.ntmps31
  go_wp2_with fail
  refine (q1.out _).mono ?_
  rintro e w1 ⟨rfl, hO1⟩
  obtain ⟨X, hX⟩ : ∃ X, X = w.heap.size := ⟨_, rfl⟩
  have c6 : w1.cell? ⟨X, 6, none⟩ = some (.slice t.o.A t.o.n t.o.cap) := hO1.cell (row_cell (L := [.int .i64 t.p, .int .i64 t.th, .int .i64 t.pe, .int .i64 t.de, .int .i64 t.fr, .int .i64 t.fl, .slice t.o.A t.o.n t.o.cap]) (heap_new_at w _ hX.symm) rfl) (fun h => h)
  have hW1 := Lib.hid (((Only.refl (fun _ => False) w).alloc _).trans' hO1)
  have lX : X < w1.heap.size := World.block_lt_of_cell? w1 _ c6
  rw [← hX]
  clear hO1 hX
  go_wp2_with fail
  have hW2 := Lib.hid (hW1.out.alloc (.cells #[.int .i64 t.p, .int .i64 t.th, .int .i64 t.pe, .int .i64 t.de, .int .i64 t.fr, .int .i64 t.fl] 81))
  refine (q2.out _ hW2.out).mono ?_
  rintro e w2 ⟨rfl, hO2⟩
  have h3 := Lib.hid (q3.out w2 w1.heap.size (hW2.out.trans' hO2) (hO2.heap (heap_new_at w1 _ rfl) (fun h => h)))
  have hW3 := Lib.hid (hW2.out.trans' hO2)
  obtain ⟨Y, hY⟩ : ∃ Y, Y = w1.heap.size := ⟨_, rfl⟩
  rw [← hY] at h3 ⊢
  clear hO2 hY c6 lX
  go_wp2_with fail
  refine h3.out.mono ?_
  rintro e w3 ⟨rfl, hO3⟩
  have hW4 := Lib.hid (hW3.out.trans' hO3)
  clear hO3
  go_wp2
  go_ret
  exact ⟨rfl, hW4.out⟩
end Go.Proofs.YtbjpnjgkpkfngaaGreatDoor
namespace Go.Proofs.YtbjpnjgkpkfngaaGreatDoor
open Go Go.RowKit

theorem opZ_short {o : Opn} {r : RoomV} (hr : r.ok) (h : opZ o r = 0) : Short o := by
  obtain ⟨hk, ha0, ha1⟩ := opZ_zero hr h
  unfold opZ at h
  rw [if_neg hk] at h
  unfold opV at h
  by_cases hc : inB (loA o.k.toNat) (hiA o.k.toNat r) o.a = true ∧ inB 0 (hiB o.k.toNat) o.b = true
  · have h1 := inB_iff.1 hc.1
    have h2 := inB_iff.1 hc.2
    obtain ⟨k, a, b⟩ := o
    simp only at *
    obtain ⟨n, rfl⟩ : ∃ n : Nat, k = n := ⟨k.toNat, by omega⟩
    have hn1 : 1 ≤ n := by omega
    have hn2 : n ≤ 15 := by omega
    have hz := numZ_in hn1 hn2
    rw [Int.toNat_natCast] at h1 h2
    refine ⟨by show (1 : Int) ≤ n; omega, by show (n : Int) ≤ 15; omega, ha0, by show a < 1000000000; omega, h2.1, ?_, fun hq => ?_, fun hq => ?_⟩
    · have key : ∀ i : Fin 16, hiB i.1 ≤ 255 := by decide
      have := key ⟨n, by omega⟩
      show b < 1000000000
      simp only at this
      omega
    · have hq' : numZ (n : Int) < 1 := hq
      rw [hz] at hq'
      have key : ∀ i : Fin 16, wnums.getD i.1 0 < 1 → 1 ≤ i.1 → i.1 = 3 ∨ i.1 = 4 := by decide
      rcases key ⟨n, by omega⟩ hq' hn1 with e | e
      · simp only at e
        subst e
        simp [loA, hiA] at h1
        show a = 0
        omega
      · simp only at e
        subst e
        simp [loA, hiA] at h1
        show a = 0
        omega
    · have hq' : numZ (n : Int) < 2 := hq
      rw [hz] at hq'
      have key : ∀ i : Fin 16, wnums.getD i.1 0 < 2 → hiB i.1 = 0 := by decide
      have := key ⟨n, by omega⟩ hq'
      simp only at this
      rw [this] at h2
      show b = 0
      omega
  · rw [if_neg hc] at h
    cases h
theorem checkZ_fine {l : List Opn} {r : RoomV} (hr : r.ok) (h : checkZ l r = 0) : FineP l ∧ 0 < l.length := by
  have hops := checkZ_ops h
  refine ⟨⟨?_, fun x hx => opZ_short hr (hops x hx)⟩, ?_⟩
  · unfold checkZ at h
    split at h
    · cases h
    · split at h
      · cases h
      · omega
  · unfold checkZ at h
    split at h
    · cases h
    · omega
theorem firstNZ_all {f : Nat → Int} : ∀ {n : Nat}, firstNZ f n = 0 → ∀ j, j < n → f j = 0
  | 0, _, j, hj => by omega
  | n + 1, h, j, hj => by
    unfold firstNZ at h
    by_cases h0 : firstNZ f n = 0
    · rw [if_neg (by simp [h0])] at h
      by_cases hjn : j < n
      · exact firstNZ_all h0 j hjn
      · obtain rfl : j = n := by omega
        exact h
    · rw [if_pos h0] at h
      exact absurd h h0

/-- What holds of a configuration that may be. -/
structure FineC (c : ConfV) (d : ConfL) (pl : Tks) : Prop where
  m : Few9 [c.s, c.wy, c.h, c.mi]
  g : 0 ≤ c.g ∧ c.g ≤ 4
  mb : Few9 d.mb ∧ c.mb.n ≤ 4
  cn : Few9 d.cn ∧ c.cn.n ≤ 4
  ce : Few9 d.ce ∧ c.ce.n ≤ 4
  li : Few9 d.li ∧ c.li.n ≤ 8
  n : 0 < c.ta.n ∧ c.ta.n ≤ 8
  ts : ∀ (i : Nat) t l, i < c.ta.n → pl[i]? = some (t, l) → Few9 t.nums ∧ FineP l ∧ 0 < l.length
theorem allIn_few {lo hi : Int} {l : List Int} (h : allIn lo hi l = true) (h0 : 0 ≤ lo) (h1 : hi < 1000000000) : Few9 l := fun n hn => by
  unfold allIn at h
  rw [List.all_eq_true] at h
  have := inB_iff.1 (h n hn)
  omega
theorem confZ_fine {c : ConfV} {d : ConfL} {pl : Tks} (h : confZ c d pl = 0) : FineC c d pl := by
  unfold confZ at h
  by_cases h1 : machB c.s c.wy c.h c.mi = false
  · rw [if_pos h1] at h; cases h
  rw [if_neg h1] at h
  by_cases h2 : manyB c = true
  · rw [if_pos h2] at h; cases h
  rw [if_neg h2] at h
  by_cases h3 : c.ta.n = 0 ∨ c.g < 0
  · rw [if_pos h3] at h; cases h
  rw [if_neg h3] at h
  by_cases h4 : objB c d = false
  · rw [if_pos h4] at h; cases h
  rw [if_neg h4] at h
  have h2' : manyB c = false := by simpa using h2
  have hr := room_ok h2' (fun hg => h3 (.inr hg))
  unfold manyB at h2'
  simp only [decide_eq_false_iff_not] at h2'
  have h1' : machB c.s c.wy c.h c.mi = true := by simpa using h1
  unfold machB at h1'
  simp only [Bool.and_eq_true] at h1'
  obtain ⟨⟨⟨m1, m2⟩, m3⟩, m4⟩ := h1'
  replace m1 := inB_iff.1 m1
  replace m2 := inB_iff.1 m2
  replace m3 := inB_iff.1 m3
  replace m4 := inB_iff.1 m4
  have h4' : objB c d = true := by simpa using h4
  unfold objB at h4'
  simp only [Bool.and_eq_true] at h4'
  obtain ⟨⟨⟨o1, o2⟩, o3⟩, o4⟩ := h4'
  refine ⟨fun n hn => ?_, by omega, ⟨allIn_few o1 (by omega) (by omega), by omega⟩, ⟨allIn_few o2 (by omega) (by omega), by omega⟩, ⟨allIn_few o3 (by omega) (by omega), by omega⟩, ⟨allIn_few o4 (by omega) (by omega), by omega⟩, by omega, fun i t l hi ht => ?_⟩
  · simp at hn
    rcases hn with rfl | rfl | rfl | rfl <;> omega
  · have hz := firstNZ_all h i hi
    rw [taskAt_some ht] at hz
    unfold taskZ at hz
    by_cases t1 : t.okB = false
    · rw [if_pos t1] at hz; cases hz
    rw [if_neg t1] at hz
    by_cases t2 : checkZ l c.room = 0
    · have t1' : t.okB = true := by simpa using t1
      unfold TaskV.okB taskB at t1'
      simp only [Bool.and_eq_true] at t1'
      obtain ⟨⟨⟨⟨⟨q1, q2⟩, q3⟩, q4⟩, q5⟩, q6⟩ := t1'
      replace q1 := inB_iff.1 q1
      replace q2 := inB_iff.1 q2
      replace q3 := inB_iff.1 q3
      replace q4 := inB_iff.1 q4
      replace q5 := inB_iff.1 q5
      replace q6 := inB_iff.1 q6
      refine ⟨fun n hn => ?_, (checkZ_fine hr t2).1, (checkZ_fine hr t2).2⟩
      simp [TaskV.nums] at hn
      rcases hn with rfl | rfl | rfl | rfl | rfl | rfl <;> omega
    · rw [if_pos t2] at hz
      exact absurd hz t2

def wMachine : List UInt8 := [109, 97, 99, 104, 105, 110, 101]
def wMailbox : List UInt8 := [109, 97, 105, 108, 98, 111, 120]
def wGroups : List UInt8 := [103, 114, 111, 117, 112, 115]
def wCount : List UInt8 := [99, 111, 117, 110, 116]
def wCeiling : List UInt8 := [99, 101, 105, 108, 105, 110, 103]
def wLine : List UInt8 := [108, 105, 110, 101]
def tasksL (pl : Tks) : List UInt8 := pl.flatMap fun x => taskL x.1 x.2
def groupsL (c : ConfV) : List UInt8 := if c.g = 0 then [] else linesL wGroups [c.g]
/-- The text's parts, one behind the other. -/
def txt0 (c : ConfV) : List UInt8 := headL wMachine [c.s, c.wy, c.h, c.mi] ++ [10]
def txt1 (c : ConfV) (d : ConfL) : List UInt8 := txt0 c ++ linesL wMailbox d.mb
def txt2 (c : ConfV) (d : ConfL) : List UInt8 := txt1 c d ++ groupsL c
def txt3 (c : ConfV) (d : ConfL) : List UInt8 := txt2 c d ++ linesL wCount d.cn
def txt4 (c : ConfV) (d : ConfL) : List UInt8 := txt3 c d ++ linesL wCeiling d.ce
def txt5 (c : ConfV) (d : ConfL) (pl : Tks) : List UInt8 := txt4 c d ++ tasksL pl
def confT (c : ConfV) (d : ConfL) (pl : Tks) : List UInt8 := txt5 c d pl ++ linesL wLine d.li
theorem tasksL_snoc (pl : Tks) (x : TaskV × List Opn) : tasksL (pl ++ [x]) = tasksL pl ++ taskL x.1 x.2 := by simp [tasksL]
theorem tasksL_len (pl : Tks) (h : ∀ (i : Nat) t l, pl[i]? = some (t, l) → Few9 t.nums ∧ FineP l ∧ 0 < l.length) : (tasksL pl).length ≤ pl.length * 6600 := by
  induction pl with
  | nil => simp [tasksL]
  | cons x r ih =>
    have h1 := ih (fun i t l hi => h (i + 1) t l hi)
    have h2 := h 0 x.1 x.2 rfl
    have h3 := taskL_len h2.1 h2.2.1
    have e : tasksL (x :: r) = taskL x.1 x.2 ++ tasksL r := by simp [tasksL]
    rw [e, List.length_append, List.length_cons]
    omega
end Go.Proofs.YtbjpnjgkpkfngaaGreatDoor
namespace Go.Proofs.YtbjpnjgkpkfngaaGreatDoor
open Go Go.RowKit

/-- The box's cells. -/
structure TBoxAt (w : World) (X : Nat) (c : ConfV) : Prop where
  lt : X < w.heap.size
  e0 : w.cell? ⟨X, 0, none⟩ = some (.int .i64 c.s)
  e1 : w.cell? ⟨X, 1, none⟩ = some (.int .i64 c.wy)
  e2 : w.cell? ⟨X, 2, none⟩ = some (.int .i64 c.h)
  e3 : w.cell? ⟨X, 3, none⟩ = some (.int .i64 c.mi)
  e4 : w.cell? ⟨X, 4, none⟩ = some (.slice c.mb.A c.mb.n c.mb.cap)
  e5 : w.cell? ⟨X, 5, none⟩ = some (.int .i64 c.g)
  e6 : w.cell? ⟨X, 6, none⟩ = some (.slice c.cn.A c.cn.n c.cn.cap)
  e7 : w.cell? ⟨X, 7, none⟩ = some (.slice c.ce.A c.ce.n c.ce.cap)
  e8 : w.cell? ⟨X, 8, none⟩ = some (.slice c.ta.A c.ta.n c.ta.cap)
  e9 : w.cell? ⟨X, 9, none⟩ = some (.slice c.li.A c.li.n c.li.cap)
theorem TBoxAt.new {w w' : World} {X : Nat} {c : ConfV} (h : TBoxAt w X c) (ho : Only (fun _ => False) w w') : TBoxAt w' X c :=
  ⟨Nat.lt_of_lt_of_le h.lt ho.size, ho.cell h.e0 (fun h => h), ho.cell h.e1 (fun h => h), ho.cell h.e2 (fun h => h), ho.cell h.e3 (fun h => h), ho.cell h.e4 (fun h => h), ho.cell h.e5 (fun h => h), ho.cell h.e6 (fun h => h), ho.cell h.e7 (fun h => h), ho.cell h.e8 (fun h => h), ho.cell h.e9 (fun h => h)⟩
theorem box_new (w : World) (c : ConfV) : TBoxAt (w.alloc (.cells c.cells.toArray 27)) w.heap.size c := by
  have h := heap_new_at w (.cells c.cells.toArray 27) rfl
  exact ⟨row_lt h, row_cell h (i := 0) rfl, row_cell h (i := 1) rfl, row_cell h (i := 2) rfl, row_cell h (i := 3) rfl, row_cell h (i := 4) rfl, row_cell h (i := 5) rfl, row_cell h (i := 6) rfl, row_cell h (i := 7) rfl, row_cell h (i := 8) rfl, row_cell h (i := 9) rfl⟩

def TxEnd (s : List UInt8) (z : Int) (w : World) (e : Ending) (w' : World) : Prop := e = .returned (.tuple #[.string (toBA s), .int .i64 z]) ∧ Only (fun _ => False) w w'
set_option maxRecDepth 100000 in
set_option maxHeartbeats 1000000 in
theorem ctext_bad {w : World} (hw : Words w) {c : ConfV} {d : ConfL} {pl : Tks} (hc : ConfAt w c d pl) (hz : confZ c d pl ≠ 0) : Calls Tryz.prog 13 #[c.val] w (TxEnd [] (confZ c d pl) w) := by
  have hO := Lib.hid ((Only.refl (fun _ => False) w).alloc (.cells c.cells.toArray 27))
  have q := Lib.hid (confCheck_any (hw.new hO.out) (hc.new hO.out))
  obtain ⟨z, hzz⟩ : ∃ z, z = confZ c d pl := ⟨_, rfl⟩
  rw [← hzz] at q hz ⊢
  have hz1 : (z != 0) = true := by simpa using hz
  rw [show c.val = .agg #[.int .i64 c.s, .int .i64 c.wy, .int .i64 c.h, .int .i64 c.mi, .slice c.mb.A c.mb.n c.mb.cap, .int .i64 c.g, .slice c.cn.A c.cn.n c.cn.cap, .slice c.ce.A c.ce.n c.ce.cap, .slice c.ta.A c.ta.n c.ta.cap, .slice c.li.A c.li.n c.li.cap] from rfl] at q ⊢
  unfold GrowI at q
  unfold ConfV.cells at q hO
  clear hzz hc hw
  go_enter Tryz.func13, Tryz.ntmps13
  go_wp2_with fail
  refine q.out.mono ?_
  rintro e w1 ⟨rfl, hO1⟩
  have hO1' := Lib.hid hO1
  clear hO1
  go_wp2
  go_ret2
  exact ⟨rfl, hO.out.trans' hO1'.out⟩
theorem ints_four {w : World} {b : Nat} {a1 a2 a3 a4 : Int} {t : TypeId} (h : w.heap[b]? = some (.cells #[.int .i64 a1, .int .i64 a2, .int .i64 a3, .int .i64 a4] t (0, 0))) : IntsAt w ⟨some ⟨b, 0, none⟩, 4, 4⟩ [a1, a2, a3, a4] :=
  ⟨rfl, Nat.le_refl _, fun k y hy => ⟨b, 0, rfl, row_lt h, by
    rw [Nat.zero_add]
    exact row_cell (L := ([a1, a2, a3, a4] : List Int).map (Value.int .i64)) h (by rw [List.getElem?_map, hy]; rfl)⟩⟩
theorem lens {c : ConfV} {d : ConfL} {pl : Tks} {w : World} (hc : ConfAt w c d pl) (h : FineC c d pl) : (txt0 c).length ≤ 60 ∧ (txt1 c d).length ≤ 200 ∧ (txt2 c d).length ≤ 300 ∧ (txt3 c d).length ≤ 400 ∧ (txt4 c d).length ≤ 500 := by
  have h0 := headL_len wMachine _ h.m
  have h1 := linesL_len wMailbox d.mb h.mb.1
  have h2 : (groupsL c).length ≤ 17 := by
    unfold groupsL
    split
    · simp
    · exact linesL_len wGroups [c.g] (fun n hn => by simp at hn; subst hn; have := h.g; omega)
  have h3 := linesL_len wCount d.cn h.cn.1
  have h4 := linesL_len wCeiling d.ce h.ce.1
  have g1 := hc.o.mb.len
  have g3 := hc.o.cn.len
  have g4 := hc.o.ce.len
  have b1 := h.mb.2
  have b3 := h.cn.2
  have b4 := h.ce.2
  unfold txt4 txt3 txt2 txt1 txt0
  simp only [List.length_append, List.length_cons, List.length_nil, wMachine, wMailbox, wCount, wCeiling] at *
  omega

set_option maxRecDepth 100000 in
set_option maxHeartbeats 4000000 in
theorem ctext_fine {w : World} (hb : Bas w) {c : ConfV} {d : ConfL} {pl : Tks} (hc : ConfAt w c d pl) (hz : confZ c d pl = 0) : Calls Tryz.prog 13 #[c.val] w (TxEnd (confT c d pl) 0 w) := by
  have hf := confZ_fine hz
  obtain ⟨s0, s1, s2, s3, s4⟩ := lens hc hf
  obtain ⟨X, hX⟩ : ∃ X, X = w.heap.size := ⟨_, rfl⟩
  have hO := Lib.hid ((Only.refl (fun _ => False) w).alloc (.cells c.cells.toArray 27))
  have qc := Lib.hid (confCheck_any (hb.words.new hO.out) (hc.new hO.out))
  rw [hz] at qc
  have q0 := Lib.hid (fun W b (hW : Only (fun _ => False) w W) (hh : W.heap[b]? = some (.cells #[.int .i64 c.s, .int .i64 c.wy, .int .i64 c.h, .int .i64 c.mi] 3 (0, 0))) => headOf_any (hb.new hW) wMachine (x := ⟨some ⟨b, 0, none⟩, 4, 4⟩) (ints_four hh) hf.m (by decide) (by show 4 ≤ 100; omega))
  have q1 := Lib.hid (fun W (hW : Only (fun _ => False) w W) => linesOf_any (hb.new hW) wMailbox (hc.o.mb.new hW) hf.mb.1 (by decide) (by have := hf.mb.2; omega))
  have q2 := Lib.hid (fun W b (hW : Only (fun _ => False) w W) (hh : W.heap[b]? = some (.cells #[.int .i64 c.g] 3 (0, 0))) => linesOf_any (hb.new hW) wGroups (x := ⟨some ⟨b, 0, none⟩, 1, 1⟩) (ints_one c.g hh) (fun n hn => by simp at hn; subst hn; have := hf.g; omega) (by decide) (by show 1 ≤ 100; omega))
  have q3 := Lib.hid (fun W (hW : Only (fun _ => False) w W) => linesOf_any (hb.new hW) wCount (hc.o.cn.new hW) hf.cn.1 (by decide) (by have := hf.cn.2; omega))
  have q4 := Lib.hid (fun W (hW : Only (fun _ => False) w W) => linesOf_any (hb.new hW) wCeiling (hc.o.ce.new hW) hf.ce.1 (by decide) (by have := hf.ce.2; omega))
  have q6 := Lib.hid (fun W (hW : Only (fun _ => False) w W) => linesOf_any (hb.new hW) wLine (hc.o.li.new hW) hf.li.1 (by decide) (by have := hf.li.2; omega))
  have q5 := Lib.hid (fun W (hW : Only (fun _ => False) w W) (i : Nat) t l (hi : i < c.ta.n) (ht : pl[i]? = some (t, l)) => taskLine_any (hb.new hW) ((hc.p.row i t l ht).1.new hW) (hc.p.row i t l ht).2.1 (hf.ts i t l hi ht).1 (hf.ts i t l hi ht).2.1)
  have hT := Lib.hid hc.t
  have hlen := Lib.hid (show pl.length = c.ta.n by have := hc.t.len; unfold Tks.ts at this; rwa [List.length_map] at this)
  have z1 := Lib.hid (show toBA (txt0 c) ++ toBA (linesL wMailbox d.mb) = toBA (txt1 c d) by rw [toBA_app]; rfl)
  have z0 := Lib.hid (show toBA (headL wMachine [c.s, c.wy, c.h, c.mi]) ++ (⟨#[10]⟩ : ByteArray) = toBA (txt0 c) by rw [show (⟨#[10]⟩ : ByteArray) = toBA [10] from rfl, toBA_app]; rfl)
  have z2 := Lib.hid (show toBA (txt1 c d) ++ toBA (groupsL c) = toBA (txt2 c d) by rw [toBA_app]; rfl)
  have z3 := Lib.hid (show toBA (txt2 c d) ++ toBA (linesL wCount d.cn) = toBA (txt3 c d) by rw [toBA_app]; rfl)
  have z4 := Lib.hid (show toBA (txt3 c d) ++ toBA (linesL wCeiling d.ce) = toBA (txt4 c d) by rw [toBA_app]; rfl)
  have z6 := Lib.hid (show toBA (txt5 c d pl) ++ toBA (linesL wLine d.li) = toBA (confT c d pl) by rw [toBA_app]; rfl)
  have m0 := headL_len wMachine _ hf.m
  have m1 := linesL_len wMailbox d.mb hf.mb.1
  have m3 := linesL_len wCount d.cn hf.cn.1
  have m4 := linesL_len wCeiling d.ce hf.ce.1
  have m6 := linesL_len wLine d.li hf.li.1
  rw [hc.o.mb.len] at m1
  rw [hc.o.cn.len] at m3
  rw [hc.o.ce.len] at m4
  rw [hc.o.li.len] at m6
  have b1 := hf.mb.2
  have b3 := hf.cn.2
  have b4 := hf.ce.2
  have b6 := hf.li.2
  have bn := hf.n.2
  have hts := Lib.hid hf.ts
  have hgo : c.g ≠ 0 → groupsL c = linesL wGroups [c.g] := fun h => by unfold groupsL; rw [if_neg h]
  have hgo' := Lib.hid hgo
  have hg0 := Lib.hid (show c.g = 0 → txt2 c d = txt1 c d from fun h => by unfold txt2 groupsL; rw [if_pos h, List.append_nil])
  have m2 : c.g ≠ 0 → (linesL wGroups [c.g]).length ≤ 17 := fun h => linesL_len wGroups [c.g] (fun n hn => by simp at hn; subst hn; have := hf.g; omega)
  have m2' := Lib.hid m2
  simp only [List.length_cons, List.length_nil, wMachine, wMailbox, wCount, wCeiling, wLine] at m0 m1 m3 m4 m6
  have hm0 : (toBA (headL wMachine [c.s, c.wy, c.h, c.mi])).size ≤ 100 := by rw [toBA_size]; unfold wMachine; omega
  have hm1 : (toBA (linesL wMailbox d.mb)).size ≤ 100 := by rw [toBA_size]; unfold wMailbox; omega
  have hm3 : (toBA (linesL wCount d.cn)).size ≤ 100 := by rw [toBA_size]; unfold wCount; omega
  have hm4 : (toBA (linesL wCeiling d.ce)).size ≤ 100 := by rw [toBA_size]; unfold wCeiling; omega
  have hm6 : (toBA (linesL wLine d.li)).size ≤ 200 := by rw [toBA_size]; unfold wLine; omega
  rw [← toBA_size] at s0 s1 s2 s3 s4
  unfold GrowS at q0 q1 q2 q3 q4 q5 q6
  obtain ⟨H, hH⟩ : ∃ H, H = toBA (headL wMachine [c.s, c.wy, c.h, c.mi]) := ⟨_, rfl⟩
  obtain ⟨S0, hS0⟩ : ∃ S, S = toBA (txt0 c) := ⟨_, rfl⟩
  obtain ⟨S1, hS1⟩ : ∃ S, S = toBA (txt1 c d) := ⟨_, rfl⟩
  obtain ⟨S2, hS2⟩ : ∃ S, S = toBA (txt2 c d) := ⟨_, rfl⟩
  obtain ⟨S3, hS3⟩ : ∃ S, S = toBA (txt3 c d) := ⟨_, rfl⟩
  obtain ⟨L1, hL1⟩ : ∃ S, S = toBA (linesL wMailbox d.mb) := ⟨_, rfl⟩
  obtain ⟨L2, hL2⟩ : ∃ S, S = toBA (linesL wGroups [c.g]) := ⟨_, rfl⟩
  obtain ⟨L3, hL3⟩ : ∃ S, S = toBA (linesL wCount d.cn) := ⟨_, rfl⟩
  obtain ⟨L4, hL4⟩ : ∃ S, S = toBA (linesL wCeiling d.ce) := ⟨_, rfl⟩
  obtain ⟨L6, hL6⟩ : ∃ S, S = toBA (linesL wLine d.li) := ⟨_, rfl⟩
  rw [← hH] at q0 z0 hm0
  rw [← hS0] at z0 z1 s0
  rw [← hS1] at z1 z2 s1
  rw [← hS2] at z2 z3 s2
  rw [← hS3] at z3 z4 s3
  rw [← hL1] at q1 z1 hm1
  rw [← hL2] at q2
  rw [← hL3] at q3 z3 hm3
  rw [← hL4] at q4 z4 hm4
  rw [← hL6] at q6 z6 hm6
  have hS12 := Lib.hid (And.intro hS1 (And.intro hS2 hL2))
  rw [show c.val = .agg #[.int .i64 c.s, .int .i64 c.wy, .int .i64 c.h, .int .i64 c.mi, .slice c.mb.A c.mb.n c.mb.cap, .int .i64 c.g, .slice c.cn.A c.cn.n c.cn.cap, .slice c.ce.A c.ce.n c.ce.cap, .slice c.ta.A c.ta.n c.ta.cap, .slice c.li.A c.li.n c.li.cap] from rfl] at qc ⊢
  unfold GrowI at qc
  have hbx := Lib.hid (hX ▸ box_new w c)
  unfold ConfV.cells at qc hO hbx
  have hX' := Lib.hid hX
  clear hz hb hc hf hgo m0 m1 m2 m3 m4 m6 b1 b3 b4 b6 hX hH hS0 hS1 hS2 hS3 hL1 hL2 hL3 hL4 hL6
  go_enter Tryz.func13, Tryz.ntmps13
  go_wp2_with fail
  refine qc.out.mono ?_
  rintro e w1 ⟨rfl, hO1⟩
  rw [← hX'.out]
  have hb1 := Lib.hid (hbx.out.new hO1)
  obtain ⟨lX, e0, e1, e2, e3, e4, e5, e6, e7, e8, e9⟩ := hb1.out
  have hW1 := Lib.hid (hO.out.trans' hO1)
  clear hO1 qc
  go_wp2_with fail
  have o2 := (((Only.refl (fun _ => False) w1).alloc (.cells #[.int .i64 c.s, .int .i64 c.wy, .int .i64 c.h, .int .i64 c.mi] 23)).alloc (.cells #[.int .i64 c.s, .int .i64 c.wy, .int .i64 c.h, .int .i64 c.mi] 3))
  refine (q0.out _ (w1.heap.size + 1) (hW1.out.trans' o2) (heap_new_at _ _ (by simp))).mono ?_
  rintro e w2 ⟨rfl, hO2⟩
  have hb2 := Lib.hid (hb1.out.new (o2.trans' hO2))
  have hW2 := Lib.hid (hW1.out.trans' (o2.trans' hO2))
  obtain ⟨Y, hY⟩ : ∃ Y, Y = w1.heap.size := ⟨_, rfl⟩
  rw [← hY]
  clear o2 hO2 hY lX e0 e1 e2 e3 e4 e5 e6 e7 e8 e9
  obtain ⟨lX, e0, e1, e2, e3, e4, e5, e6, e7, e8, e9⟩ := hb2.out
  go_wp2_with fail
  rw [z0.out]
  refine (q1.out _ hW2.out).mono ?_
  rintro e w3 ⟨rfl, hO3⟩
  have hb3 := Lib.hid (hb2.out.new hO3)
  have hW3 := Lib.hid (hW2.out.trans' hO3)
  clear hO3 lX e0 e1 e2 e3 e4 e5 e6 e7 e8 e9
  obtain ⟨lX, e0, e1, e2, e3, e4, e5, e6, e7, e8, e9⟩ := hb3.out
  by_cases hg : c.g = 0
  · have hgb : (c.g != 0) = false := by simpa using hg
    have h12 := Lib.hid (show S1 = S2 by rw [hS12.out.1, hS12.out.2.1, hg0.out hg])
    clear hg
    go_wp2_with fail
    rw [z1.out, h12.out]
    refine (q3.out _ hW3.out).mono ?_
    rintro e w4 ⟨rfl, hO4⟩
    have hb4 := Lib.hid (hb3.out.new hO4)
    have hW4 := Lib.hid (hW3.out.trans' hO4)
    clear hO4 hgb lX e0 e1 e2 e3 e4 e5 e6 e7 e8 e9
    obtain ⟨lX, e0, e1, e2, e3, e4, e5, e6, e7, e8, e9⟩ := hb4.out
    go_wp2_with fail
    rw [z3.out]
    refine (q4.out _ hW4.out).mono ?_
    rintro e w5 ⟨rfl, hO5⟩
    have hb5 := Lib.hid (hb4.out.new hO5)
    have hW5 := Lib.hid (hW4.out.trans' hO5)
    clear hO5 lX e0 e1 e2 e3 e4 e5 e6 e7 e8 e9
    obtain ⟨lX, e0, e1, e2, e3, e4, e5, e6, e7, e8, e9⟩ := hb5.out
    go_wp2
    rw [z4.out]
    go_loopw [6, 54] (fun s i wr => ∃ k : Nat, k ≤ c.ta.n ∧ i = .int .i64 k ∧ s = .string (toBA (txt4 c d ++ tasksL (pl.take k))) ∧ Only (fun _ => False) w5 wr) (fun _ i _ => c.ta.n - (intOf i).toNat)
    case atStart => exact ⟨0, Nat.zero_le _, rfl, by simp [tasksL], Only.refl _ _⟩
    case round =>
      clear lX e0 e1 e2 e3 e4 e5 e6 e7 e8 e9
      obtain ⟨k, hk, rfl, rfl, hO⟩ := hrel
      obtain ⟨ws, hws⟩ : ∃ ws : World, ws = wr := ⟨_, rfl⟩
      subst hws
      have hOs := Lib.hid hO
      have hWs := Lib.hid (hW5.out.trans' hO)
      clear hO
      have hsz := tasksL_len (pl.take k) (fun i t l hi => by
        by_cases hik : i < k
        · rw [List.getElem?_take_of_lt hik] at hi
          exact hts.out i t l (by omega) hi
        · rw [List.getElem?_eq_none (by rw [List.length_take]; omega)] at hi
          cases hi)
      rw [List.length_take] at hsz
      have hsz2 : (toBA (txt4 c d ++ tasksL (pl.take k))).size ≤ 60000 := by
        rw [toBA_size] at s4 ⊢
        rw [List.length_append]
        have : min k pl.length * 6600 ≤ 8 * 6600 := Nat.mul_le_mul_right _ (by omega)
        omega
      clear hsz
      by_cases hkn : k < c.ta.n
      · have hkn' : (k : Int) < (c.ta.n : Int) := by omega
        obtain ⟨⟨t, l⟩, hzt⟩ : ∃ z, pl[k]? = some z := ⟨_, List.getElem?_eq_getElem (by have := hlen.out; omega)⟩
        obtain ⟨b, off, hA, hbb, hC⟩ := (hT.out.new hWs.out).at_ k t (ts_some hzt)
        obtain ⟨c0, c1, c2, c3, c4, c5, c6⟩ := hC
        have htl := hts.out k t l hkn hzt
        have htz := taskL_len htl.1 htl.2.1
        rw [← toBA_size] at htz
        have hq := Lib.hid (q5.out _ (hWs.out.alloc (.cells #[.int .i64 t.p, .int .i64 t.th, .int .i64 t.pe, .int .i64 t.de, .int .i64 t.fr, .int .i64 t.fl, .slice t.o.A t.o.n t.o.cap] 45)) k t l hkn hzt)
        rw [show t.val = .agg #[.int .i64 t.p, .int .i64 t.th, .int .i64 t.pe, .int .i64 t.de, .int .i64 t.fr, .int .i64 t.fl, .slice t.o.A t.o.n t.o.cap] from rfl] at hq
        have hnx := Lib.hid (show toBA (txt4 c d ++ tasksL (pl.take k)) ++ toBA (taskL t l) = toBA (txt4 c d ++ tasksL (pl.take (k + 1))) by
          rw [toBA_app, list_take_snoc hzt, tasksL_snoc, List.append_assoc])
        obtain ⟨T1, hT1⟩ : ∃ T, T = toBA (txt4 c d ++ tasksL (pl.take k)) := ⟨_, rfl⟩
        obtain ⟨T2, hT2⟩ : ∃ T, T = toBA (taskL t l) := ⟨_, rfl⟩
        rw [← hT1] at hnx hsz2 ⊢
        rw [← hT2] at hnx htz hq
        rw [hA]
        clear hzt hT1 hT2 htl hA
        go_wp2_with fail
        refine hq.out.mono ?_
        rintro e w6 ⟨rfl, hO6⟩
        have hO6' := Lib.hid (((Only.refl (fun _ => False) ws).alloc _).trans' hO6)
        clear hO6 c0 c1 c2 c3 c4 c5 c6
        go_wp2
        go_roundw
        case rel => exact ⟨k + 1, by omega, by go_num, by rw [hnx.out], hOs.out.trans' hO6'.out⟩
        case measure => simp [intOf]; omega
      · obtain hkk : k = c.ta.n := by omega
        have hall := Lib.hid (show txt4 c d ++ tasksL (pl.take k) = txt5 c d pl from by rw [List.take_of_length_le (by have := hlen.out; omega)]; rfl)
        have hb6 := Lib.hid (hb5.out.new hOs.out)
        obtain ⟨lX, e0, e1, e2, e3, e4, e5, e6, e7, e8, e9⟩ := hb6.out
        rw [hall.out] at hsz2 ⊢
        have hkn'' : ¬ (k : Int) < (c.ta.n : Int) := by omega
        clear hkk hkn
        go_wp2_with fail
        refine (q6.out _ hWs.out).mono ?_
        rintro e w7 ⟨rfl, hO7⟩
        have hW7 := Lib.hid (hWs.out.trans' hO7)
        clear hO7 lX e0 e1 e2 e3 e4 e5 e6 e7 e8 e9
        go_wp2
        go_ret2
        exact ⟨by rw [← z6.out]; rfl, hW7.out⟩
  · have hgb : (c.g != 0) = true := by simpa using hg
    have z2' := Lib.hid (show S1 ++ L2 = S2 by rw [← z2.out, hgo'.out hg, ← hS12.out.2.2])
    have hm2 : L2.size ≤ 17 := by rw [hS12.out.2.2, toBA_size]; exact m2'.out hg
    clear hg
    go_wp2_with fail
    have o4 := (Only.refl (fun _ => False) w3).alloc (.cells #[.int .i64 c.g] 3)
    rw [z1.out]
    refine (q2.out _ w3.heap.size (hW3.out.trans' o4) (heap_new_at _ _ rfl)).mono ?_
    rintro e w35 ⟨rfl, hO35⟩
    have hb35 := Lib.hid (hb3.out.new (o4.trans' hO35))
    have hW35 := Lib.hid (hW3.out.trans' (o4.trans' hO35))
    obtain ⟨Y2, hY2⟩ : ∃ Y, Y = w3.heap.size := ⟨_, rfl⟩
    rw [← hY2]
    clear o4 hO35 hY2 lX e0 e1 e2 e3 e4 e5 e6 e7 e8 e9
    obtain ⟨lX, e0, e1, e2, e3, e4, e5, e6, e7, e8, e9⟩ := hb35.out
    go_wp2_with fail
    rw [z2'.out]
    refine (q3.out _ hW35.out).mono ?_
    rintro e w4 ⟨rfl, hO4⟩
    have hb4 := Lib.hid (hb35.out.new hO4)
    have hW4 := Lib.hid (hW35.out.trans' hO4)
    clear hO4 hgb lX e0 e1 e2 e3 e4 e5 e6 e7 e8 e9
    obtain ⟨lX, e0, e1, e2, e3, e4, e5, e6, e7, e8, e9⟩ := hb4.out
    go_wp2_with fail
    rw [z3.out]
    refine (q4.out _ hW4.out).mono ?_
    rintro e w5 ⟨rfl, hO5⟩
    have hb5 := Lib.hid (hb4.out.new hO5)
    have hW5 := Lib.hid (hW4.out.trans' hO5)
    clear hO5 lX e0 e1 e2 e3 e4 e5 e6 e7 e8 e9
    obtain ⟨lX, e0, e1, e2, e3, e4, e5, e6, e7, e8, e9⟩ := hb5.out
    go_wp2
    rw [z4.out]
    go_loopw [6, 54] (fun s i wr => ∃ k : Nat, k ≤ c.ta.n ∧ i = .int .i64 k ∧ s = .string (toBA (txt4 c d ++ tasksL (pl.take k))) ∧ Only (fun _ => False) w5 wr) (fun _ i _ => c.ta.n - (intOf i).toNat)
    case atStart => exact ⟨0, Nat.zero_le _, rfl, by simp [tasksL], Only.refl _ _⟩
    case round =>
      clear lX e0 e1 e2 e3 e4 e5 e6 e7 e8 e9
      obtain ⟨k, hk, rfl, rfl, hO⟩ := hrel
      obtain ⟨ws, hws⟩ : ∃ ws : World, ws = wr := ⟨_, rfl⟩
      subst hws
      have hOs := Lib.hid hO
      have hWs := Lib.hid (hW5.out.trans' hO)
      clear hO
      have hsz := tasksL_len (pl.take k) (fun i t l hi => by
        by_cases hik : i < k
        · rw [List.getElem?_take_of_lt hik] at hi
          exact hts.out i t l (by omega) hi
        · rw [List.getElem?_eq_none (by rw [List.length_take]; omega)] at hi
          cases hi)
      rw [List.length_take] at hsz
      have hsz2 : (toBA (txt4 c d ++ tasksL (pl.take k))).size ≤ 60000 := by
        rw [toBA_size] at s4 ⊢
        rw [List.length_append]
        have : min k pl.length * 6600 ≤ 8 * 6600 := Nat.mul_le_mul_right _ (by omega)
        omega
      clear hsz
      by_cases hkn : k < c.ta.n
      · have hkn' : (k : Int) < (c.ta.n : Int) := by omega
        obtain ⟨⟨t, l⟩, hzt⟩ : ∃ z, pl[k]? = some z := ⟨_, List.getElem?_eq_getElem (by have := hlen.out; omega)⟩
        obtain ⟨b, off, hA, hbb, hC⟩ := (hT.out.new hWs.out).at_ k t (ts_some hzt)
        obtain ⟨c0, c1, c2, c3, c4, c5, c6⟩ := hC
        have htl := hts.out k t l hkn hzt
        have htz := taskL_len htl.1 htl.2.1
        rw [← toBA_size] at htz
        have hq := Lib.hid (q5.out _ (hWs.out.alloc (.cells #[.int .i64 t.p, .int .i64 t.th, .int .i64 t.pe, .int .i64 t.de, .int .i64 t.fr, .int .i64 t.fl, .slice t.o.A t.o.n t.o.cap] 45)) k t l hkn hzt)
        rw [show t.val = .agg #[.int .i64 t.p, .int .i64 t.th, .int .i64 t.pe, .int .i64 t.de, .int .i64 t.fr, .int .i64 t.fl, .slice t.o.A t.o.n t.o.cap] from rfl] at hq
        have hnx := Lib.hid (show toBA (txt4 c d ++ tasksL (pl.take k)) ++ toBA (taskL t l) = toBA (txt4 c d ++ tasksL (pl.take (k + 1))) by
          rw [toBA_app, list_take_snoc hzt, tasksL_snoc, List.append_assoc])
        obtain ⟨T1, hT1⟩ : ∃ T, T = toBA (txt4 c d ++ tasksL (pl.take k)) := ⟨_, rfl⟩
        obtain ⟨T2, hT2⟩ : ∃ T, T = toBA (taskL t l) := ⟨_, rfl⟩
        rw [← hT1] at hnx hsz2 ⊢
        rw [← hT2] at hnx htz hq
        rw [hA]
        clear hzt hT1 hT2 htl hA
        go_wp2_with fail
        refine hq.out.mono ?_
        rintro e w6 ⟨rfl, hO6⟩
        have hO6' := Lib.hid (((Only.refl (fun _ => False) ws).alloc _).trans' hO6)
        clear hO6 c0 c1 c2 c3 c4 c5 c6
        go_wp2
        go_roundw
        case rel => exact ⟨k + 1, by omega, by go_num, by rw [hnx.out], hOs.out.trans' hO6'.out⟩
        case measure => simp [intOf]; omega
      · obtain hkk : k = c.ta.n := by omega
        have hall := Lib.hid (show txt4 c d ++ tasksL (pl.take k) = txt5 c d pl from by rw [List.take_of_length_le (by have := hlen.out; omega)]; rfl)
        have hb6 := Lib.hid (hb5.out.new hOs.out)
        obtain ⟨lX, e0, e1, e2, e3, e4, e5, e6, e7, e8, e9⟩ := hb6.out
        rw [hall.out] at hsz2 ⊢
        have hkn'' : ¬ (k : Int) < (c.ta.n : Int) := by omega
        clear hkk hkn
        go_wp2_with fail
        refine (q6.out _ hWs.out).mono ?_
        rintro e w7 ⟨rfl, hO7⟩
        have hW7 := Lib.hid (hWs.out.trans' hO7)
        clear hO7 lX e0 e1 e2 e3 e4 e5 e6 e7 e8 e9
        go_wp2
        go_ret2
        exact ⟨by rw [← z6.out]; rfl, hW7.out⟩
end Go.Proofs.YtbjpnjgkpkfngaaGreatDoor
