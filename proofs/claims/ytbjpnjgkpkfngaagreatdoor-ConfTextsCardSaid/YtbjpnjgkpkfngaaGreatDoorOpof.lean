/- Package prog's opOf: an operation is read of its text. -/
import Derived.Test.YtbjpnjgkpkfngaaGreatDoorDec
import Derived.Test.YtbjpnjgkpkfngaaGreatDoorText
import Derived.Lib.LaidTab
namespace Go.Proofs.YtbjpnjgkpkfngaaGreatDoor
open Go Go.RowKit

/-- The table of words, the table of powers, and that the library's own number is some number. -/
structure Bas (w : World) : Prop where
  words : Words w
  maxl : ∃ m, w.cell? ⟨1, 0, none⟩ = some (.int .i64 m)
  tab : Lib.TabIs Tryz.prog w "internal/strconv.uint64pow10" .u64 Lib.pow10Tab
theorem gTab : Tryz.prog.globalNamed "internal/strconv.uint64pow10" = some 2 := by kernel_rfl
theorem tab_new {w w' : World} (h : Lib.TabIs Tryz.prog w "internal/strconv.uint64pow10" .u64 Lib.pow10Tab) (ho : Only (fun _ => False) w w') : Lib.TabIs Tryz.prog w' "internal/strconv.uint64pow10" .u64 Lib.pow10Tab := by
  have hc := h.cell gTab 0 (by decide)
  have hlt : 2 < w.heap.size := World.block_lt_of_cell? w _ hc
  unfold Lib.TabIs World.var? at *
  rw [gTab, Option.bind_some] at h ⊢
  rw [show w'.heap[2]? = w.heap[2]? from ho.block 2 hlt (fun h => h)]
  exact h
theorem Bas.new {w w' : World} (h : Bas w) (ho : Only (fun _ => False) w w') : Bas w' :=
  ⟨h.words.new ho, by obtain ⟨m, hm⟩ := h.maxl; exact ⟨m, ho.cell hm (fun h => h)⟩, tab_new h.tab ho⟩

def CutEnd (a r : List UInt8) (b : Bool) (w : World) (e : Ending) (w' : World) : Prop := e = .returned (.tuple #[.string (toBA a), .string (toBA r), .bool b]) ∧ Only (fun _ => False) w w'
theorem cut_yes {w : World} (hb : Bas w) (c : UInt8) (a r : List UInt8) (h : c ∉ a) (hl : a.length + r.length ≤ 1000000) : Calls Tryz.prog 59 #[.string (toBA (a ++ c :: r)), .string ⟨#[c]⟩] w (CutEnd a r true w) := by
  obtain ⟨m, hm⟩ := hb.maxl
  refine (Tryz.strings_Cut (toBA (a ++ c :: r)) ⟨#[c]⟩ m w (by rw [toBA_size]; simp; omega) hm).mono ?_
  rintro e w' ⟨rfl, n, rfl⟩
  rw [show (toBA (a ++ c :: r)).data.toList = a ++ c :: r from rfl, show (⟨#[c]⟩ : ByteArray).data.toList = [c] from rfl, cut_at c a r h]
  exact ⟨rfl, (Only.refl _ w).drewN n⟩
theorem cut_no {w : World} (hb : Bas w) (c : UInt8) (a : List UInt8) (h : c ∉ a) (hl : a.length ≤ 1000000) : Calls Tryz.prog 59 #[.string (toBA a), .string ⟨#[c]⟩] w (CutEnd a [] false w) := by
  obtain ⟨m, hm⟩ := hb.maxl
  refine (Tryz.strings_Cut (toBA a) ⟨#[c]⟩ m w (by rw [toBA_size]; omega) hm).mono ?_
  rintro e w' ⟨rfl, n, rfl⟩
  rw [show (toBA a).data.toList = a from rfl, show (⟨#[c]⟩ : ByteArray).data.toList = [c] from rfl, cut_not c a h]
  exact ⟨rfl, (Only.refl _ w).drewN n⟩

def wname (k : Nat) : List UInt8 := (wnames.getD k ⟨#[]⟩).data.toList
theorem wname_BA (k : Nat) : toBA (wname k) = wnames.getD k ⟨#[]⟩ := rfl
theorem wname_fit (k : Nat) (hk : k < 16) : 32 ∉ wname k ∧ 59 ∉ wname k ∧ (wname k).length ≤ 7 := by
  have key : ∀ i : Fin 16, 32 ∉ wname i.1 ∧ 59 ∉ wname i.1 ∧ (wname i.1).length ≤ 7 := by decide
  exact key ⟨k, hk⟩
theorem dec_no (c : UInt8) (hc : c.toNat < 48 ∨ 57 < c.toNat) (u : Nat) : c ∉ Lib.decDigits u := fun h => by
  have := dec_dig u c h
  unfold isDig at this
  omega
theorem number_dec (u : Nat) (h : u < 1000000000) (w : World) : Calls Tryz.prog 110 #[.string (toBA (Lib.decDigits u))] w (RetKB u true w) := by
  have h1 := dec_pos u
  have h2 := dec_nine h
  have h3 := numberOf_any (toBA (Lib.decDigits u)) w (by rw [toBA_size]; exact h1) (by rw [toBA_size]; exact h2) (fun b hb => dec_dig u b hb) (by
    rcases dec_ahead u with h | h
    · left
      rw [toBA_size]
      exact h
    · right
      intro h0 hz
      rw [toBA_size] at h0
      refine h ((Lib.decDigits u)[0]'h0) (List.getElem?_eq_getElem h0) ?_
      have hz' : (toBA (Lib.decDigits u))[0].toNat = 48 := by omega
      exact hz')
  rw [show (toBA (Lib.decDigits u)).data.toList = Lib.decDigits u from rfl, dec_val] at h3
  exact h3

/-- What opOf leaves. -/
def OpEnd (x : Opn) (v : Bool) (w : World) (e : Ending) (w' : World) : Prop := e = .returned (.tuple #[x.val, .bool v]) ∧ Only (fun _ => False) w w'
/-- The numbers behind a name, read one by one: what each step meets. -/
def Steps (w : World) (c : Nat) (R D : Nat → List UInt8) (M : Nat → Bool) (V : Nat → Int) : Prop :=
  ∀ k, k < c → (∀ W, Only (fun _ => False) w W → Calls Tryz.prog 59 #[.string (toBA (R k)), .string ⟨#[32]⟩] W (CutEnd (D k) (R (k + 1)) (M (k + 1)) W)) ∧ ∀ W, Calls Tryz.prog 110 #[.string (toBA (D k))] W (RetKB (V k) true W)
def two (k : Nat) (V : Nat → Int) : List Value := [.int .i64 (if 0 < k then V 0 else 0), .int .i64 (if 1 < k then V 1 else 0)]

set_option maxRecDepth 100000 in
set_option maxHeartbeats 1000000 in
theorem opOf_gen {w : World} (hb : Bas w) (k : Nat) (h1 : 1 ≤ k) (h2 : k ≤ 15) (c : Nat) (hc : wnums.getD k 0 = c) (hc2 : c ≤ 2) (s : List UInt8) (R D : Nat → List UInt8) (M : Nat → Bool) (V : Nat → Int)
    (hcut : ∀ W, Only (fun _ => False) w W → Calls Tryz.prog 59 #[.string (toBA s), .string ⟨#[32]⟩] W (CutEnd (wname k) (R 0) (M 0) W)) (hst : Steps w c R D M V) (hM : M c = false) (x : Opn) (hx : x = ⟨k, if 0 < c then V 0 else 0, if 1 < c then V 1 else 0⟩) :
    Calls Tryz.prog 97 #[.string (toBA s)] w (OpEnd x true w) := by
  have q2 := Lib.hid (fun W (hW : Only (fun _ => False) w W) => kindOf_name (hb.words.new hW) k h1 h2)
  have q3 := Lib.hid (fun W (hW : Only (fun _ => False) w W) => numbers_any (hb.words.new hW) (k : Int))
  rw [numZ_in h1 h2, hc] at q3
  rw [← wname_BA] at q2
  have hcut' := Lib.hid hcut
  have hst' := Lib.hid hst
  have hM' := Lib.hid hM
  have hx' := Lib.hid hx
  clear hc h1 h2 hb hcut hst hM hx
  go_enter Tryz.func97, Tryz.ntmps97
  go_wp2_with fail
  have hO0 := Lib.hid (show Only (fun _ => False) w (w.alloc (.cells #[.int .i64 0, .int .i64 0, .int .i64 0] 69)) from (Only.refl _ w).alloc _)
  have hB0 := Lib.hid (heap_new_at w (.cells [.int .i64 0, .int .i64 0, .int .i64 0].toArray 69) rfl)
  refine (hcut'.out _ hO0.out).mono ?_
  rintro e W1 ⟨rfl, hO1⟩
  have hO1' := Lib.hid (hO0.out.trans' hO1)
  have hB1 := Lib.hid (hO1.heap hB0.out (fun h => h))
  clear hO1 hB0 hO0
  go_wp2_with fail
  refine (q2.out _ hO1'.out).mono ?_
  rintro e W1b ⟨rfl, hw1⟩
  subst hw1
  go_wp2_with fail
  have hO2 := Lib.hid (hO1'.out.trans' (show Only (fun _ => False) W1 (W1.alloc (.cells #[.int .i64 0, .int .i64 0] 129)) from (Only.refl _ W1).alloc _))
  have hG := Lib.hid (heap_new_at W1 (.cells (two 0 V).toArray 129) rfl)
  have hB2 := Lib.hid (heap_kept_alloc hB1.out (.cells #[.int .i64 0, .int .i64 0] 129))
  have hlt := Lib.hid (row_lt hB1.out)
  rw [show (two 0 V).toArray = #[.int .i64 0, .int .i64 0] from rfl] at hG
  refine (q3.out _ hO2.out).mono ?_
  rintro e W2 ⟨rfl, hw2⟩
  rw [hw2] at hO2 hG hB2
  clear hw2
  obtain ⟨B, hB⟩ : ∃ B, B = w.heap.size := ⟨_, rfl⟩
  obtain ⟨G, hGe⟩ : ∃ G, G = W1.heap.size := ⟨_, rfl⟩
  have hB' := Lib.hid hB
  rw [← hB] at hB2 hlt ⊢
  rw [← hGe] at hG hlt ⊢
  clear hB hGe hB1 hO1' q2 q3 hcut'
  go_wp2
  go_loopw [5, 6, 28] (fun r m i wr => ∃ j : Nat, j ≤ c ∧ i = .int .i64 j ∧ r = .string (toBA (R j)) ∧ m = .bool (M j) ∧ Hid (wr.heap[B]? = some (.cells [.int .i64 0, .int .i64 0, .int .i64 0].toArray 69 (0, 0))) ∧ Hid (wr.heap[G]? = some (.cells (two j V).toArray 129 (0, 0))) ∧ Hid (Only (fun _ => False) w wr)) (fun _ _ i _ => c - (intOf i).toNat)
  case atStart => exact ⟨0, Nat.zero_le _, rfl, rfl, rfl, hB2, hG, hO2⟩
  case round =>
    clear hB2 hG hO2
    obtain ⟨j, hj, rfl, rfl, rfl, hB2, hG, hO2⟩ := hrel
    obtain ⟨ws, hws⟩ : ∃ ws : World, ws = wr := ⟨_, rfl⟩
    subst hws
    by_cases hjc : j < c
    · have hjc' : (j : Int) < (c : Int) := by omega
      have hj2 : (j : Int) < 2 := by omega
      have hj0 : (0 : Int) ≤ (j : Int) := by omega
      obtain ⟨g1, g2⟩ := hst'.out j hjc
      have g1' := Lib.hid g1
      have g2' := Lib.hid g2
      clear g1 g2
      go_wp2_with fail
      refine (g1'.out _ hO2.out).mono ?_
      rintro e W3 ⟨rfl, hO3⟩
      have hB3 := Lib.hid (hO3.heap hB2.out (fun h => h))
      have hG3 := Lib.hid (hO3.heap hG.out (fun h => h))
      have hOO := Lib.hid (hO2.out.trans' hO3)
      clear hO3
      go_wp2_with fail
      refine (g2'.out _).mono ?_
      rintro e W4 ⟨rfl, hw4⟩
      rw [hw4] at hB3 hG3 hOO
      clear hw4
      have f0 := row_free hG3.out j
      have d0 : ∃ u, W4.cell? ⟨G, j, none⟩ = some u := ⟨_, row_cell hG3.out (i := j) (List.getElem?_eq_getElem (show j < (two j V).length from by show j < 2; omega))⟩
      obtain ⟨u, d0⟩ := d0
      go_wp2
      go_roundw
      case rel =>
        refine ⟨j + 1, by omega, by go_num, rfl, rfl, ?_, ?_, ?_⟩
        · exact heap_kept_set hB3.out (by have := hlt.out; show B ≠ G; omega) _
        · rw [show (two (j + 1) V).toArray = ((two j V).set j (.int .i64 (V j))).toArray by
            have : j = 0 ∨ j = 1 := by omega
            rcases this with rfl | rfl <;> rfl]
          exact row_set hG3.out j _
        · exact hOO.out.trans ((Only.refl (fun k => k = G) W4).setCell (p := ⟨G, j, none⟩) (fun _ => rfl) _) (fun y hy e => by have := hlt.out; have := hB'.out; omega)
      case measure => simp [intOf]; omega
    · obtain rfl : j = c := by omega
      have hjc' : ¬ (j : Int) < (j : Int) := by omega
      rw [hM'.out]
      have r0 : ws.cell? ⟨G, 0, none⟩ = some (.int .i64 x.a) := row_cell hG.out (by rw [hx'.out]; rfl)
      have r1 : ws.cell? ⟨G, 1, none⟩ = some (.int .i64 x.b) := row_cell hG.out (by rw [hx'.out]; rfl)
      have b0 := row_cell hB2.out (i := 0) rfl
      have b1 := row_cell hB2.out (i := 1) rfl
      have b2 := row_cell hB2.out (i := 2) rfl
      have e0 := row_free hB2.out 0
      have e1 := row_free hB2.out 1
      have e2 := row_free hB2.out 2
      have hne : (G = B) = False := by have := hlt.out; simp; omega
      have hk : x.k = (k : Int) := by rw [hx'.out]
      go_wp2
      refine bodyPost_ret (v := .tuple #[x.val, .bool true]) (by simp [results, Tryz.results97, go_sem, Opn.val, b0, b1, b2, hk]) rfl ⟨rfl, ?_⟩
      exact hO2.out.trans ((((Only.refl (fun k => k = B) ws).setCell (p := ⟨B, 0, none⟩) (fun _ => rfl) _).setCell (p := ⟨B, 1, none⟩) (fun _ => rfl) _).setCell (p := ⟨B, 2, none⟩) (fun _ => rfl) _) (fun y hy e => by have := hB'.out; omega)

/-- The text of an operation that has one. -/
def oneT (x : Opn) : List UInt8 := wname x.k.toNat ++ ((if 0 < numZ x.k then 32 :: Lib.decDigits x.a.toNat else []) ++ (if 1 < numZ x.k then 32 :: Lib.decDigits x.b.toNat else []))
/-- An operation whose text is read: of a kind, its numbers short. -/
structure Short (x : Opn) : Prop where
  k1 : 1 ≤ x.k
  k2 : x.k ≤ 15
  a0 : 0 ≤ x.a
  a1 : x.a < 1000000000
  b0 : 0 ≤ x.b
  b1 : x.b < 1000000000
  ha : numZ x.k < 1 → x.a = 0
  hb : numZ x.k < 2 → x.b = 0
theorem opOf_any {w : World} (hb : Bas w) (x : Opn) (hx : Short x) : Calls Tryz.prog 97 #[.string (toBA (oneT x))] w (OpEnd x true w) := by
  obtain ⟨k, a, b⟩ := x
  obtain ⟨k1, k2, a0, a1, b0, b1, ha, hbb⟩ := hx
  simp only at *
  obtain ⟨k, rfl⟩ : ∃ n : Nat, k = n := ⟨k.toNat, by omega⟩
  obtain ⟨a, rfl⟩ : ∃ n : Nat, a = n := ⟨a.toNat, by omega⟩
  obtain ⟨b, rfl⟩ : ∃ n : Nat, b = n := ⟨b.toNat, by omega⟩
  have n1 : 1 ≤ k := by omega
  have n2 : k ≤ 15 := by omega
  have hz := numZ_in n1 n2
  have hf := wname_fit k (by omega)
  have hda := dec_nine (u := a) (by omega)
  have hdb := dec_nine (u := b) (by omega)
  have hna := dec_no 32 (by decide) a
  have hnb := dec_no 32 (by decide) b
  have key : wnums.getD k 0 = ((0 : Nat) : Int) ∨ wnums.getD k 0 = ((1 : Nat) : Int) ∨ wnums.getD k 0 = ((2 : Nat) : Int) := by
    have hk : k = 1 ∨ k = 2 ∨ k = 3 ∨ k = 4 ∨ k = 5 ∨ k = 6 ∨ k = 7 ∨ k = 8 ∨ k = 9 ∨ k = 10 ∨ k = 11 ∨ k = 12 ∨ k = 13 ∨ k = 14 ∨ k = 15 := by omega
    rcases hk with rfl | rfl | rfl | rfl | rfl | rfl | rfl | rfl | rfl | rfl | rfl | rfl | rfl | rfl | rfl <;> decide
  rcases key with hc | hc | hc
  · have e1 : (a : Int) = 0 := ha (by rw [hz, hc]; decide)
    have e2 : (b : Int) = 0 := hbb (by rw [hz, hc]; decide)
    have ht : oneT ⟨k, a, b⟩ = wname k := by
      unfold oneT
      simp only [hz, hc, Int.toNat_natCast]
      simp
    rw [ht]
    exact opOf_gen hb k n1 n2 0 hc (by omega) (wname k) (fun _ => []) (fun _ => []) (fun _ => false) (fun _ => 0) (fun W hW => cut_no (hb.new hW) 32 (wname k) hf.1 (by omega)) (fun j hj => by omega) rfl _ (by simp [e1, e2])
  · have e2 : (b : Int) = 0 := hbb (by rw [hz, hc]; decide)
    have ht : oneT ⟨k, a, b⟩ = wname k ++ 32 :: Lib.decDigits a := by
      unfold oneT
      simp only [hz, hc, Int.toNat_natCast]
      simp
    rw [ht]
    refine opOf_gen hb k n1 n2 1 hc (by omega) _ (fun j => if j = 0 then Lib.decDigits a else []) (fun _ => Lib.decDigits a) (fun j => decide (j = 0)) (fun _ => a) (fun W hW => cut_yes (hb.new hW) 32 (wname k) _ hf.1 (by simp; omega)) (fun j hj => ?_) rfl _ (by simp [e2])
    obtain rfl : j = 0 := by omega
    exact ⟨fun W hW => cut_no (hb.new hW) 32 (Lib.decDigits a) hna (by omega), fun W => number_dec a (by omega) W⟩
  · have ht : oneT ⟨k, a, b⟩ = wname k ++ 32 :: (Lib.decDigits a ++ 32 :: Lib.decDigits b) := by
      unfold oneT
      simp only [hz, hc, Int.toNat_natCast]
      simp
    rw [ht]
    refine opOf_gen hb k n1 n2 2 hc (by omega) _ (fun j => if j = 0 then Lib.decDigits a ++ 32 :: Lib.decDigits b else if j = 1 then Lib.decDigits b else []) (fun j => if j = 0 then Lib.decDigits a else Lib.decDigits b) (fun j => decide (j < 2)) (fun j => if j = 0 then a else b) (fun W hW => cut_yes (hb.new hW) 32 (wname k) _ hf.1 (by simp; omega)) (fun j hj => ?_) rfl _ (by simp)
    have hj2 : j = 0 ∨ j = 1 := by omega
    rcases hj2 with rfl | rfl
    · exact ⟨fun W hW => cut_yes (hb.new hW) 32 (Lib.decDigits a) (Lib.decDigits b) hna (by omega), fun W => number_dec a (by omega) W⟩
    · exact ⟨fun W hW => cut_no (hb.new hW) 32 (Lib.decDigits b) hnb (by omega), fun W => number_dec b (by omega) W⟩
end Go.Proofs.YtbjpnjgkpkfngaaGreatDoor
