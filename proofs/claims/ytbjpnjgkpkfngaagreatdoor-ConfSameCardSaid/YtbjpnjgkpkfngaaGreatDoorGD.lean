/- Numbers are read of their digits. -/
import Derived.Test.YtbjpnjgkpkfngaaGreatDoorGC
import Derived.BigRegion
namespace Go.Proofs.YtbjpnjgkpkfngaaGreatDoor
open Go Go.RowKit

theorem decFrom_dig : ∀ (l : List UInt8) (acc : Nat), (∀ b ∈ l, isDig b) → ∃ m : Nat, Lib.decFrom acc l = some m ∧ (m : Int) = l.foldl (fun n b => 10 * n + ((b.toNat : Int) - 48)) (acc : Int)
  | [], acc, _ => ⟨acc, rfl, rfl⟩
  | b :: r, acc, h => by
    have hb := h b (List.mem_cons_self ..)
    unfold isDig at hb
    obtain ⟨m, h1, h2⟩ := decFrom_dig r (acc * 10 + (b.toNat - 48)) (fun x hx => h x (List.mem_cons_of_mem _ hx))
    refine ⟨m, ?_, ?_⟩
    · rw [Lib.decFrom, Lib.digitVal, if_pos hb]
      exact h1
    · rw [h2, List.foldl_cons]
      congr 1
      omega
theorem atoi_dec (u : Nat) : Lib.atoi (Lib.decDigits u) = some (u : Int) := by
  obtain ⟨m, h1, h2⟩ := decFrom_dig (Lib.decDigits u) 0 (dec_dig u)
  have hv := dec_val u
  unfold valD at hv
  have hm : m = u := by
    have : (m : Int) = u := h2.trans hv
    omega
  subst hm
  have hp := dec_pos m
  have hd := dec_dig m
  have hn : Lib.decNat (Lib.decDigits m) = some m := by
    unfold Lib.decNat
    rw [if_neg (by cases h : Lib.decDigits m with | nil => rw [h] at hp; simp at hp | cons => simp)]
    exact h1
  generalize Lib.decDigits m = l at hp hd hn
  cases l with
  | nil => simp at hp
  | cons b r =>
    have hb := hd b (List.mem_cons_self ..)
    unfold isDig at hb
    have e1 : (b == 45) = false := beq_eq_false_iff_ne.2 (fun h => by subst h; revert hb; decide)
    have e2 : (b == 43) = false := beq_eq_false_iff_ne.2 (fun h => by subst h; revert hb; decide)
    rw [Lib.atoi, e1, e2, hn]
    rfl
theorem only_bytes (w : World) (e : TypeId) (s : ByteArray) : Only (fun _ => False) w (Lib.bytesWorld w e s) := by
  refine ⟨?_, ?_, ?_, by rw [Lib.bytesWorld_size]; omega, fun k hk _ => Lib.bytesWorld_at_old w e s k hk⟩
  all_goals
    unfold Lib.bytesWorld World.freeze
    split <;> rfl

def NumEnd (u : Nat) (w : World) (e : Ending) (w' : World) : Prop := e = .returned (.tuple #[.int .i64 u, .bool true]) ∧ Only (fun _ => False) w w'
set_option maxRecDepth 100000 in
theorem cnumber_any {w : World} (hb : Bas w) (u : Nat) (h : u < 1000000000) : Calls Tryz.prog 81 #[.string (toBA (Lib.decDigits u))] w (NumEnd u w) := by
  have h9 := dec_nine h
  have q1 := Lib.hid (Tryz.strconv_Atoi (toBA (Lib.decDigits u)) u (by rw [toBA_size]; omega) (atoi_dec u) w)
  have q2 := Lib.hid (fun W (hW : Only (fun _ => False) w W) => itoa_any (hb.new hW) u (by unfold fitI; omega))
  have hs : (toBA (Lib.decDigits u)).size ≤ 9 := by rw [toBA_size]; exact h9
  obtain ⟨D, hD⟩ : ∃ D, D = toBA (Lib.decDigits u) := ⟨_, rfl⟩
  rw [← hD] at q1 q2 hs ⊢
  have hu0 : (0 : Int) ≤ (u : Int) := Int.natCast_nonneg u
  clear hD hb h9
  go_enter Tryz.func81, Tryz.ntmps81
  go_wp2_with fail
  refine q1.out.mono ?_
  rintro e w1 ⟨rfl, t, rfl⟩
  have hO1 := Lib.hid (only_bytes w 5 t)
  generalize Lib.bytesWorld w 5 t = w1 at hO1 ⊢
  go_wp2_with fail
  refine (q2.out _ hO1.out).mono ?_
  rintro e w2 ⟨rfl, hO2⟩
  have hO2' := Lib.hid (hO1.out.trans' hO2)
  clear hO2
  go_wp2
  go_ret2
  exact ⟨rfl, hO2'.out⟩

theorem trim_yes (p r : List UInt8) : Lib.trimPrefix (p ++ r) p = r ∧ Lib.hasPrefix (p ++ r) p = true := by
  have h : Lib.hasPrefix (p ++ r) p = true := by unfold Lib.hasPrefix; simp
  refine ⟨?_, h⟩
  unfold Lib.trimPrefix
  rw [if_pos h, List.drop_left]
def CpEnd (r : List UInt8) (b : Bool) (w : World) (e : Ending) (w' : World) : Prop := e = .returned (.tuple #[.string (toBA r), .bool b]) ∧ w = w'
theorem cp_yes (p r : List UInt8) (w : World) : Calls Tryz.prog 58 #[.string (toBA (p ++ r)), .string (toBA p)] w (CpEnd r true w) := by
  refine (Tryz.strings_CutPrefix (toBA (p ++ r)) (toBA p) w).mono ?_
  rintro e w' ⟨rfl, rfl⟩
  rw [show (toBA (p ++ r)).data.toList = p ++ r from rfl, show (toBA p).data.toList = p from rfl, (trim_yes p r).1, (trim_yes p r).2]
  exact ⟨rfl, rfl⟩
theorem cp_no (s p : List UInt8) (h : Lib.hasPrefix s p = false) (w : World) : Calls Tryz.prog 58 #[.string (toBA s), .string (toBA p)] w (CpEnd s false w) := by
  refine (Tryz.strings_CutPrefix (toBA s) (toBA p) w).mono ?_
  rintro e w' ⟨rfl, rfl⟩
  rw [show (toBA s).data.toList = s from rfl, show (toBA p).data.toList = p from rfl, h]
  refine ⟨?_, rfl⟩
  unfold Lib.trimPrefix
  rw [if_neg (by rw [h]; simp)]
  rfl

/-- What stands behind numbers: nothing, or a blank and whatever. -/
def TailOk (t : List UInt8) : Prop := t = [] ∨ ∃ r, t = 32 :: r
/-- What is left of numbers behind the first k. -/
def leftN (l : List Int) (t : List UInt8) (k : Nat) : List UInt8 := numsL (l.drop k) ++ t
theorem leftN_at {l : List Int} {t : List UInt8} {k : Nat} {z : Int} (h : l[k]? = some z) : leftN l t k = 32 :: (Lib.decDigits z.toNat ++ leftN l t (k + 1)) := by
  unfold leftN
  have hk : k < l.length := (List.getElem?_eq_some_iff.1 h).1
  have e : l.drop k = z :: l.drop (k + 1) := by
    rw [List.drop_eq_getElem_cons hk]
    congr 1
    exact (List.getElem?_eq_some_iff.1 h).2
  rw [e]
  simp [numsL]
theorem leftN_end (l : List Int) (t : List UInt8) : leftN l t l.length = t := by simp [leftN, numsL]
theorem leftN_tail (l : List Int) (t : List UInt8) (ht : TailOk t) (k : Nat) : TailOk (leftN l t k) := by
  by_cases hk : k < l.length
  · exact .inr ⟨_, leftN_at (List.getElem?_eq_getElem hk)⟩
  · unfold leftN
    rw [List.drop_eq_nil_of_le (by omega)]
    simpa [numsL] using ht
theorem leftN_len (l : List Int) (t : List UInt8) (h : Few9 l) (k : Nat) : (leftN l t k).length ≤ l.length * 10 + t.length := by
  have h1 := numsL_len (l.drop k) (fun n hn => h n (List.mem_of_mem_drop hn))
  rw [List.length_drop] at h1
  unfold leftN
  rw [List.length_append]
  have : (l.length - k) * 10 ≤ l.length * 10 := Nat.mul_le_mul_right _ (by omega)
  omega
/-- The first number's digits are cut off at the next blank. -/
def CutTo (d : List UInt8) (w : World) (e : Ending) (w' : World) : Prop := ∃ r b, e = .returned (.tuple #[.string (toBA d), .string (toBA r), .bool b]) ∧ Only (fun _ => False) w w'
theorem cut_digits {w : World} (hb : Bas w) (u : Nat) (t : List UInt8) (ht : TailOk t) (hu : u < 1000000000) (hl : t.length ≤ 100000) : Calls Tryz.prog 59 #[.string (toBA (Lib.decDigits u ++ t)), .string ⟨#[32]⟩] w (CutTo (Lib.decDigits u) w) := by
  have hno := dec_no 32 (.inl (by decide)) u
  have h9 := dec_nine hu
  rcases ht with rfl | ⟨r, rfl⟩
  · rw [List.append_nil]
    exact (cut_no hb 32 _ hno (by omega)).mono fun e w' ⟨h1, h2⟩ => ⟨_, _, h1, h2⟩
  · exact (cut_yes hb 32 _ r hno (by simp at hl; omega)).mono fun e w' ⟨h1, h2⟩ => ⟨_, _, h1, h2⟩
end Go.Proofs.YtbjpnjgkpkfngaaGreatDoor
namespace Go.Proofs.YtbjpnjgkpkfngaaGreatDoor
open Go Go.RowKit

def NumsEnd (l : List Int) (t : List UInt8) (w : World) (e : Ending) (w' : World) : Prop :=
  ∃ p cap h, e = .returned (.tuple #[.slice p l.length cap, .string (toBA t), .bool true]) ∧ Win w' 3 1 (.slice p l.length cap) h l.length (l.map mkI) ∧ (∀ k, h = some k → w.heap.size ≤ k) ∧ Only (fun _ => False) w w'
theorem row_oneI {w : World} {X : Nat} {a : Value} {e : TypeId} (h : w.heap[X]? = some (.cells #[a] e (0, 0))) : ∀ j u, [a][j]? = some u → w.cell? ((⟨X, 0, none⟩ : Addr).add j) = some u := fun j u hu => by
  rw [Addr.add_lit, Nat.zero_add]
  exact row_cell (L := [a]) h hu

theorem extract_app (a b : List UInt8) : (toBA (a ++ b)).extract (toBA a).size (toBA (a ++ b)).size = toBA b := by
  have h : ((toBA (a ++ b)).extract (toBA a).size (toBA (a ++ b)).size).data = (toBA b).data := by
    rw [ByteArray.data_extract]
    show ((a ++ b).toArray).extract (toBA a).size (toBA (a ++ b)).size = b.toArray
    rw [toBA_size, toBA_size]
    simp
  cases hx : (toBA (a ++ b)).extract (toBA a).size (toBA (a ++ b)).size
  rw [hx] at h
  simp only at h
  subst h
  rfl

set_option maxRecDepth 100000 in
set_option maxHeartbeats 1000000 in
theorem numbersOf_any {w : World} (hb : Bas w) (l : List Int) (t : List UInt8) (h9 : Few9 l) (ht : TailOk t) (hn : l.length ≤ 10) (htl : t.length ≤ 10000) : Calls Tryz.prog 60 #[.string (toBA (leftN l t 0)), .int .i64 l.length] w (NumsEnd l t w) := by
  have hb' := Lib.hid hb
  have h9' := Lib.hid h9
  have ht' := Lib.hid ht
  obtain ⟨n, hnn⟩ : ∃ n, n = l.length := ⟨_, rfl⟩
  have hn' := Lib.hid hnn
  rw [← hnn] at hn ⊢
  clear hb h9 ht hnn
  go_enter Tryz.func60, Tryz.ntmps60
  go_wp2
  go_loopw [0, 7, 16] (fun s v i wr => ∃ (k : Nat) (p : Option Addr) (cap : Nat) (h : Option Nat), k ≤ n ∧ i = .int .i64 k ∧ s = .string (toBA (leftN l t k)) ∧ v = .slice p k cap ∧ Win wr 3 1 (.slice p k cap) h k ((l.take k).map mkI) ∧ (∀ k, h = some k → w.heap.size ≤ k) ∧ Only (fun _ => False) w wr) (fun _ _ i _ => n - (intOf i).toNat)
  case atStart => exact ⟨0, none, 0, none, Nat.zero_le _, rfl, rfl, rfl, Win.nil _ _ _, (fun k hk => by cases hk), Only.refl _ _⟩
  case round =>
    obtain ⟨k, p, cap, h, hk, rfl, rfl, rfl, hW, hf, hO⟩ := hrel
    obtain ⟨ws, hws⟩ : ∃ ws : World, ws = wr := ⟨_, rfl⟩
    subst hws
    have hS := Lib.hid (And.intro hW (And.intro hf hO))
    clear hW hf hO
    by_cases hkn : k < n
    · have hkn' : (k : Int) < (n : Int) := by omega
      obtain ⟨z, hz⟩ : ∃ z, l[k]? = some z := ⟨_, List.getElem?_eq_getElem (by have := hn'.out; omega)⟩
      have hz9 := h9'.out z (List.mem_of_getElem? hz)
      have hlen := leftN_len l t h9'.out (k + 1)
      have hd9 := dec_nine (u := z.toNat) (by omega)
      have hcp := Lib.hid (cp_yes [32] (Lib.decDigits z.toNat ++ leftN l t (k + 1)) ws)
      rw [show [32] ++ (Lib.decDigits z.toNat ++ leftN l t (k + 1)) = leftN l t k from (leftN_at hz).symm, show toBA [32] = (⟨#[32]⟩ : ByteArray) from rfl] at hcp
      have hcut := Lib.hid (cut_digits (hb'.out.new hS.out.2.2) z.toNat (leftN l t (k + 1)) (leftN_tail l t ht'.out _) (by omega) (by have := hn'.out; omega))
      have hnum := Lib.hid (fun W (hW : Only (fun _ => False) ws W) => cnumber_any ((hb'.out.new hS.out.2.2).new hW) z.toNat (by omega))
      unfold NumEnd at hnum
      rw [Int.toNat_of_nonneg hz9.1] at hnum
      unfold CpEnd at hcp
      obtain ⟨S, hSS⟩ : ∃ S, S = toBA (leftN l t k) := ⟨_, rfl⟩
      obtain ⟨D, hD⟩ : ∃ S, S = toBA (Lib.decDigits z.toNat) := ⟨_, rfl⟩
      obtain ⟨B, hB⟩ : ∃ S, S = toBA (Lib.decDigits z.toNat ++ leftN l t (k + 1)) := ⟨_, rfl⟩
      rw [← hSS, ← hB] at hcp
      rw [← hSS]
      rw [← hB] at hcut
      unfold CutTo at hcut
      rw [← hD] at hcut hnum
      have hDs : D.size ≤ B.size := by rw [hD, hB, toBA_size, toBA_size, List.length_append]; omega
      have hE := Lib.hid (And.intro hD (And.intro hB hz))
      clear hSS hD hB hz
      go_wp2_with fail
      refine hcp.out.mono ?_
      rintro e w' ⟨rfl, rfl⟩
      go_wp2_with fail
      refine hcut.out.mono ?_
      rintro e w1 ⟨r, bb, rfl, hO1⟩
      have hO1' := Lib.hid hO1
      clear hO1
      go_wp2_with fail
      refine (hnum.out _ hO1'.out).mono ?_
      rintro e w2 ⟨rfl, hO2⟩
      have hO2' := Lib.hid (hO1'.out.trans' hO2)
      clear hO2
      go_wp2_with (at_builtin; refine wpList_append_win rfl _ _ 24 rfl 3 (Value.int .i64 0) 1 8 Tryz.underlying24 infoI rfl (by decide) rfl (hS.out.1.kept (hO2'.out.alloc _) (fun _ _ h => h)) _ 1 1 rfl [Value.int .i64 z] rfl (fun _ => ⟨_, rfl, row_oneI (heap_new_at _ _ rfl)⟩) (by simp [Value.oneCell']) (by unfold maxLen; omega) (by omega) ?_; intro v4 w4 h4 hW4 hO4 hh4; obtain ⟨p4, c4, rfl, _, _⟩ := hW4.out.form)
      go_roundw
      case rel =>
        obtain ⟨hD, hB, hz⟩ := hE.out
        have hs := hS.out.2.2.size
        have hs2 := hO2'.out.size
        refine ⟨k + 1, p4, c4, h4, by omega, by go_num, ?_, rfl, ?_, ?_, ?_⟩
        · rw [hB, hD, extract_app]
        · rw [list_take_snoc hz, List.map_append]
          exact hW4.out
        · intro j hj
          rcases hh4.out with rfl | ⟨g, hg, hge⟩
          · exact hS.out.2.1 j hj
          · rw [hg] at hj
            cases hj
            rw [alloc_size] at hge
            omega
        · have h1 : Only (fun _ => False) w (w2.alloc (.cells #[.int .i64 z] 3)) := (hS.out.2.2.trans' hO2'.out).alloc _
          exact h1.trans hO4.out (fun x hx e => by have := hS.out.2.1 x e.symm; omega)
      case measure => simp [intOf]; omega
    · obtain rfl : k = n := by omega
      have hend := Lib.hid (show leftN l t k = t from by rw [hn'.out, leftN_end])
      have hall := Lib.hid (show l.take k = l from List.take_of_length_le (by have := hn'.out; omega))
      go_wp2
      refine bodyPost_ret (v := .tuple #[.slice p k cap, .string (toBA t), .bool true]) (by rw [hend.out]; simp [results, Tryz.results60, go_sem]) rfl ?_
      obtain ⟨hW, hf, hO⟩ := hS.out
      rw [hall.out] at hW
      unfold NumsEnd
      rw [← hn'.out]
      exact ⟨p, cap, h, rfl, hW, hf, hO⟩
end Go.Proofs.YtbjpnjgkpkfngaaGreatDoor
namespace Go.Proofs.YtbjpnjgkpkfngaaGreatDoor
open Go Go.RowKit

/-- The draft's block. -/
def DraftAt (w : World) (D : Nat) (c : ConfV) (rest : List UInt8) : Prop := w.heap[D]? = some (.cells (c.cells ++ [Value.string (toBA rest)]).toArray 57 (0, 0))
theorem DraftAt.cells {w : World} {D : Nat} {c : ConfV} {rest : List UInt8} (h : DraftAt w D c rest) :
    w.cell? ⟨D, 0, none⟩ = some (.int .i64 c.s) ∧ w.cell? ⟨D, 1, none⟩ = some (.int .i64 c.wy) ∧ w.cell? ⟨D, 2, none⟩ = some (.int .i64 c.h) ∧ w.cell? ⟨D, 3, none⟩ = some (.int .i64 c.mi) ∧ w.cell? ⟨D, 4, none⟩ = some (.slice c.mb.A c.mb.n c.mb.cap) ∧
    w.cell? ⟨D, 5, none⟩ = some (.int .i64 c.g) ∧ w.cell? ⟨D, 6, none⟩ = some (.slice c.cn.A c.cn.n c.cn.cap) ∧ w.cell? ⟨D, 7, none⟩ = some (.slice c.ce.A c.ce.n c.ce.cap) ∧ w.cell? ⟨D, 8, none⟩ = some (.slice c.ta.A c.ta.n c.ta.cap) ∧ w.cell? ⟨D, 9, none⟩ = some (.slice c.li.A c.li.n c.li.cap) ∧
    w.cell? ⟨D, 10, none⟩ = some (.string (toBA rest)) ∧ (∀ i, w.frozen? ⟨D, i, none⟩ = false) ∧ D < w.heap.size :=
  ⟨row_cell h (i := 0) rfl, row_cell h (i := 1) rfl, row_cell h (i := 2) rfl, row_cell h (i := 3) rfl, row_cell h (i := 4) rfl, row_cell h (i := 5) rfl, row_cell h (i := 6) rfl, row_cell h (i := 7) rfl, row_cell h (i := 8) rfl, row_cell h (i := 9) rfl, row_cell h (i := 10) rfl, fun i => row_free h i, row_lt h⟩
theorem DraftAt.kept {S : Nat → Prop} {w w' : World} {D : Nat} {c : ConfV} {rest : List UInt8} (h : DraftAt w D c rest) (ho : Only S w w') (hS : ¬ S D) : DraftAt w' D c rest := ho.heap h hS
/-- A block of a draft is no row of other elements. -/
theorem DraftAt.ne {w : World} {D : Nat} {c : ConfV} {rest : List UInt8} (h : DraftAt w D c rest) {e : TypeId} {sz n : Nat} {v : Value} {hh : Option Nat} {xs : List Value} (hW : Win w e sz v hh n xs) (he : e ≠ 57) : hh ≠ some D := fun hk => by
  obtain ⟨_, _, _, _, _, _, a⟩ := hW
  rcases a with a | ⟨g, _, L, hg, _, hg2, _⟩
  · rw [a.1] at hk; cases hk
  · rw [hg] at hk
    cases hk
    unfold DraftAt at h
    rw [h] at hg2
    simp at hg2
    exact he hg2.2.symm

def mailboxWith (c : ConfV) (x : Sl) : ConfV := { c with mb := x }
def mailboxEnd (w : World) (D : Nat) (c : ConfV) (rest : List UInt8) (h : Option Nat) (xs : List Int) (z : Int) (e : Ending) (w' : World) : Prop :=
  ∃ p cap h', e = .returned (.bool true) ∧ DraftAt w' D (mailboxWith c ⟨p, xs.length + 1, cap⟩) rest ∧ Win w' 3 1 (.slice p (xs.length + 1) cap) h' (xs.length + 1) ((xs ++ [z]).map mkI) ∧ (h' = h ∨ ∃ g, h' = some g ∧ w.heap.size ≤ g) ∧ Only (fun k => k = D ∨ some k = h) w w'
set_option maxRecDepth 100000 in
set_option maxHeartbeats 1000000 in
theorem mailbox_take {w : World} {D : Nat} {c : ConfV} {rest : List UInt8} {h : Option Nat} {xs : List Int} {z : Int} {q : Option Addr} {qc : Nat} {hq : Option Nat} (hd : DraftAt w D c rest) (hx : c.mb.n = xs.length) (hW : Win w 3 1 (.slice c.mb.A c.mb.n c.mb.cap) h c.mb.n (xs.map mkI)) (hQ : Win w 3 1 (.slice q 1 qc) hq 1 [mkI z]) (hn : xs.length ≤ 1000) :
    Calls Tryz.prog 52 #[.pointer (some ⟨D, 0, none⟩), .string ⟨#[]⟩, .slice q 1 qc] w (mailboxEnd w D c rest h xs z) := by
  obtain ⟨e0, e1, e2, e3, e4, e5, e6, e7, e8, e9, e10, hfz, hlt⟩ := hd.cells
  have fz := hfz 4
  have hne := hd.ne hW (by decide)
  have hd' := Lib.hid hd
  have hsrc := Lib.hid hQ.src
  have hW' := Lib.hid hW
  have hx' := Lib.hid hx
  have hn' : c.mb.n ≤ 1000 := by omega
  have hlt63 : c.mb.n + 1 ≤ maxLen := by unfold maxLen; omega
  clear hd hfz hW hQ hx
  go_enter Tryz.func52, Tryz.ntmps52
  go_wp2_with (at_builtin; refine wpList_append_win rfl _ _ 24 rfl 3 (Value.int .i64 0) 1 8 Tryz.underlying24 infoI rfl (by decide) rfl hW'.out q 1 qc rfl [mkI z] rfl hsrc.out (by simp [Value.oneCell', mkI]) hlt63 (by omega) ?_; intro v4 w4 h4 hW4 hO4 hh4; obtain ⟨p4, c4, rfl, _, _⟩ := hW4.out.form; have f4 := Lib.hid (hd'.out.kept hO4.out (fun e => hne e.symm)); have fz4 := row_free f4.out 4; obtain ⟨u4, hu4⟩ : ∃ u, w4.cell? ⟨D, 4, none⟩ = some u := ⟨_, row_cell f4.out (i := 4) rfl⟩)
  go_ret
  have hset := row_set f4.out 4 (.slice p4 (c.mb.n + 1) c4)
  have o5 : Only (fun k => k = D) w4 (w4.setCell ⟨D, 4, none⟩ (.slice p4 (c.mb.n + 1) c4)) := (Only.refl (fun k => k = D) w4).setCell (p := ⟨D, 4, none⟩) (fun _ => rfl) _
  refine ⟨p4, c4, h4, rfl, ?_, ?_, hh4.out, (hO4.out.mono (fun _ _ h => .inr h)).trans o5 (fun _ _ h => .inl h)⟩
  · rw [← hx'.out]
    exact hset
  · rw [← hx'.out, List.map_append]
    exact hW4.out.kept o5 (fun k hk e => by
      subst e
      rcases hh4.out with rfl | ⟨g, rfl, hge⟩
      · exact hne hk
      · cases hk
        omega)

def countWith (c : ConfV) (x : Sl) : ConfV := { c with cn := x }
def countEnd (w : World) (D : Nat) (c : ConfV) (rest : List UInt8) (h : Option Nat) (xs : List Int) (z : Int) (e : Ending) (w' : World) : Prop :=
  ∃ p cap h', e = .returned (.bool true) ∧ DraftAt w' D (countWith c ⟨p, xs.length + 1, cap⟩) rest ∧ Win w' 3 1 (.slice p (xs.length + 1) cap) h' (xs.length + 1) ((xs ++ [z]).map mkI) ∧ (h' = h ∨ ∃ g, h' = some g ∧ w.heap.size ≤ g) ∧ Only (fun k => k = D ∨ some k = h) w w'
set_option maxRecDepth 100000 in
set_option maxHeartbeats 1000000 in
theorem count_take {w : World} {D : Nat} {c : ConfV} {rest : List UInt8} {h : Option Nat} {xs : List Int} {z : Int} {q : Option Addr} {qc : Nat} {hq : Option Nat} (hd : DraftAt w D c rest) (hx : c.cn.n = xs.length) (hW : Win w 3 1 (.slice c.cn.A c.cn.n c.cn.cap) h c.cn.n (xs.map mkI)) (hQ : Win w 3 1 (.slice q 1 qc) hq 1 [mkI z]) (hn : xs.length ≤ 1000) :
    Calls Tryz.prog 54 #[.pointer (some ⟨D, 0, none⟩), .string ⟨#[]⟩, .slice q 1 qc] w (countEnd w D c rest h xs z) := by
  obtain ⟨e0, e1, e2, e3, e4, e5, e6, e7, e8, e9, e10, hfz, hlt⟩ := hd.cells
  have fz := hfz 6
  have hne := hd.ne hW (by decide)
  have hd' := Lib.hid hd
  have hsrc := Lib.hid hQ.src
  have hW' := Lib.hid hW
  have hx' := Lib.hid hx
  have hn' : c.cn.n ≤ 1000 := by omega
  have hlt63 : c.cn.n + 1 ≤ maxLen := by unfold maxLen; omega
  clear hd hfz hW hQ hx
  go_enter Tryz.func54, Tryz.ntmps54
  go_wp2_with (at_builtin; refine wpList_append_win rfl _ _ 24 rfl 3 (Value.int .i64 0) 1 8 Tryz.underlying24 infoI rfl (by decide) rfl hW'.out q 1 qc rfl [mkI z] rfl hsrc.out (by simp [Value.oneCell', mkI]) hlt63 (by omega) ?_; intro v4 w4 h4 hW4 hO4 hh4; obtain ⟨p4, c4, rfl, _, _⟩ := hW4.out.form; have f4 := Lib.hid (hd'.out.kept hO4.out (fun e => hne e.symm)); have fz4 := row_free f4.out 6; obtain ⟨u4, hu4⟩ : ∃ u, w4.cell? ⟨D, 6, none⟩ = some u := ⟨_, row_cell f4.out (i := 6) rfl⟩)
  go_ret
  have hset := row_set f4.out 6 (.slice p4 (c.cn.n + 1) c4)
  have o5 : Only (fun k => k = D) w4 (w4.setCell ⟨D, 6, none⟩ (.slice p4 (c.cn.n + 1) c4)) := (Only.refl (fun k => k = D) w4).setCell (p := ⟨D, 6, none⟩) (fun _ => rfl) _
  refine ⟨p4, c4, h4, rfl, ?_, ?_, hh4.out, (hO4.out.mono (fun _ _ h => .inr h)).trans o5 (fun _ _ h => .inl h)⟩
  · rw [← hx'.out]
    exact hset
  · rw [← hx'.out, List.map_append]
    exact hW4.out.kept o5 (fun k hk e => by
      subst e
      rcases hh4.out with rfl | ⟨g, rfl, hge⟩
      · exact hne hk
      · cases hk
        omega)

def ceilingWith (c : ConfV) (x : Sl) : ConfV := { c with ce := x }
def ceilingEnd (w : World) (D : Nat) (c : ConfV) (rest : List UInt8) (h : Option Nat) (xs : List Int) (z : Int) (e : Ending) (w' : World) : Prop :=
  ∃ p cap h', e = .returned (.bool true) ∧ DraftAt w' D (ceilingWith c ⟨p, xs.length + 1, cap⟩) rest ∧ Win w' 3 1 (.slice p (xs.length + 1) cap) h' (xs.length + 1) ((xs ++ [z]).map mkI) ∧ (h' = h ∨ ∃ g, h' = some g ∧ w.heap.size ≤ g) ∧ Only (fun k => k = D ∨ some k = h) w w'
set_option maxRecDepth 100000 in
set_option maxHeartbeats 1000000 in
theorem ceiling_take {w : World} {D : Nat} {c : ConfV} {rest : List UInt8} {h : Option Nat} {xs : List Int} {z : Int} {q : Option Addr} {qc : Nat} {hq : Option Nat} (hd : DraftAt w D c rest) (hx : c.ce.n = xs.length) (hW : Win w 3 1 (.slice c.ce.A c.ce.n c.ce.cap) h c.ce.n (xs.map mkI)) (hQ : Win w 3 1 (.slice q 1 qc) hq 1 [mkI z]) (hn : xs.length ≤ 1000) :
    Calls Tryz.prog 55 #[.pointer (some ⟨D, 0, none⟩), .string ⟨#[]⟩, .slice q 1 qc] w (ceilingEnd w D c rest h xs z) := by
  obtain ⟨e0, e1, e2, e3, e4, e5, e6, e7, e8, e9, e10, hfz, hlt⟩ := hd.cells
  have fz := hfz 7
  have hne := hd.ne hW (by decide)
  have hd' := Lib.hid hd
  have hsrc := Lib.hid hQ.src
  have hW' := Lib.hid hW
  have hx' := Lib.hid hx
  have hn' : c.ce.n ≤ 1000 := by omega
  have hlt63 : c.ce.n + 1 ≤ maxLen := by unfold maxLen; omega
  clear hd hfz hW hQ hx
  go_enter Tryz.func55, Tryz.ntmps55
  go_wp2_with (at_builtin; refine wpList_append_win rfl _ _ 24 rfl 3 (Value.int .i64 0) 1 8 Tryz.underlying24 infoI rfl (by decide) rfl hW'.out q 1 qc rfl [mkI z] rfl hsrc.out (by simp [Value.oneCell', mkI]) hlt63 (by omega) ?_; intro v4 w4 h4 hW4 hO4 hh4; obtain ⟨p4, c4, rfl, _, _⟩ := hW4.out.form; have f4 := Lib.hid (hd'.out.kept hO4.out (fun e => hne e.symm)); have fz4 := row_free f4.out 7; obtain ⟨u4, hu4⟩ : ∃ u, w4.cell? ⟨D, 7, none⟩ = some u := ⟨_, row_cell f4.out (i := 7) rfl⟩)
  go_ret
  have hset := row_set f4.out 7 (.slice p4 (c.ce.n + 1) c4)
  have o5 : Only (fun k => k = D) w4 (w4.setCell ⟨D, 7, none⟩ (.slice p4 (c.ce.n + 1) c4)) := (Only.refl (fun k => k = D) w4).setCell (p := ⟨D, 7, none⟩) (fun _ => rfl) _
  refine ⟨p4, c4, h4, rfl, ?_, ?_, hh4.out, (hO4.out.mono (fun _ _ h => .inr h)).trans o5 (fun _ _ h => .inl h)⟩
  · rw [← hx'.out]
    exact hset
  · rw [← hx'.out, List.map_append]
    exact hW4.out.kept o5 (fun k hk e => by
      subst e
      rcases hh4.out with rfl | ⟨g, rfl, hge⟩
      · exact hne hk
      · cases hk
        omega)

def lineWith (c : ConfV) (x : Sl) : ConfV := { c with li := x }
def lineEnd (w : World) (D : Nat) (c : ConfV) (rest : List UInt8) (h : Option Nat) (xs : List Int) (z : Int) (e : Ending) (w' : World) : Prop :=
  ∃ p cap h', e = .returned (.bool true) ∧ DraftAt w' D (lineWith c ⟨p, xs.length + 1, cap⟩) rest ∧ Win w' 3 1 (.slice p (xs.length + 1) cap) h' (xs.length + 1) ((xs ++ [z]).map mkI) ∧ (h' = h ∨ ∃ g, h' = some g ∧ w.heap.size ≤ g) ∧ Only (fun k => k = D ∨ some k = h) w w'
set_option maxRecDepth 100000 in
set_option maxHeartbeats 1000000 in
theorem line_take {w : World} {D : Nat} {c : ConfV} {rest : List UInt8} {h : Option Nat} {xs : List Int} {z : Int} {q : Option Addr} {qc : Nat} {hq : Option Nat} (hd : DraftAt w D c rest) (hx : c.li.n = xs.length) (hW : Win w 3 1 (.slice c.li.A c.li.n c.li.cap) h c.li.n (xs.map mkI)) (hQ : Win w 3 1 (.slice q 1 qc) hq 1 [mkI z]) (hn : xs.length ≤ 1000) :
    Calls Tryz.prog 57 #[.pointer (some ⟨D, 0, none⟩), .string ⟨#[]⟩, .slice q 1 qc] w (lineEnd w D c rest h xs z) := by
  obtain ⟨e0, e1, e2, e3, e4, e5, e6, e7, e8, e9, e10, hfz, hlt⟩ := hd.cells
  have fz := hfz 9
  have hne := hd.ne hW (by decide)
  have hd' := Lib.hid hd
  have hsrc := Lib.hid hQ.src
  have hW' := Lib.hid hW
  have hx' := Lib.hid hx
  have hn' : c.li.n ≤ 1000 := by omega
  have hlt63 : c.li.n + 1 ≤ maxLen := by unfold maxLen; omega
  clear hd hfz hW hQ hx
  go_enter Tryz.func57, Tryz.ntmps57
  go_wp2_with (at_builtin; refine wpList_append_win rfl _ _ 24 rfl 3 (Value.int .i64 0) 1 8 Tryz.underlying24 infoI rfl (by decide) rfl hW'.out q 1 qc rfl [mkI z] rfl hsrc.out (by simp [Value.oneCell', mkI]) hlt63 (by omega) ?_; intro v4 w4 h4 hW4 hO4 hh4; obtain ⟨p4, c4, rfl, _, _⟩ := hW4.out.form; have f4 := Lib.hid (hd'.out.kept hO4.out (fun e => hne e.symm)); have fz4 := row_free f4.out 9; obtain ⟨u4, hu4⟩ : ∃ u, w4.cell? ⟨D, 9, none⟩ = some u := ⟨_, row_cell f4.out (i := 9) rfl⟩)
  go_ret
  have hset := row_set f4.out 9 (.slice p4 (c.li.n + 1) c4)
  have o5 : Only (fun k => k = D) w4 (w4.setCell ⟨D, 9, none⟩ (.slice p4 (c.li.n + 1) c4)) := (Only.refl (fun k => k = D) w4).setCell (p := ⟨D, 9, none⟩) (fun _ => rfl) _
  refine ⟨p4, c4, h4, rfl, ?_, ?_, hh4.out, (hO4.out.mono (fun _ _ h => .inr h)).trans o5 (fun _ _ h => .inl h)⟩
  · rw [← hx'.out]
    exact hset
  · rw [← hx'.out, List.map_append]
    exact hW4.out.kept o5 (fun k hk e => by
      subst e
      rcases hh4.out with rfl | ⟨g, rfl, hge⟩
      · exact hne hk
      · cases hk
        omega)
end Go.Proofs.YtbjpnjgkpkfngaaGreatDoor
namespace Go.Proofs.YtbjpnjgkpkfngaaGreatDoor
open Go Go.RowKit

def machWith (c : ConfV) (a b h m : Int) : ConfV := { c with s := a, wy := b, h := h, mi := m }
def MachEnd (w : World) (D : Nat) (c : ConfV) (rest : List UInt8) (a1 a2 a3 a4 : Int) (e : Ending) (w' : World) : Prop :=
  e = .returned (.bool true) ∧ DraftAt w' D (machWith c a1 a2 a3 a4) rest ∧ Only (fun k => k = D) w w'
theorem mach_end {w : World} {D : Nat} {c : ConfV} {rest : List UInt8} (hd : DraftAt w D c rest) (a1 a2 a3 a4 : Int) :
    MachEnd w D c rest a1 a2 a3 a4 (.returned (.bool true)) ((((w.setCell ⟨D, 0, none⟩ (.int .i64 a1)).setCell ⟨D, 1, none⟩ (.int .i64 a2)).setCell ⟨D, 2, none⟩ (.int .i64 a3)).setCell ⟨D, 3, none⟩ (.int .i64 a4)) := by
  have h1 := row_set hd 0 (.int .i64 a1)
  have h2 := row_set h1 1 (.int .i64 a2)
  have h3 := row_set h2 2 (.int .i64 a3)
  have h4 := row_set h3 3 (.int .i64 a4)
  refine ⟨rfl, h4, ?_⟩
  exact ((((Only.refl (fun k => k = D) w).setCell (p := ⟨D, 0, none⟩) (fun _ => rfl) _).setCell (p := ⟨D, 1, none⟩) (fun _ => rfl) _).setCell (p := ⟨D, 2, none⟩) (fun _ => rfl) _).setCell (p := ⟨D, 3, none⟩) (fun _ => rfl) _

theorem mach_drew {w W : World} {D : Nat} {c : ConfV} {rest : List UInt8} {a1 a2 a3 a4 : Int} {e : Ending} (h : MachEnd w D c rest a1 a2 a3 a4 e W) : MachEnd w D c rest a1 a2 a3 a4 e W.drew := ⟨h.1, h.2.1, h.2.2.drew⟩
set_option maxRecDepth 100000 in
set_option maxHeartbeats 2000000 in
theorem machine_take {w : World} {D : Nat} {c : ConfV} {rest : List UInt8} {a1 a2 a3 a4 : Int} {q : Option Addr} {qc : Nat} {hq : Option Nat} (hd : DraftAt w D c rest) (hQ : Win w 3 1 (.slice q 4 qc) hq 4 [mkI a1, mkI a2, mkI a3, mkI a4]) :
    Calls Tryz.prog 51 #[.pointer (some ⟨D, 0, none⟩), .string ⟨#[]⟩, .slice q 4 qc] w (MachEnd w D c rest a1 a2 a3 a4) := by
  obtain ⟨e0, e1, e2, e3, e4, e5, e6, e7, e8, e9, e10, hfz, hlt⟩ := hd.cells
  have f0 := hfz 0
  have f1 := hfz 1
  have f2 := hfz 2
  have f3 := hfz 3
  obtain ⟨g, off, cap, _, he, _, _, hg, hc, _⟩ := hQ.at_ (by omega)
  cases he
  have q0 := hc 0 _ rfl
  have q1 := hc 1 _ rfl
  have q2 := hc 2 _ rfl
  have q3 := hc 3 _ rfl
  unfold mkI at q0 q1 q2 q3
  rw [Nat.add_zero] at q0
  have hend := Lib.hid (fun W (hW : W.heap = w.heap) => mach_end (w := W) (by unfold DraftAt; rw [hW]; exact hd) a1 a2 a3 a4)
  clear hd hfz hQ hc
  go_enter Tryz.func51, Tryz.ntmps51
  go_wp2
  go_region
  all_goals
    go_wp2
    go_ret
    first
      | exact hend.out w rfl
      | exact mach_drew (hend.out w rfl)

def grpWith (c : ConfV) (a : Int) : ConfV := { c with g := a }
def GrpEnd (w : World) (D : Nat) (c : ConfV) (rest : List UInt8) (a : Int) (e : Ending) (w' : World) : Prop :=
  e = .returned (.bool true) ∧ DraftAt w' D (grpWith c a) rest ∧ Only (fun k => k = D) w w'
set_option maxRecDepth 100000 in
set_option maxHeartbeats 2000000 in
theorem groups_take {w : World} {D : Nat} {c : ConfV} {rest : List UInt8} {a : Int} {q : Option Addr} {qc : Nat} {hq : Option Nat} (hd : DraftAt w D c rest) (hQ : Win w 3 1 (.slice q 1 qc) hq 1 [mkI a]) (ha : a ≠ 0) :
    Calls Tryz.prog 53 #[.pointer (some ⟨D, 0, none⟩), .string ⟨#[]⟩, .slice q 1 qc] w (GrpEnd w D c rest a) := by
  obtain ⟨e0, e1, e2, e3, e4, e5, e6, e7, e8, e9, e10, hfz, hlt⟩ := hd.cells
  have f5 := hfz 5
  have hne := hd.ne hQ (by decide)
  obtain ⟨g, off, cap, hh, he, _, _, hg, hc, _⟩ := hQ.at_ (by omega)
  cases he
  have hgD : g ≠ D := fun e => hne (by rw [hh, e])
  have q0 := hc 0 _ rfl
  unfold mkI at q0
  rw [Nat.add_zero] at q0
  have ha' : (a != 0) = true := by simpa using ha
  have hset := Lib.hid (row_set hd 5 (.int .i64 a))
  have q0' : (w.setCell ⟨D, 5, none⟩ (.int .i64 a)).cell? ⟨g, off, none⟩ = some (.int .i64 a) := by
    have o : Only (fun k => k = D) w (w.setCell ⟨D, 5, none⟩ (.int .i64 a)) := (Only.refl (fun k => k = D) w).setCell (p := ⟨D, 5, none⟩) (fun _ => rfl) _
    exact o.cell q0 hgD
  clear hd hfz hQ hc hne ha
  go_enter Tryz.func53, Tryz.ntmps53
  go_wp2
  go_ret
  exact ⟨rfl, hset.out, (Only.refl (fun k => k = D) w).setCell (p := ⟨D, 5, none⟩) (fun _ => rfl) _⟩
end Go.Proofs.YtbjpnjgkpkfngaaGreatDoor
