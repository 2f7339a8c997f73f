/- Lines of one kind are read, each with one number. -/
import Derived.Test.YtbjpnjgkpkfngaaGreatDoorGD
import Derived.BigQuiet
import Derived.Deep.RegionHeld3
import Derived.Deep.CutRange
import Derived.Deep.DeepCutAuto
namespace Go.Proofs.YtbjpnjgkpkfngaaGreatDoor
open Go Go.RowKit

theorem numsL_no (l : List Int) : (10 : UInt8) ∉ numsL l := fun h => by
  unfold numsL at h
  obtain ⟨n, _, hn⟩ := List.mem_flatMap.1 h
  rcases List.mem_cons.1 hn with h1 | h1
  · revert h1; decide
  · exact dec_no 10 (.inl (by decide)) _ h1
theorem linesL_at (word : List UInt8) (l : List Int) (t : List UInt8) {k : Nat} {z : Int} (h : l[k]? = some z) : linesL word (l.drop k) ++ t = word ++ (numsL [z] ++ 10 :: (linesL word (l.drop (k + 1)) ++ t)) := by
  have hk : k < l.length := (List.getElem?_eq_some_iff.1 h).1
  have e : l.drop k = z :: l.drop (k + 1) := by
    rw [List.drop_eq_getElem_cons hk]
    congr 1
    exact (List.getElem?_eq_some_iff.1 h).2
  rw [e]
  simp [linesL, headL]
theorem linesL_left (word : List UInt8) (l : List Int) (h : Few9 l) (hl : l.length ≤ 10) (hw : word.length ≤ 10) (k : Nat) : (linesL word (l.drop k)).length ≤ 300 := by
  have h1 := linesL_len word (l.drop k) (fun n hn => h n (List.mem_of_mem_drop hn))
  rw [List.length_drop] at h1
  have : (l.length - k) * (word.length + 11) ≤ 10 * 21 := Nat.mul_le_mul (by omega) (by omega)
  omega
theorem cp_same {s p : ByteArray} {r : List UInt8} {b : Bool} (h : ∀ W, Calls Tryz.prog 58 #[.string s, .string p] W (CpEnd r b W)) (W : World) : Calls Tryz.prog 58 #[.string s, .string p] W fun e w' => e = .returned (.tuple #[.string (toBA r), .bool b]) ∧ w' = W :=
  (h W).mono fun _ _ ⟨h1, h2⟩ => ⟨h1, h2.symm⟩
theorem Bas.newD {w w' : World} {D : Nat} (h : Bas w) (ho : Only (fun j => j = D) w w') (hD : 3 ≤ D) : Bas w' := by
  have hw := h.words
  have hm := h.maxl
  refine ⟨fun k s n h1 h2 => ?_, ?_, ?_⟩
  · have := hw k s n h1 h2
    exact ⟨ho.cell this.1 (by show ¬ (0 : Nat) = D; omega), ho.cell this.2 (by show ¬ (0 : Nat) = D; omega)⟩
  · obtain ⟨m, hm⟩ := hm
    exact ⟨m, ho.cell hm (by show ¬ (1 : Nat) = D; omega)⟩
  · have ht := h.tab
    have hc := ht.cell gTab 0 (by decide)
    have hlt : 2 < w.heap.size := World.block_lt_of_cell? w _ hc
    unfold Lib.TabIs World.var? at *
    rw [gTab, Option.bind_some] at ht ⊢
    rw [show w'.heap[2]? = w.heap[2]? from ho.block 2 hlt (by show ¬ (2 : Nat) = D; omega)]
    exact ht
/-- A kind of lines, in the box. -/
def KindAt (w : World) (X : Nat) (W : ByteArray) (lo M n : Int) (f : FuncId) : Prop := w.heap[X]? = some (.cells #[.string W, .int .i64 lo, .int .i64 M, .int .i64 n, .func (.func f) #[] #[]] 60 (0, 0))
theorem KindAt.cells {w : World} {X : Nat} {W : ByteArray} {lo M n : Int} {f : FuncId} (h : KindAt w X W lo M n f) :
    w.cell? ⟨X, 0, none⟩ = some (.string W) ∧ w.cell? ⟨X, 1, none⟩ = some (.int .i64 lo) ∧ w.cell? ⟨X, 2, none⟩ = some (.int .i64 M) ∧ w.cell? ⟨X, 3, none⟩ = some (.int .i64 n) ∧ w.cell? ⟨X, 4, none⟩ = some (.func (.func f) #[] #[]) ∧ X < w.heap.size :=
  ⟨by simp [World.cell?, show w.heap[X]? = _ from h], by simp [World.cell?, show w.heap[X]? = _ from h], by simp [World.cell?, show w.heap[X]? = _ from h], by simp [World.cell?, show w.heap[X]? = _ from h], by simp [World.cell?, show w.heap[X]? = _ from h], row_lt h⟩

/-- On the way: k lines are read. -/
def mailboxWay (W1 : World) (D : Nat) (c : ConfV) (l : List Int) (tail : List UInt8) (k : Nat) (wr : World) : Prop :=
  ∃ p cap h, DraftAt wr D (mailboxWith c ⟨p, k, cap⟩) (linesL wMailbox (l.drop k) ++ tail) ∧ Win wr 3 1 (.slice p k cap) h k ((l.take k).map mkI) ∧ (∀ j, h = some j → W1.heap.size ≤ j) ∧ Only (fun j => j = D) W1 wr
def mailboxRead (w : World) (D : Nat) (c : ConfV) (l : List Int) (tail : List UInt8) (e : Ending) (w' : World) : Prop :=
  e = .returned (.bool true) ∧ ∃ p cap h, DraftAt w' D (mailboxWith c ⟨p, l.length, cap⟩) tail ∧ Win w' 3 1 (.slice p l.length cap) h l.length (l.map mkI) ∧ (∀ j, h = some j → w.heap.size ≤ j) ∧ Only (fun j => j = D) w w'

set_option maxRecDepth 100000 in
set_option maxHeartbeats 4000000 in
theorem mailbox_read {w : World} (hb : Bas w) {D : Nat} {c : ConfV} {l : List Int} {tail : List UInt8} {M : Int} (hd : DraftAt w D c (linesL wMailbox l ++ tail)) (hnil : c.mb = ⟨none, 0, 0⟩) (h9 : Few9 l) (hn : l.length ≤ 10) (ht : Lib.hasPrefix tail wMailbox = false) (htl : tail.length ≤ 100000) (hM : (l.length : Int) < M) (hD3 : 3 ≤ D) :
    Calls Tryz.prog 33 #[.pointer (some ⟨D, 0, none⟩), .agg #[.string (toBA wMailbox), .int .i64 0, .int .i64 M, .int .i64 1, .func (.func 52) #[] #[]]] w (mailboxRead w D c l tail) := by
  obtain ⟨X, hX⟩ : ∃ X, X = w.heap.size := ⟨_, rfl⟩
  obtain ⟨wd, hwd⟩ : ∃ s, s = toBA wMailbox := ⟨_, rfl⟩
  have hk0 : KindAt (w.alloc (.cells #[.string wd, .int .i64 0, .int .i64 M, .int .i64 1, .func (.func 52) #[] #[]] 60)) X wd 0 M 1 52 := heap_new_at _ _ hX.symm
  have hO := Lib.hid ((Only.refl (fun _ => False) w).alloc (.cells #[.string wd, .int .i64 0, .int .i64 M, .int .i64 1, .func (.func 52) #[] #[]] 60))
  have hDX : D ≠ X := by have := row_lt hd; omega
  have hd1 := hd.kept hO.out (fun h => h)
  have hw0 : mailboxWay (w.alloc (.cells #[.string wd, .int .i64 0, .int .i64 M, .int .i64 1, .func (.func 52) #[] #[]] 60)) D c l tail 0 (w.alloc (.cells #[.string wd, .int .i64 0, .int .i64 M, .int .i64 1, .func (.func 52) #[] #[]] 60)) := by
    refine ⟨none, 0, none, ?_, Win.nil _ _ _, (fun j hj => by cases hj), Only.refl _ _⟩
    have e : mailboxWith c ⟨none, 0, 0⟩ = c := by unfold mailboxWith; rw [← hnil]
    rw [e]
    exact hd1
  obtain ⟨n, hnn⟩ : ∃ n, n = l.length := ⟨_, rfl⟩
  have hb' := Lib.hid (hb.new hO.out)
  have h9' := Lib.hid h9
  have hn' := Lib.hid hnn
  have ht' := Lib.hid ht
  have hwd' := Lib.hid hwd
  have hX' := Lib.hid hX
  rw [← hnn] at hn hM
  rw [← hwd]
  have hw0' := Lib.hid hw0
  have hk0' := Lib.hid hk0
  have hDX' := Lib.hid hDX
  have hD2 := Lib.hid hD3
  clear hb h9 ht hnn hd hd1 hw0 hk0 hnil hwd hX hDX hD3
  go_enter Tryz.func33, Tryz.ntmps33
  go_wp2
  rw [← hX'.out]
  obtain ⟨W1, hW1⟩ : ∃ W1, W1 = w.alloc (.cells #[.string wd, .int .i64 0, .int .i64 M, .int .i64 1, .func (.func 52) #[] #[]] 60) := ⟨_, rfl⟩
  rw [← hW1] at hw0' hk0' hO hb' ⊢
  clear hW1
  go_loopw [5] (fun i wr => ∃ k : Nat, k ≤ n ∧ i = .int .i64 k ∧ mailboxWay W1 D c l tail k wr) (fun i _ => n + 1 - (intOf i).toNat)
  case atStart => exact ⟨0, Nat.zero_le _, rfl, hw0'.out⟩
  case round =>
    clear hw0'
    obtain ⟨k, hk, rfl, p, cap, h, hD, hW, hf, hOw⟩ := hrel
    obtain ⟨ws, hws⟩ : ∃ ws : World, ws = wr := ⟨_, rfl⟩
    subst hws
    have hkd : KindAt ws X wd 0 M 1 52 := hOw.heap hk0'.out (fun e => hDX'.out e.symm)
    obtain ⟨k0, k1, k2, k3, k4, lX⟩ := hkd.cells
    obtain ⟨e0, e1, e2, e3, e4, e5, e6, e7, e8, e9, e10, hfz, hlt⟩ := hD.cells
    have hS := Lib.hid (And.intro hD (And.intro hW (And.intro hf hOw)))
    have hkM : (k : Int) < M := by omega
    have hkd' := Lib.hid hkd
    clear hD hW hf hOw hfz e0 e1 e2 e3 e4 e5 e6 e7 e8 e9 hkd
    by_cases hkn : k < n
    · obtain ⟨z, hz⟩ : ∃ z, l[k]? = some z := ⟨_, List.getElem?_eq_getElem (by have := hn'.out; omega)⟩
      have hz9 := h9'.out z (List.mem_of_getElem? hz)
      have hF : Few9 [z] := fun y hy => by simp at hy; subst hy; exact hz9
      have hll := linesL_left wMailbox l h9'.out (by have := hn'.out; omega) (by decide) (k + 1)
      have hns := numsL_len [z] hF
      have hq1 := Lib.hid (cp_same (fun W => cp_yes wMailbox (numsL [z] ++ 10 :: (linesL wMailbox (l.drop (k + 1)) ++ tail)) W))
      rw [← linesL_at wMailbox l tail hz, ← hwd'.out] at hq1
      have hq2 := Lib.hid (fun W (hB : Bas W) => cut_yes hB 10 (numsL [z]) (linesL wMailbox (l.drop (k + 1)) ++ tail) (numsL_no [z]) (by rw [List.length_append]; simp at hns; omega))
      have hq3 := Lib.hid (fun W (hB : Bas W) => numbersOf_any hB [z] [] hF (.inl rfl) (by simp) (by simp))
      rw [show leftN [z] [] 0 = numsL [z] by simp [leftN]] at hq3
      have hz' := Lib.hid hz
      clear hz hll hns
      go_wp2
      go_quiet ((go_at_call 58; exact Calls.quiet_of_same (hq1.out _)))
      have hBs := Lib.hid (show Bas ws from Bas.newD hb'.out hS.out.2.2.2 hD2.out)
      go_wp2_with fail
      refine (hq2.out _ (hBs.out.new ((Only.refl _ ws).drewN _))).mono ?_
      rintro e w3 ⟨rfl, hO3⟩
      have hO3' := Lib.hid (((Only.refl (fun _ => False) ws).drewN _).trans' hO3)
      have x3 := hO3'.out.cell k3 (fun h => h)
      clear hO3 hq1 hq2
      go_wp2_with fail
      refine (hq3.out _ (hBs.out.new hO3'.out)).mono ?_
      rintro e w4 ⟨pq, cq, hh, rfl, hWq, hfq, hO4⟩
      have hO4' := Lib.hid (hO3'.out.trans' hO4)
      have x4 := hO4'.out.cell k4 (fun h => h)
      have htk := Lib.hid (mailbox_take (hS.out.1.kept hO4'.out (fun h => h)) (xs := l.take k) (z := z) (by rw [List.length_take]; have := hn'.out; show k = _; omega) (hS.out.2.1.kept hO4'.out (fun _ _ h => h)) hWq (by rw [List.length_take]; omega))
      clear hO4 hWq hfq hq3 x3
      go_wp2_with fail
      refine htk.out.mono ?_
      rintro e w5 ⟨p5, c5, h5, rfl, hD5, hW5, hh5, hO5⟩
      have y10 : ∃ u, w5.cell? ⟨D, 10, none⟩ = some u := ⟨_, row_cell hD5 (i := 10) rfl⟩
      obtain ⟨u10, y10⟩ := y10
      have fz10 := row_free hD5 10
      have hE := Lib.hid (And.intro hD5 (And.intro hW5 (And.intro hh5 hO5)))
      have hlk : (l.take k).length = k := by rw [List.length_take]; have := hn'.out; omega
      have hlk' := Lib.hid hlk
      have hwr : IntKind.i64.wrap ((k : Int) + 1) = (k : Int) + 1 := IntWalk.i64_in _ (by omega)
      clear hD5 hW5 hh5 hO5 htk x4 hlk k0 k1 k2 k3 k4 e10
      go_wp2
      go_roundw
      case rel =>
        obtain ⟨hD5, hW5, hh5, hO5⟩ := hE.out
        obtain ⟨hD, hW, hf, hOw⟩ := hS.out
        have hlk := hlk'.out
        have hne := hD5.ne hW5 (by decide)
        have o6 : Only (fun j => j = D) w5 (w5.setCell ⟨D, 10, none⟩ (.string (toBA (linesL wMailbox (l.drop (k + 1)) ++ tail)))) := (Only.refl (fun j => j = D) w5).setCell (p := ⟨D, 10, none⟩) (fun _ => rfl) _
        have hset := row_set hD5 10 (.string (toBA (linesL wMailbox (l.drop (k + 1)) ++ tail)))
        rw [hlk] at hD5 hW5 hset
        have hzz := hz'.out
        refine ⟨k + 1, by omega, by go_num, p5, c5, h5, hset, ?_, ?_, ?_⟩
        · rw [list_take_snoc hzz]
          exact hW5.kept o6 (fun j hj e => hne (by rw [← e]; exact hj))
        · intro j hj
          rcases hh5 with rfl | ⟨g, hg, hge⟩
          · exact hf j hj
          · rw [hg] at hj
            cases hj
            have := hOw.size
            have := hO4'.out.size
            omega
        · exact ((hOw.trans hO4'.out (fun _ _ h => h.elim)).trans hO5 (fun x hx hk => by
            rcases hk with rfl | hk
            · rfl
            · have := hf x hk.symm; omega)).trans o6 (fun _ _ h => h)
      case measure => simp [intOf]; omega
    · obtain rfl : k = n := by omega
      have hend : linesL wMailbox (l.drop k) ++ tail = tail := by rw [List.drop_eq_nil_of_le (by have := hn'.out; omega)]; rfl
      have hq1 := Lib.hid (cp_same (fun W => cp_no tail wMailbox ht'.out W))
      rw [← hwd'.out] at hq1
      have hS' := hS.out
      rw [hend] at hS' e10 
      have hS2 := Lib.hid hS'
      have hge : ¬ (k : Int) < 0 := by omega
      clear hend hS' hS
      go_wp2
      go_quiet ((go_at_call 58; exact Calls.quiet_of_same (hq1.out _)))
      go_wp2
      go_ret
      obtain ⟨hD, hW, hf, hOw⟩ := hS2.out
      have hall : l.take k = l := List.take_of_length_le (by have := hn'.out; omega)
      rw [hall] at hW
      refine ⟨rfl, p, cap, h, ?_, ?_, ?_, ?_⟩
      · rw [← hn'.out]; exact hD.kept ((Only.refl (fun _ => False) ws).drewN _) (fun h => h)
      · rw [← hn'.out]; exact hW.kept ((Only.refl (fun _ => False) ws).drewN _) (fun _ _ h => h)
      · intro j hj
        have h1 := hf j hj
        have h2 := hO.out.size
        omega
      · exact ((hO.out.mono (fun _ _ h => h.elim)).trans hOw (fun _ _ h => h)).drewN _

/-- On the way: k lines are read. -/
def countWay (W1 : World) (D : Nat) (c : ConfV) (l : List Int) (tail : List UInt8) (k : Nat) (wr : World) : Prop :=
  ∃ p cap h, DraftAt wr D (countWith c ⟨p, k, cap⟩) (linesL wCount (l.drop k) ++ tail) ∧ Win wr 3 1 (.slice p k cap) h k ((l.take k).map mkI) ∧ (∀ j, h = some j → W1.heap.size ≤ j) ∧ Only (fun j => j = D) W1 wr
def countRead (w : World) (D : Nat) (c : ConfV) (l : List Int) (tail : List UInt8) (e : Ending) (w' : World) : Prop :=
  e = .returned (.bool true) ∧ ∃ p cap h, DraftAt w' D (countWith c ⟨p, l.length, cap⟩) tail ∧ Win w' 3 1 (.slice p l.length cap) h l.length (l.map mkI) ∧ (∀ j, h = some j → w.heap.size ≤ j) ∧ Only (fun j => j = D) w w'

set_option maxRecDepth 100000 in
set_option maxHeartbeats 4000000 in
theorem count_read {w : World} (hb : Bas w) {D : Nat} {c : ConfV} {l : List Int} {tail : List UInt8} {M : Int} (hd : DraftAt w D c (linesL wCount l ++ tail)) (hnil : c.cn = ⟨none, 0, 0⟩) (h9 : Few9 l) (hn : l.length ≤ 10) (ht : Lib.hasPrefix tail wCount = false) (htl : tail.length ≤ 100000) (hM : (l.length : Int) < M) (hD3 : 3 ≤ D) :
    Calls Tryz.prog 33 #[.pointer (some ⟨D, 0, none⟩), .agg #[.string (toBA wCount), .int .i64 0, .int .i64 M, .int .i64 1, .func (.func 54) #[] #[]]] w (countRead w D c l tail) := by
  obtain ⟨X, hX⟩ : ∃ X, X = w.heap.size := ⟨_, rfl⟩
  obtain ⟨wd, hwd⟩ : ∃ s, s = toBA wCount := ⟨_, rfl⟩
  have hk0 : KindAt (w.alloc (.cells #[.string wd, .int .i64 0, .int .i64 M, .int .i64 1, .func (.func 54) #[] #[]] 60)) X wd 0 M 1 54 := heap_new_at _ _ hX.symm
  have hO := Lib.hid ((Only.refl (fun _ => False) w).alloc (.cells #[.string wd, .int .i64 0, .int .i64 M, .int .i64 1, .func (.func 54) #[] #[]] 60))
  have hDX : D ≠ X := by have := row_lt hd; omega
  have hd1 := hd.kept hO.out (fun h => h)
  have hw0 : countWay (w.alloc (.cells #[.string wd, .int .i64 0, .int .i64 M, .int .i64 1, .func (.func 54) #[] #[]] 60)) D c l tail 0 (w.alloc (.cells #[.string wd, .int .i64 0, .int .i64 M, .int .i64 1, .func (.func 54) #[] #[]] 60)) := by
    refine ⟨none, 0, none, ?_, Win.nil _ _ _, (fun j hj => by cases hj), Only.refl _ _⟩
    have e : countWith c ⟨none, 0, 0⟩ = c := by unfold countWith; rw [← hnil]
    rw [e]
    exact hd1
  obtain ⟨n, hnn⟩ : ∃ n, n = l.length := ⟨_, rfl⟩
  have hb' := Lib.hid (hb.new hO.out)
  have h9' := Lib.hid h9
  have hn' := Lib.hid hnn
  have ht' := Lib.hid ht
  have hwd' := Lib.hid hwd
  have hX' := Lib.hid hX
  rw [← hnn] at hn hM
  rw [← hwd]
  have hw0' := Lib.hid hw0
  have hk0' := Lib.hid hk0
  have hDX' := Lib.hid hDX
  have hD2 := Lib.hid hD3
  clear hb h9 ht hnn hd hd1 hw0 hk0 hnil hwd hX hDX hD3
  go_enter Tryz.func33, Tryz.ntmps33
  go_wp2
  rw [← hX'.out]
  obtain ⟨W1, hW1⟩ : ∃ W1, W1 = w.alloc (.cells #[.string wd, .int .i64 0, .int .i64 M, .int .i64 1, .func (.func 54) #[] #[]] 60) := ⟨_, rfl⟩
  rw [← hW1] at hw0' hk0' hO hb' ⊢
  clear hW1
  go_loopw [5] (fun i wr => ∃ k : Nat, k ≤ n ∧ i = .int .i64 k ∧ countWay W1 D c l tail k wr) (fun i _ => n + 1 - (intOf i).toNat)
  case atStart => exact ⟨0, Nat.zero_le _, rfl, hw0'.out⟩
  case round =>
    clear hw0'
    obtain ⟨k, hk, rfl, p, cap, h, hD, hW, hf, hOw⟩ := hrel
    obtain ⟨ws, hws⟩ : ∃ ws : World, ws = wr := ⟨_, rfl⟩
    subst hws
    have hkd : KindAt ws X wd 0 M 1 54 := hOw.heap hk0'.out (fun e => hDX'.out e.symm)
    obtain ⟨k0, k1, k2, k3, k4, lX⟩ := hkd.cells
    obtain ⟨e0, e1, e2, e3, e4, e5, e6, e7, e8, e9, e10, hfz, hlt⟩ := hD.cells
    have hS := Lib.hid (And.intro hD (And.intro hW (And.intro hf hOw)))
    have hkM : (k : Int) < M := by omega
    have hkd' := Lib.hid hkd
    clear hD hW hf hOw hfz e0 e1 e2 e3 e4 e5 e6 e7 e8 e9 hkd
    by_cases hkn : k < n
    · obtain ⟨z, hz⟩ : ∃ z, l[k]? = some z := ⟨_, List.getElem?_eq_getElem (by have := hn'.out; omega)⟩
      have hz9 := h9'.out z (List.mem_of_getElem? hz)
      have hF : Few9 [z] := fun y hy => by simp at hy; subst hy; exact hz9
      have hll := linesL_left wCount l h9'.out (by have := hn'.out; omega) (by decide) (k + 1)
      have hns := numsL_len [z] hF
      have hq1 := Lib.hid (cp_same (fun W => cp_yes wCount (numsL [z] ++ 10 :: (linesL wCount (l.drop (k + 1)) ++ tail)) W))
      rw [← linesL_at wCount l tail hz, ← hwd'.out] at hq1
      have hq2 := Lib.hid (fun W (hB : Bas W) => cut_yes hB 10 (numsL [z]) (linesL wCount (l.drop (k + 1)) ++ tail) (numsL_no [z]) (by rw [List.length_append]; simp at hns; omega))
      have hq3 := Lib.hid (fun W (hB : Bas W) => numbersOf_any hB [z] [] hF (.inl rfl) (by simp) (by simp))
      rw [show leftN [z] [] 0 = numsL [z] by simp [leftN]] at hq3
      have hz' := Lib.hid hz
      clear hz hll hns
      go_wp2
      go_quiet ((go_at_call 58; exact Calls.quiet_of_same (hq1.out _)))
      have hBs := Lib.hid (show Bas ws from Bas.newD hb'.out hS.out.2.2.2 hD2.out)
      go_wp2_with fail
      refine (hq2.out _ (hBs.out.new ((Only.refl _ ws).drewN _))).mono ?_
      rintro e w3 ⟨rfl, hO3⟩
      have hO3' := Lib.hid (((Only.refl (fun _ => False) ws).drewN _).trans' hO3)
      have x3 := hO3'.out.cell k3 (fun h => h)
      clear hO3 hq1 hq2
      go_wp2_with fail
      refine (hq3.out _ (hBs.out.new hO3'.out)).mono ?_
      rintro e w4 ⟨pq, cq, hh, rfl, hWq, hfq, hO4⟩
      have hO4' := Lib.hid (hO3'.out.trans' hO4)
      have x4 := hO4'.out.cell k4 (fun h => h)
      have htk := Lib.hid (count_take (hS.out.1.kept hO4'.out (fun h => h)) (xs := l.take k) (z := z) (by rw [List.length_take]; have := hn'.out; show k = _; omega) (hS.out.2.1.kept hO4'.out (fun _ _ h => h)) hWq (by rw [List.length_take]; omega))
      clear hO4 hWq hfq hq3 x3
      go_wp2_with fail
      refine htk.out.mono ?_
      rintro e w5 ⟨p5, c5, h5, rfl, hD5, hW5, hh5, hO5⟩
      have y10 : ∃ u, w5.cell? ⟨D, 10, none⟩ = some u := ⟨_, row_cell hD5 (i := 10) rfl⟩
      obtain ⟨u10, y10⟩ := y10
      have fz10 := row_free hD5 10
      have hE := Lib.hid (And.intro hD5 (And.intro hW5 (And.intro hh5 hO5)))
      have hlk : (l.take k).length = k := by rw [List.length_take]; have := hn'.out; omega
      have hlk' := Lib.hid hlk
      have hwr : IntKind.i64.wrap ((k : Int) + 1) = (k : Int) + 1 := IntWalk.i64_in _ (by omega)
      clear hD5 hW5 hh5 hO5 htk x4 hlk k0 k1 k2 k3 k4 e10
      go_wp2
      go_roundw
      case rel =>
        obtain ⟨hD5, hW5, hh5, hO5⟩ := hE.out
        obtain ⟨hD, hW, hf, hOw⟩ := hS.out
        have hlk := hlk'.out
        have hne := hD5.ne hW5 (by decide)
        have o6 : Only (fun j => j = D) w5 (w5.setCell ⟨D, 10, none⟩ (.string (toBA (linesL wCount (l.drop (k + 1)) ++ tail)))) := (Only.refl (fun j => j = D) w5).setCell (p := ⟨D, 10, none⟩) (fun _ => rfl) _
        have hset := row_set hD5 10 (.string (toBA (linesL wCount (l.drop (k + 1)) ++ tail)))
        rw [hlk] at hD5 hW5 hset
        have hzz := hz'.out
        refine ⟨k + 1, by omega, by go_num, p5, c5, h5, hset, ?_, ?_, ?_⟩
        · rw [list_take_snoc hzz]
          exact hW5.kept o6 (fun j hj e => hne (by rw [← e]; exact hj))
        · intro j hj
          rcases hh5 with rfl | ⟨g, hg, hge⟩
          · exact hf j hj
          · rw [hg] at hj
            cases hj
            have := hOw.size
            have := hO4'.out.size
            omega
        · exact ((hOw.trans hO4'.out (fun _ _ h => h.elim)).trans hO5 (fun x hx hk => by
            rcases hk with rfl | hk
            · rfl
            · have := hf x hk.symm; omega)).trans o6 (fun _ _ h => h)
      case measure => simp [intOf]; omega
    · obtain rfl : k = n := by omega
      have hend : linesL wCount (l.drop k) ++ tail = tail := by rw [List.drop_eq_nil_of_le (by have := hn'.out; omega)]; rfl
      have hq1 := Lib.hid (cp_same (fun W => cp_no tail wCount ht'.out W))
      rw [← hwd'.out] at hq1
      have hS' := hS.out
      rw [hend] at hS' e10 
      have hS2 := Lib.hid hS'
      have hge : ¬ (k : Int) < 0 := by omega
      clear hend hS' hS
      go_wp2
      go_quiet ((go_at_call 58; exact Calls.quiet_of_same (hq1.out _)))
      go_wp2
      go_ret
      obtain ⟨hD, hW, hf, hOw⟩ := hS2.out
      have hall : l.take k = l := List.take_of_length_le (by have := hn'.out; omega)
      rw [hall] at hW
      refine ⟨rfl, p, cap, h, ?_, ?_, ?_, ?_⟩
      · rw [← hn'.out]; exact hD.kept ((Only.refl (fun _ => False) ws).drewN _) (fun h => h)
      · rw [← hn'.out]; exact hW.kept ((Only.refl (fun _ => False) ws).drewN _) (fun _ _ h => h)
      · intro j hj
        have h1 := hf j hj
        have h2 := hO.out.size
        omega
      · exact ((hO.out.mono (fun _ _ h => h.elim)).trans hOw (fun _ _ h => h)).drewN _

/-- On the way: k lines are read. -/
def ceilingWay (W1 : World) (D : Nat) (c : ConfV) (l : List Int) (tail : List UInt8) (k : Nat) (wr : World) : Prop :=
  ∃ p cap h, DraftAt wr D (ceilingWith c ⟨p, k, cap⟩) (linesL wCeiling (l.drop k) ++ tail) ∧ Win wr 3 1 (.slice p k cap) h k ((l.take k).map mkI) ∧ (∀ j, h = some j → W1.heap.size ≤ j) ∧ Only (fun j => j = D) W1 wr
def ceilingRead (w : World) (D : Nat) (c : ConfV) (l : List Int) (tail : List UInt8) (e : Ending) (w' : World) : Prop :=
  e = .returned (.bool true) ∧ ∃ p cap h, DraftAt w' D (ceilingWith c ⟨p, l.length, cap⟩) tail ∧ Win w' 3 1 (.slice p l.length cap) h l.length (l.map mkI) ∧ (∀ j, h = some j → w.heap.size ≤ j) ∧ Only (fun j => j = D) w w'

set_option maxRecDepth 100000 in
set_option maxHeartbeats 4000000 in
theorem ceiling_read {w : World} (hb : Bas w) {D : Nat} {c : ConfV} {l : List Int} {tail : List UInt8} {M : Int} (hd : DraftAt w D c (linesL wCeiling l ++ tail)) (hnil : c.ce = ⟨none, 0, 0⟩) (h9 : Few9 l) (hn : l.length ≤ 10) (ht : Lib.hasPrefix tail wCeiling = false) (htl : tail.length ≤ 100000) (hM : (l.length : Int) < M) (hD3 : 3 ≤ D) :
    Calls Tryz.prog 33 #[.pointer (some ⟨D, 0, none⟩), .agg #[.string (toBA wCeiling), .int .i64 0, .int .i64 M, .int .i64 1, .func (.func 55) #[] #[]]] w (ceilingRead w D c l tail) := by
  obtain ⟨X, hX⟩ : ∃ X, X = w.heap.size := ⟨_, rfl⟩
  obtain ⟨wd, hwd⟩ : ∃ s, s = toBA wCeiling := ⟨_, rfl⟩
  have hk0 : KindAt (w.alloc (.cells #[.string wd, .int .i64 0, .int .i64 M, .int .i64 1, .func (.func 55) #[] #[]] 60)) X wd 0 M 1 55 := heap_new_at _ _ hX.symm
  have hO := Lib.hid ((Only.refl (fun _ => False) w).alloc (.cells #[.string wd, .int .i64 0, .int .i64 M, .int .i64 1, .func (.func 55) #[] #[]] 60))
  have hDX : D ≠ X := by have := row_lt hd; omega
  have hd1 := hd.kept hO.out (fun h => h)
  have hw0 : ceilingWay (w.alloc (.cells #[.string wd, .int .i64 0, .int .i64 M, .int .i64 1, .func (.func 55) #[] #[]] 60)) D c l tail 0 (w.alloc (.cells #[.string wd, .int .i64 0, .int .i64 M, .int .i64 1, .func (.func 55) #[] #[]] 60)) := by
    refine ⟨none, 0, none, ?_, Win.nil _ _ _, (fun j hj => by cases hj), Only.refl _ _⟩
    have e : ceilingWith c ⟨none, 0, 0⟩ = c := by unfold ceilingWith; rw [← hnil]
    rw [e]
    exact hd1
  obtain ⟨n, hnn⟩ : ∃ n, n = l.length := ⟨_, rfl⟩
  have hb' := Lib.hid (hb.new hO.out)
  have h9' := Lib.hid h9
  have hn' := Lib.hid hnn
  have ht' := Lib.hid ht
  have hwd' := Lib.hid hwd
  have hX' := Lib.hid hX
  rw [← hnn] at hn hM
  rw [← hwd]
  have hw0' := Lib.hid hw0
  have hk0' := Lib.hid hk0
  have hDX' := Lib.hid hDX
  have hD2 := Lib.hid hD3
  clear hb h9 ht hnn hd hd1 hw0 hk0 hnil hwd hX hDX hD3
  go_enter Tryz.func33, Tryz.ntmps33
  go_wp2
  rw [← hX'.out]
  obtain ⟨W1, hW1⟩ : ∃ W1, W1 = w.alloc (.cells #[.string wd, .int .i64 0, .int .i64 M, .int .i64 1, .func (.func 55) #[] #[]] 60) := ⟨_, rfl⟩
  rw [← hW1] at hw0' hk0' hO hb' ⊢
  clear hW1
  go_loopw [5] (fun i wr => ∃ k : Nat, k ≤ n ∧ i = .int .i64 k ∧ ceilingWay W1 D c l tail k wr) (fun i _ => n + 1 - (intOf i).toNat)
  case atStart => exact ⟨0, Nat.zero_le _, rfl, hw0'.out⟩
  case round =>
    clear hw0'
    obtain ⟨k, hk, rfl, p, cap, h, hD, hW, hf, hOw⟩ := hrel
    obtain ⟨ws, hws⟩ : ∃ ws : World, ws = wr := ⟨_, rfl⟩
    subst hws
    have hkd : KindAt ws X wd 0 M 1 55 := hOw.heap hk0'.out (fun e => hDX'.out e.symm)
    obtain ⟨k0, k1, k2, k3, k4, lX⟩ := hkd.cells
    obtain ⟨e0, e1, e2, e3, e4, e5, e6, e7, e8, e9, e10, hfz, hlt⟩ := hD.cells
    have hS := Lib.hid (And.intro hD (And.intro hW (And.intro hf hOw)))
    have hkM : (k : Int) < M := by omega
    have hkd' := Lib.hid hkd
    clear hD hW hf hOw hfz e0 e1 e2 e3 e4 e5 e6 e7 e8 e9 hkd
    by_cases hkn : k < n
    · obtain ⟨z, hz⟩ : ∃ z, l[k]? = some z := ⟨_, List.getElem?_eq_getElem (by have := hn'.out; omega)⟩
      have hz9 := h9'.out z (List.mem_of_getElem? hz)
      have hF : Few9 [z] := fun y hy => by simp at hy; subst hy; exact hz9
      have hll := linesL_left wCeiling l h9'.out (by have := hn'.out; omega) (by decide) (k + 1)
      have hns := numsL_len [z] hF
      have hq1 := Lib.hid (cp_same (fun W => cp_yes wCeiling (numsL [z] ++ 10 :: (linesL wCeiling (l.drop (k + 1)) ++ tail)) W))
      rw [← linesL_at wCeiling l tail hz, ← hwd'.out] at hq1
      have hq2 := Lib.hid (fun W (hB : Bas W) => cut_yes hB 10 (numsL [z]) (linesL wCeiling (l.drop (k + 1)) ++ tail) (numsL_no [z]) (by rw [List.length_append]; simp at hns; omega))
      have hq3 := Lib.hid (fun W (hB : Bas W) => numbersOf_any hB [z] [] hF (.inl rfl) (by simp) (by simp))
      rw [show leftN [z] [] 0 = numsL [z] by simp [leftN]] at hq3
      have hz' := Lib.hid hz
      clear hz hll hns
      go_wp2
      go_quiet ((go_at_call 58; exact Calls.quiet_of_same (hq1.out _)))
      have hBs := Lib.hid (show Bas ws from Bas.newD hb'.out hS.out.2.2.2 hD2.out)
      go_wp2_with fail
      refine (hq2.out _ (hBs.out.new ((Only.refl _ ws).drewN _))).mono ?_
      rintro e w3 ⟨rfl, hO3⟩
      have hO3' := Lib.hid (((Only.refl (fun _ => False) ws).drewN _).trans' hO3)
      have x3 := hO3'.out.cell k3 (fun h => h)
      clear hO3 hq1 hq2
      go_wp2_with fail
      refine (hq3.out _ (hBs.out.new hO3'.out)).mono ?_
      rintro e w4 ⟨pq, cq, hh, rfl, hWq, hfq, hO4⟩
      have hO4' := Lib.hid (hO3'.out.trans' hO4)
      have x4 := hO4'.out.cell k4 (fun h => h)
      have htk := Lib.hid (ceiling_take (hS.out.1.kept hO4'.out (fun h => h)) (xs := l.take k) (z := z) (by rw [List.length_take]; have := hn'.out; show k = _; omega) (hS.out.2.1.kept hO4'.out (fun _ _ h => h)) hWq (by rw [List.length_take]; omega))
      clear hO4 hWq hfq hq3 x3
      go_wp2_with fail
      refine htk.out.mono ?_
      rintro e w5 ⟨p5, c5, h5, rfl, hD5, hW5, hh5, hO5⟩
      have y10 : ∃ u, w5.cell? ⟨D, 10, none⟩ = some u := ⟨_, row_cell hD5 (i := 10) rfl⟩
      obtain ⟨u10, y10⟩ := y10
      have fz10 := row_free hD5 10
      have hE := Lib.hid (And.intro hD5 (And.intro hW5 (And.intro hh5 hO5)))
      have hlk : (l.take k).length = k := by rw [List.length_take]; have := hn'.out; omega
      have hlk' := Lib.hid hlk
      have hwr : IntKind.i64.wrap ((k : Int) + 1) = (k : Int) + 1 := IntWalk.i64_in _ (by omega)
      clear hD5 hW5 hh5 hO5 htk x4 hlk k0 k1 k2 k3 k4 e10
      go_wp2
      go_roundw
      case rel =>
        obtain ⟨hD5, hW5, hh5, hO5⟩ := hE.out
        obtain ⟨hD, hW, hf, hOw⟩ := hS.out
        have hlk := hlk'.out
        have hne := hD5.ne hW5 (by decide)
        have o6 : Only (fun j => j = D) w5 (w5.setCell ⟨D, 10, none⟩ (.string (toBA (linesL wCeiling (l.drop (k + 1)) ++ tail)))) := (Only.refl (fun j => j = D) w5).setCell (p := ⟨D, 10, none⟩) (fun _ => rfl) _
        have hset := row_set hD5 10 (.string (toBA (linesL wCeiling (l.drop (k + 1)) ++ tail)))
        rw [hlk] at hD5 hW5 hset
        have hzz := hz'.out
        refine ⟨k + 1, by omega, by go_num, p5, c5, h5, hset, ?_, ?_, ?_⟩
        · rw [list_take_snoc hzz]
          exact hW5.kept o6 (fun j hj e => hne (by rw [← e]; exact hj))
        · intro j hj
          rcases hh5 with rfl | ⟨g, hg, hge⟩
          · exact hf j hj
          · rw [hg] at hj
            cases hj
            have := hOw.size
            have := hO4'.out.size
            omega
        · exact ((hOw.trans hO4'.out (fun _ _ h => h.elim)).trans hO5 (fun x hx hk => by
            rcases hk with rfl | hk
            · rfl
            · have := hf x hk.symm; omega)).trans o6 (fun _ _ h => h)
      case measure => simp [intOf]; omega
    · obtain rfl : k = n := by omega
      have hend : linesL wCeiling (l.drop k) ++ tail = tail := by rw [List.drop_eq_nil_of_le (by have := hn'.out; omega)]; rfl
      have hq1 := Lib.hid (cp_same (fun W => cp_no tail wCeiling ht'.out W))
      rw [← hwd'.out] at hq1
      have hS' := hS.out
      rw [hend] at hS' e10 
      have hS2 := Lib.hid hS'
      have hge : ¬ (k : Int) < 0 := by omega
      clear hend hS' hS
      go_wp2
      go_quiet ((go_at_call 58; exact Calls.quiet_of_same (hq1.out _)))
      go_wp2
      go_ret
      obtain ⟨hD, hW, hf, hOw⟩ := hS2.out
      have hall : l.take k = l := List.take_of_length_le (by have := hn'.out; omega)
      rw [hall] at hW
      refine ⟨rfl, p, cap, h, ?_, ?_, ?_, ?_⟩
      · rw [← hn'.out]; exact hD.kept ((Only.refl (fun _ => False) ws).drewN _) (fun h => h)
      · rw [← hn'.out]; exact hW.kept ((Only.refl (fun _ => False) ws).drewN _) (fun _ _ h => h)
      · intro j hj
        have h1 := hf j hj
        have h2 := hO.out.size
        omega
      · exact ((hO.out.mono (fun _ _ h => h.elim)).trans hOw (fun _ _ h => h)).drewN _

/-- On the way: k lines are read. -/
def lineWay (W1 : World) (D : Nat) (c : ConfV) (l : List Int) (tail : List UInt8) (k : Nat) (wr : World) : Prop :=
  ∃ p cap h, DraftAt wr D (lineWith c ⟨p, k, cap⟩) (linesL wLine (l.drop k) ++ tail) ∧ Win wr 3 1 (.slice p k cap) h k ((l.take k).map mkI) ∧ (∀ j, h = some j → W1.heap.size ≤ j) ∧ Only (fun j => j = D) W1 wr
def lineRead (w : World) (D : Nat) (c : ConfV) (l : List Int) (tail : List UInt8) (e : Ending) (w' : World) : Prop :=
  e = .returned (.bool true) ∧ ∃ p cap h, DraftAt w' D (lineWith c ⟨p, l.length, cap⟩) tail ∧ Win w' 3 1 (.slice p l.length cap) h l.length (l.map mkI) ∧ (∀ j, h = some j → w.heap.size ≤ j) ∧ Only (fun j => j = D) w w'

set_option maxRecDepth 100000 in
set_option maxHeartbeats 4000000 in
theorem line_read {w : World} (hb : Bas w) {D : Nat} {c : ConfV} {l : List Int} {tail : List UInt8} {M : Int} (hd : DraftAt w D c (linesL wLine l ++ tail)) (hnil : c.li = ⟨none, 0, 0⟩) (h9 : Few9 l) (hn : l.length ≤ 10) (ht : Lib.hasPrefix tail wLine = false) (htl : tail.length ≤ 100000) (hM : (l.length : Int) < M) (hD3 : 3 ≤ D) :
    Calls Tryz.prog 33 #[.pointer (some ⟨D, 0, none⟩), .agg #[.string (toBA wLine), .int .i64 0, .int .i64 M, .int .i64 1, .func (.func 57) #[] #[]]] w (lineRead w D c l tail) := by
  obtain ⟨X, hX⟩ : ∃ X, X = w.heap.size := ⟨_, rfl⟩
  obtain ⟨wd, hwd⟩ : ∃ s, s = toBA wLine := ⟨_, rfl⟩
  have hk0 : KindAt (w.alloc (.cells #[.string wd, .int .i64 0, .int .i64 M, .int .i64 1, .func (.func 57) #[] #[]] 60)) X wd 0 M 1 57 := heap_new_at _ _ hX.symm
  have hO := Lib.hid ((Only.refl (fun _ => False) w).alloc (.cells #[.string wd, .int .i64 0, .int .i64 M, .int .i64 1, .func (.func 57) #[] #[]] 60))
  have hDX : D ≠ X := by have := row_lt hd; omega
  have hd1 := hd.kept hO.out (fun h => h)
  have hw0 : lineWay (w.alloc (.cells #[.string wd, .int .i64 0, .int .i64 M, .int .i64 1, .func (.func 57) #[] #[]] 60)) D c l tail 0 (w.alloc (.cells #[.string wd, .int .i64 0, .int .i64 M, .int .i64 1, .func (.func 57) #[] #[]] 60)) := by
    refine ⟨none, 0, none, ?_, Win.nil _ _ _, (fun j hj => by cases hj), Only.refl _ _⟩
    have e : lineWith c ⟨none, 0, 0⟩ = c := by unfold lineWith; rw [← hnil]
    rw [e]
    exact hd1
  obtain ⟨n, hnn⟩ : ∃ n, n = l.length := ⟨_, rfl⟩
  have hb' := Lib.hid (hb.new hO.out)
  have h9' := Lib.hid h9
  have hn' := Lib.hid hnn
  have ht' := Lib.hid ht
  have hwd' := Lib.hid hwd
  have hX' := Lib.hid hX
  rw [← hnn] at hn hM
  rw [← hwd]
  have hw0' := Lib.hid hw0
  have hk0' := Lib.hid hk0
  have hDX' := Lib.hid hDX
  have hD2 := Lib.hid hD3
  clear hb h9 ht hnn hd hd1 hw0 hk0 hnil hwd hX hDX hD3
  go_enter Tryz.func33, Tryz.ntmps33
  go_wp2
  rw [← hX'.out]
  obtain ⟨W1, hW1⟩ : ∃ W1, W1 = w.alloc (.cells #[.string wd, .int .i64 0, .int .i64 M, .int .i64 1, .func (.func 57) #[] #[]] 60) := ⟨_, rfl⟩
  rw [← hW1] at hw0' hk0' hO hb' ⊢
  clear hW1
  go_loopw [5] (fun i wr => ∃ k : Nat, k ≤ n ∧ i = .int .i64 k ∧ lineWay W1 D c l tail k wr) (fun i _ => n + 1 - (intOf i).toNat)
  case atStart => exact ⟨0, Nat.zero_le _, rfl, hw0'.out⟩
  case round =>
    clear hw0'
    obtain ⟨k, hk, rfl, p, cap, h, hD, hW, hf, hOw⟩ := hrel
    obtain ⟨ws, hws⟩ : ∃ ws : World, ws = wr := ⟨_, rfl⟩
    subst hws
    have hkd : KindAt ws X wd 0 M 1 57 := hOw.heap hk0'.out (fun e => hDX'.out e.symm)
    obtain ⟨k0, k1, k2, k3, k4, lX⟩ := hkd.cells
    obtain ⟨e0, e1, e2, e3, e4, e5, e6, e7, e8, e9, e10, hfz, hlt⟩ := hD.cells
    have hS := Lib.hid (And.intro hD (And.intro hW (And.intro hf hOw)))
    have hkM : (k : Int) < M := by omega
    have hkd' := Lib.hid hkd
    clear hD hW hf hOw hfz e0 e1 e2 e3 e4 e5 e6 e7 e8 e9 hkd
    by_cases hkn : k < n
    · obtain ⟨z, hz⟩ : ∃ z, l[k]? = some z := ⟨_, List.getElem?_eq_getElem (by have := hn'.out; omega)⟩
      have hz9 := h9'.out z (List.mem_of_getElem? hz)
      have hF : Few9 [z] := fun y hy => by simp at hy; subst hy; exact hz9
      have hll := linesL_left wLine l h9'.out (by have := hn'.out; omega) (by decide) (k + 1)
      have hns := numsL_len [z] hF
      have hq1 := Lib.hid (cp_same (fun W => cp_yes wLine (numsL [z] ++ 10 :: (linesL wLine (l.drop (k + 1)) ++ tail)) W))
      rw [← linesL_at wLine l tail hz, ← hwd'.out] at hq1
      have hq2 := Lib.hid (fun W (hB : Bas W) => cut_yes hB 10 (numsL [z]) (linesL wLine (l.drop (k + 1)) ++ tail) (numsL_no [z]) (by rw [List.length_append]; simp at hns; omega))
      have hq3 := Lib.hid (fun W (hB : Bas W) => numbersOf_any hB [z] [] hF (.inl rfl) (by simp) (by simp))
      rw [show leftN [z] [] 0 = numsL [z] by simp [leftN]] at hq3
      have hz' := Lib.hid hz
      clear hz hll hns
      go_wp2
      go_quiet ((go_at_call 58; exact Calls.quiet_of_same (hq1.out _)))
      have hBs := Lib.hid (show Bas ws from Bas.newD hb'.out hS.out.2.2.2 hD2.out)
      go_wp2_with fail
      refine (hq2.out _ (hBs.out.new ((Only.refl _ ws).drewN _))).mono ?_
      rintro e w3 ⟨rfl, hO3⟩
      have hO3' := Lib.hid (((Only.refl (fun _ => False) ws).drewN _).trans' hO3)
      have x3 := hO3'.out.cell k3 (fun h => h)
      clear hO3 hq1 hq2
      go_wp2_with fail
      refine (hq3.out _ (hBs.out.new hO3'.out)).mono ?_
      rintro e w4 ⟨pq, cq, hh, rfl, hWq, hfq, hO4⟩
      have hO4' := Lib.hid (hO3'.out.trans' hO4)
      have x4 := hO4'.out.cell k4 (fun h => h)
      have htk := Lib.hid (line_take (hS.out.1.kept hO4'.out (fun h => h)) (xs := l.take k) (z := z) (by rw [List.length_take]; have := hn'.out; show k = _; omega) (hS.out.2.1.kept hO4'.out (fun _ _ h => h)) hWq (by rw [List.length_take]; omega))
      clear hO4 hWq hfq hq3 x3
      go_wp2_with fail
      refine htk.out.mono ?_
      rintro e w5 ⟨p5, c5, h5, rfl, hD5, hW5, hh5, hO5⟩
      have y10 : ∃ u, w5.cell? ⟨D, 10, none⟩ = some u := ⟨_, row_cell hD5 (i := 10) rfl⟩
      obtain ⟨u10, y10⟩ := y10
      have fz10 := row_free hD5 10
      have hE := Lib.hid (And.intro hD5 (And.intro hW5 (And.intro hh5 hO5)))
      have hlk : (l.take k).length = k := by rw [List.length_take]; have := hn'.out; omega
      have hlk' := Lib.hid hlk
      have hwr : IntKind.i64.wrap ((k : Int) + 1) = (k : Int) + 1 := IntWalk.i64_in _ (by omega)
      clear hD5 hW5 hh5 hO5 htk x4 hlk k0 k1 k2 k3 k4 e10
      go_wp2
      go_roundw
      case rel =>
        obtain ⟨hD5, hW5, hh5, hO5⟩ := hE.out
        obtain ⟨hD, hW, hf, hOw⟩ := hS.out
        have hlk := hlk'.out
        have hne := hD5.ne hW5 (by decide)
        have o6 : Only (fun j => j = D) w5 (w5.setCell ⟨D, 10, none⟩ (.string (toBA (linesL wLine (l.drop (k + 1)) ++ tail)))) := (Only.refl (fun j => j = D) w5).setCell (p := ⟨D, 10, none⟩) (fun _ => rfl) _
        have hset := row_set hD5 10 (.string (toBA (linesL wLine (l.drop (k + 1)) ++ tail)))
        rw [hlk] at hD5 hW5 hset
        have hzz := hz'.out
        refine ⟨k + 1, by omega, by go_num, p5, c5, h5, hset, ?_, ?_, ?_⟩
        · rw [list_take_snoc hzz]
          exact hW5.kept o6 (fun j hj e => hne (by rw [← e]; exact hj))
        · intro j hj
          rcases hh5 with rfl | ⟨g, hg, hge⟩
          · exact hf j hj
          · rw [hg] at hj
            cases hj
            have := hOw.size
            have := hO4'.out.size
            omega
        · exact ((hOw.trans hO4'.out (fun _ _ h => h.elim)).trans hO5 (fun x hx hk => by
            rcases hk with rfl | hk
            · rfl
            · have := hf x hk.symm; omega)).trans o6 (fun _ _ h => h)
      case measure => simp [intOf]; omega
    · obtain rfl : k = n := by omega
      have hend : linesL wLine (l.drop k) ++ tail = tail := by rw [List.drop_eq_nil_of_le (by have := hn'.out; omega)]; rfl
      have hq1 := Lib.hid (cp_same (fun W => cp_no tail wLine ht'.out W))
      rw [← hwd'.out] at hq1
      have hS' := hS.out
      rw [hend] at hS' e10 
      have hS2 := Lib.hid hS'
      have hge : ¬ (k : Int) < 0 := by omega
      clear hend hS' hS
      go_wp2
      go_quiet ((go_at_call 58; exact Calls.quiet_of_same (hq1.out _)))
      go_wp2
      go_ret
      obtain ⟨hD, hW, hf, hOw⟩ := hS2.out
      have hall : l.take k = l := List.take_of_length_le (by have := hn'.out; omega)
      rw [hall] at hW
      refine ⟨rfl, p, cap, h, ?_, ?_, ?_, ?_⟩
      · rw [← hn'.out]; exact hD.kept ((Only.refl (fun _ => False) ws).drewN _) (fun h => h)
      · rw [← hn'.out]; exact hW.kept ((Only.refl (fun _ => False) ws).drewN _) (fun _ _ h => h)
      · intro j hj
        have h1 := hf j hj
        have h2 := hO.out.size
        omega
      · exact ((hO.out.mono (fun _ _ h => h.elim)).trans hOw (fun _ _ h => h)).drewN _
end Go.Proofs.YtbjpnjgkpkfngaaGreatDoor
namespace Go.Proofs.YtbjpnjgkpkfngaaGreatDoor
open Go Go.RowKit


def machRead (w : World) (D : Nat) (c : ConfV) (a1 a2 a3 a4 : Int) (tail : List UInt8) (e : Ending) (w' : World) : Prop :=
  e = .returned (.bool true) ∧ DraftAt w' D (machWith c a1 a2 a3 a4) tail ∧ Only (fun j => j = D) w w'
def machWay (W1 : World) (D : Nat) (c : ConfV) (a1 a2 a3 a4 : Int) (tail : List UInt8) (k : Nat) (wr : World) : Prop :=
  (k = 0 → DraftAt wr D c (headL wMachine [a1, a2, a3, a4] ++ 10 :: tail)) ∧ (k = 1 → DraftAt wr D (machWith c a1 a2 a3 a4) tail) ∧ Only (fun j => j = D) W1 wr
set_option maxRecDepth 100000 in
set_option maxHeartbeats 4000000 in
theorem mach_read {w : World} (hb : Bas w) {D : Nat} {c : ConfV} (a1 a2 a3 a4 : Int) {tail : List UInt8} (hd : DraftAt w D c (headL wMachine [a1, a2, a3, a4] ++ 10 :: tail)) (h9 : Few9 [a1, a2, a3, a4]) (htl : tail.length ≤ 100000) (hD3 : 3 ≤ D) :
    Calls Tryz.prog 33 #[.pointer (some ⟨D, 0, none⟩), .agg #[.string (toBA wMachine), .int .i64 1, .int .i64 1, .int .i64 4, .func (.func 51) #[] #[]]] w (machRead w D c a1 a2 a3 a4 tail) := by
  obtain ⟨X, hX⟩ : ∃ X, X = w.heap.size := ⟨_, rfl⟩
  obtain ⟨wd, hwd⟩ : ∃ s, s = toBA wMachine := ⟨_, rfl⟩
  have hk0 : KindAt (w.alloc (.cells #[.string wd, .int .i64 1, .int .i64 1, .int .i64 4, .func (.func 51) #[] #[]] 60)) X wd 1 1 4 51 := heap_new_at _ _ hX.symm
  have hO := Lib.hid ((Only.refl (fun _ => False) w).alloc (.cells #[.string wd, .int .i64 1, .int .i64 1, .int .i64 4, .func (.func 51) #[] #[]] 60))
  have hDX : D ≠ X := by have := row_lt hd; omega
  have hd1 := Lib.hid (hd.kept hO.out (fun h => h))
  have hb' := Lib.hid (hb.new hO.out)
  have h9' := Lib.hid h9
  have hwd' := Lib.hid hwd
  have hX' := Lib.hid hX
  rw [← hwd]
  have hk0' := Lib.hid hk0
  have hDX' := Lib.hid hDX
  have hD2 := Lib.hid hD3
  clear hb h9 hd hk0 hwd hX hDX hD3
  go_enter Tryz.func33, Tryz.ntmps33
  go_wp2
  rw [← hX'.out]
  obtain ⟨W1, hW1⟩ : ∃ W1, W1 = w.alloc (.cells #[.string wd, .int .i64 1, .int .i64 1, .int .i64 4, .func (.func 51) #[] #[]] 60) := ⟨_, rfl⟩
  rw [← hW1] at hd1 hk0' hO hb' ⊢
  clear hW1
  go_loopw [5] (fun i wr => ∃ k : Nat, k ≤ 1 ∧ i = .int .i64 k ∧ machWay W1 D c a1 a2 a3 a4 tail k wr) (fun i _ => 2 - (intOf i).toNat)
  case atStart => exact ⟨0, Nat.zero_le _, rfl, fun _ => hd1.out, (fun h => by cases h), Only.refl _ _⟩
  case round =>
    obtain ⟨k, hk, rfl, hD, hDd, hOw⟩ := hrel
    obtain ⟨ws, hws⟩ : ∃ ws : World, ws = wr := ⟨_, rfl⟩
    subst hws
    have hkd : KindAt ws X wd 1 1 4 51 := hOw.heap hk0'.out (fun e => hDX'.out e.symm)
    obtain ⟨k0, k1, k2, k3, k4, lX⟩ := hkd.cells
    clear hkd
    by_cases hk0 : k = 0
    · subst hk0
      replace hD := hD rfl
      obtain ⟨e0, e1, e2, e3, e4, e5, e6, e7, e8, e9, e10, hfz, hlt⟩ := hD.cells
      have hns := numsL_len [a1, a2, a3, a4] h9'.out
      have hq1 := Lib.hid (cp_same (fun W => cp_yes wMachine (numsL [a1, a2, a3, a4] ++ 10 :: tail) W))
      rw [show wMachine ++ (numsL [a1, a2, a3, a4] ++ 10 :: tail) = headL wMachine [a1, a2, a3, a4] ++ 10 :: tail by simp [headL], ← hwd'.out] at hq1
      have hq2 := Lib.hid (fun W (hB : Bas W) => cut_yes hB 10 (numsL [a1, a2, a3, a4]) tail (numsL_no [a1, a2, a3, a4]) (by simp at hns; omega))
      have hq3 := Lib.hid (fun W (hB : Bas W) => numbersOf_any hB [a1, a2, a3, a4] [] h9'.out (.inl rfl) (by simp) (by simp))
      rw [show leftN [a1, a2, a3, a4] [] 0 = numsL [a1, a2, a3, a4] by simp [leftN]] at hq3
      have hBs := Lib.hid (show Bas ws from Bas.newD hb'.out hOw hD2.out)
      have hS := Lib.hid (And.intro hD hOw)
      clear hns hfz hDd e0 e1 e2 e3 e4 e5 e6 e7 e8 e9 hOw
      go_wp2
      go_quiet ((go_at_call 58; exact Calls.quiet_of_same (hq1.out _)))
      go_wp2_with fail
      refine (hq2.out _ (hBs.out.new ((Only.refl _ ws).drewN _))).mono ?_
      rintro e w3 ⟨rfl, hO3⟩
      have hO3' := Lib.hid (((Only.refl (fun _ => False) ws).drewN _).trans' hO3)
      have x3 := hO3'.out.cell k3 (fun h => h)
      clear hO3 hq1 hq2
      go_wp2_with fail
      refine (hq3.out _ (hBs.out.new hO3'.out)).mono ?_
      rintro e w4 ⟨pq, cq, hh, rfl, hWq, hfq, hO4⟩
      have hO4' := Lib.hid (hO3'.out.trans' hO4)
      have x4 := hO4'.out.cell k4 (fun h => h)
      have htk := Lib.hid (machine_take (hD.kept hO4'.out (fun h => h)) hWq)
      clear hO4 hWq hfq hq3 x3 hD
      go_wp2_with fail
      refine htk.out.mono ?_
      rintro e w5 ⟨rfl, hD5, hO5⟩
      have y10 : ∃ u, w5.cell? ⟨D, 10, none⟩ = some u := ⟨_, row_cell hD5 (i := 10) rfl⟩
      obtain ⟨u10, y10⟩ := y10
      have fz10 := row_free hD5 10
      have hE := Lib.hid (And.intro hD5 hO5)
      clear hD5 hO5 htk x4 k0 k1 k2 k3 k4 e10
      go_wp2
      go_roundw
      case rel =>
        obtain ⟨hD5, hO5⟩ := hE.out
        obtain ⟨hD, hOw⟩ := hS.out
        have o6 : Only (fun j => j = D) w5 (w5.setCell ⟨D, 10, none⟩ (.string (toBA tail))) := (Only.refl (fun j => j = D) w5).setCell (p := ⟨D, 10, none⟩) (fun _ => rfl) _
        have hset := row_set hD5 10 (.string (toBA tail))
        exact ⟨1, by omega, by go_num, (fun h => by cases h), fun _ => hset, ((hOw.trans hO4'.out (fun _ _ h => h.elim)).trans hO5 (fun _ _ h => h)).trans o6 (fun _ _ h => h)⟩
      case measure => simp [intOf]
    · obtain rfl : k = 1 := by omega
      have hE := Lib.hid (And.intro (hDd rfl) hOw)
      clear hD hDd hOw hk0
      go_wp2
      go_ret
      obtain ⟨hD, hOw⟩ := hE.out
      exact ⟨rfl, hD, (hO.out.mono (fun _ _ h => h.elim)).trans hOw (fun _ _ h => h)⟩

def grpRead (w : World) (D : Nat) (c : ConfV) (a1 : Int) (tail : List UInt8) (e : Ending) (w' : World) : Prop :=
  e = .returned (.bool true) ∧ DraftAt w' D (grpWith c a1) tail ∧ Only (fun j => j = D) w w'
def grpWay (W1 : World) (D : Nat) (c : ConfV) (a1 : Int) (tail : List UInt8) (k : Nat) (wr : World) : Prop :=
  (k = 0 → DraftAt wr D c (headL wGroups [a1] ++ 10 :: tail)) ∧ (k = 1 → DraftAt wr D (grpWith c a1) tail) ∧ Only (fun j => j = D) W1 wr
set_option maxRecDepth 100000 in
set_option maxHeartbeats 4000000 in
theorem grp_read {w : World} (hb : Bas w) {D : Nat} {c : ConfV} (a1 : Int) {tail : List UInt8} (hd : DraftAt w D c (headL wGroups [a1] ++ 10 :: tail)) (h9 : Few9 [a1]) (ha0 : a1 ≠ 0) (htl : tail.length ≤ 100000) (hD3 : 3 ≤ D) :
    Calls Tryz.prog 33 #[.pointer (some ⟨D, 0, none⟩), .agg #[.string (toBA wGroups), .int .i64 0, .int .i64 1, .int .i64 1, .func (.func 53) #[] #[]]] w (grpRead w D c a1 tail) := by
  obtain ⟨X, hX⟩ : ∃ X, X = w.heap.size := ⟨_, rfl⟩
  obtain ⟨wd, hwd⟩ : ∃ s, s = toBA wGroups := ⟨_, rfl⟩
  have hk0 : KindAt (w.alloc (.cells #[.string wd, .int .i64 0, .int .i64 1, .int .i64 1, .func (.func 53) #[] #[]] 60)) X wd 0 1 1 53 := heap_new_at _ _ hX.symm
  have hO := Lib.hid ((Only.refl (fun _ => False) w).alloc (.cells #[.string wd, .int .i64 0, .int .i64 1, .int .i64 1, .func (.func 53) #[] #[]] 60))
  have hDX : D ≠ X := by have := row_lt hd; omega
  have hd1 := Lib.hid (hd.kept hO.out (fun h => h))
  have hb' := Lib.hid (hb.new hO.out)
  have h9' := Lib.hid h9
  have hwd' := Lib.hid hwd
  have hX' := Lib.hid hX
  rw [← hwd]
  have hk0' := Lib.hid hk0
  have hDX' := Lib.hid hDX
  have hD2 := Lib.hid hD3
  clear hb h9 hd hk0 hwd hX hDX hD3
  go_enter Tryz.func33, Tryz.ntmps33
  go_wp2
  rw [← hX'.out]
  obtain ⟨W1, hW1⟩ : ∃ W1, W1 = w.alloc (.cells #[.string wd, .int .i64 0, .int .i64 1, .int .i64 1, .func (.func 53) #[] #[]] 60) := ⟨_, rfl⟩
  rw [← hW1] at hd1 hk0' hO hb' ⊢
  clear hW1
  go_loopw [5] (fun i wr => ∃ k : Nat, k ≤ 1 ∧ i = .int .i64 k ∧ grpWay W1 D c a1 tail k wr) (fun i _ => 2 - (intOf i).toNat)
  case atStart => exact ⟨0, Nat.zero_le _, rfl, fun _ => hd1.out, (fun h => by cases h), Only.refl _ _⟩
  case round =>
    obtain ⟨k, hk, rfl, hD, hDd, hOw⟩ := hrel
    obtain ⟨ws, hws⟩ : ∃ ws : World, ws = wr := ⟨_, rfl⟩
    subst hws
    have hkd : KindAt ws X wd 0 1 1 53 := hOw.heap hk0'.out (fun e => hDX'.out e.symm)
    obtain ⟨k0, k1, k2, k3, k4, lX⟩ := hkd.cells
    clear hkd
    by_cases hk0 : k = 0
    · subst hk0
      replace hD := hD rfl
      obtain ⟨e0, e1, e2, e3, e4, e5, e6, e7, e8, e9, e10, hfz, hlt⟩ := hD.cells
      have hns := numsL_len [a1] h9'.out
      have hq1 := Lib.hid (cp_same (fun W => cp_yes wGroups (numsL [a1] ++ 10 :: tail) W))
      rw [show wGroups ++ (numsL [a1] ++ 10 :: tail) = headL wGroups [a1] ++ 10 :: tail by simp [headL], ← hwd'.out] at hq1
      have hq2 := Lib.hid (fun W (hB : Bas W) => cut_yes hB 10 (numsL [a1]) tail (numsL_no [a1]) (by simp at hns; omega))
      have hq3 := Lib.hid (fun W (hB : Bas W) => numbersOf_any hB [a1] [] h9'.out (.inl rfl) (by simp) (by simp))
      rw [show leftN [a1] [] 0 = numsL [a1] by simp [leftN]] at hq3
      have hBs := Lib.hid (show Bas ws from Bas.newD hb'.out hOw hD2.out)
      have hS := Lib.hid (And.intro hD hOw)
      clear hns hfz hDd e0 e1 e2 e3 e4 e5 e6 e7 e8 e9 hOw
      go_wp2
      go_quiet ((go_at_call 58; exact Calls.quiet_of_same (hq1.out _)))
      go_wp2_with fail
      refine (hq2.out _ (hBs.out.new ((Only.refl _ ws).drewN _))).mono ?_
      rintro e w3 ⟨rfl, hO3⟩
      have hO3' := Lib.hid (((Only.refl (fun _ => False) ws).drewN _).trans' hO3)
      have x3 := hO3'.out.cell k3 (fun h => h)
      clear hO3 hq1 hq2
      go_wp2_with fail
      refine (hq3.out _ (hBs.out.new hO3'.out)).mono ?_
      rintro e w4 ⟨pq, cq, hh, rfl, hWq, hfq, hO4⟩
      have hO4' := Lib.hid (hO3'.out.trans' hO4)
      have x4 := hO4'.out.cell k4 (fun h => h)
      have htk := Lib.hid (groups_take (hD.kept hO4'.out (fun h => h)) hWq ha0)
      clear hO4 hWq hfq hq3 x3 hD
      go_wp2_with fail
      refine htk.out.mono ?_
      rintro e w5 ⟨rfl, hD5, hO5⟩
      have y10 : ∃ u, w5.cell? ⟨D, 10, none⟩ = some u := ⟨_, row_cell hD5 (i := 10) rfl⟩
      obtain ⟨u10, y10⟩ := y10
      have fz10 := row_free hD5 10
      have hE := Lib.hid (And.intro hD5 hO5)
      clear hD5 hO5 htk x4 k0 k1 k2 k3 k4 e10
      go_wp2
      go_roundw
      case rel =>
        obtain ⟨hD5, hO5⟩ := hE.out
        obtain ⟨hD, hOw⟩ := hS.out
        have o6 : Only (fun j => j = D) w5 (w5.setCell ⟨D, 10, none⟩ (.string (toBA tail))) := (Only.refl (fun j => j = D) w5).setCell (p := ⟨D, 10, none⟩) (fun _ => rfl) _
        have hset := row_set hD5 10 (.string (toBA tail))
        exact ⟨1, by omega, by go_num, (fun h => by cases h), fun _ => hset, ((hOw.trans hO4'.out (fun _ _ h => h.elim)).trans hO5 (fun _ _ h => h)).trans o6 (fun _ _ h => h)⟩
      case measure => simp [intOf]
    · obtain rfl : k = 1 := by omega
      have hE := Lib.hid (And.intro (hDd rfl) hOw)
      clear hD hDd hOw hk0
      go_wp2
      go_ret
      obtain ⟨hD, hOw⟩ := hE.out
      exact ⟨rfl, hD, (hO.out.mono (fun _ _ h => h.elim)).trans hOw (fun _ _ h => h)⟩
end Go.Proofs.YtbjpnjgkpkfngaaGreatDoor
namespace Go.Proofs.YtbjpnjgkpkfngaaGreatDoor
open Go Go.RowKit

theorem retg_b {a b : Bool} (h : a = b) : Ending.returned (.bool a) = .returned (.bool b) := by rw [h]

set_option maxRecDepth 100000 in
set_option maxHeartbeats 2000000 in
theorem none_read {w : World} {D : Nat} {c : ConfV} {rest word : List UInt8} {lo M m : Int} {f : FuncId} (hd : DraftAt w D c rest) (hp : Lib.hasPrefix rest word = false) (hM : 0 < M) :
    Calls Tryz.prog 33 #[.pointer (some ⟨D, 0, none⟩), .agg #[.string (toBA word), .int .i64 lo, .int .i64 M, .int .i64 m, .func (.func f) #[] #[]]] w fun e w' => e = .returned (.bool (decide (lo ≤ 0))) ∧ Only (fun _ => False) w w' := by
  obtain ⟨X, hX⟩ : ∃ X, X = w.heap.size := ⟨_, rfl⟩
  obtain ⟨wd, hwd⟩ : ∃ s, s = toBA word := ⟨_, rfl⟩
  have hk0 : KindAt (w.alloc (.cells #[.string wd, .int .i64 lo, .int .i64 M, .int .i64 m, .func (.func f) #[] #[]] 60)) X wd lo M m f := heap_new_at _ _ hX.symm
  have hO := Lib.hid ((Only.refl (fun _ => False) w).alloc (.cells #[.string wd, .int .i64 lo, .int .i64 M, .int .i64 m, .func (.func f) #[] #[]] 60))
  have hd1 := hd.kept hO.out (fun h => h)
  have hq1 := Lib.hid (cp_same (fun W => cp_no rest word hp W))
  rw [← hwd] at hq1 ⊢
  have hX' := Lib.hid hX
  have hd1' := Lib.hid hd1
  have hk0' := Lib.hid hk0
  obtain ⟨v, hv⟩ : ∃ v, v = decide (lo ≤ 0) := ⟨_, rfl⟩
  rw [← hv]
  have hv' := Lib.hid hv
  clear hd hp hwd hX hk0 hd1 hv
  go_enter Tryz.func33, Tryz.ntmps33
  go_wp2
  rw [← hX'.out]
  obtain ⟨W1, hW1⟩ : ∃ W1, W1 = w.alloc (.cells #[.string wd, .int .i64 lo, .int .i64 M, .int .i64 m, .func (.func f) #[] #[]] 60) := ⟨_, rfl⟩
  rw [← hW1] at hd1' hk0' hO ⊢
  clear hW1
  go_loopw [5] (fun i wr => i = .int .i64 0 ∧ wr = W1) (fun _ _ => 0)
  case atStart => exact ⟨rfl, rfl⟩
  case round =>
    obtain ⟨rfl, rfl⟩ := hrel
    obtain ⟨k0, k1, k2, k3, k4, lX⟩ := hk0'.out.cells
    obtain ⟨e0, e1, e2, e3, e4, e5, e6, e7, e8, e9, e10, hfz, hlt⟩ := hd1'.out.cells
    clear hfz e0 e1 e2 e3 e4 e5 e6 e7 e8 e9
    go_wp2
    go_quiet ((go_at_call 58; exact Calls.quiet_of_same (hq1.out _)))
    by_cases hlo : lo ≤ 0
    · have hv1 := Lib.hid (show v = true by rw [hv'.out]; simpa using hlo)
      go_wp2
      go_ret
      exact ⟨retg_b (by rw [hv1.out]), hO.out.drewN _⟩
    · have hv1 := Lib.hid (show v = false by rw [hv'.out]; simpa using hlo)
      have hlo' : 0 < lo := by omega
      go_wp2
      go_ret
      exact ⟨retg_b (by rw [hv1.out]), hO.out.drewN _⟩
end Go.Proofs.YtbjpnjgkpkfngaaGreatDoor
namespace Go.Proofs.YtbjpnjgkpkfngaaGreatDoor
open Go Go.RowKit

def ztask : Value := .agg #[.int .i64 0, .int .i64 0, .int .i64 0, .int .i64 0, .int .i64 0, .int .i64 0, .slice none 0 0]
theorem info45 : (Tryz.prog.info? 45).map (fun i => (i.zero, i.size, i.bytes)) = some (some ztask, 7, 72) := by kernel_rfl
theorem taskOne (t : TaskV) : ∀ u ∈ t.cells, u.oneCell' = true := by
  intro u hu
  simp [TaskV.cells] at hu
  rcases hu with rfl | rfl | rfl | rfl | rfl | rfl | rfl <;> rfl
def taskWith (c : ConfV) (x : Sl) : ConfV := { c with ta := x }
/-- A task that was read: its numbers, its program at p. -/
def tv (t : TaskV) (p : Option Addr) (n cap : Nat) : TaskV := { t with o := ⟨p, n, cap⟩ }
def TkEnd (w : World) (D : Nat) (c : ConfV) (rest : List UInt8) (h : Option Nat) (n : Nat) (xs : List Value) (t : TaskV) (l : List Opn) (e : Ending) (w' : World) : Prop :=
  ∃ p cap h' pp pc hp, e = .returned (.bool true) ∧ DraftAt w' D (taskWith c ⟨p, n + 1, cap⟩) rest ∧ Win w' 45 7 (.slice p (n + 1) cap) h' (n + 1) (xs ++ (tv t pp l.length pc).cells) ∧ (h' = h ∨ ∃ g, h' = some g ∧ w.heap.size ≤ g) ∧
    Win w' 69 3 (.slice pp l.length pc) hp l.length (opCells l) ∧ (∀ k, hp = some k → w.heap.size ≤ k) ∧ Only (fun k => k = D ∨ some k = h) w w'
theorem progT_left (l : List Opn) : leftT l 0 = progT l := by unfold leftT progT; simp

theorem tk_drew {w W : World} {D : Nat} {c : ConfV} {rest : List UInt8} {h : Option Nat} {n : Nat} {xs : List Value} {t : TaskV} {l : List Opn} {e : Ending} (hh : TkEnd w D c rest h n xs t l e W) : TkEnd w D c rest h n xs t l e W.drew := by
  obtain ⟨p, cap, h', pp, pc, hp, a1, a2, a3, a4, a5, a6, a7⟩ := hh
  exact ⟨p, cap, h', pp, pc, hp, a1, a2, a3.same rfl, a4, a5.same rfl, a6, a7.drew⟩
theorem tk_fin {w w2 W w5 : World} {D : Nat} {c : ConfV} {rest : List UInt8} {h h5 : Option Nat} {xs : List Value} {t : TaskV} {l : List Opn} {pp p5 : Option Addr} {pc c5 n : Nat} {hp : Option Nat} (hn : n = l.length)
    (hWp : Win w2 69 3 (.slice pp l.length pc) hp l.length (opCells l)) (hfp : ∀ k, hp = some k → w.heap.size ≤ k) (hO2 : Only (fun _ => False) w w2) (hoW : Only (fun _ => False) w2 W) (hO5 : Only (fun k => some k = h) W w5) (d5 : DraftAt w5 D c rest)
    (hW5 : Win w5 45 7 (.slice p5 (c.ta.n + 1) c5) h5 (c.ta.n + 1) (xs ++ (tv t pp n pc).cells)) (hh5 : h5 = h ∨ ∃ g, h5 = some g ∧ W.heap.size ≤ g) {v : Value} {m : Nat} {ys : List Value} (hW0 : Win w2 45 7 v h m ys) (hd2 : DraftAt w2 D c rest) :
    TkEnd w D c rest h c.ta.n xs t l (.returned (.bool true)) (w5.setCell ⟨D, 8, none⟩ (.slice p5 (c.ta.n + 1) c5)) := by
  have hset := row_set d5 8 (.slice p5 (c.ta.n + 1) c5)
  have o6 : Only (fun k => k = D) w5 (w5.setCell ⟨D, 8, none⟩ (.slice p5 (c.ta.n + 1) c5)) := (Only.refl (fun k => k = D) w5).setCell (p := ⟨D, 8, none⟩) (fun _ => rfl) _
  have hne5 := d5.ne hW5 (by decide)
  have hnep := hd2.ne hWp (by decide)
  have hph := hWp.ne hW0 (by decide)
  have s1 := hO2.size
  have s2 := hoW.size
  subst hn
  refine ⟨p5, c5, h5, pp, pc, hp, rfl, hset, hW5.kept o6 (fun k hk e => hne5 (by rw [← e]; exact hk)), ?_, ((hWp.kept hoW (fun _ _ h => h)).kept hO5 (fun k hk e => hph k hk e)).kept o6 (fun k hk e => hnep (by rw [← e]; exact hk)), hfp, ?_⟩
  · rcases hh5 with h1 | ⟨g, h1, h2⟩
    · exact .inl h1
    · exact .inr ⟨g, h1, by omega⟩
  · have oo : Only (fun k => k = D ∨ some k = h) w W := (hO2.trans hoW (fun _ _ h => h)).mono (fun _ _ h => h.elim)
    exact (oo.trans hO5 (fun _ _ h => .inr h)).trans o6 (fun _ _ h => .inl h)

set_option maxRecDepth 100000 in
set_option maxHeartbeats 4000000 in
theorem task_take {w : World} (hb : Bas w) {D : Nat} {c : ConfV} {rest : List UInt8} {h : Option Nat} {xs : List Value} {t : TaskV} {l : List Opn} {q : Option Addr} {qc : Nat} {hq : Option Nat} (hd : DraftAt w D c rest) (hW : Win w 45 7 (.slice c.ta.A c.ta.n c.ta.cap) h c.ta.n xs)
    (hQ : Win w 3 1 (.slice q 6 qc) hq 6 (t.nums.map mkI)) (hn : c.ta.n ≤ 1000) (hl : FineP l) (hl0 : 0 < l.length) :
    Calls Tryz.prog 56 #[.pointer (some ⟨D, 0, none⟩), .string (toBA (32 :: progT l)), .slice q 6 qc] w (TkEnd w D c rest h c.ta.n xs t l) := by
  have hcp := Lib.hid (cp_yes [32] (progT l) w)
  rw [show [32] ++ progT l = 32 :: progT l from rfl, show toBA [32] = (⟨#[32]⟩ : ByteArray) from rfl] at hcp
  unfold CpEnd at hcp
  have hpa := Lib.hid (parse_any hb l hl.2 (by have := hl.1; omega) hl0)
  rw [progT_left] at hpa
  obtain ⟨g, off, cap, hhg, he, _, _, hg, hc, _⟩ := hQ.at_ (by omega)
  cases he
  have hk := Lib.hid (show ∀ W, Only (fun _ => False) w W → W.cell? ⟨g, off, none⟩ = some (.int .i64 t.p) ∧ W.cell? ⟨g, off + 1, none⟩ = some (.int .i64 t.th) ∧ W.cell? ⟨g, off + 2, none⟩ = some (.int .i64 t.pe) ∧ W.cell? ⟨g, off + 3, none⟩ = some (.int .i64 t.de) ∧ W.cell? ⟨g, off + 4, none⟩ = some (.int .i64 t.fr) ∧ W.cell? ⟨g, off + 5, none⟩ = some (.int .i64 t.fl) from fun W hW =>
    ⟨hW.cell (hc 0 _ rfl) (fun h => h), hW.cell (hc 1 _ rfl) (fun h => h), hW.cell (hc 2 _ rfl) (fun h => h), hW.cell (hc 3 _ rfl) (fun h => h), hW.cell (hc 4 _ rfl) (fun h => h), hW.cell (hc 5 _ rfl) (fun h => h)⟩)
  have hne := hd.ne hW (by decide)
  have hqg := hQ.ne hW (by decide)
  have hgh := Lib.hid (hqg g (by assumption))
  have hgD : ¬ g = D := fun e => (hd.ne hQ (by decide)) (by rw [hhg, e])
  have hDg : ¬ D = g := fun e => hgD e.symm
  have hd' := Lib.hid hd
  have hW' := Lib.hid hW
  clear hqg hhg
  have hlt63 : c.ta.n + 1 ≤ maxLen := by unfold maxLen; omega
  have hll := hl.1
  clear hd hW hQ hc hl hb
  go_enter Tryz.func56, Tryz.ntmps56
  go_wp2_with fail
  refine hcp.out.mono ?_
  rintro e w' ⟨rfl, rfl⟩
  go_wp2_with fail
  refine hpa.out.mono ?_
  rintro e w2 ⟨pp, pc, hp, rfl, hWp, hfp, hO2⟩
  have hE := Lib.hid (And.intro hWp (And.intro hfp hO2))
  obtain ⟨q0, q1, q2, q3, q4, q5⟩ := hk.out w2 hO2
  have hd2 := Lib.hid (hd'.out.kept hO2 (fun h => h))
  obtain ⟨e0, e1, e2, e3, e4, e5, e6, e7, e8, e9, e10, hfz, hlt⟩ := hd2.out.cells
  have fz := hfz 8
  have hwin := Lib.hid (fun W (ho : Only (fun _ => False) w2 W) => (hW'.out.kept hO2 (fun _ _ h => h)).kept ho (fun _ _ h => h))
  have hk4 := Lib.hid (show ∀ W w4, Only (fun _ => False) w2 W → Only (fun k => some k = h) W w4 → DraftAt w4 D c rest from fun W w4 h0 h4 => (hd2.out.kept h0 (fun h => h)).kept h4 (fun e => hne e.symm))
  have hkS := Lib.hid (show ∀ W w4, Only (fun _ => False) w2 W → Only (fun k => some k = h) W w4 → w4.cell? ⟨D, 8, none⟩ = some (.slice c.ta.A c.ta.n c.ta.cap) ∧ w4.cell? ⟨g, off, none⟩ = some (.int .i64 t.p) ∧ w4.cell? ⟨g, off + 1, none⟩ = some (.int .i64 t.th) ∧ w4.cell? ⟨g, off + 2, none⟩ = some (.int .i64 t.pe) ∧ w4.cell? ⟨g, off + 3, none⟩ = some (.int .i64 t.de) ∧ w4.cell? ⟨g, off + 4, none⟩ = some (.int .i64 t.fr) ∧ w4.cell? ⟨g, off + 5, none⟩ = some (.int .i64 t.fl) from fun W w4 h0 h4 =>
    ⟨h4.cell (h0.cell e8 (fun h => h)) (fun e => hne e.symm), h4.cell (h0.cell q0 (fun h => h)) hgh.out, h4.cell (h0.cell q1 (fun h => h)) hgh.out, h4.cell (h0.cell q2 (fun h => h)) hgh.out, h4.cell (h0.cell q3 (fun h => h)) hgh.out, h4.cell (h0.cell q4 (fun h => h)) hgh.out, h4.cell (h0.cell q5 (fun h => h)) hgh.out⟩)
  have lg : g < w2.heap.size := World.block_lt_of_cell? w2 _ q0
  obtain ⟨n, hn'⟩ : ∃ n, n = l.length := ⟨_, rfl⟩
  rw [← hn'] at hll ⊢
  have hn2 := Lib.hid hn'
  clear hWp hfp hO2 hfz hn' e0 e1 e2 e3 e4 e5 e6 e7 e9 e10
  go_upto_region 5 with fail
  refine wp_region_held_drew (S := (fun w' => w'.cell? ⟨g, off, none⟩ = some (.int .i64 t.p) ∧ w'.cell? ⟨g, off + 1, none⟩ = some (.int .i64 t.th) ∧ w'.cell? ⟨g, off + 2, none⟩ = some (.int .i64 t.pe) ∧ w'.cell? ⟨g, off + 3, none⟩ = some (.int .i64 t.de) ∧ w'.cell? ⟨g, off + 4, none⟩ = some (.int .i64 t.fr) ∧ w'.cell? ⟨g, off + 5, none⟩ = some (.int .i64 t.fl))) (by kernel_rfl) ?_ (fun hHeld => ?_)
  · exact ⟨q0, q1, q2, q3, q4, q5⟩
  refine wpAnyH_take (i := 0) (oi := { dst := some 27, op := Op.move (Operand.tmp 0), type := 55, pos := "parse.go:112", after := #[], guard := none }) (v := ?_) rfl (by kernel_rfl) (by kernel_rfl) (by kernel_rfl) (fun _ _ _ h => h) (Or.inl ⟨by rfl, ?_⟩) (by assumption) ?_
  rotate_left
  · (intro w hSw; (try dsimp only at hSw); go_simp; try with_reducible rfl)
  try simp only [Act.put, List.setIfInBounds_toArray, List.set_cons_zero, List.set_cons_succ]
  refine wpAnyH_take (i := 1) (oi := { dst := some 28, op := Op.move (Operand.tmp 0), type := 55, pos := "parse.go:112", after := #[], guard := none }) (v := ?_) rfl (by kernel_rfl) (by kernel_rfl) (by kernel_rfl) (fun _ _ _ h => h) (Or.inl ⟨by rfl, ?_⟩) (by assumption) ?_
  rotate_left
  · (intro w hSw; (try dsimp only at hSw); go_simp; try with_reducible rfl)
  try simp only [Act.put, List.setIfInBounds_toArray, List.set_cons_zero, List.set_cons_succ]
  refine wpAnyH_take (i := 2) (oi := { dst := some 29, op := Op.nilCheck (Operand.tmp 28), type := 0, pos := "parse.go:112", after := #[{ on := 1, ground := Ground.data }], guard := none }) (v := ?_) rfl (by kernel_rfl) (by kernel_rfl) (by kernel_rfl) (fun _ _ _ h => h) (Or.inl ⟨by rfl, ?_⟩) (by assumption) ?_
  rotate_left
  · (intro w hSw; (try dsimp only at hSw); go_simp; try with_reducible rfl)
  try simp only [Act.put, List.setIfInBounds_toArray, List.set_cons_zero, List.set_cons_succ]
  refine wpAnyH_take (i := 3) (oi := { dst := some 30, op := Op.fieldAddr 57 (Operand.tmp 29) 0, type := 0, pos := "parse.go:112", after := #[{ on := 2, ground := Ground.data }], guard := none }) (v := ?_) rfl (by kernel_rfl) (by kernel_rfl) (by kernel_rfl) (fun _ _ _ h => h) (Or.inl ⟨by rfl, ?_⟩) (by assumption) ?_
  rotate_left
  · (intro w hSw; (try dsimp only at hSw); go_simp; try with_reducible rfl)
  try simp only [Act.put, List.setIfInBounds_toArray, List.set_cons_zero, List.set_cons_succ]
  refine wpAnyH_take (i := 4) (oi := { dst := some 31, op := Op.fieldAddr 27 (Operand.tmp 30) 5, type := 0, pos := "parse.go:112", after := #[{ on := 3, ground := Ground.data }], guard := none }) (v := ?_) rfl (by kernel_rfl) (by kernel_rfl) (by kernel_rfl) (fun _ _ _ h => h) (Or.inl ⟨by rfl, ?_⟩) (by assumption) ?_
  rotate_left
  · (intro w hSw; (try dsimp only at hSw); go_simp; try with_reducible rfl)
  try simp only [Act.put, List.setIfInBounds_toArray, List.set_cons_zero, List.set_cons_succ]
  refine wpAnyH_take (i := 6) (oi := { dst := some 33, op := Op.move (Operand.tmp 2), type := 24, pos := "parse.go:112", after := #[], guard := none }) (v := ?_) rfl (by kernel_rfl) (by kernel_rfl) (by kernel_rfl) (fun _ _ _ h => h) (Or.inl ⟨by rfl, ?_⟩) (by assumption) ?_
  rotate_left
  · (intro w hSw; (try dsimp only at hSw); go_simp; try with_reducible rfl)
  try simp only [Act.put, List.setIfInBounds_toArray, List.set_cons_zero, List.set_cons_succ]
  refine wpAnyH_take (i := 7) (oi := { dst := some 34, op := Op.indexAddr 24 (Operand.tmp 33) (Operand.const (Value.int IntKind.i64 0)), type := 0, pos := "parse.go:112", after := #[{ on := 6, ground := Ground.data }], guard := none }) (v := ?_) rfl (by kernel_rfl) (by kernel_rfl) (by kernel_rfl) (fun _ _ _ h => h) (Or.inl ⟨by rfl, ?_⟩) (by assumption) ?_
  rotate_left
  · (intro w hSw; (try dsimp only at hSw); go_simp; try with_reducible rfl)
  try simp only [Act.put, List.setIfInBounds_toArray, List.set_cons_zero, List.set_cons_succ]
  refine wpAnyH_take (i := 8) (oi := { dst := some 35, op := Op.load 3 (Operand.tmp 34), type := 3, pos := "parse.go:112", after := #[{ on := 7, ground := Ground.data }], guard := none }) (v := ?_) rfl (by kernel_rfl) (by kernel_rfl) (by kernel_rfl) (fun _ _ _ h => h) (Or.inl ⟨by rfl, ?_⟩) (by assumption) ?_
  rotate_left
  · (intro w hSw; (try dsimp only at hSw); go_simp; try with_reducible rfl)
  try simp only [Act.put, List.setIfInBounds_toArray, List.set_cons_zero, List.set_cons_succ]
  refine wpAnyH_take (i := 9) (oi := { dst := some 36, op := Op.move (Operand.tmp 2), type := 24, pos := "parse.go:112", after := #[], guard := none }) (v := ?_) rfl (by kernel_rfl) (by kernel_rfl) (by kernel_rfl) (fun _ _ _ h => h) (Or.inl ⟨by rfl, ?_⟩) (by assumption) ?_
  rotate_left
  · (intro w hSw; (try dsimp only at hSw); go_simp; try with_reducible rfl)
  try simp only [Act.put, List.setIfInBounds_toArray, List.set_cons_zero, List.set_cons_succ]
  refine wpAnyH_take (i := 10) (oi := { dst := some 37, op := Op.indexAddr 24 (Operand.tmp 36) (Operand.const (Value.int IntKind.i64 1)), type := 0, pos := "parse.go:112", after := #[{ on := 9, ground := Ground.data }], guard := none }) (v := ?_) rfl (by kernel_rfl) (by kernel_rfl) (by kernel_rfl) (fun _ _ _ h => h) (Or.inl ⟨by rfl, ?_⟩) (by assumption) ?_
  rotate_left
  · (intro w hSw; (try dsimp only at hSw); go_simp; try with_reducible rfl)
  try simp only [Act.put, List.setIfInBounds_toArray, List.set_cons_zero, List.set_cons_succ]
  refine wpAnyH_take (i := 11) (oi := { dst := some 38, op := Op.load 3 (Operand.tmp 37), type := 3, pos := "parse.go:112", after := #[{ on := 10, ground := Ground.data }], guard := none }) (v := ?_) rfl (by kernel_rfl) (by kernel_rfl) (by kernel_rfl) (fun _ _ _ h => h) (Or.inl ⟨by rfl, ?_⟩) (by assumption) ?_
  rotate_left
  · (intro w hSw; (try dsimp only at hSw); go_simp; try with_reducible rfl)
  try simp only [Act.put, List.setIfInBounds_toArray, List.set_cons_zero, List.set_cons_succ]
  refine wpAnyH_take (i := 12) (oi := { dst := some 39, op := Op.move (Operand.tmp 2), type := 24, pos := "parse.go:112", after := #[], guard := none }) (v := ?_) rfl (by kernel_rfl) (by kernel_rfl) (by kernel_rfl) (fun _ _ _ h => h) (Or.inl ⟨by rfl, ?_⟩) (by assumption) ?_
  rotate_left
  · (intro w hSw; (try dsimp only at hSw); go_simp; try with_reducible rfl)
  try simp only [Act.put, List.setIfInBounds_toArray, List.set_cons_zero, List.set_cons_succ]
  refine wpAnyH_take (i := 13) (oi := { dst := some 40, op := Op.indexAddr 24 (Operand.tmp 39) (Operand.const (Value.int IntKind.i64 2)), type := 0, pos := "parse.go:112", after := #[{ on := 12, ground := Ground.data }], guard := none }) (v := ?_) rfl (by kernel_rfl) (by kernel_rfl) (by kernel_rfl) (fun _ _ _ h => h) (Or.inl ⟨by rfl, ?_⟩) (by assumption) ?_
  rotate_left
  · (intro w hSw; (try dsimp only at hSw); go_simp; try with_reducible rfl)
  try simp only [Act.put, List.setIfInBounds_toArray, List.set_cons_zero, List.set_cons_succ]
  refine wpAnyH_take (i := 14) (oi := { dst := some 41, op := Op.load 3 (Operand.tmp 40), type := 3, pos := "parse.go:112", after := #[{ on := 13, ground := Ground.data }], guard := none }) (v := ?_) rfl (by kernel_rfl) (by kernel_rfl) (by kernel_rfl) (fun _ _ _ h => h) (Or.inl ⟨by rfl, ?_⟩) (by assumption) ?_
  rotate_left
  · (intro w hSw; (try dsimp only at hSw); go_simp; try with_reducible rfl)
  try simp only [Act.put, List.setIfInBounds_toArray, List.set_cons_zero, List.set_cons_succ]
  refine wpAnyH_take (i := 15) (oi := { dst := some 42, op := Op.move (Operand.tmp 2), type := 24, pos := "parse.go:112", after := #[], guard := none }) (v := ?_) rfl (by kernel_rfl) (by kernel_rfl) (by kernel_rfl) (fun _ _ _ h => h) (Or.inl ⟨by rfl, ?_⟩) (by assumption) ?_
  rotate_left
  · (intro w hSw; (try dsimp only at hSw); go_simp; try with_reducible rfl)
  try simp only [Act.put, List.setIfInBounds_toArray, List.set_cons_zero, List.set_cons_succ]
  refine wpAnyH_take (i := 16) (oi := { dst := some 43, op := Op.indexAddr 24 (Operand.tmp 42) (Operand.const (Value.int IntKind.i64 3)), type := 0, pos := "parse.go:112", after := #[{ on := 15, ground := Ground.data }], guard := none }) (v := ?_) rfl (by kernel_rfl) (by kernel_rfl) (by kernel_rfl) (fun _ _ _ h => h) (Or.inl ⟨by rfl, ?_⟩) (by assumption) ?_
  rotate_left
  · (intro w hSw; (try dsimp only at hSw); go_simp; try with_reducible rfl)
  try simp only [Act.put, List.setIfInBounds_toArray, List.set_cons_zero, List.set_cons_succ]
  refine wpAnyH_take (i := 17) (oi := { dst := some 44, op := Op.load 3 (Operand.tmp 43), type := 3, pos := "parse.go:112", after := #[{ on := 16, ground := Ground.data }], guard := none }) (v := ?_) rfl (by kernel_rfl) (by kernel_rfl) (by kernel_rfl) (fun _ _ _ h => h) (Or.inl ⟨by rfl, ?_⟩) (by assumption) ?_
  rotate_left
  · (intro w hSw; (try dsimp only at hSw); go_simp; try with_reducible rfl)
  try simp only [Act.put, List.setIfInBounds_toArray, List.set_cons_zero, List.set_cons_succ]
  refine wpAnyH_take (i := 18) (oi := { dst := some 45, op := Op.move (Operand.tmp 2), type := 24, pos := "parse.go:112", after := #[], guard := none }) (v := ?_) rfl (by kernel_rfl) (by kernel_rfl) (by kernel_rfl) (fun _ _ _ h => h) (Or.inl ⟨by rfl, ?_⟩) (by assumption) ?_
  rotate_left
  · (intro w hSw; (try dsimp only at hSw); go_simp; try with_reducible rfl)
  try simp only [Act.put, List.setIfInBounds_toArray, List.set_cons_zero, List.set_cons_succ]
  refine wpAnyH_take (i := 19) (oi := { dst := some 46, op := Op.indexAddr 24 (Operand.tmp 45) (Operand.const (Value.int IntKind.i64 4)), type := 0, pos := "parse.go:112", after := #[{ on := 18, ground := Ground.data }], guard := none }) (v := ?_) rfl (by kernel_rfl) (by kernel_rfl) (by kernel_rfl) (fun _ _ _ h => h) (Or.inl ⟨by rfl, ?_⟩) (by assumption) ?_
  rotate_left
  · (intro w hSw; (try dsimp only at hSw); go_simp; try with_reducible rfl)
  try simp only [Act.put, List.setIfInBounds_toArray, List.set_cons_zero, List.set_cons_succ]
  refine wpAnyH_take (i := 20) (oi := { dst := some 47, op := Op.load 3 (Operand.tmp 46), type := 3, pos := "parse.go:112", after := #[{ on := 19, ground := Ground.data }], guard := none }) (v := ?_) rfl (by kernel_rfl) (by kernel_rfl) (by kernel_rfl) (fun _ _ _ h => h) (Or.inl ⟨by rfl, ?_⟩) (by assumption) ?_
  rotate_left
  · (intro w hSw; (try dsimp only at hSw); go_simp; try with_reducible rfl)
  try simp only [Act.put, List.setIfInBounds_toArray, List.set_cons_zero, List.set_cons_succ]
  refine wpAnyH_take (i := 21) (oi := { dst := some 48, op := Op.move (Operand.tmp 2), type := 24, pos := "parse.go:112", after := #[], guard := none }) (v := ?_) rfl (by kernel_rfl) (by kernel_rfl) (by kernel_rfl) (fun _ _ _ h => h) (Or.inl ⟨by rfl, ?_⟩) (by assumption) ?_
  rotate_left
  · (intro w hSw; (try dsimp only at hSw); go_simp; try with_reducible rfl)
  try simp only [Act.put, List.setIfInBounds_toArray, List.set_cons_zero, List.set_cons_succ]
  refine wpAnyH_take (i := 22) (oi := { dst := some 49, op := Op.indexAddr 24 (Operand.tmp 48) (Operand.const (Value.int IntKind.i64 5)), type := 0, pos := "parse.go:112", after := #[{ on := 21, ground := Ground.data }], guard := none }) (v := ?_) rfl (by kernel_rfl) (by kernel_rfl) (by kernel_rfl) (fun _ _ _ h => h) (Or.inl ⟨by rfl, ?_⟩) (by assumption) ?_
  rotate_left
  · (intro w hSw; (try dsimp only at hSw); go_simp; try with_reducible rfl)
  try simp only [Act.put, List.setIfInBounds_toArray, List.set_cons_zero, List.set_cons_succ]
  refine wpAnyH_take (i := 23) (oi := { dst := some 50, op := Op.load 3 (Operand.tmp 49), type := 3, pos := "parse.go:112", after := #[{ on := 22, ground := Ground.data }], guard := none }) (v := ?_) rfl (by kernel_rfl) (by kernel_rfl) (by kernel_rfl) (fun _ _ _ h => h) (Or.inl ⟨by rfl, ?_⟩) (by assumption) ?_
  rotate_left
  · (intro w hSw; (try dsimp only at hSw); go_simp; try with_reducible rfl)
  try simp only [Act.put, List.setIfInBounds_toArray, List.set_cons_zero, List.set_cons_succ]
  refine wpAnyH_take (i := 24) (oi := { dst := some 51, op := Op.move (Operand.tmp 9), type := 43, pos := "parse.go:112", after := #[], guard := none }) (v := ?_) rfl (by kernel_rfl) (by kernel_rfl) (by kernel_rfl) (fun _ _ _ h => h) (Or.inl ⟨by rfl, ?_⟩) (by assumption) ?_
  rotate_left
  · (intro w hSw; (try dsimp only at hSw); go_simp; try with_reducible rfl)
  try simp only [Act.put, List.setIfInBounds_toArray, List.set_cons_zero, List.set_cons_succ]
  refine wpAnyH_take (i := 25) (oi := { dst := some 52, op := Op.build 45 #[(0, Operand.tmp 35), (1, Operand.tmp 38), (2, Operand.tmp 41), (3, Operand.tmp 44), (4, Operand.tmp 47), (5, Operand.tmp 50), (6, Operand.tmp 51)], type := 45, pos := "parse.go:112", after := #[{ on := 8, ground := Ground.data }, { on := 11, ground := Ground.data }, { on := 14, ground := Ground.data }, { on := 17, ground := Ground.data }, { on := 20, ground := Ground.data }, { on := 23, ground := Ground.data }, { on := 24, ground := Ground.data }], guard := none }) (v := ?_) rfl (by kernel_rfl) (by kernel_rfl) (by kernel_rfl) (fun _ _ _ h => h) (Or.inl ⟨by rfl, ?_⟩) (by assumption) ?_
  rotate_left
  · (intro w hSw; (try dsimp only at hSw); go_simp; try with_reducible rfl)
  try simp only [Act.put, List.setIfInBounds_toArray, List.set_cons_zero, List.set_cons_succ]
  refine wpAnyH_ready (rs := [5, 26]) (by kernel_rfl) (by simp) ?_
  refine AllReadyH.cons (o := { dst := some 32, op := Op.load 25 (Operand.tmp 31), type := 25, pos := "parse.go:112", after := #[{ on := 4, ground := Ground.data }], guard := none }) rfl (fun K hK => ?_) (AllReadyH.cons (o := { dst := some 53, op := Op.buildSlice 25 1 #[(0, Operand.tmp 52)], type := 25, pos := "parse.go:112", after := #[{ on := 25, ground := Ground.data }], guard := none }) rfl (fun K hK => ?_) AllReadyH.nil)
  · go_simp
    refine hK.out _ _ ?_ (fun hHeld => ?_)
    · first | go_keep | exact hS5 | (obtain ⟨z2, z3, z4, z5, z6, z7⟩ := hS5; refine ⟨?_, ?_, ?_, ?_, ?_, ?_⟩ <;> assumption)
    clear hK K
    try simp only [Act.put, List.setIfInBounds_toArray, List.set_cons_zero, List.set_cons_succ]
    refine wpAnyH_ready (rs := [26]) (by kernel_rfl) (by simp) ?_
    refine AllReadyH.cons (o := { dst := some 53, op := Op.buildSlice 25 1 #[(0, Operand.tmp 52)], type := 25, pos := "parse.go:112", after := #[{ on := 25, ground := Ground.data }], guard := none }) rfl (fun K hK => ?_) AllReadyH.nil
    go_simp
    refine hK.out _ _ ?_ (fun hHeld => ?_)
    · first | go_keep | exact hS5 | (obtain ⟨z2, z3, z4, z5, z6, z7⟩ := hS5; refine ⟨?_, ?_, ?_, ?_, ?_, ?_⟩ <;> assumption)
    clear hK K
    try simp only [Act.put, List.setIfInBounds_toArray, List.set_cons_zero, List.set_cons_succ]
    refine wpAnyH_ready (rs := [27]) (by kernel_rfl) (by simp) ?_
    refine AllReadyH.cons (o := { dst := some 54, op := Op.call { callee := Callee.builtin Builtin.append, args := #[Operand.tmp 32, Operand.tmp 53], argTypes := #[25, 25] }, type := 25, pos := "parse.go:112", after := #[{ on := 5, ground := Ground.data }, { on := 26, ground := Ground.data }], guard := none }) rfl (fun K hK => ?_) AllReadyH.nil
    (refine step_append_win rfl (.tmp 32) (.tmp 53) 25 rfl 45 ztask 7 72 Tryz.underlying25 info45 rfl (by decide) (v := .slice c.ta.A c.ta.n c.ta.cap) (h := h) (by rfl) (by (first | exact hwin.out _ ((Only.refl _ w2).alloc _).drew | exact hwin.out _ ((Only.refl _ w2).drew.alloc _))) _ 1 1 (by rfl) (tv t pp n pc).cells rfl (fun _ => ⟨_, rfl, row_all (heap_new_at _ _ (by simp))⟩) (taskOne _) hlt63 (by omega) ?_; intro v5 w5 h5 hW5 hO5 hh5; obtain ⟨p5, c5, rfl, _, _⟩ := hW5.out.form; have d5 := Lib.hid (hk4.out _ w5 ((Only.refl _ w2).alloc _).drew hO5.out); have fz5 := row_free d5.out 8; obtain ⟨hS5a, hS5⟩ := hkS.out _ w5 ((Only.refl _ w2).alloc _).drew hO5.out)
    refine hK.out _ _ ?_ (fun hHeld => ?_)
    · first | go_keep | exact hS5 | (obtain ⟨z2, z3, z4, z5, z6, z7⟩ := hS5; refine ⟨?_, ?_, ?_, ?_, ?_, ?_⟩ <;> assumption)
    clear hK K
    try simp only [Act.put, List.setIfInBounds_toArray, List.set_cons_zero, List.set_cons_succ]
    refine wpAnyH_take (i := 28) (oi := { dst := some 55, op := Op.nilCheck (Operand.tmp 27), type := 0, pos := "parse.go:112", after := #[{ on := 0, ground := Ground.data }, { on := 0, ground := Ground.phase }, { on := 1, ground := Ground.phase }, { on := 2, ground := Ground.phase }, { on := 3, ground := Ground.phase }, { on := 4, ground := Ground.phase }, { on := 5, ground := Ground.phase }, { on := 6, ground := Ground.phase }, { on := 7, ground := Ground.phase }, { on := 8, ground := Ground.phase }, { on := 9, ground := Ground.phase }, { on := 10, ground := Ground.phase }, { on := 11, ground := Ground.phase }, { on := 12, ground := Ground.phase }, { on := 13, ground := Ground.phase }, { on := 14, ground := Ground.phase }, { on := 15, ground := Ground.phase }, { on := 16, ground := Ground.phase }, { on := 17, ground := Ground.phase }, { on := 18, ground := Ground.phase }, { on := 19, ground := Ground.phase }, { on := 20, ground := Ground.phase }, { on := 21, ground := Ground.phase }, { on := 22, ground := Ground.phase }, { on := 23, ground := Ground.phase }, { on := 24, ground := Ground.phase }, { on := 25, ground := Ground.phase }, { on := 26, ground := Ground.phase }, { on := 27, ground := Ground.phase }], guard := none }) (v := ?_) rfl (by kernel_rfl) (by kernel_rfl) (by kernel_rfl) (fun _ _ _ h => h) (Or.inl ⟨by rfl, ?_⟩) (by assumption) ?_
    rotate_left
    · (intro w hSw; (try dsimp only at hSw); go_simp; try with_reducible rfl)
    try simp only [Act.put, List.setIfInBounds_toArray, List.set_cons_zero, List.set_cons_succ]
    refine wpAnyH_take (i := 29) (oi := { dst := some 56, op := Op.fieldAddr 57 (Operand.tmp 55) 0, type := 0, pos := "parse.go:112", after := #[{ on := 28, ground := Ground.data }, { on := 0, ground := Ground.phase }, { on := 1, ground := Ground.phase }, { on := 2, ground := Ground.phase }, { on := 3, ground := Ground.phase }, { on := 4, ground := Ground.phase }, { on := 5, ground := Ground.phase }, { on := 6, ground := Ground.phase }, { on := 7, ground := Ground.phase }, { on := 8, ground := Ground.phase }, { on := 9, ground := Ground.phase }, { on := 10, ground := Ground.phase }, { on := 11, ground := Ground.phase }, { on := 12, ground := Ground.phase }, { on := 13, ground := Ground.phase }, { on := 14, ground := Ground.phase }, { on := 15, ground := Ground.phase }, { on := 16, ground := Ground.phase }, { on := 17, ground := Ground.phase }, { on := 18, ground := Ground.phase }, { on := 19, ground := Ground.phase }, { on := 20, ground := Ground.phase }, { on := 21, ground := Ground.phase }, { on := 22, ground := Ground.phase }, { on := 23, ground := Ground.phase }, { on := 24, ground := Ground.phase }, { on := 25, ground := Ground.phase }, { on := 26, ground := Ground.phase }, { on := 27, ground := Ground.phase }], guard := none }) (v := ?_) rfl (by kernel_rfl) (by kernel_rfl) (by kernel_rfl) (fun _ _ _ h => h) (Or.inl ⟨by rfl, ?_⟩) (by assumption) ?_
    rotate_left
    · (intro w hSw; (try dsimp only at hSw); go_simp; try with_reducible rfl)
    try simp only [Act.put, List.setIfInBounds_toArray, List.set_cons_zero, List.set_cons_succ]
    refine wpAnyH_take (i := 30) (oi := { dst := some 57, op := Op.fieldAddr 27 (Operand.tmp 56) 5, type := 0, pos := "parse.go:112", after := #[{ on := 29, ground := Ground.data }, { on := 0, ground := Ground.phase }, { on := 1, ground := Ground.phase }, { on := 2, ground := Ground.phase }, { on := 3, ground := Ground.phase }, { on := 4, ground := Ground.phase }, { on := 5, ground := Ground.phase }, { on := 6, ground := Ground.phase }, { on := 7, ground := Ground.phase }, { on := 8, ground := Ground.phase }, { on := 9, ground := Ground.phase }, { on := 10, ground := Ground.phase }, { on := 11, ground := Ground.phase }, { on := 12, ground := Ground.phase }, { on := 13, ground := Ground.phase }, { on := 14, ground := Ground.phase }, { on := 15, ground := Ground.phase }, { on := 16, ground := Ground.phase }, { on := 17, ground := Ground.phase }, { on := 18, ground := Ground.phase }, { on := 19, ground := Ground.phase }, { on := 20, ground := Ground.phase }, { on := 21, ground := Ground.phase }, { on := 22, ground := Ground.phase }, { on := 23, ground := Ground.phase }, { on := 24, ground := Ground.phase }, { on := 25, ground := Ground.phase }, { on := 26, ground := Ground.phase }, { on := 27, ground := Ground.phase }], guard := none }) (v := ?_) rfl (by kernel_rfl) (by kernel_rfl) (by kernel_rfl) (fun _ _ _ h => h) (Or.inl ⟨by rfl, ?_⟩) (by assumption) ?_
    rotate_left
    · (intro w hSw; (try dsimp only at hSw); go_simp; try with_reducible rfl)
    try simp only [Act.put, List.setIfInBounds_toArray, List.set_cons_zero, List.set_cons_succ]
    refine wpAnyH_ready (rs := [31]) (by kernel_rfl) (by simp) ?_
    refine AllReadyH.cons (o := { dst := none, op := Op.store 25 (Operand.tmp 57) (Operand.tmp 54), type := 0, pos := "parse.go:112", after := #[{ on := 30, ground := Ground.data }, { on := 27, ground := Ground.data }, { on := 27, ground := Ground.chain }, { on := 0, ground := Ground.phase }, { on := 1, ground := Ground.phase }, { on := 2, ground := Ground.phase }, { on := 3, ground := Ground.phase }, { on := 4, ground := Ground.phase }, { on := 5, ground := Ground.phase }, { on := 6, ground := Ground.phase }, { on := 7, ground := Ground.phase }, { on := 8, ground := Ground.phase }, { on := 9, ground := Ground.phase }, { on := 10, ground := Ground.phase }, { on := 11, ground := Ground.phase }, { on := 12, ground := Ground.phase }, { on := 13, ground := Ground.phase }, { on := 14, ground := Ground.phase }, { on := 15, ground := Ground.phase }, { on := 16, ground := Ground.phase }, { on := 17, ground := Ground.phase }, { on := 18, ground := Ground.phase }, { on := 19, ground := Ground.phase }, { on := 20, ground := Ground.phase }, { on := 21, ground := Ground.phase }, { on := 22, ground := Ground.phase }, { on := 23, ground := Ground.phase }, { on := 24, ground := Ground.phase }, { on := 25, ground := Ground.phase }, { on := 26, ground := Ground.phase }, { on := 27, ground := Ground.phase }], guard := none }) rfl (fun K hK => ?_) AllReadyH.nil
    go_simp
    refine hK.out _ _ ?_ (fun hHeld => ?_)
    · first | go_keep | exact hS5 | (obtain ⟨z2, z3, z4, z5, z6, z7⟩ := hS5; refine ⟨?_, ?_, ?_, ?_, ?_, ?_⟩ <;> assumption)
    clear hK K
    try simp only [Act.put, List.setIfInBounds_toArray, List.set_cons_zero, List.set_cons_succ]
    refine wpAnyH_done (by kernel_rfl) ?_ _
    go_wp2
    go_ret
    obtain ⟨hWp, hfp, hO2⟩ := hE.out
    have hoW : Only (fun _ => False) w2 ((w2.alloc (.cells #[.int .i64 t.p, .int .i64 t.th, .int .i64 t.pe, .int .i64 t.de, .int .i64 t.fr, .int .i64 t.fl, .slice pp n pc] 45)).drew) := ((Only.refl _ w2).alloc _).drew
    have fin := tk_fin hn2.out hWp hfp hO2 hoW hO5.out d5.out hW5.out hh5.out (hW'.out.kept hO2 (fun _ _ h => h)) hd2.out
    first
      | exact fin
      | exact tk_drew fin
  · go_simp
    refine hK.out _ _ ?_ (fun hHeld => ?_)
    · first | go_keep | exact hS5 | (obtain ⟨z2, z3, z4, z5, z6, z7⟩ := hS5; refine ⟨?_, ?_, ?_, ?_, ?_, ?_⟩ <;> assumption)
    clear hK K
    try simp only [Act.put, List.setIfInBounds_toArray, List.set_cons_zero, List.set_cons_succ]
    refine wpAnyH_ready (rs := [5]) (by kernel_rfl) (by simp) ?_
    refine AllReadyH.cons (o := { dst := some 32, op := Op.load 25 (Operand.tmp 31), type := 25, pos := "parse.go:112", after := #[{ on := 4, ground := Ground.data }], guard := none }) rfl (fun K hK => ?_) AllReadyH.nil
    go_simp
    refine hK.out _ _ ?_ (fun hHeld => ?_)
    · first | go_keep | exact hS5 | (obtain ⟨z2, z3, z4, z5, z6, z7⟩ := hS5; refine ⟨?_, ?_, ?_, ?_, ?_, ?_⟩ <;> assumption)
    clear hK K
    try simp only [Act.put, List.setIfInBounds_toArray, List.set_cons_zero, List.set_cons_succ]
    refine wpAnyH_ready (rs := [27]) (by kernel_rfl) (by simp) ?_
    refine AllReadyH.cons (o := { dst := some 54, op := Op.call { callee := Callee.builtin Builtin.append, args := #[Operand.tmp 32, Operand.tmp 53], argTypes := #[25, 25] }, type := 25, pos := "parse.go:112", after := #[{ on := 5, ground := Ground.data }, { on := 26, ground := Ground.data }], guard := none }) rfl (fun K hK => ?_) AllReadyH.nil
    (refine step_append_win rfl (.tmp 32) (.tmp 53) 25 rfl 45 ztask 7 72 Tryz.underlying25 info45 rfl (by decide) (v := .slice c.ta.A c.ta.n c.ta.cap) (h := h) (by rfl) (by (first | exact hwin.out _ ((Only.refl _ w2).alloc _).drew | exact hwin.out _ ((Only.refl _ w2).drew.alloc _))) _ 1 1 (by rfl) (tv t pp n pc).cells rfl (fun _ => ⟨_, rfl, row_all (heap_new_at _ _ (by simp))⟩) (taskOne _) hlt63 (by omega) ?_; intro v5 w5 h5 hW5 hO5 hh5; obtain ⟨p5, c5, rfl, _, _⟩ := hW5.out.form; have d5 := Lib.hid (hk4.out _ w5 ((Only.refl _ w2).alloc _).drew hO5.out); have fz5 := row_free d5.out 8; obtain ⟨hS5a, hS5⟩ := hkS.out _ w5 ((Only.refl _ w2).alloc _).drew hO5.out)
    refine hK.out _ _ ?_ (fun hHeld => ?_)
    · first | go_keep | exact hS5 | (obtain ⟨z2, z3, z4, z5, z6, z7⟩ := hS5; refine ⟨?_, ?_, ?_, ?_, ?_, ?_⟩ <;> assumption)
    clear hK K
    try simp only [Act.put, List.setIfInBounds_toArray, List.set_cons_zero, List.set_cons_succ]
    refine wpAnyH_take (i := 28) (oi := { dst := some 55, op := Op.nilCheck (Operand.tmp 27), type := 0, pos := "parse.go:112", after := #[{ on := 0, ground := Ground.data }, { on := 0, ground := Ground.phase }, { on := 1, ground := Ground.phase }, { on := 2, ground := Ground.phase }, { on := 3, ground := Ground.phase }, { on := 4, ground := Ground.phase }, { on := 5, ground := Ground.phase }, { on := 6, ground := Ground.phase }, { on := 7, ground := Ground.phase }, { on := 8, ground := Ground.phase }, { on := 9, ground := Ground.phase }, { on := 10, ground := Ground.phase }, { on := 11, ground := Ground.phase }, { on := 12, ground := Ground.phase }, { on := 13, ground := Ground.phase }, { on := 14, ground := Ground.phase }, { on := 15, ground := Ground.phase }, { on := 16, ground := Ground.phase }, { on := 17, ground := Ground.phase }, { on := 18, ground := Ground.phase }, { on := 19, ground := Ground.phase }, { on := 20, ground := Ground.phase }, { on := 21, ground := Ground.phase }, { on := 22, ground := Ground.phase }, { on := 23, ground := Ground.phase }, { on := 24, ground := Ground.phase }, { on := 25, ground := Ground.phase }, { on := 26, ground := Ground.phase }, { on := 27, ground := Ground.phase }], guard := none }) (v := ?_) rfl (by kernel_rfl) (by kernel_rfl) (by kernel_rfl) (fun _ _ _ h => h) (Or.inl ⟨by rfl, ?_⟩) (by assumption) ?_
    rotate_left
    · (intro w hSw; (try dsimp only at hSw); go_simp; try with_reducible rfl)
    try simp only [Act.put, List.setIfInBounds_toArray, List.set_cons_zero, List.set_cons_succ]
    refine wpAnyH_take (i := 29) (oi := { dst := some 56, op := Op.fieldAddr 57 (Operand.tmp 55) 0, type := 0, pos := "parse.go:112", after := #[{ on := 28, ground := Ground.data }, { on := 0, ground := Ground.phase }, { on := 1, ground := Ground.phase }, { on := 2, ground := Ground.phase }, { on := 3, ground := Ground.phase }, { on := 4, ground := Ground.phase }, { on := 5, ground := Ground.phase }, { on := 6, ground := Ground.phase }, { on := 7, ground := Ground.phase }, { on := 8, ground := Ground.phase }, { on := 9, ground := Ground.phase }, { on := 10, ground := Ground.phase }, { on := 11, ground := Ground.phase }, { on := 12, ground := Ground.phase }, { on := 13, ground := Ground.phase }, { on := 14, ground := Ground.phase }, { on := 15, ground := Ground.phase }, { on := 16, ground := Ground.phase }, { on := 17, ground := Ground.phase }, { on := 18, ground := Ground.phase }, { on := 19, ground := Ground.phase }, { on := 20, ground := Ground.phase }, { on := 21, ground := Ground.phase }, { on := 22, ground := Ground.phase }, { on := 23, ground := Ground.phase }, { on := 24, ground := Ground.phase }, { on := 25, ground := Ground.phase }, { on := 26, ground := Ground.phase }, { on := 27, ground := Ground.phase }], guard := none }) (v := ?_) rfl (by kernel_rfl) (by kernel_rfl) (by kernel_rfl) (fun _ _ _ h => h) (Or.inl ⟨by rfl, ?_⟩) (by assumption) ?_
    rotate_left
    · (intro w hSw; (try dsimp only at hSw); go_simp; try with_reducible rfl)
    try simp only [Act.put, List.setIfInBounds_toArray, List.set_cons_zero, List.set_cons_succ]
    refine wpAnyH_take (i := 30) (oi := { dst := some 57, op := Op.fieldAddr 27 (Operand.tmp 56) 5, type := 0, pos := "parse.go:112", after := #[{ on := 29, ground := Ground.data }, { on := 0, ground := Ground.phase }, { on := 1, ground := Ground.phase }, { on := 2, ground := Ground.phase }, { on := 3, ground := Ground.phase }, { on := 4, ground := Ground.phase }, { on := 5, ground := Ground.phase }, { on := 6, ground := Ground.phase }, { on := 7, ground := Ground.phase }, { on := 8, ground := Ground.phase }, { on := 9, ground := Ground.phase }, { on := 10, ground := Ground.phase }, { on := 11, ground := Ground.phase }, { on := 12, ground := Ground.phase }, { on := 13, ground := Ground.phase }, { on := 14, ground := Ground.phase }, { on := 15, ground := Ground.phase }, { on := 16, ground := Ground.phase }, { on := 17, ground := Ground.phase }, { on := 18, ground := Ground.phase }, { on := 19, ground := Ground.phase }, { on := 20, ground := Ground.phase }, { on := 21, ground := Ground.phase }, { on := 22, ground := Ground.phase }, { on := 23, ground := Ground.phase }, { on := 24, ground := Ground.phase }, { on := 25, ground := Ground.phase }, { on := 26, ground := Ground.phase }, { on := 27, ground := Ground.phase }], guard := none }) (v := ?_) rfl (by kernel_rfl) (by kernel_rfl) (by kernel_rfl) (fun _ _ _ h => h) (Or.inl ⟨by rfl, ?_⟩) (by assumption) ?_
    rotate_left
    · (intro w hSw; (try dsimp only at hSw); go_simp; try with_reducible rfl)
    try simp only [Act.put, List.setIfInBounds_toArray, List.set_cons_zero, List.set_cons_succ]
    refine wpAnyH_ready (rs := [31]) (by kernel_rfl) (by simp) ?_
    refine AllReadyH.cons (o := { dst := none, op := Op.store 25 (Operand.tmp 57) (Operand.tmp 54), type := 0, pos := "parse.go:112", after := #[{ on := 30, ground := Ground.data }, { on := 27, ground := Ground.data }, { on := 27, ground := Ground.chain }, { on := 0, ground := Ground.phase }, { on := 1, ground := Ground.phase }, { on := 2, ground := Ground.phase }, { on := 3, ground := Ground.phase }, { on := 4, ground := Ground.phase }, { on := 5, ground := Ground.phase }, { on := 6, ground := Ground.phase }, { on := 7, ground := Ground.phase }, { on := 8, ground := Ground.phase }, { on := 9, ground := Ground.phase }, { on := 10, ground := Ground.phase }, { on := 11, ground := Ground.phase }, { on := 12, ground := Ground.phase }, { on := 13, ground := Ground.phase }, { on := 14, ground := Ground.phase }, { on := 15, ground := Ground.phase }, { on := 16, ground := Ground.phase }, { on := 17, ground := Ground.phase }, { on := 18, ground := Ground.phase }, { on := 19, ground := Ground.phase }, { on := 20, ground := Ground.phase }, { on := 21, ground := Ground.phase }, { on := 22, ground := Ground.phase }, { on := 23, ground := Ground.phase }, { on := 24, ground := Ground.phase }, { on := 25, ground := Ground.phase }, { on := 26, ground := Ground.phase }, { on := 27, ground := Ground.phase }], guard := none }) rfl (fun K hK => ?_) AllReadyH.nil
    go_simp
    refine hK.out _ _ ?_ (fun hHeld => ?_)
    · first | go_keep | exact hS5 | (obtain ⟨z2, z3, z4, z5, z6, z7⟩ := hS5; refine ⟨?_, ?_, ?_, ?_, ?_, ?_⟩ <;> assumption)
    clear hK K
    try simp only [Act.put, List.setIfInBounds_toArray, List.set_cons_zero, List.set_cons_succ]
    refine wpAnyH_done (by kernel_rfl) ?_ _
    go_wp2
    go_ret
    obtain ⟨hWp, hfp, hO2⟩ := hE.out
    have hoW : Only (fun _ => False) w2 ((w2.alloc (.cells #[.int .i64 t.p, .int .i64 t.th, .int .i64 t.pe, .int .i64 t.de, .int .i64 t.fr, .int .i64 t.fl, .slice pp n pc] 45)).drew) := ((Only.refl _ w2).alloc _).drew
    have fin := tk_fin hn2.out hWp hfp hO2 hoW hO5.out d5.out hW5.out hh5.out (hW'.out.kept hO2 (fun _ _ h => h)) hd2.out
    first
      | exact fin
      | exact tk_drew fin
end Go.Proofs.YtbjpnjgkpkfngaaGreatDoor
namespace Go.Proofs.YtbjpnjgkpkfngaaGreatDoor
open Go Go.RowKit

def wTask : List UInt8 := [116, 97, 115, 107]
theorem wname_ten (k : Nat) (hk : k < 16) : (10 : UInt8) ∉ wname k := by
  have key : ∀ i : Fin 16, (10 : UInt8) ∉ wname i.1 := by decide +kernel
  exact key ⟨k, hk⟩
theorem oneT_ten (x : Opn) (hx : x.k.toNat < 16) : (10 : UInt8) ∉ oneT x := fun h => by
  unfold oneT at h
  have hd := fun u => dec_no 10 (.inl (by decide)) u
  rcases List.mem_append.1 h with h | h
  · exact wname_ten _ hx h
  · rcases List.mem_append.1 h with h | h
    · split at h
      · rcases List.mem_cons.1 h with h | h
        · revert h; decide
        · exact hd _ h
      · simp at h
    · split at h
      · rcases List.mem_cons.1 h with h | h
        · revert h; decide
        · exact hd _ h
      · simp at h
theorem progT_ten : ∀ (l : List Opn), (∀ x ∈ l, Short x) → (10 : UInt8) ∉ progT l
  | [], _, h => by simp [progT, preT] at h
  | x :: r, hs, h => by
    have hx := hs x (List.mem_cons_self ..)
    have hr := progT_ten r (fun y hy => hs y (List.mem_cons_of_mem _ hy))
    unfold progT at h hr
    rw [preT_cons] at h
    have h1 := oneT_ten x (by have := hx.k1; have := hx.k2; omega)
    split at h
    · rcases List.mem_append.1 h with h | h
      · exact h1 h
      · rcases List.mem_cons.1 h with h | h
        · revert h; decide
        · exact hr h
    · exact h1 h
theorem tasksL_at (pl : Tks) (tail : List UInt8) {k : Nat} {t : TaskV} {l : List Opn} (h : pl[k]? = some (t, l)) : tasksL (pl.drop k) ++ tail = wTask ++ ((numsL t.nums ++ 32 :: progT l) ++ 10 :: (tasksL (pl.drop (k + 1)) ++ tail)) := by
  have hk : k < pl.length := (List.getElem?_eq_some_iff.1 h).1
  have e : pl.drop k = (t, l) :: pl.drop (k + 1) := by
    rw [List.drop_eq_getElem_cons hk]
    congr 1
    exact (List.getElem?_eq_some_iff.1 h).2
  rw [e]
  simp [tasksL, taskL, headL, wTask]

/-- What is read of the first k tasks: their programs, each in a row of its own. -/
def ProgsW (B : Nat) (wr : World) (pl : Tks) (ts : List TaskV) (k : Nat) : Prop :=
  ∀ (i : Nat) t l, i < k → pl[i]? = some (t, l) → ∃ pp pc hp, ts[i]? = some (tv t pp l.length pc) ∧ Win wr 69 3 (.slice pp l.length pc) hp l.length (opCells l) ∧ ∀ j, hp = some j → B ≤ j
theorem ProgsW.kept {B : Nat} {w w' : World} {pl : Tks} {ts : List TaskV} {k : Nat} {S : Nat → Prop} (h : ProgsW B w pl ts k) (ho : Only S w w') (hS : ∀ (n : Nat) v hp xs, Win w 69 3 v hp n xs → ∀ j, hp = some j → ¬ S j) : ProgsW B w' pl ts k := fun i t l hi ht => by
  obtain ⟨pp, pc, hp, h1, h2, h3⟩ := h i t l hi ht
  exact ⟨pp, pc, hp, h1, h2.kept ho (hS _ _ _ _ h2), h3⟩
def tsCells (ts : List TaskV) : List Value := ts.flatMap TaskV.cells
def TasksWay (W1 : World) (D : Nat) (c : ConfV) (pl : Tks) (tail : List UInt8) (k : Nat) (wr : World) : Prop :=
  ∃ p cap h ts, DraftAt wr D (taskWith c ⟨p, k, cap⟩) (tasksL (pl.drop k) ++ tail) ∧ Win wr 45 7 (.slice p k cap) h k (tsCells ts) ∧ ts.length = k ∧ ProgsW W1.heap.size wr pl ts k ∧ (∀ j, h = some j → W1.heap.size ≤ j) ∧ Only (fun j => j = D) W1 wr
def TasksRead (w : World) (D : Nat) (c : ConfV) (pl : Tks) (tail : List UInt8) (e : Ending) (w' : World) : Prop :=
  e = .returned (.bool true) ∧ ∃ p cap h ts, DraftAt w' D (taskWith c ⟨p, pl.length, cap⟩) tail ∧ Win w' 45 7 (.slice p pl.length cap) h pl.length (tsCells ts) ∧ ts.length = pl.length ∧ ProgsW w.heap.size w' pl ts pl.length ∧ (∀ j, h = some j → w.heap.size ≤ j) ∧ Only (fun j => j = D) w w'

set_option maxRecDepth 100000 in
set_option maxHeartbeats 4000000 in
theorem tasks_read {w : World} (hb : Bas w) {D : Nat} {c : ConfV} {pl : Tks} {tail : List UInt8} {M : Int} (hd : DraftAt w D c (tasksL pl ++ tail)) (hnil : c.ta = ⟨none, 0, 0⟩) (hf : ∀ (i : Nat) t l, pl[i]? = some (t, l) → Few9 t.nums ∧ FineP l ∧ 0 < l.length) (hn : pl.length ≤ 10) (ht : Lib.hasPrefix tail wTask = false) (htl : tail.length ≤ 100000) (hM : (pl.length : Int) < M) (hD3 : 3 ≤ D) :
    Calls Tryz.prog 33 #[.pointer (some ⟨D, 0, none⟩), .agg #[.string (toBA wTask), .int .i64 0, .int .i64 M, .int .i64 6, .func (.func 56) #[] #[]]] w (TasksRead w D c pl tail) := by
  obtain ⟨X, hX⟩ : ∃ X, X = w.heap.size := ⟨_, rfl⟩
  obtain ⟨wd, hwd⟩ : ∃ s, s = toBA wTask := ⟨_, rfl⟩
  have hk0 : KindAt (w.alloc (.cells #[.string wd, .int .i64 0, .int .i64 M, .int .i64 6, .func (.func 56) #[] #[]] 60)) X wd 0 M 6 56 := heap_new_at _ _ hX.symm
  have hO := Lib.hid ((Only.refl (fun _ => False) w).alloc (.cells #[.string wd, .int .i64 0, .int .i64 M, .int .i64 6, .func (.func 56) #[] #[]] 60))
  have hDX : D ≠ X := by have := row_lt hd; omega
  have hd1 := hd.kept hO.out (fun h => h)
  have hw0 : TasksWay (w.alloc (.cells #[.string wd, .int .i64 0, .int .i64 M, .int .i64 6, .func (.func 56) #[] #[]] 60)) D c pl tail 0 (w.alloc (.cells #[.string wd, .int .i64 0, .int .i64 M, .int .i64 6, .func (.func 56) #[] #[]] 60)) := by
    refine ⟨none, 0, none, [], ?_, Win.nil _ _ _, rfl, (fun i t l hi _ => absurd hi (by omega)), (fun j hj => by cases hj), Only.refl _ _⟩
    have e : taskWith c ⟨none, 0, 0⟩ = c := by unfold taskWith; rw [← hnil]
    rw [e]
    exact hd1
  obtain ⟨n, hnn⟩ : ∃ n, n = pl.length := ⟨_, rfl⟩
  have hb' := Lib.hid (hb.new hO.out)
  have hf' := Lib.hid hf
  have hn' := Lib.hid hnn
  have ht' := Lib.hid ht
  have hwd' := Lib.hid hwd
  have hX' := Lib.hid hX
  rw [← hnn] at hn hM
  rw [← hwd]
  have hw0' := Lib.hid hw0
  have hk0' := Lib.hid hk0
  have hDX' := Lib.hid hDX
  have hD2 := Lib.hid hD3
  clear hb hf ht hnn hd hd1 hw0 hk0 hnil hwd hX hDX hD3
  go_enter Tryz.func33, Tryz.ntmps33
  go_wp2
  rw [← hX'.out]
  obtain ⟨W1, hW1⟩ : ∃ W1, W1 = w.alloc (.cells #[.string wd, .int .i64 0, .int .i64 M, .int .i64 6, .func (.func 56) #[] #[]] 60) := ⟨_, rfl⟩
  rw [← hW1] at hw0' hk0' hO hb' ⊢
  clear hW1
  go_loopw [5] (fun i wr => ∃ k : Nat, k ≤ n ∧ i = .int .i64 k ∧ TasksWay W1 D c pl tail k wr) (fun i _ => n + 1 - (intOf i).toNat)
  case atStart => exact ⟨0, Nat.zero_le _, rfl, hw0'.out⟩
  case round =>
    clear hw0'
    obtain ⟨k, hk, rfl, p, cap, h, ts, hD, hW, htsl, hP, hfr, hOw⟩ := hrel
    obtain ⟨ws, hws⟩ : ∃ ws : World, ws = wr := ⟨_, rfl⟩
    subst hws
    have hkd : KindAt ws X wd 0 M 6 56 := hOw.heap hk0'.out (fun e => hDX'.out e.symm)
    obtain ⟨k0, k1, k2, k3, k4, lX⟩ := hkd.cells
    obtain ⟨e0, e1, e2, e3, e4, e5, e6, e7, e8, e9, e10, hfz, hlt⟩ := hD.cells
    have hS := Lib.hid (And.intro hD (And.intro hW (And.intro htsl (And.intro hP (And.intro hfr hOw)))))
    have hkM : (k : Int) < M := by omega
    clear hD hW hP hfr hOw hfz htsl e0 e1 e2 e3 e4 e5 e6 e7 e8 e9 hkd
    by_cases hkn : k < n
    · obtain ⟨⟨t, l⟩, hz⟩ : ∃ z, pl[k]? = some z := ⟨_, List.getElem?_eq_getElem (by have := hn'.out; omega)⟩
      have hfz := hf'.out k t l hz
      have hll := tasksL_len (pl.drop (k + 1)) (fun i t l hi => hf'.out (k + 1 + i) t l (by rw [List.getElem?_drop] at hi; exact hi))
      have hll2 : (tasksL (pl.drop (k + 1))).length ≤ 66000 := by
        rw [List.length_drop] at hll
        have : (pl.length - (k + 1)) * 6600 ≤ 10 * 6600 := Nat.mul_le_mul_right _ (by have := hn'.out; omega)
        omega
      have hns := numsL_len t.nums hfz.1
      have hns2 : (numsL t.nums).length ≤ 60 := by simpa [TaskV.nums] using hns
      have hps := progT_len hfz.2.1
      have hno : (10 : UInt8) ∉ numsL t.nums ++ 32 :: progT l := fun h => by
        rcases List.mem_append.1 h with h | h
        · exact numsL_no _ h
        · rcases List.mem_cons.1 h with h | h
          · revert h; decide
          · exact progT_ten l hfz.2.1.2 h
      have hq1 := Lib.hid (cp_same (fun W => cp_yes wTask ((numsL t.nums ++ 32 :: progT l) ++ 10 :: (tasksL (pl.drop (k + 1)) ++ tail)) W))
      rw [← tasksL_at pl tail hz, ← hwd'.out] at hq1
      have hq2 := Lib.hid (fun W (hB : Bas W) => cut_yes hB 10 (numsL t.nums ++ 32 :: progT l) (tasksL (pl.drop (k + 1)) ++ tail) hno (by rw [List.length_append, List.length_append, List.length_cons]; omega))
      have hq3 := Lib.hid (fun W (hB : Bas W) => numbersOf_any hB t.nums (32 :: progT l) hfz.1 (.inr ⟨_, rfl⟩) (by show 6 ≤ 10; omega) (by rw [List.length_cons]; omega))
      rw [show leftN t.nums (32 :: progT l) 0 = numsL t.nums ++ 32 :: progT l by simp [leftN]] at hq3
      unfold CutEnd at hq2
      obtain ⟨Bs, hBst⟩ : ∃ s, s = toBA ((numsL t.nums ++ 32 :: progT l) ++ 10 :: (tasksL (pl.drop (k + 1)) ++ tail)) := ⟨_, rfl⟩
      obtain ⟨Ls, hLst⟩ : ∃ s, s = toBA (numsL t.nums ++ 32 :: progT l) := ⟨_, rfl⟩
      obtain ⟨Rs, hRst⟩ : ∃ s, s = toBA (tasksL (pl.drop (k + 1)) ++ tail) := ⟨_, rfl⟩
      rw [← hBst] at hq1 hq2
      rw [← hLst, ← hRst] at hq2
      rw [← hLst] at hq3
      have hRst' := Lib.hid hRst
      clear hBst hLst hRst
      have hfz' := Lib.hid hfz
      have hz' := Lib.hid hz
      have hBs := Lib.hid (show Bas ws from Bas.newD hb'.out hS.out.2.2.2.2.2 hD2.out)
      clear hz hll hll2 hns hns2 hps hno hfz
      go_wp2
      go_quiet ((go_at_call 58; exact Calls.quiet_of_same (hq1.out _)))
      go_wp2_with fail
      refine (hq2.out _ (hBs.out.new ((Only.refl _ ws).drewN _))).mono ?_
      rintro e w3 ⟨rfl, hO3⟩
      have hO3' := Lib.hid (((Only.refl (fun _ => False) ws).drewN _).trans' hO3)
      have x3 := hO3'.out.cell k3 (fun h => h)
      clear hO3 hq1 hq2
      go_wp2_with fail
      refine (hq3.out _ (hBs.out.new hO3'.out)).mono ?_
      rintro e w4 ⟨pq, cq, hh, rfl, hWq, hfq, hO4⟩
      have hO4' := Lib.hid (hO3'.out.trans' hO4)
      have x4 := hO4'.out.cell k4 (fun h => h)
      have htk := Lib.hid (task_take (hBs.out.new hO4'.out) (t := t) (l := l) (hS.out.1.kept hO4'.out (fun h => h)) (hS.out.2.1.kept hO4'.out (fun _ _ h => h)) hWq (by show k ≤ 1000; omega) hfz'.out.2.1 hfz'.out.2.2)
      clear hO4 hWq hfq hq3 x3
      go_wp2_with fail
      refine htk.out.mono ?_
      rintro e w5 ⟨p5, c5, h5, pp, pc, hp, rfl, hD5, hW5, hh5, hWp, hfp, hO5⟩
      have y10 : ∃ u, w5.cell? ⟨D, 10, none⟩ = some u := ⟨_, row_cell hD5 (i := 10) rfl⟩
      obtain ⟨u10, y10⟩ := y10
      have fz10 := row_free hD5 10
      have hE := Lib.hid (And.intro hD5 (And.intro hW5 (And.intro hh5 (And.intro hWp (And.intro hfp hO5)))))
      have hwr : IntKind.i64.wrap ((k : Int) + 1) = (k : Int) + 1 := IntWalk.i64_in _ (by omega)
      clear hD5 hW5 hh5 hWp hfp hO5 htk x4 k0 k1 k2 k3 k4 e10
      go_wp2
      go_roundw
      case rel =>
        obtain ⟨hD5, hW5, hh5, hWp, hfp, hO5⟩ := hE.out
        obtain ⟨hD, hW, htsl, hP, hfr, hOw⟩ := hS.out
        change DraftAt w5 D (taskWith c ⟨p5, k + 1, c5⟩) (tasksL (pl.drop k) ++ tail) at hD5
        have hne := hD5.ne hW5 (by decide)
        have hnep := hD5.ne hWp (by decide)
        have o6 : Only (fun j => j = D) w5 (w5.setCell ⟨D, 10, none⟩ (.string Rs)) := (Only.refl (fun j => j = D) w5).setCell (p := ⟨D, 10, none⟩) (fun _ => rfl) _
        have hset := row_set hD5 10 (.string Rs)
        have hset' : DraftAt (w5.setCell ⟨D, 10, none⟩ (.string Rs)) D (taskWith c ⟨p5, k + 1, c5⟩) (tasksL (pl.drop (k + 1)) ++ tail) := by
          unfold DraftAt
          rw [← hRst'.out]
          exact hset
        have hzz := hz'.out
        have sz1 := hOw.size
        have sz2 := hO4'.out.size
        have hW4 := hW.kept hO4'.out (fun _ _ h => h)
        have hD4 := hD.kept hO4'.out (fun h => h)
        have hP4 : ProgsW W1.heap.size w4 pl ts k := hP.kept hO4'.out (fun _ _ _ _ _ _ _ h => h)
        have hP5 : ProgsW W1.heap.size w5 pl ts k := hP4.kept hO5 (fun n v hp xs hw j hj hS => by
          rcases hS with rfl | hS
          · exact hD4.ne hw (by decide) hj
          · exact hw.ne hW4 (by decide) j hj hS)
        have hP6 := hP5.kept o6 (fun n v hp xs hw j hj hS => by subst hS; exact hD5.ne hw (by decide) hj)
        refine ⟨k + 1, by omega, by go_num, p5, c5, h5, ts ++ [tv t pp l.length pc], hset', ?_, by rw [List.length_append, htsl]; rfl, ?_, ?_, ?_⟩
        · have := hW5.kept o6 (fun j hj e => hne (by rw [← e]; exact hj))
          have e : tsCells (ts ++ [tv t pp l.length pc]) = tsCells ts ++ (tv t pp l.length pc).cells := by simp [tsCells]
          rw [e]
          exact this
        · intro i t' l' hi ht'
          by_cases hik : i < k
          · obtain ⟨a1, a2, a3, b1, b2, b3⟩ := hP6 i t' l' hik ht'
            exact ⟨a1, a2, a3, by rw [List.getElem?_append_left (by omega)]; exact b1, b2, b3⟩
          · obtain rfl : i = k := by omega
            rw [hzz] at ht'
            cases ht'
            refine ⟨pp, pc, hp, by rw [List.getElem?_append_right (by omega), htsl]; simp, hWp.kept o6 (fun j hj e => hnep (by rw [← e]; exact hj)), fun j hj => by have := hfp j hj; omega⟩
        · intro j hj
          rcases hh5 with rfl | ⟨g, hg, hge⟩
          · exact hfr j hj
          · rw [hg] at hj
            cases hj
            omega
        · exact ((hOw.trans hO4'.out (fun _ _ h => h.elim)).trans hO5 (fun x hx hk => by
            rcases hk with rfl | hk
            · rfl
            · have := hfr x hk.symm; omega)).trans o6 (fun _ _ h => h)
      case measure => simp [intOf]; omega
    · obtain rfl : k = n := by omega
      have hend : tasksL (pl.drop k) ++ tail = tail := by rw [List.drop_eq_nil_of_le (by have := hn'.out; omega)]; rfl
      have hq1 := Lib.hid (cp_same (fun W => cp_no tail wTask ht'.out W))
      rw [← hwd'.out] at hq1
      have hS' := hS.out
      rw [hend] at hS' e10
      have hS2 := Lib.hid hS'
      have hge : ¬ (k : Int) < 0 := by omega
      clear hend hS' hS
      go_wp2
      go_quiet ((go_at_call 58; exact Calls.quiet_of_same (hq1.out _)))
      go_wp2
      go_ret
      obtain ⟨hD, hW, htsl, hP, hfr, hOw⟩ := hS2.out
      have sz := hO.out.size
      refine ⟨rfl, p, cap, h, ts, ?_, ?_, ?_, ?_, fun j hj => by have := hfr j hj; omega, ((hO.out.mono (fun _ _ h => h.elim)).trans hOw (fun _ _ h => h)).drewN _⟩
      · rw [← hn'.out]; exact hD.kept ((Only.refl (fun _ => False) ws).drewN _) (fun h => h)
      · rw [← hn'.out]; exact hW.kept ((Only.refl (fun _ => False) ws).drewN _) (fun _ _ h => h)
      · rw [← hn'.out]; exact htsl
      · rw [← hn'.out]
        intro i t l hi hz
        obtain ⟨a1, a2, a3, b1, b2, b3⟩ := hP i t l hi hz
        exact ⟨a1, a2, a3, b1, b2.kept ((Only.refl (fun _ => False) ws).drewN _) (fun _ _ h => h), fun j hj => by have := b3 j hj; omega⟩
end Go.Proofs.YtbjpnjgkpkfngaaGreatDoor
