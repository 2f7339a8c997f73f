/- Merged: Nest Nest2 Nest3 Nest4 Nest5. -/
import Derived.Test.YtlbinlhaejhobaaGreatDoorRop
import Derived.Deep.DrawnRows
/- How a program's operations nest: the state that both sides keep, and package prog's closures over it. -/
namespace Go.Proofs.YtlbinlhaejhobaaGreatDoor
open Go Go.RowKit

def mkI (x : Int) : Value := .int .i64 x
/-- Regions that are open, ceilings that are locked, bytes that are pushed. -/
structure NS where
  r : Int
  ls : List Int
  p : Int
def ns0 : NS := ⟨0, [], 0⟩
def NS.fine (s : NS) : Prop := 0 ≤ s.r ∧ 0 ≤ s.p
/-- Behind an operation; none: a lock that is locked, an unlock that isn't the last one's. -/
def moveN (s : NS) (k a : Int) : Option NS :=
  if k = 3 then some ⟨s.r + 1, s.ls, s.p⟩ else if k = 4 then some ⟨s.r - 1, s.ls, s.p⟩
  else if k = 5 then (if a ∈ s.ls then none else some ⟨s.r, s.ls ++ [a], s.p⟩)
  else if k = 6 then (if s.ls.getLast? = some a then some ⟨s.r, s.ls.dropLast, s.p⟩ else none)
  else if k = 7 then some ⟨s.r, s.ls, s.p + a⟩ else if k = 8 then some ⟨s.r, s.ls, s.p - a⟩ else some s
def fineB (s : NS) : Bool := decide (0 ≤ s.r ∧ 0 ≤ s.p)
def stepN (s : NS) (k a : Int) : Option NS := match moveN s k a with
  | none => none
  | some t => if fineB t = true then some t else none

theorem index_any {w : World} {p : Option Addr} {n cap : Nat} {h : Option Nat} {ls : List Int} (hW : Win w 3 1 (.slice p n cap) h n (ls.map mkI)) (hn : n ≤ 100) (a : Int) :
    Calls Tryz.prog 194 #[.slice p n cap, .int .i64 a] w fun e w' => (∃ v : Int, e = .returned (.int .i64 v) ∧ ((0 ≤ v) ↔ a ∈ ls)) ∧ w = w' := by
  have hl : ls.length = n := by have := hW.1; simp at this; omega
  have hW' := Lib.hid hW
  have hl' := Lib.hid hl
  clear hW hl
  go_enter Tryz.func194, Tryz.ntmps194
  go_wp2
  go_loopw [8] (fun i wr => ∃ k : Nat, k ≤ n ∧ i = .int .i64 k ∧ a ∉ ls.take k ∧ w = wr) (fun i _ => n - (intOf i).toNat)
  case atStart => exact ⟨0, Nat.zero_le _, rfl, by simp, rfl⟩
  case round =>
    obtain ⟨k, hk, rfl, hnot, rfl⟩ := hrel
    by_cases hkn : k < n
    · obtain ⟨g, off, cap', _, hv, _, _, _, hc, _⟩ := hW'.out.at_ (by omega)
      cases hv
      obtain ⟨x, hx⟩ : ∃ x, ls[k]? = some x := ⟨ls[k]'(by have := hl'.out; omega), List.getElem?_eq_getElem _⟩
      have c0 : w.cell? ⟨g, off + k, none⟩ = some (.int .i64 x) := hc k _ (by simp [hx, mkI])
      have hkn' : (k : Int) < (n : Int) := by omega
      have hx' := Lib.hid hx
      have hnot' := Lib.hid hnot
      clear hc hx hnot
      by_cases hax : a = x
      · have e1 : (a == x) = true := by simpa using hax
        have hin := Lib.hid (show (0 ≤ (k : Int)) ↔ a ∈ ls from ⟨fun _ => by rw [hax]; exact List.mem_of_getElem? hx'.out, fun _ => by omega⟩)
        clear hax
        go_wp2
        go_ret
        exact ⟨⟨_, rfl, hin.out⟩, rfl⟩
      · have e1 : (a == x) = false := by simpa using hax
        have hst := Lib.hid (show a ∉ ls.take (k + 1) by
          rw [List.take_add_one, hx'.out]
          intro hm
          rcases List.mem_append.1 hm with hm | hm
          · exact hnot'.out hm
          · simp at hm; exact hax hm)
        clear hax
        go_wp2
        go_roundw
        case rel => exact ⟨k + 1, by omega, by go_num, hst.out, trivial⟩
        case measure => simp [intOf]; omega
    · obtain rfl : k = n := by omega
      have hin := Lib.hid (show (0 ≤ (-1 : Int)) ↔ a ∈ ls from ⟨fun h => by omega, fun h => by
        rw [List.take_of_length_le (by have := hl'.out; omega)] at hnot
        exact absurd h hnot⟩)
      clear hnot
      go_wp2
      go_ret
      exact ⟨⟨_, rfl, hin.out⟩, rfl⟩
theorem contains_any {w : World} {p : Option Addr} {n cap : Nat} {h : Option Nat} {ls : List Int} (hW : Win w 3 1 (.slice p n cap) h n (ls.map mkI)) (hn : n ≤ 100) (a : Int) {v : Bool} (hv : decide (a ∈ ls) = v) :
    Calls Tryz.prog 170 #[.slice p n cap, .int .i64 a] w (RetB v w) := by
  have hi := Lib.hid (index_any hW hn a)
  have hv' := Lib.hid hv
  clear hW hn hv
  go_enter Tryz.func170, Tryz.ntmps170
  go_wp2_with fail
  refine hi.out.mono ?_
  rintro e w' ⟨⟨z, rfl, hz⟩, rfl⟩
  have hz' := Lib.hid (show decide (0 ≤ z) = v by rw [← hv'.out]; exact decide_eq_decide.2 hz)
  clear hz
  go_wp2
  go_ret
  exact ⟨ret_bool hz'.out, rfl⟩

/-- The three variables of the closures. -/
def NestAt (w : World) (b2 b3 b4 : Nat) (h : Option Nat) (s : NS) : Prop :=
  ∃ v, w.heap[b2]? = some (.cells [v].toArray 24 (0, 0)) ∧ w.heap[b3]? = some (.cells [mkI s.r].toArray 3 (0, 0)) ∧ w.heap[b4]? = some (.cells [mkI s.p].toArray 3 (0, 0)) ∧ Win w 3 1 v h s.ls.length (s.ls.map mkI) ∧
    (∀ k, h = some k → k ≠ b2 ∧ k ≠ b3 ∧ k ≠ b4) ∧ b2 ≠ b3 ∧ b2 ≠ b4 ∧ b3 ≠ b4
def nfp (b2 b3 b4 : Nat) (h : Option Nat) (k : Nat) : Prop := k = b2 ∨ k = b3 ∨ k = b4 ∨ h = some k
theorem NestAt.kept {S : Nat → Prop} {w w' : World} {b2 b3 b4 : Nat} {h : Option Nat} {s : NS} (hN : NestAt w b2 b3 b4 h s) (ho : Only S w w') (hS : ∀ k, nfp b2 b3 b4 h k → ¬ S k) : NestAt w' b2 b3 b4 h s := by
  obtain ⟨v, h1, h2, h3, h4, h5⟩ := hN
  exact ⟨v, ho.heap h1 (hS _ (.inl rfl)), ho.heap h2 (hS _ (.inr (.inl rfl))), ho.heap h3 (hS _ (.inr (.inr (.inl rfl)))), h4.kept ho (fun k hk => hS k (.inr (.inr (.inr hk)))), h5⟩
theorem NestAt.new {w w' : World} {b2 b3 b4 : Nat} {h : Option Nat} {s : NS} (hN : NestAt w b2 b3 b4 h s) (ho : Only (fun _ => False) w w') : NestAt w' b2 b3 b4 h s := hN.kept ho (fun _ _ h => h)
theorem NestAt.lt {w : World} {b2 b3 b4 : Nat} {h : Option Nat} {s : NS} (hN : NestAt w b2 b3 b4 h s) : ∀ k, nfp b2 b3 b4 h k → k < w.heap.size := by
  obtain ⟨v, h1, h2, h3, h4, h5⟩ := hN
  rintro k (rfl | rfl | rfl | hk)
  · exact row_lt h1
  · exact row_lt h2
  · exact row_lt h3
  · exact h4.lt k hk
/-- What following one operation leaves: none: it doesn't nest. -/
def StepEnd (w : World) (b2 b3 b4 : Nat) (h : Option Nat) (t : Option NS) (e : Ending) (w' : World) : Prop :=
  match t with
  | none => e = .returned (.bool false) ∧ Only (nfp b2 b3 b4 h) w w'
  | some s => e = .returned (.bool true) ∧ ∃ h', NestAt w' b2 b3 b4 h' s ∧ (h' = h ∨ ∃ g, h' = some g ∧ w.heap.size ≤ g) ∧ Only (nfp b2 b3 b4 h) w w'
end Go.Proofs.YtlbinlhaejhobaaGreatDoor
/- Package prog's closures: what following an operation tells and leaves. -/
namespace Go.Proofs.YtlbinlhaejhobaaGreatDoor
open Go Go.RowKit

theorem stepN_yes {s t : NS} {k a : Int} (h : moveN s k a = some t) (h1 : 0 ≤ t.r) (h2 : 0 ≤ t.p) : stepN s k a = some t := by
  unfold stepN
  rw [h]
  simp [fineB, h1, h2]
theorem stepN_no {s t : NS} {k a : Int} (h : moveN s k a = some t) (h1 : t.r < 0 ∨ t.p < 0) : stepN s k a = none := by
  unfold stepN
  rw [h]
  have : fineB t = false := by unfold fineB; exact decide_eq_false (by omega)
  simp [this]
theorem stepN_none {s : NS} {k a : Int} (h : moveN s k a = none) : stepN s k a = none := by
  unfold stepN
  rw [h]

set_option maxRecDepth 100000 in
set_option maxHeartbeats 1000000 in
theorem nests_3 {w : World} {b2 b3 b4 : Nat} {h : Option Nat} {s : NS} (hN : NestAt w b2 b3 b4 h s) (hr : -1000 ≤ s.r ∧ s.r ≤ 1000) (hp : -1000000 ≤ s.p ∧ s.p ≤ 1000000) (a b : Int) (ha : 0 ≤ a ∧ a ≤ 5000) :
    Calls Tryz.prog 169 #[.agg #[.int .i64 3, .int .i64 a, .int .i64 b], .pointer (some ⟨b3, 0, none⟩), .pointer (some ⟨b2, 0, none⟩), .pointer (some ⟨b4, 0, none⟩)] w (StepEnd w b2 b3 b4 h (stepN s 3 a)) := by
  have hm : moveN s 3 a = some ⟨s.r + 1, s.ls, s.p⟩ := rfl
  have hlt := hN.lt
  obtain ⟨v, h2, h3, h4, hW, hd, n23, n24, n34⟩ := hN
  obtain ⟨r, ls, p⟩ := s
  obtain ⟨hr1, hr2⟩ := hr
  obtain ⟨hp1, hp2⟩ := hp
  obtain ⟨ha1, ha2⟩ := ha
  simp only at hr1 hr2 hp1 hp2 hm h3 h4 hW
  have c3 := row_cell h3 (i := 0) rfl
  have c4 := row_cell h4 (i := 0) rfl
  have f3 := row_free h3 0
  have f4 := row_free h4 0
  unfold mkI at c3 c4
  have m34 : b4 ≠ b3 := fun e => n34 e.symm
  have l3 : b3 < w.heap.size := row_lt h3
  have l4 : b4 < w.heap.size := row_lt h4
  have hblk := Lib.hid (And.intro h2 (And.intro h3 (And.intro h4 (And.intro hW (And.intro hd (And.intro n23 (And.intro n24 n34)))))))
  clear h2 h3 h4 hW hd hlt
  by_cases q1 : 0 ≤ r + 1
  · by_cases q2 : 0 ≤ p
    · have hv := Lib.hid (stepN_yes hm q1 q2)
      clear hm
      go_enter Tryz.func169, Tryz.ntmps169
      go_wp2
      go_ret
      rw [hv.out]
      obtain ⟨h2, h3, h4, hW, hd, n23, n24, n34⟩ := hblk.out
      refine ⟨by first | exact rfl | exact ret_bool (by simp; omega), h, ?_, .inl rfl, ?_⟩
      · have hs : Only (fun k => k = b3) w (w.setCell ⟨b3, 0, none⟩ (.int .i64 (r + 1))) := (Only.refl (fun k => k = b3) w).setCell (p := ⟨b3, 0, none⟩) (fun _ => rfl) _
        refine NestAt.new (w := w.setCell ⟨b3, 0, none⟩ (.int .i64 (r + 1))) ?_ ((Only.refl _ _).alloc _)
        exact ⟨v, hs.heap h2 n23, row_set h3 0 _, hs.heap h4 m34, hW.kept hs (fun k hk => (hd k hk).2.1), hd, n23, n24, n34⟩
      · exact (((Only.refl (nfp b2 b3 b4 h) w).setCell (p := ⟨b3, 0, none⟩) (fun _ => .inr (.inl rfl)) _).alloc _)
    · have hv := Lib.hid (stepN_no hm (.inr (by simp only; omega)))
      have q2' : (p) < 0 := by omega
      clear hm
      go_enter Tryz.func169, Tryz.ntmps169
      go_wp2
      go_ret
      rw [hv.out]
      exact ⟨by first | exact rfl | exact ret_bool (by simp; omega), (((Only.refl (nfp b2 b3 b4 h) w).setCell (p := ⟨b3, 0, none⟩) (fun _ => .inr (.inl rfl)) _).alloc _)⟩
  · have hv := Lib.hid (stepN_no hm (.inl (by simp only; omega)))
    have q1' : (r + 1) < 0 := by omega
    clear hm
    go_enter Tryz.func169, Tryz.ntmps169
    go_wp2
    go_ret
    rw [hv.out]
    exact ⟨rfl, (((Only.refl (nfp b2 b3 b4 h) w).setCell (p := ⟨b3, 0, none⟩) (fun _ => .inr (.inl rfl)) _).alloc _)⟩

set_option maxRecDepth 100000 in
set_option maxHeartbeats 1000000 in
theorem nests_4 {w : World} {b2 b3 b4 : Nat} {h : Option Nat} {s : NS} (hN : NestAt w b2 b3 b4 h s) (hr : -1000 ≤ s.r ∧ s.r ≤ 1000) (hp : -1000000 ≤ s.p ∧ s.p ≤ 1000000) (a b : Int) (ha : 0 ≤ a ∧ a ≤ 5000) :
    Calls Tryz.prog 169 #[.agg #[.int .i64 4, .int .i64 a, .int .i64 b], .pointer (some ⟨b3, 0, none⟩), .pointer (some ⟨b2, 0, none⟩), .pointer (some ⟨b4, 0, none⟩)] w (StepEnd w b2 b3 b4 h (stepN s 4 a)) := by
  have hm : moveN s 4 a = some ⟨s.r - 1, s.ls, s.p⟩ := rfl
  have hlt := hN.lt
  obtain ⟨v, h2, h3, h4, hW, hd, n23, n24, n34⟩ := hN
  obtain ⟨r, ls, p⟩ := s
  obtain ⟨hr1, hr2⟩ := hr
  obtain ⟨hp1, hp2⟩ := hp
  obtain ⟨ha1, ha2⟩ := ha
  simp only at hr1 hr2 hp1 hp2 hm h3 h4 hW
  have c3 := row_cell h3 (i := 0) rfl
  have c4 := row_cell h4 (i := 0) rfl
  have f3 := row_free h3 0
  have f4 := row_free h4 0
  unfold mkI at c3 c4
  have m34 : b4 ≠ b3 := fun e => n34 e.symm
  have l3 : b3 < w.heap.size := row_lt h3
  have l4 : b4 < w.heap.size := row_lt h4
  have hblk := Lib.hid (And.intro h2 (And.intro h3 (And.intro h4 (And.intro hW (And.intro hd (And.intro n23 (And.intro n24 n34)))))))
  clear h2 h3 h4 hW hd hlt
  by_cases q1 : 0 ≤ r - 1
  · by_cases q2 : 0 ≤ p
    · have hv := Lib.hid (stepN_yes hm q1 q2)
      clear hm
      go_enter Tryz.func169, Tryz.ntmps169
      go_wp2
      go_ret
      rw [hv.out]
      obtain ⟨h2, h3, h4, hW, hd, n23, n24, n34⟩ := hblk.out
      refine ⟨by first | exact rfl | exact ret_bool (by simp; omega), h, ?_, .inl rfl, ?_⟩
      · have hs : Only (fun k => k = b3) w (w.setCell ⟨b3, 0, none⟩ (.int .i64 (r - 1))) := (Only.refl (fun k => k = b3) w).setCell (p := ⟨b3, 0, none⟩) (fun _ => rfl) _
        refine NestAt.new (w := w.setCell ⟨b3, 0, none⟩ (.int .i64 (r - 1))) ?_ ((Only.refl _ _).alloc _)
        exact ⟨v, hs.heap h2 n23, row_set h3 0 _, hs.heap h4 m34, hW.kept hs (fun k hk => (hd k hk).2.1), hd, n23, n24, n34⟩
      · exact (((Only.refl (nfp b2 b3 b4 h) w).setCell (p := ⟨b3, 0, none⟩) (fun _ => .inr (.inl rfl)) _).alloc _)
    · have hv := Lib.hid (stepN_no hm (.inr (by simp only; omega)))
      have q2' : (p) < 0 := by omega
      clear hm
      go_enter Tryz.func169, Tryz.ntmps169
      go_wp2
      go_ret
      rw [hv.out]
      exact ⟨by first | exact rfl | exact ret_bool (by simp; omega), (((Only.refl (nfp b2 b3 b4 h) w).setCell (p := ⟨b3, 0, none⟩) (fun _ => .inr (.inl rfl)) _).alloc _)⟩
  · have hv := Lib.hid (stepN_no hm (.inl (by simp only; omega)))
    have q1' : (r - 1) < 0 := by omega
    clear hm
    go_enter Tryz.func169, Tryz.ntmps169
    go_wp2
    go_ret
    rw [hv.out]
    exact ⟨rfl, (((Only.refl (nfp b2 b3 b4 h) w).setCell (p := ⟨b3, 0, none⟩) (fun _ => .inr (.inl rfl)) _).alloc _)⟩

set_option maxRecDepth 100000 in
set_option maxHeartbeats 1000000 in
theorem nests_7 {w : World} {b2 b3 b4 : Nat} {h : Option Nat} {s : NS} (hN : NestAt w b2 b3 b4 h s) (hr : -1000 ≤ s.r ∧ s.r ≤ 1000) (hp : -1000000 ≤ s.p ∧ s.p ≤ 1000000) (a b : Int) (ha : 0 ≤ a ∧ a ≤ 5000) :
    Calls Tryz.prog 169 #[.agg #[.int .i64 7, .int .i64 a, .int .i64 b], .pointer (some ⟨b3, 0, none⟩), .pointer (some ⟨b2, 0, none⟩), .pointer (some ⟨b4, 0, none⟩)] w (StepEnd w b2 b3 b4 h (stepN s 7 a)) := by
  have hm : moveN s 7 a = some ⟨s.r, s.ls, s.p + a⟩ := rfl
  have hlt := hN.lt
  obtain ⟨v, h2, h3, h4, hW, hd, n23, n24, n34⟩ := hN
  obtain ⟨r, ls, p⟩ := s
  obtain ⟨hr1, hr2⟩ := hr
  obtain ⟨hp1, hp2⟩ := hp
  obtain ⟨ha1, ha2⟩ := ha
  simp only at hr1 hr2 hp1 hp2 hm h3 h4 hW
  have c3 := row_cell h3 (i := 0) rfl
  have c4 := row_cell h4 (i := 0) rfl
  have f3 := row_free h3 0
  have f4 := row_free h4 0
  unfold mkI at c3 c4
  have m34 : b4 ≠ b3 := fun e => n34 e.symm
  have l3 : b3 < w.heap.size := row_lt h3
  have l4 : b4 < w.heap.size := row_lt h4
  have hblk := Lib.hid (And.intro h2 (And.intro h3 (And.intro h4 (And.intro hW (And.intro hd (And.intro n23 (And.intro n24 n34)))))))
  clear h2 h3 h4 hW hd hlt
  by_cases q1 : 0 ≤ r
  · by_cases q2 : 0 ≤ p + a
    · have hv := Lib.hid (stepN_yes hm q1 q2)
      clear hm
      go_enter Tryz.func169, Tryz.ntmps169
      go_wp2
      go_ret
      rw [hv.out]
      obtain ⟨h2, h3, h4, hW, hd, n23, n24, n34⟩ := hblk.out
      refine ⟨by first | exact rfl | exact ret_bool (by simp; omega), h, ?_, .inl rfl, ?_⟩
      · have hs : Only (fun k => k = b4) w (w.setCell ⟨b4, 0, none⟩ (.int .i64 (p + a))) := (Only.refl (fun k => k = b4) w).setCell (p := ⟨b4, 0, none⟩) (fun _ => rfl) _
        refine NestAt.new (w := w.setCell ⟨b4, 0, none⟩ (.int .i64 (p + a))) ?_ ((Only.refl _ _).alloc _)
        exact ⟨v, hs.heap h2 n24, hs.heap h3 n34, row_set h4 0 _, hW.kept hs (fun k hk => (hd k hk).2.2), hd, n23, n24, n34⟩
      · exact (((Only.refl (nfp b2 b3 b4 h) w).setCell (p := ⟨b4, 0, none⟩) (fun _ => .inr (.inr (.inl rfl))) _).alloc _)
    · have hv := Lib.hid (stepN_no hm (.inr (by simp only; omega)))
      have q2' : (p + a) < 0 := by omega
      clear hm
      go_enter Tryz.func169, Tryz.ntmps169
      go_wp2
      go_ret
      rw [hv.out]
      exact ⟨by first | exact rfl | exact ret_bool (by simp; omega), (((Only.refl (nfp b2 b3 b4 h) w).setCell (p := ⟨b4, 0, none⟩) (fun _ => .inr (.inr (.inl rfl))) _).alloc _)⟩
  · have hv := Lib.hid (stepN_no hm (.inl (by simp only; omega)))
    have q1' : (r) < 0 := by omega
    clear hm
    go_enter Tryz.func169, Tryz.ntmps169
    go_wp2
    go_ret
    rw [hv.out]
    exact ⟨rfl, (((Only.refl (nfp b2 b3 b4 h) w).setCell (p := ⟨b4, 0, none⟩) (fun _ => .inr (.inr (.inl rfl))) _).alloc _)⟩

set_option maxRecDepth 100000 in
set_option maxHeartbeats 1000000 in
theorem nests_8 {w : World} {b2 b3 b4 : Nat} {h : Option Nat} {s : NS} (hN : NestAt w b2 b3 b4 h s) (hr : -1000 ≤ s.r ∧ s.r ≤ 1000) (hp : -1000000 ≤ s.p ∧ s.p ≤ 1000000) (a b : Int) (ha : 0 ≤ a ∧ a ≤ 5000) :
    Calls Tryz.prog 169 #[.agg #[.int .i64 8, .int .i64 a, .int .i64 b], .pointer (some ⟨b3, 0, none⟩), .pointer (some ⟨b2, 0, none⟩), .pointer (some ⟨b4, 0, none⟩)] w (StepEnd w b2 b3 b4 h (stepN s 8 a)) := by
  have hm : moveN s 8 a = some ⟨s.r, s.ls, s.p - a⟩ := rfl
  have hlt := hN.lt
  obtain ⟨v, h2, h3, h4, hW, hd, n23, n24, n34⟩ := hN
  obtain ⟨r, ls, p⟩ := s
  obtain ⟨hr1, hr2⟩ := hr
  obtain ⟨hp1, hp2⟩ := hp
  obtain ⟨ha1, ha2⟩ := ha
  simp only at hr1 hr2 hp1 hp2 hm h3 h4 hW
  have c3 := row_cell h3 (i := 0) rfl
  have c4 := row_cell h4 (i := 0) rfl
  have f3 := row_free h3 0
  have f4 := row_free h4 0
  unfold mkI at c3 c4
  have m34 : b4 ≠ b3 := fun e => n34 e.symm
  have l3 : b3 < w.heap.size := row_lt h3
  have l4 : b4 < w.heap.size := row_lt h4
  have hblk := Lib.hid (And.intro h2 (And.intro h3 (And.intro h4 (And.intro hW (And.intro hd (And.intro n23 (And.intro n24 n34)))))))
  clear h2 h3 h4 hW hd hlt
  by_cases q1 : 0 ≤ r
  · by_cases q2 : 0 ≤ p - a
    · have hv := Lib.hid (stepN_yes hm q1 q2)
      clear hm
      go_enter Tryz.func169, Tryz.ntmps169
      go_wp2
      go_ret
      rw [hv.out]
      obtain ⟨h2, h3, h4, hW, hd, n23, n24, n34⟩ := hblk.out
      refine ⟨by first | exact rfl | exact ret_bool (by simp; omega), h, ?_, .inl rfl, ?_⟩
      · have hs : Only (fun k => k = b4) w (w.setCell ⟨b4, 0, none⟩ (.int .i64 (p - a))) := (Only.refl (fun k => k = b4) w).setCell (p := ⟨b4, 0, none⟩) (fun _ => rfl) _
        refine NestAt.new (w := w.setCell ⟨b4, 0, none⟩ (.int .i64 (p - a))) ?_ ((Only.refl _ _).alloc _)
        exact ⟨v, hs.heap h2 n24, hs.heap h3 n34, row_set h4 0 _, hW.kept hs (fun k hk => (hd k hk).2.2), hd, n23, n24, n34⟩
      · exact (((Only.refl (nfp b2 b3 b4 h) w).setCell (p := ⟨b4, 0, none⟩) (fun _ => .inr (.inr (.inl rfl))) _).alloc _)
    · have hv := Lib.hid (stepN_no hm (.inr (by simp only; omega)))
      have q2' : (p - a) < 0 := by omega
      clear hm
      go_enter Tryz.func169, Tryz.ntmps169
      go_wp2
      go_ret
      rw [hv.out]
      exact ⟨by first | exact rfl | exact ret_bool (by simp; omega), (((Only.refl (nfp b2 b3 b4 h) w).setCell (p := ⟨b4, 0, none⟩) (fun _ => .inr (.inr (.inl rfl))) _).alloc _)⟩
  · have hv := Lib.hid (stepN_no hm (.inl (by simp only; omega)))
    have q1' : (r) < 0 := by omega
    clear hm
    go_enter Tryz.func169, Tryz.ntmps169
    go_wp2
    go_ret
    rw [hv.out]
    exact ⟨rfl, (((Only.refl (nfp b2 b3 b4 h) w).setCell (p := ⟨b4, 0, none⟩) (fun _ => .inr (.inr (.inl rfl))) _).alloc _)⟩

set_option maxRecDepth 100000 in
set_option maxHeartbeats 1000000 in
theorem nests_1 {w : World} {b2 b3 b4 : Nat} {h : Option Nat} {s : NS} (hN : NestAt w b2 b3 b4 h s) (hr : -1000 ≤ s.r ∧ s.r ≤ 1000) (hp : -1000000 ≤ s.p ∧ s.p ≤ 1000000) (a b : Int) (ha : 0 ≤ a ∧ a ≤ 5000) :
    Calls Tryz.prog 169 #[.agg #[.int .i64 1, .int .i64 a, .int .i64 b], .pointer (some ⟨b3, 0, none⟩), .pointer (some ⟨b2, 0, none⟩), .pointer (some ⟨b4, 0, none⟩)] w (StepEnd w b2 b3 b4 h (stepN s 1 a)) := by
  have hm : moveN s 1 a = some s := rfl
  have hlt := hN.lt
  obtain ⟨v, h2, h3, h4, hW, hd, n23, n24, n34⟩ := hN
  obtain ⟨r, ls, p⟩ := s
  obtain ⟨hr1, hr2⟩ := hr
  obtain ⟨hp1, hp2⟩ := hp
  obtain ⟨ha1, ha2⟩ := ha
  simp only at hr1 hr2 hp1 hp2 hm h3 h4 hW
  have c3 := row_cell h3 (i := 0) rfl
  have c4 := row_cell h4 (i := 0) rfl
  have f3 := row_free h3 0
  have f4 := row_free h4 0
  unfold mkI at c3 c4
  have m34 : b4 ≠ b3 := fun e => n34 e.symm
  have l3 : b3 < w.heap.size := row_lt h3
  have l4 : b4 < w.heap.size := row_lt h4
  have hblk := Lib.hid (And.intro h2 (And.intro h3 (And.intro h4 (And.intro hW (And.intro hd (And.intro n23 (And.intro n24 n34)))))))
  clear h2 h3 h4 hW hd hlt
  by_cases q1 : 0 ≤ r
  · by_cases q2 : 0 ≤ p
    · have hv := Lib.hid (stepN_yes hm q1 q2)
      clear hm
      go_enter Tryz.func169, Tryz.ntmps169
      go_wp2
      go_ret
      rw [hv.out]
      obtain ⟨h2, h3, h4, hW, hd, n23, n24, n34⟩ := hblk.out
      refine ⟨by first | exact rfl | exact ret_bool (by simp; omega), h, ?_, .inl rfl, ?_⟩
      · exact NestAt.new (w := w) ⟨v, h2, h3, h4, hW, hd, n23, n24, n34⟩ ((Only.refl _ w).alloc _)
      · exact ((Only.refl (nfp b2 b3 b4 h) w).alloc _)
    · have hv := Lib.hid (stepN_no hm (.inr (by simp only; omega)))
      have q2' : (p) < 0 := by omega
      clear hm
      go_enter Tryz.func169, Tryz.ntmps169
      go_wp2
      go_ret
      rw [hv.out]
      exact ⟨by first | exact rfl | exact ret_bool (by simp; omega), ((Only.refl (nfp b2 b3 b4 h) w).alloc _)⟩
  · have hv := Lib.hid (stepN_no hm (.inl (by simp only; omega)))
    have q1' : (r) < 0 := by omega
    clear hm
    go_enter Tryz.func169, Tryz.ntmps169
    go_wp2
    go_ret
    rw [hv.out]
    exact ⟨rfl, ((Only.refl (nfp b2 b3 b4 h) w).alloc _)⟩

set_option maxRecDepth 100000 in
set_option maxHeartbeats 1000000 in
theorem nests_2 {w : World} {b2 b3 b4 : Nat} {h : Option Nat} {s : NS} (hN : NestAt w b2 b3 b4 h s) (hr : -1000 ≤ s.r ∧ s.r ≤ 1000) (hp : -1000000 ≤ s.p ∧ s.p ≤ 1000000) (a b : Int) (ha : 0 ≤ a ∧ a ≤ 5000) :
    Calls Tryz.prog 169 #[.agg #[.int .i64 2, .int .i64 a, .int .i64 b], .pointer (some ⟨b3, 0, none⟩), .pointer (some ⟨b2, 0, none⟩), .pointer (some ⟨b4, 0, none⟩)] w (StepEnd w b2 b3 b4 h (stepN s 2 a)) := by
  have hm : moveN s 2 a = some s := rfl
  have hlt := hN.lt
  obtain ⟨v, h2, h3, h4, hW, hd, n23, n24, n34⟩ := hN
  obtain ⟨r, ls, p⟩ := s
  obtain ⟨hr1, hr2⟩ := hr
  obtain ⟨hp1, hp2⟩ := hp
  obtain ⟨ha1, ha2⟩ := ha
  simp only at hr1 hr2 hp1 hp2 hm h3 h4 hW
  have c3 := row_cell h3 (i := 0) rfl
  have c4 := row_cell h4 (i := 0) rfl
  have f3 := row_free h3 0
  have f4 := row_free h4 0
  unfold mkI at c3 c4
  have m34 : b4 ≠ b3 := fun e => n34 e.symm
  have l3 : b3 < w.heap.size := row_lt h3
  have l4 : b4 < w.heap.size := row_lt h4
  have hblk := Lib.hid (And.intro h2 (And.intro h3 (And.intro h4 (And.intro hW (And.intro hd (And.intro n23 (And.intro n24 n34)))))))
  clear h2 h3 h4 hW hd hlt
  by_cases q1 : 0 ≤ r
  · by_cases q2 : 0 ≤ p
    · have hv := Lib.hid (stepN_yes hm q1 q2)
      clear hm
      go_enter Tryz.func169, Tryz.ntmps169
      go_wp2
      go_ret
      rw [hv.out]
      obtain ⟨h2, h3, h4, hW, hd, n23, n24, n34⟩ := hblk.out
      refine ⟨by first | exact rfl | exact ret_bool (by simp; omega), h, ?_, .inl rfl, ?_⟩
      · exact NestAt.new (w := w) ⟨v, h2, h3, h4, hW, hd, n23, n24, n34⟩ ((Only.refl _ w).alloc _)
      · exact ((Only.refl (nfp b2 b3 b4 h) w).alloc _)
    · have hv := Lib.hid (stepN_no hm (.inr (by simp only; omega)))
      have q2' : (p) < 0 := by omega
      clear hm
      go_enter Tryz.func169, Tryz.ntmps169
      go_wp2
      go_ret
      rw [hv.out]
      exact ⟨by first | exact rfl | exact ret_bool (by simp; omega), ((Only.refl (nfp b2 b3 b4 h) w).alloc _)⟩
  · have hv := Lib.hid (stepN_no hm (.inl (by simp only; omega)))
    have q1' : (r) < 0 := by omega
    clear hm
    go_enter Tryz.func169, Tryz.ntmps169
    go_wp2
    go_ret
    rw [hv.out]
    exact ⟨rfl, ((Only.refl (nfp b2 b3 b4 h) w).alloc _)⟩

set_option maxRecDepth 100000 in
set_option maxHeartbeats 1000000 in
theorem nests_9 {w : World} {b2 b3 b4 : Nat} {h : Option Nat} {s : NS} (hN : NestAt w b2 b3 b4 h s) (hr : -1000 ≤ s.r ∧ s.r ≤ 1000) (hp : -1000000 ≤ s.p ∧ s.p ≤ 1000000) (a b : Int) (ha : 0 ≤ a ∧ a ≤ 5000) :
    Calls Tryz.prog 169 #[.agg #[.int .i64 9, .int .i64 a, .int .i64 b], .pointer (some ⟨b3, 0, none⟩), .pointer (some ⟨b2, 0, none⟩), .pointer (some ⟨b4, 0, none⟩)] w (StepEnd w b2 b3 b4 h (stepN s 9 a)) := by
  have hm : moveN s 9 a = some s := rfl
  have hlt := hN.lt
  obtain ⟨v, h2, h3, h4, hW, hd, n23, n24, n34⟩ := hN
  obtain ⟨r, ls, p⟩ := s
  obtain ⟨hr1, hr2⟩ := hr
  obtain ⟨hp1, hp2⟩ := hp
  obtain ⟨ha1, ha2⟩ := ha
  simp only at hr1 hr2 hp1 hp2 hm h3 h4 hW
  have c3 := row_cell h3 (i := 0) rfl
  have c4 := row_cell h4 (i := 0) rfl
  have f3 := row_free h3 0
  have f4 := row_free h4 0
  unfold mkI at c3 c4
  have m34 : b4 ≠ b3 := fun e => n34 e.symm
  have l3 : b3 < w.heap.size := row_lt h3
  have l4 : b4 < w.heap.size := row_lt h4
  have hblk := Lib.hid (And.intro h2 (And.intro h3 (And.intro h4 (And.intro hW (And.intro hd (And.intro n23 (And.intro n24 n34)))))))
  clear h2 h3 h4 hW hd hlt
  by_cases q1 : 0 ≤ r
  · by_cases q2 : 0 ≤ p
    · have hv := Lib.hid (stepN_yes hm q1 q2)
      clear hm
      go_enter Tryz.func169, Tryz.ntmps169
      go_wp2
      go_ret
      rw [hv.out]
      obtain ⟨h2, h3, h4, hW, hd, n23, n24, n34⟩ := hblk.out
      refine ⟨by first | exact rfl | exact ret_bool (by simp; omega), h, ?_, .inl rfl, ?_⟩
      · exact NestAt.new (w := w) ⟨v, h2, h3, h4, hW, hd, n23, n24, n34⟩ ((Only.refl _ w).alloc _)
      · exact ((Only.refl (nfp b2 b3 b4 h) w).alloc _)
    · have hv := Lib.hid (stepN_no hm (.inr (by simp only; omega)))
      have q2' : (p) < 0 := by omega
      clear hm
      go_enter Tryz.func169, Tryz.ntmps169
      go_wp2
      go_ret
      rw [hv.out]
      exact ⟨by first | exact rfl | exact ret_bool (by simp; omega), ((Only.refl (nfp b2 b3 b4 h) w).alloc _)⟩
  · have hv := Lib.hid (stepN_no hm (.inl (by simp only; omega)))
    have q1' : (r) < 0 := by omega
    clear hm
    go_enter Tryz.func169, Tryz.ntmps169
    go_wp2
    go_ret
    rw [hv.out]
    exact ⟨rfl, ((Only.refl (nfp b2 b3 b4 h) w).alloc _)⟩

set_option maxRecDepth 100000 in
set_option maxHeartbeats 1000000 in
theorem nests_10 {w : World} {b2 b3 b4 : Nat} {h : Option Nat} {s : NS} (hN : NestAt w b2 b3 b4 h s) (hr : -1000 ≤ s.r ∧ s.r ≤ 1000) (hp : -1000000 ≤ s.p ∧ s.p ≤ 1000000) (a b : Int) (ha : 0 ≤ a ∧ a ≤ 5000) :
    Calls Tryz.prog 169 #[.agg #[.int .i64 10, .int .i64 a, .int .i64 b], .pointer (some ⟨b3, 0, none⟩), .pointer (some ⟨b2, 0, none⟩), .pointer (some ⟨b4, 0, none⟩)] w (StepEnd w b2 b3 b4 h (stepN s 10 a)) := by
  have hm : moveN s 10 a = some s := rfl
  have hlt := hN.lt
  obtain ⟨v, h2, h3, h4, hW, hd, n23, n24, n34⟩ := hN
  obtain ⟨r, ls, p⟩ := s
  obtain ⟨hr1, hr2⟩ := hr
  obtain ⟨hp1, hp2⟩ := hp
  obtain ⟨ha1, ha2⟩ := ha
  simp only at hr1 hr2 hp1 hp2 hm h3 h4 hW
  have c3 := row_cell h3 (i := 0) rfl
  have c4 := row_cell h4 (i := 0) rfl
  have f3 := row_free h3 0
  have f4 := row_free h4 0
  unfold mkI at c3 c4
  have m34 : b4 ≠ b3 := fun e => n34 e.symm
  have l3 : b3 < w.heap.size := row_lt h3
  have l4 : b4 < w.heap.size := row_lt h4
  have hblk := Lib.hid (And.intro h2 (And.intro h3 (And.intro h4 (And.intro hW (And.intro hd (And.intro n23 (And.intro n24 n34)))))))
  clear h2 h3 h4 hW hd hlt
  by_cases q1 : 0 ≤ r
  · by_cases q2 : 0 ≤ p
    · have hv := Lib.hid (stepN_yes hm q1 q2)
      clear hm
      go_enter Tryz.func169, Tryz.ntmps169
      go_wp2
      go_ret
      rw [hv.out]
      obtain ⟨h2, h3, h4, hW, hd, n23, n24, n34⟩ := hblk.out
      refine ⟨by first | exact rfl | exact ret_bool (by simp; omega), h, ?_, .inl rfl, ?_⟩
      · exact NestAt.new (w := w) ⟨v, h2, h3, h4, hW, hd, n23, n24, n34⟩ ((Only.refl _ w).alloc _)
      · exact ((Only.refl (nfp b2 b3 b4 h) w).alloc _)
    · have hv := Lib.hid (stepN_no hm (.inr (by simp only; omega)))
      have q2' : (p) < 0 := by omega
      clear hm
      go_enter Tryz.func169, Tryz.ntmps169
      go_wp2
      go_ret
      rw [hv.out]
      exact ⟨by first | exact rfl | exact ret_bool (by simp; omega), ((Only.refl (nfp b2 b3 b4 h) w).alloc _)⟩
  · have hv := Lib.hid (stepN_no hm (.inl (by simp only; omega)))
    have q1' : (r) < 0 := by omega
    clear hm
    go_enter Tryz.func169, Tryz.ntmps169
    go_wp2
    go_ret
    rw [hv.out]
    exact ⟨rfl, ((Only.refl (nfp b2 b3 b4 h) w).alloc _)⟩

set_option maxRecDepth 100000 in
set_option maxHeartbeats 1000000 in
theorem nests_11 {w : World} {b2 b3 b4 : Nat} {h : Option Nat} {s : NS} (hN : NestAt w b2 b3 b4 h s) (hr : -1000 ≤ s.r ∧ s.r ≤ 1000) (hp : -1000000 ≤ s.p ∧ s.p ≤ 1000000) (a b : Int) (ha : 0 ≤ a ∧ a ≤ 5000) :
    Calls Tryz.prog 169 #[.agg #[.int .i64 11, .int .i64 a, .int .i64 b], .pointer (some ⟨b3, 0, none⟩), .pointer (some ⟨b2, 0, none⟩), .pointer (some ⟨b4, 0, none⟩)] w (StepEnd w b2 b3 b4 h (stepN s 11 a)) := by
  have hm : moveN s 11 a = some s := rfl
  have hlt := hN.lt
  obtain ⟨v, h2, h3, h4, hW, hd, n23, n24, n34⟩ := hN
  obtain ⟨r, ls, p⟩ := s
  obtain ⟨hr1, hr2⟩ := hr
  obtain ⟨hp1, hp2⟩ := hp
  obtain ⟨ha1, ha2⟩ := ha
  simp only at hr1 hr2 hp1 hp2 hm h3 h4 hW
  have c3 := row_cell h3 (i := 0) rfl
  have c4 := row_cell h4 (i := 0) rfl
  have f3 := row_free h3 0
  have f4 := row_free h4 0
  unfold mkI at c3 c4
  have m34 : b4 ≠ b3 := fun e => n34 e.symm
  have l3 : b3 < w.heap.size := row_lt h3
  have l4 : b4 < w.heap.size := row_lt h4
  have hblk := Lib.hid (And.intro h2 (And.intro h3 (And.intro h4 (And.intro hW (And.intro hd (And.intro n23 (And.intro n24 n34)))))))
  clear h2 h3 h4 hW hd hlt
  by_cases q1 : 0 ≤ r
  · by_cases q2 : 0 ≤ p
    · have hv := Lib.hid (stepN_yes hm q1 q2)
      clear hm
      go_enter Tryz.func169, Tryz.ntmps169
      go_wp2
      go_ret
      rw [hv.out]
      obtain ⟨h2, h3, h4, hW, hd, n23, n24, n34⟩ := hblk.out
      refine ⟨by first | exact rfl | exact ret_bool (by simp; omega), h, ?_, .inl rfl, ?_⟩
      · exact NestAt.new (w := w) ⟨v, h2, h3, h4, hW, hd, n23, n24, n34⟩ ((Only.refl _ w).alloc _)
      · exact ((Only.refl (nfp b2 b3 b4 h) w).alloc _)
    · have hv := Lib.hid (stepN_no hm (.inr (by simp only; omega)))
      have q2' : (p) < 0 := by omega
      clear hm
      go_enter Tryz.func169, Tryz.ntmps169
      go_wp2
      go_ret
      rw [hv.out]
      exact ⟨by first | exact rfl | exact ret_bool (by simp; omega), ((Only.refl (nfp b2 b3 b4 h) w).alloc _)⟩
  · have hv := Lib.hid (stepN_no hm (.inl (by simp only; omega)))
    have q1' : (r) < 0 := by omega
    clear hm
    go_enter Tryz.func169, Tryz.ntmps169
    go_wp2
    go_ret
    rw [hv.out]
    exact ⟨rfl, ((Only.refl (nfp b2 b3 b4 h) w).alloc _)⟩

set_option maxRecDepth 100000 in
set_option maxHeartbeats 1000000 in
theorem nests_12 {w : World} {b2 b3 b4 : Nat} {h : Option Nat} {s : NS} (hN : NestAt w b2 b3 b4 h s) (hr : -1000 ≤ s.r ∧ s.r ≤ 1000) (hp : -1000000 ≤ s.p ∧ s.p ≤ 1000000) (a b : Int) (ha : 0 ≤ a ∧ a ≤ 5000) :
    Calls Tryz.prog 169 #[.agg #[.int .i64 12, .int .i64 a, .int .i64 b], .pointer (some ⟨b3, 0, none⟩), .pointer (some ⟨b2, 0, none⟩), .pointer (some ⟨b4, 0, none⟩)] w (StepEnd w b2 b3 b4 h (stepN s 12 a)) := by
  have hm : moveN s 12 a = some s := rfl
  have hlt := hN.lt
  obtain ⟨v, h2, h3, h4, hW, hd, n23, n24, n34⟩ := hN
  obtain ⟨r, ls, p⟩ := s
  obtain ⟨hr1, hr2⟩ := hr
  obtain ⟨hp1, hp2⟩ := hp
  obtain ⟨ha1, ha2⟩ := ha
  simp only at hr1 hr2 hp1 hp2 hm h3 h4 hW
  have c3 := row_cell h3 (i := 0) rfl
  have c4 := row_cell h4 (i := 0) rfl
  have f3 := row_free h3 0
  have f4 := row_free h4 0
  unfold mkI at c3 c4
  have m34 : b4 ≠ b3 := fun e => n34 e.symm
  have l3 : b3 < w.heap.size := row_lt h3
  have l4 : b4 < w.heap.size := row_lt h4
  have hblk := Lib.hid (And.intro h2 (And.intro h3 (And.intro h4 (And.intro hW (And.intro hd (And.intro n23 (And.intro n24 n34)))))))
  clear h2 h3 h4 hW hd hlt
  by_cases q1 : 0 ≤ r
  · by_cases q2 : 0 ≤ p
    · have hv := Lib.hid (stepN_yes hm q1 q2)
      clear hm
      go_enter Tryz.func169, Tryz.ntmps169
      go_wp2
      go_ret
      rw [hv.out]
      obtain ⟨h2, h3, h4, hW, hd, n23, n24, n34⟩ := hblk.out
      refine ⟨by first | exact rfl | exact ret_bool (by simp; omega), h, ?_, .inl rfl, ?_⟩
      · exact NestAt.new (w := w) ⟨v, h2, h3, h4, hW, hd, n23, n24, n34⟩ ((Only.refl _ w).alloc _)
      · exact ((Only.refl (nfp b2 b3 b4 h) w).alloc _)
    · have hv := Lib.hid (stepN_no hm (.inr (by simp only; omega)))
      have q2' : (p) < 0 := by omega
      clear hm
      go_enter Tryz.func169, Tryz.ntmps169
      go_wp2
      go_ret
      rw [hv.out]
      exact ⟨by first | exact rfl | exact ret_bool (by simp; omega), ((Only.refl (nfp b2 b3 b4 h) w).alloc _)⟩
  · have hv := Lib.hid (stepN_no hm (.inl (by simp only; omega)))
    have q1' : (r) < 0 := by omega
    clear hm
    go_enter Tryz.func169, Tryz.ntmps169
    go_wp2
    go_ret
    rw [hv.out]
    exact ⟨rfl, ((Only.refl (nfp b2 b3 b4 h) w).alloc _)⟩

set_option maxRecDepth 100000 in
set_option maxHeartbeats 1000000 in
theorem nests_13 {w : World} {b2 b3 b4 : Nat} {h : Option Nat} {s : NS} (hN : NestAt w b2 b3 b4 h s) (hr : -1000 ≤ s.r ∧ s.r ≤ 1000) (hp : -1000000 ≤ s.p ∧ s.p ≤ 1000000) (a b : Int) (ha : 0 ≤ a ∧ a ≤ 5000) :
    Calls Tryz.prog 169 #[.agg #[.int .i64 13, .int .i64 a, .int .i64 b], .pointer (some ⟨b3, 0, none⟩), .pointer (some ⟨b2, 0, none⟩), .pointer (some ⟨b4, 0, none⟩)] w (StepEnd w b2 b3 b4 h (stepN s 13 a)) := by
  have hm : moveN s 13 a = some s := rfl
  have hlt := hN.lt
  obtain ⟨v, h2, h3, h4, hW, hd, n23, n24, n34⟩ := hN
  obtain ⟨r, ls, p⟩ := s
  obtain ⟨hr1, hr2⟩ := hr
  obtain ⟨hp1, hp2⟩ := hp
  obtain ⟨ha1, ha2⟩ := ha
  simp only at hr1 hr2 hp1 hp2 hm h3 h4 hW
  have c3 := row_cell h3 (i := 0) rfl
  have c4 := row_cell h4 (i := 0) rfl
  have f3 := row_free h3 0
  have f4 := row_free h4 0
  unfold mkI at c3 c4
  have m34 : b4 ≠ b3 := fun e => n34 e.symm
  have l3 : b3 < w.heap.size := row_lt h3
  have l4 : b4 < w.heap.size := row_lt h4
  have hblk := Lib.hid (And.intro h2 (And.intro h3 (And.intro h4 (And.intro hW (And.intro hd (And.intro n23 (And.intro n24 n34)))))))
  clear h2 h3 h4 hW hd hlt
  by_cases q1 : 0 ≤ r
  · by_cases q2 : 0 ≤ p
    · have hv := Lib.hid (stepN_yes hm q1 q2)
      clear hm
      go_enter Tryz.func169, Tryz.ntmps169
      go_wp2
      go_ret
      rw [hv.out]
      obtain ⟨h2, h3, h4, hW, hd, n23, n24, n34⟩ := hblk.out
      refine ⟨by first | exact rfl | exact ret_bool (by simp; omega), h, ?_, .inl rfl, ?_⟩
      · exact NestAt.new (w := w) ⟨v, h2, h3, h4, hW, hd, n23, n24, n34⟩ ((Only.refl _ w).alloc _)
      · exact ((Only.refl (nfp b2 b3 b4 h) w).alloc _)
    · have hv := Lib.hid (stepN_no hm (.inr (by simp only; omega)))
      have q2' : (p) < 0 := by omega
      clear hm
      go_enter Tryz.func169, Tryz.ntmps169
      go_wp2
      go_ret
      rw [hv.out]
      exact ⟨by first | exact rfl | exact ret_bool (by simp; omega), ((Only.refl (nfp b2 b3 b4 h) w).alloc _)⟩
  · have hv := Lib.hid (stepN_no hm (.inl (by simp only; omega)))
    have q1' : (r) < 0 := by omega
    clear hm
    go_enter Tryz.func169, Tryz.ntmps169
    go_wp2
    go_ret
    rw [hv.out]
    exact ⟨rfl, ((Only.refl (nfp b2 b3 b4 h) w).alloc _)⟩

set_option maxRecDepth 100000 in
set_option maxHeartbeats 1000000 in
theorem nests_14 {w : World} {b2 b3 b4 : Nat} {h : Option Nat} {s : NS} (hN : NestAt w b2 b3 b4 h s) (hr : -1000 ≤ s.r ∧ s.r ≤ 1000) (hp : -1000000 ≤ s.p ∧ s.p ≤ 1000000) (a b : Int) (ha : 0 ≤ a ∧ a ≤ 5000) :
    Calls Tryz.prog 169 #[.agg #[.int .i64 14, .int .i64 a, .int .i64 b], .pointer (some ⟨b3, 0, none⟩), .pointer (some ⟨b2, 0, none⟩), .pointer (some ⟨b4, 0, none⟩)] w (StepEnd w b2 b3 b4 h (stepN s 14 a)) := by
  have hm : moveN s 14 a = some s := rfl
  have hlt := hN.lt
  obtain ⟨v, h2, h3, h4, hW, hd, n23, n24, n34⟩ := hN
  obtain ⟨r, ls, p⟩ := s
  obtain ⟨hr1, hr2⟩ := hr
  obtain ⟨hp1, hp2⟩ := hp
  obtain ⟨ha1, ha2⟩ := ha
  simp only at hr1 hr2 hp1 hp2 hm h3 h4 hW
  have c3 := row_cell h3 (i := 0) rfl
  have c4 := row_cell h4 (i := 0) rfl
  have f3 := row_free h3 0
  have f4 := row_free h4 0
  unfold mkI at c3 c4
  have m34 : b4 ≠ b3 := fun e => n34 e.symm
  have l3 : b3 < w.heap.size := row_lt h3
  have l4 : b4 < w.heap.size := row_lt h4
  have hblk := Lib.hid (And.intro h2 (And.intro h3 (And.intro h4 (And.intro hW (And.intro hd (And.intro n23 (And.intro n24 n34)))))))
  clear h2 h3 h4 hW hd hlt
  by_cases q1 : 0 ≤ r
  · by_cases q2 : 0 ≤ p
    · have hv := Lib.hid (stepN_yes hm q1 q2)
      clear hm
      go_enter Tryz.func169, Tryz.ntmps169
      go_wp2
      go_ret
      rw [hv.out]
      obtain ⟨h2, h3, h4, hW, hd, n23, n24, n34⟩ := hblk.out
      refine ⟨by first | exact rfl | exact ret_bool (by simp; omega), h, ?_, .inl rfl, ?_⟩
      · exact NestAt.new (w := w) ⟨v, h2, h3, h4, hW, hd, n23, n24, n34⟩ ((Only.refl _ w).alloc _)
      · exact ((Only.refl (nfp b2 b3 b4 h) w).alloc _)
    · have hv := Lib.hid (stepN_no hm (.inr (by simp only; omega)))
      have q2' : (p) < 0 := by omega
      clear hm
      go_enter Tryz.func169, Tryz.ntmps169
      go_wp2
      go_ret
      rw [hv.out]
      exact ⟨by first | exact rfl | exact ret_bool (by simp; omega), ((Only.refl (nfp b2 b3 b4 h) w).alloc _)⟩
  · have hv := Lib.hid (stepN_no hm (.inl (by simp only; omega)))
    have q1' : (r) < 0 := by omega
    clear hm
    go_enter Tryz.func169, Tryz.ntmps169
    go_wp2
    go_ret
    rw [hv.out]
    exact ⟨rfl, ((Only.refl (nfp b2 b3 b4 h) w).alloc _)⟩

set_option maxRecDepth 100000 in
set_option maxHeartbeats 1000000 in
theorem nests_15 {w : World} {b2 b3 b4 : Nat} {h : Option Nat} {s : NS} (hN : NestAt w b2 b3 b4 h s) (hr : -1000 ≤ s.r ∧ s.r ≤ 1000) (hp : -1000000 ≤ s.p ∧ s.p ≤ 1000000) (a b : Int) (ha : 0 ≤ a ∧ a ≤ 5000) :
    Calls Tryz.prog 169 #[.agg #[.int .i64 15, .int .i64 a, .int .i64 b], .pointer (some ⟨b3, 0, none⟩), .pointer (some ⟨b2, 0, none⟩), .pointer (some ⟨b4, 0, none⟩)] w (StepEnd w b2 b3 b4 h (stepN s 15 a)) := by
  have hm : moveN s 15 a = some s := rfl
  have hlt := hN.lt
  obtain ⟨v, h2, h3, h4, hW, hd, n23, n24, n34⟩ := hN
  obtain ⟨r, ls, p⟩ := s
  obtain ⟨hr1, hr2⟩ := hr
  obtain ⟨hp1, hp2⟩ := hp
  obtain ⟨ha1, ha2⟩ := ha
  simp only at hr1 hr2 hp1 hp2 hm h3 h4 hW
  have c3 := row_cell h3 (i := 0) rfl
  have c4 := row_cell h4 (i := 0) rfl
  have f3 := row_free h3 0
  have f4 := row_free h4 0
  unfold mkI at c3 c4
  have m34 : b4 ≠ b3 := fun e => n34 e.symm
  have l3 : b3 < w.heap.size := row_lt h3
  have l4 : b4 < w.heap.size := row_lt h4
  have hblk := Lib.hid (And.intro h2 (And.intro h3 (And.intro h4 (And.intro hW (And.intro hd (And.intro n23 (And.intro n24 n34)))))))
  clear h2 h3 h4 hW hd hlt
  by_cases q1 : 0 ≤ r
  · by_cases q2 : 0 ≤ p
    · have hv := Lib.hid (stepN_yes hm q1 q2)
      clear hm
      go_enter Tryz.func169, Tryz.ntmps169
      go_wp2
      go_ret
      rw [hv.out]
      obtain ⟨h2, h3, h4, hW, hd, n23, n24, n34⟩ := hblk.out
      refine ⟨by first | exact rfl | exact ret_bool (by simp; omega), h, ?_, .inl rfl, ?_⟩
      · exact NestAt.new (w := w) ⟨v, h2, h3, h4, hW, hd, n23, n24, n34⟩ ((Only.refl _ w).alloc _)
      · exact ((Only.refl (nfp b2 b3 b4 h) w).alloc _)
    · have hv := Lib.hid (stepN_no hm (.inr (by simp only; omega)))
      have q2' : (p) < 0 := by omega
      clear hm
      go_enter Tryz.func169, Tryz.ntmps169
      go_wp2
      go_ret
      rw [hv.out]
      exact ⟨by first | exact rfl | exact ret_bool (by simp; omega), ((Only.refl (nfp b2 b3 b4 h) w).alloc _)⟩
  · have hv := Lib.hid (stepN_no hm (.inl (by simp only; omega)))
    have q1' : (r) < 0 := by omega
    clear hm
    go_enter Tryz.func169, Tryz.ntmps169
    go_wp2
    go_ret
    rw [hv.out]
    exact ⟨rfl, ((Only.refl (nfp b2 b3 b4 h) w).alloc _)⟩

end Go.Proofs.YtlbinlhaejhobaaGreatDoor
/- Package prog's closures: locking and unlocking. -/
namespace Go.Proofs.YtlbinlhaejhobaaGreatDoor
open Go Go.RowKit

theorem infoI : (Tryz.prog.info? 3).map (fun i => (i.zero, i.size, i.bytes)) = some (some (Value.int .i64 0), 1, 8) := by kernel_rfl
theorem row_all {w : World} {X : Nat} {L : List Value} {e : TypeId} (h : w.heap[X]? = some (.cells L.toArray e (0, 0))) : ∀ j u, L[j]? = some u → w.cell? ((⟨X, 0, none⟩ : Addr).add j) = some u := fun j u hu => by
  rw [Addr.add_lit, Nat.zero_add]
  exact row_cell (L := L) h hu

/-- The blocks of the closures behind an append to the locked ones. -/
theorem lock_end {w W w4 : World} {b2 b3 b4 : Nat} {h h4 : Option Nat} {s : NS} {v4 : Value} {a : Int} {n : Nat} (hN : NestAt w b2 b3 b4 h s) (hn : n = s.ls.length) (hW : Only (fun _ => False) w W)
    (h4w : Win w4 3 1 v4 h4 (n + 1) (s.ls.map mkI ++ [mkI a])) (h4o : Only (fun k => some k = h) W w4) (hh : h4 = h ∨ ∃ g, h4 = some g ∧ W.heap.size ≤ g) :
    NestAt (w4.setCell ⟨b2, 0, none⟩ v4) b2 b3 b4 h4 ⟨s.r, s.ls ++ [a], s.p⟩ ∧ (h4 = h ∨ ∃ g, h4 = some g ∧ w.heap.size ≤ g) ∧ Only (nfp b2 b3 b4 h) w (w4.setCell ⟨b2, 0, none⟩ v4) := by
  have hlt := hN.lt
  have hs := hW.size
  obtain ⟨v, e2, e3, e4, eW, hd, n23, n24, n34⟩ := hN.new hW
  have k2 := h4o.heap e2 (fun e => (hd b2 e.symm).1 rfl)
  have k3 := h4o.heap e3 (fun e => (hd b3 e.symm).2.1 rfl)
  have k4 := h4o.heap e4 (fun e => (hd b4 e.symm).2.2 rfl)
  have hne : ∀ k, h4 = some k → k ≠ b2 ∧ k ≠ b3 ∧ k ≠ b4 := by
    rintro k rfl
    rcases hh with hh | ⟨g, hg, hge⟩
    · exact hd k hh.symm
    · cases hg
      have q2 := hlt b2 (.inl rfl)
      have q3 := hlt b3 (.inr (.inl rfl))
      have q4 := hlt b4 (.inr (.inr (.inl rfl)))
      omega
  have hO : Only (fun k => k = b2) w4 (w4.setCell ⟨b2, 0, none⟩ v4) := (Only.refl (fun k => k = b2) w4).setCell (p := ⟨b2, 0, none⟩) (fun _ => rfl) _
  refine ⟨⟨v4, row_set k2 0 v4, hO.heap k3 (fun e => n23 e.symm), hO.heap k4 (fun e => n24 e.symm), ?_, hne, n23, n24, n34⟩, ?_, ?_⟩
  · simp only [List.length_append, List.map_append, List.length_cons, List.length_nil, List.map_cons, List.map_nil]
    rw [← hn]
    exact h4w.kept hO (fun k hk e => (hne k hk).1 e)
  · rcases hh with hh | ⟨g, hg, hge⟩
    · exact .inl hh
    · exact .inr ⟨g, hg, by omega⟩
  · exact ((hW.mono (T := nfp b2 b3 b4 h) (fun _ _ h => h.elim)).trans h4o (fun k _ e => .inr (.inr (.inr e.symm)))).trans hO (fun k _ e => .inl e)

set_option maxRecDepth 100000 in
set_option maxHeartbeats 1000000 in
theorem nests_5 {w : World} {b2 b3 b4 : Nat} {h : Option Nat} {s : NS} (hN : NestAt w b2 b3 b4 h s) (hl : s.ls.length ≤ 100) (a b : Int) :
    Calls Tryz.prog 169 #[.agg #[.int .i64 5, .int .i64 a, .int .i64 b], .pointer (some ⟨b3, 0, none⟩), .pointer (some ⟨b2, 0, none⟩), .pointer (some ⟨b4, 0, none⟩)] w (StepEnd w b2 b3 b4 h (stepN s 5 a)) := by
  have hN' := Lib.hid hN
  obtain ⟨v, h2, h3, h4, hW, hd, n23, n24, n34⟩ := hN
  obtain ⟨p0, cap, rfl, hnc, hcm⟩ := hW.form
  obtain ⟨n, hn⟩ : ∃ n, n = s.ls.length := ⟨_, rfl⟩
  rw [← hn] at h2 hW hnc hl
  have c2 := row_cell h2 (i := 0) rfl
  have l2 : b2 < w.heap.size := row_lt h2
  obtain ⟨r, hr⟩ : ∃ r, r = s.r := ⟨_, rfl⟩
  obtain ⟨p, hp⟩ : ∃ p, p = s.p := ⟨_, rfl⟩
  have hkeep := Lib.hid (fun (W w4 : World) (hW : Only (fun _ => False) w W) (h4o : Only (fun k => some k = h) W w4) => by
    have e2 := h4o.heap (hW.heap h2 (fun h => h)) (fun e => (hd b2 e.symm).1 rfl)
    have e3 := h4o.heap (hW.heap h3 (fun h => h)) (fun e => (hd b3 e.symm).2.1 rfl)
    have e4 := h4o.heap (hW.heap h4 (fun h => h)) (fun e => (hd b4 e.symm).2.2 rfl)
    exact And.intro (row_cell e2 (i := 0) rfl) (And.intro (row_free e2 0) (And.intro (row_cell e3 (i := 0) rfl) (row_cell e4 (i := 0) rfl))))
  unfold mkI at hkeep
  rw [← hr, ← hp] at hkeep
  have m23 : b3 ≠ b2 := fun e => n23 e.symm
  have m24 : b4 ≠ b2 := fun e => n24 e.symm
  have hE := Lib.hid (And.intro hn (And.intro hr hp))
  cases hin : decide (a ∈ s.ls) with
  | true =>
    have hv := Lib.hid (stepN_none (s := s) (k := 5) (a := a) (by unfold moveN; simp; exact of_decide_eq_true hin))
    have hc := Lib.hid (fun W (hO : Only (fun _ => False) w W) => contains_any (hW.kept hO (fun _ _ h => h)) hl a hin)
    clear h2 h3 h4 hW hd hkeep hin hn hr hp
    go_enter Tryz.func169, Tryz.ntmps169
    go_wp2_with (go_at_call 170; refine (hc.out _ ((Only.refl _ w).alloc _)).mono ?_; rintro e w' ⟨rfl, rfl⟩)
    go_ret
    rw [hv.out]
    exact ⟨rfl, (Only.refl (nfp b2 b3 b4 h) w).alloc _⟩
  | false =>
    have hm := Lib.hid (show moveN s 5 a = some ⟨s.r, s.ls ++ [a], s.p⟩ by
      have : a ∉ s.ls := of_decide_eq_false hin
      unfold moveN; simp [this])
    have hc := Lib.hid (fun W (hO : Only (fun _ => False) w W) => contains_any (hW.kept hO (fun _ _ h => h)) hl a hin)
    have hW' := Lib.hid (fun W (hO : Only (fun _ => False) w W) => hW.kept hO (fun _ _ h => h))
    clear h2 h3 h4 hW hd hin hn hr hp
    by_cases q1 : 0 ≤ r
    · by_cases q2 : 0 ≤ p
      · go_enter Tryz.func169, Tryz.ntmps169
        go_wp2_with (first | (go_at_call 170; refine (hc.out _ ((Only.refl _ w).alloc _)).mono ?_; rintro e w' ⟨rfl, rfl⟩) | (at_builtin; refine wpList_append_win rfl _ _ 24 rfl 3 (Value.int .i64 0) 1 8 Tryz.underlying24 infoI rfl (by decide) rfl (hW'.out _ (((Only.refl _ w).alloc _).alloc _)) _ 1 1 rfl [mkI a] rfl (fun _ => ⟨_, rfl, row_all (heap_new_at _ _ (by simp))⟩) (by simp [mkI, Value.oneCell']) (by unfold maxLen; omega) (by omega) ?_; intro v4 w4 h4 hW4 hO4 hh4; obtain ⟨p4, c4, rfl, _, _⟩ := hW4.out.form; obtain ⟨d2, f2, d3, d4⟩ := hkeep.out _ _ (((Only.refl _ w).alloc _).alloc _) hO4.out))
        go_ret
        obtain ⟨hn, hr, hp⟩ := hE.out
        have hv := stepN_yes hm.out (by show 0 ≤ s.r; omega) (by show 0 ≤ s.p; omega)
        rw [hv]
        obtain ⟨z1, z2, z3⟩ := lock_end hN'.out hn (((Only.refl _ w).alloc _).alloc _) hW4.out hO4.out hh4.out
        exact ⟨rfl, h4, z1, z2, z3⟩
      · have q2' : p < 0 := by omega
        go_enter Tryz.func169, Tryz.ntmps169
        go_wp2_with (first | (go_at_call 170; refine (hc.out _ ((Only.refl _ w).alloc _)).mono ?_; rintro e w' ⟨rfl, rfl⟩) | (at_builtin; refine wpList_append_win rfl _ _ 24 rfl 3 (Value.int .i64 0) 1 8 Tryz.underlying24 infoI rfl (by decide) rfl (hW'.out _ (((Only.refl _ w).alloc _).alloc _)) _ 1 1 rfl [mkI a] rfl (fun _ => ⟨_, rfl, row_all (heap_new_at _ _ (by simp))⟩) (by simp [mkI, Value.oneCell']) (by unfold maxLen; omega) (by omega) ?_; intro v4 w4 h4 hW4 hO4 hh4; obtain ⟨p4, c4, rfl, _, _⟩ := hW4.out.form; obtain ⟨d2, f2, d3, d4⟩ := hkeep.out _ _ (((Only.refl _ w).alloc _).alloc _) hO4.out))
        go_ret
        obtain ⟨hn, hr, hp⟩ := hE.out
        have hv := stepN_no hm.out (.inr (by show s.p < 0; omega))
        rw [hv]
        obtain ⟨z1, z2, z3⟩ := lock_end hN'.out hn (((Only.refl _ w).alloc _).alloc _) hW4.out hO4.out hh4.out
        exact ⟨by first | exact rfl | exact ret_bool (by simp; omega), z3⟩
    · have q1' : r < 0 := by omega
      go_enter Tryz.func169, Tryz.ntmps169
      go_wp2_with (first | (go_at_call 170; refine (hc.out _ ((Only.refl _ w).alloc _)).mono ?_; rintro e w' ⟨rfl, rfl⟩) | (at_builtin; refine wpList_append_win rfl _ _ 24 rfl 3 (Value.int .i64 0) 1 8 Tryz.underlying24 infoI rfl (by decide) rfl (hW'.out _ (((Only.refl _ w).alloc _).alloc _)) _ 1 1 rfl [mkI a] rfl (fun _ => ⟨_, rfl, row_all (heap_new_at _ _ (by simp))⟩) (by simp [mkI, Value.oneCell']) (by unfold maxLen; omega) (by omega) ?_; intro v4 w4 h4 hW4 hO4 hh4; obtain ⟨p4, c4, rfl, _, _⟩ := hW4.out.form; obtain ⟨d2, f2, d3, d4⟩ := hkeep.out _ _ (((Only.refl _ w).alloc _).alloc _) hO4.out))
      go_ret
      obtain ⟨hn, hr, hp⟩ := hE.out
      have hv := stepN_no hm.out (.inl (by show s.r < 0; omega))
      rw [hv]
      obtain ⟨z1, z2, z3⟩ := lock_end hN'.out hn (((Only.refl _ w).alloc _).alloc _) hW4.out hO4.out hh4.out
      exact ⟨by first | exact rfl | exact ret_bool (by simp; omega), z3⟩
end Go.Proofs.YtlbinlhaejhobaaGreatDoor
/- Package prog's closures: unlocking; the end; all kinds in one; what makes them. -/
namespace Go.Proofs.YtlbinlhaejhobaaGreatDoor
open Go Go.RowKit

theorem unlock_end {w W : World} {b2 b3 b4 m cap : Nat} {h : Option Nat} {s : NS} {ls : List Int} {x : Int} {p0 : Option Addr} (hN : NestAt w b2 b3 b4 h s) (hls : s.ls = ls ++ [x]) (hm : ls.length = m) (hW : Only (fun _ => False) w W) (c2 : w.cell? ⟨b2, 0, none⟩ = some (.slice p0 (m + 1) cap)) :
    NestAt (W.setCell ⟨b2, 0, none⟩ (.slice p0 m cap)) b2 b3 b4 h ⟨s.r, ls, s.p⟩ ∧ Only (nfp b2 b3 b4 h) w (W.setCell ⟨b2, 0, none⟩ (.slice p0 m cap)) := by
  obtain ⟨v, e2, e3, e4, eW, hd, n23, n24, n34⟩ := hN
  have hv : v = .slice p0 (m + 1) cap := by
    have := row_cell e2 (i := 0) (v := v) rfl
    rw [this] at c2
    exact Option.some.inj c2
  subst hv
  have hO : Only (fun k => k = b2) W (W.setCell ⟨b2, 0, none⟩ (.slice p0 m cap)) := (Only.refl (fun k => k = b2) W).setCell (p := ⟨b2, 0, none⟩) (fun _ => rfl) _
  have hlen : s.ls.length = m + 1 := by rw [hls]; simp [hm]
  rw [hlen] at eW
  have ht := eW.take (k := m) (by omega)
  rw [hls, List.map_append, List.take_left' (by simp [hm])] at ht
  refine ⟨⟨_, row_set (hW.heap e2 (fun h => h)) 0 _, hO.heap (hW.heap e3 (fun h => h)) (fun e => n23 e.symm), hO.heap (hW.heap e4 (fun h => h)) (fun e => n24 e.symm), ?_, hd, n23, n24, n34⟩, ?_⟩
  · subst hm
    exact (ht.kept hW (fun _ _ h => h)).kept hO (fun k hk e => (hd k hk).1 e)
  · exact (hW.mono (T := nfp b2 b3 b4 h) (fun _ _ h => h.elim)).trans hO (fun k _ e => .inl e)

set_option maxRecDepth 100000 in
set_option maxHeartbeats 1000000 in
theorem nests_6 {w : World} {b2 b3 b4 : Nat} {h : Option Nat} {s : NS} (hN : NestAt w b2 b3 b4 h s) (hl : s.ls.length ≤ 100) (a b : Int) :
    Calls Tryz.prog 169 #[.agg #[.int .i64 6, .int .i64 a, .int .i64 b], .pointer (some ⟨b3, 0, none⟩), .pointer (some ⟨b2, 0, none⟩), .pointer (some ⟨b4, 0, none⟩)] w (StepEnd w b2 b3 b4 h (stepN s 6 a)) := by
  have hN' := Lib.hid hN
  obtain ⟨v, h2, h3, h4, hW, hd, n23, n24, n34⟩ := hN
  obtain ⟨p0, cap, rfl, hnc, hcm⟩ := hW.form
  obtain ⟨n, hn⟩ : ∃ n, n = s.ls.length := ⟨_, rfl⟩
  rw [← hn] at h2 hW hnc hl
  have c2 := row_cell h2 (i := 0) rfl
  have f2 := row_free h2 0
  have c3 := row_cell h3 (i := 0) rfl
  have c4 := row_cell h4 (i := 0) rfl
  unfold mkI at c3 c4
  have l2 : b2 < w.heap.size := row_lt h2
  have l3 : b3 < w.heap.size := row_lt h3
  have l4 : b4 < w.heap.size := row_lt h4
  obtain ⟨r, hr⟩ : ∃ r, r = s.r := ⟨_, rfl⟩
  obtain ⟨p, hp⟩ : ∃ p, p = s.p := ⟨_, rfl⟩
  rw [← hr] at c3
  rw [← hp] at c4
  have m23 : b3 ≠ b2 := fun e => n23 e.symm
  have m24 : b4 ≠ b2 := fun e => n24 e.symm
  have hE := Lib.hid (And.intro hr hp)
  rcases List.eq_nil_or_concat s.ls with hnil | ⟨ls, x, hls⟩
  · have hv := Lib.hid (stepN_none (s := s) (k := 6) (a := a) (by unfold moveN; simp [hnil]))
    have hn0 : n = 0 := by rw [hn, hnil]; rfl
    subst hn0
    clear h2 h3 h4 hW hd hnil hr hp hn
    go_enter Tryz.func169, Tryz.ntmps169
    go_wp2
    go_quiet (fail)
    go_wp2
    go_ret
    rw [hv.out]
    exact ⟨rfl, ((Only.refl (nfp b2 b3 b4 h) w).alloc _).drewN _⟩
  · rw [List.concat_eq_append] at hls
    obtain ⟨m, hm⟩ : ∃ m, ls.length = m := ⟨_, rfl⟩
    have hnm : n = m + 1 := by rw [hn, hls]; simp [hm]
    obtain ⟨g, off, cap', ho, hv, _, _, hg, hc, _⟩ := hW.at_ (by omega)
    cases hv
    have x0 : w.cell? ⟨g, off + m, none⟩ = some (.int .i64 x) := by
      refine hc m _ ?_
      rw [hls, List.map_append, List.getElem?_append_right (by simp [hm])]
      simp [hm, mkI]
    have hL1 : (n : Int) - 1 = (m : Int) := by omega
    have hm0 : (0 : Int) ≤ (m : Int) := by omega
    have hm1 : (m : Int) < (n : Int) := by omega
    have hm2 : (m : Int) ≤ (cap : Int) := by omega
    have hm3 : m ≤ 100 := by omega
    have hmd : decide ((m : Int) < 0) = false := by simp
    by_cases hxa : x = a
    · have e1 : (x == a) = true := by simpa using hxa
      have e2 : (x != a) = false := by simpa using hxa
      have hmv := Lib.hid (show moveN s 6 a = some ⟨s.r, ls, s.p⟩ by unfold moveN; simp [hls, hxa])
      have hend := Lib.hid (fun W (hO : Only (fun _ => False) w W) => unlock_end (W := W) (p0 := some ⟨g, off, none⟩) (cap := cap) hN'.out hls hm hO (by rw [← hnm]; exact c2))
      clear h2 h3 h4 hW hd hr hp hc hls hnm hm hn ho hxa hnc
      by_cases q1 : 0 ≤ r
      · by_cases q2 : 0 ≤ p
        · go_enter Tryz.func169, Tryz.ntmps169
          go_wp2
          go_quiet (fail)
          go_wp2
          go_ret
          obtain ⟨hr, hp⟩ := hE.out
          have hv := stepN_yes hmv.out (by show 0 ≤ s.r; omega) (by show 0 ≤ s.p; omega)
          rw [hv]
          obtain ⟨z1, z3⟩ := hend.out _ (((Only.refl _ w).alloc _).drewN nq)
          exact ⟨rfl, h, z1, .inl rfl, z3⟩
        · have q2' : p < 0 := by omega
          go_enter Tryz.func169, Tryz.ntmps169
          go_wp2
          go_quiet (fail)
          go_wp2
          go_ret
          obtain ⟨hr, hp⟩ := hE.out
          have hv := stepN_no hmv.out (.inr (by show s.p < 0; omega))
          rw [hv]
          obtain ⟨z1, z3⟩ := hend.out _ (((Only.refl _ w).alloc _).drewN nq)
          exact ⟨by first | exact rfl | exact ret_bool (by simp; omega), z3⟩
      · have q1' : r < 0 := by omega
        go_enter Tryz.func169, Tryz.ntmps169
        go_wp2
        go_quiet (fail)
        go_wp2
        go_ret
        obtain ⟨hr, hp⟩ := hE.out
        have hv := stepN_no hmv.out (.inl (by show s.r < 0; omega))
        rw [hv]
        obtain ⟨z1, z3⟩ := hend.out _ (((Only.refl _ w).alloc _).drewN nq)
        exact ⟨by first | exact rfl | exact ret_bool (by simp; omega), z3⟩
    · have e1 : (x == a) = false := by simpa using hxa
      have e2 : (x != a) = true := by simpa using hxa
      have hv := Lib.hid (stepN_none (s := s) (k := 6) (a := a) (by unfold moveN; simp [hls, hxa]))
      clear h2 h3 h4 hW hd hr hp hc hls hnm hm hn ho hxa hnc
      go_enter Tryz.func169, Tryz.ntmps169
      go_wp2
      go_quiet (fail)
      go_wp2
      go_ret
      rw [hv.out]
      exact ⟨rfl, ((Only.refl (nfp b2 b3 b4 h) w).alloc _).drewN _⟩
end Go.Proofs.YtlbinlhaejhobaaGreatDoor
/- Package prog's closures, all kinds in one; what makes them; and the plain check that both sides come to. -/
namespace Go.Proofs.YtlbinlhaejhobaaGreatDoor
open Go Go.RowKit

theorem nests_any {w : World} {b2 b3 b4 : Nat} {h : Option Nat} {s : NS} (hN : NestAt w b2 b3 b4 h s) (hl : s.ls.length ≤ 100) (hr : -1000 ≤ s.r ∧ s.r ≤ 1000) (hp : -1000000 ≤ s.p ∧ s.p ≤ 1000000) (o : Opn) (hk : ¬ (o.k < 1 ∨ 15 < o.k)) (ha : 0 ≤ o.a ∧ o.a ≤ 5000) :
    Calls Tryz.prog 169 #[o.val, .pointer (some ⟨b3, 0, none⟩), .pointer (some ⟨b2, 0, none⟩), .pointer (some ⟨b4, 0, none⟩)] w (StepEnd w b2 b3 b4 h (stepN s o.k o.a)) := by
  obtain ⟨k, a, b⟩ := o
  rcases kinds hk with e | e | e | e | e | e | e | e | e | e | e | e | e | e | e
  all_goals
    simp only at e ha
    subst e
  · exact nests_1 hN hr hp a b ha
  · exact nests_2 hN hr hp a b ha
  · exact nests_3 hN hr hp a b ha
  · exact nests_4 hN hr hp a b ha
  · exact nests_5 hN hl a b
  · exact nests_6 hN hl a b
  · exact nests_7 hN hr hp a b ha
  · exact nests_8 hN hr hp a b ha
  · exact nests_9 hN hr hp a b ha
  · exact nests_10 hN hr hp a b ha
  · exact nests_11 hN hr hp a b ha
  · exact nests_12 hN hr hp a b ha
  · exact nests_13 hN hr hp a b ha
  · exact nests_14 hN hr hp a b ha
  · exact nests_15 hN hr hp a b ha

/-- Is nothing open or locked? -/
def doneB (s : NS) : Bool := decide (s.r = 0) && decide (s.ls = [])
theorem closed_any {w : World} {b2 b3 b4 : Nat} {h : Option Nat} {s : NS} (hN : NestAt w b2 b3 b4 h s) (hl : s.ls.length ≤ 100) : Calls Tryz.prog 171 #[.pointer (some ⟨b3, 0, none⟩), .pointer (some ⟨b2, 0, none⟩)] w (RetB (doneB s) w) := by
  obtain ⟨v, h2, h3, h4, hW, hd, n23, n24, n34⟩ := hN
  obtain ⟨p0, cap, rfl, hnc, hcm⟩ := hW.form
  obtain ⟨n, hn⟩ : ∃ n, n = s.ls.length := ⟨_, rfl⟩
  obtain ⟨r, hr⟩ : ∃ r, r = s.r := ⟨_, rfl⟩
  have c2 := row_cell h2 (i := 0) rfl
  have c3 := row_cell h3 (i := 0) rfl
  unfold mkI at c3
  rw [← hn] at c2 hl
  rw [← hr] at c3
  have hz : decide (s.ls = []) = decide (n = 0) := by
    rw [hn]
    exact decide_eq_decide.2 ⟨fun h => by rw [h]; rfl, fun h => List.eq_nil_of_length_eq_zero h⟩
  by_cases q : r = 0
  · by_cases q2 : n = 0
    · have hv := Lib.hid (show true = doneB s by unfold doneB; rw [hz, ← hr]; simp [q, q2])
      subst q
      subst q2
      clear h2 h3 h4 hW hd hnc hn hr hz
      go_enter Tryz.func171, Tryz.ntmps171
      go_wp2
      go_ret
      exact ⟨ret_bool hv.out, rfl⟩
    · have hv := Lib.hid (show false = doneB s by unfold doneB; rw [hz, ← hr]; simp [q2])
      have q3 : ((n : Int) == 0) = false := by simpa using q2
      subst q
      clear h2 h3 h4 hW hd hnc hn hr hz q2
      go_enter Tryz.func171, Tryz.ntmps171
      go_wp2
      go_ret
      exact ⟨ret_bool hv.out, rfl⟩
  · have hv := Lib.hid (show false = doneB s by unfold doneB; rw [hz, ← hr]; simp [q])
    have q3 : (r == 0) = false := by simpa using q
    clear h2 h3 h4 hW hd hnc hn hr hz q
    go_enter Tryz.func171, Tryz.ntmps171
    go_wp2
    go_ret
    exact ⟨ret_bool hv.out, rfl⟩

def closV (f b3 b2 b4 : Nat) : Value := if f = 169 then .func (.func 169) #[] #[.pointer (some ⟨b3, 0, none⟩), .pointer (some ⟨b2, 0, none⟩), .pointer (some ⟨b4, 0, none⟩)] else .func (.func 171) #[] #[.pointer (some ⟨b3, 0, none⟩), .pointer (some ⟨b2, 0, none⟩)]
/-- What nesting makes. -/
def NestingEnd (w : World) (e : Ending) (w' : World) : Prop :=
  ∃ b2 b3 b4, e = .returned (.tuple #[.func (.func 169) #[] #[.pointer (some ⟨b3, 0, none⟩), .pointer (some ⟨b2, 0, none⟩), .pointer (some ⟨b4, 0, none⟩)], .func (.func 171) #[] #[.pointer (some ⟨b3, 0, none⟩), .pointer (some ⟨b2, 0, none⟩)]]) ∧
    NestAt w' b2 b3 b4 none ns0 ∧ w.heap.size ≤ b2 ∧ w.heap.size ≤ b3 ∧ w.heap.size ≤ b4 ∧ Only (fun _ => False) w w'
theorem nesting_any (w : World) : Calls Tryz.prog 135 #[] w (NestingEnd w) := by
  have hmf : ∀ (fn : Fn) (first cap : Array Value) (w : World), (Instr.makeFunc fn first cap).run Tryz.prog w = .ok (.func fn first cap) w := fun _ _ _ _ => rfl
  go_enter Tryz.func135, Tryz.ntmps135
  go_wp2
  go_ret2
  refine ⟨w.heap.size, w.heap.size + 1, w.heap.size + 1 + 1, rfl, ⟨.slice none 0 0, heap_kept_alloc (heap_kept_alloc (heap_new_at _ _ rfl) _) _, heap_kept_alloc (heap_new_at _ _ (by simp)) _, heap_new_at _ _ (by simp), Win.nil _ _ _, (fun k hk => by cases hk), by omega, by omega, by omega⟩, by omega, by omega, by omega, (((Only.refl _ w).alloc _).alloc _).alloc _⟩

/-- The plain check. -/
def runZ : List Opn → NS → RoomV → Int
  | [], s, _ => if doneB s = true then 0 else 9
  | o :: l, s, r => if opZ o r = 0 then (match stepN s o.k o.a with
      | none => 9
      | some t => runZ l t r) else opZ o r
def checkZ (l : List Opn) (r : RoomV) : Int := if l.length = 0 then 1 else if 64 < l.length then 4 else runZ l ns0 r

theorem inB_iff {lo hi a : Int} : inB lo hi a = true ↔ lo ≤ a ∧ a ≤ hi := by unfold inB; simp
theorem opZ_zero {o : Opn} {r : RoomV} (hr : r.ok) (h : opZ o r = 0) : ¬ (o.k < 1 ∨ 15 < o.k) ∧ 0 ≤ o.a ∧ o.a ≤ 5000 := by
  unfold opZ at h
  by_cases hk : o.k < 1 ∨ 15 < o.k
  · rw [if_pos hk] at h
    cases h
  · rw [if_neg hk] at h
    refine ⟨hk, ?_⟩
    unfold opV at h
    by_cases hc : inB (loA o.k.toNat) (hiA o.k.toNat r) o.a = true ∧ inB 0 (hiB o.k.toNat) o.b = true
    · have := inB_iff.1 hc.1
      obtain ⟨⟨m1, m2⟩, ⟨g1, g2⟩, ⟨c1, c2⟩, l1, l2⟩ := hr
      rcases kinds hk with e | e | e | e | e | e | e | e | e | e | e | e | e | e | e
      all_goals
        rw [e] at this
        simp [loA, hiA] at this
        omega
    · rw [if_neg hc] at h
      cases h
theorem step_bounds {s t : NS} {k a : Int} (h : stepN s k a = some t) (ha : 0 ≤ a ∧ a ≤ 5000) : (t.r ≤ s.r + 1 ∧ s.r - 1 ≤ t.r) ∧ (t.p ≤ s.p + 5000 ∧ s.p - 5000 ≤ t.p) ∧ t.ls.length ≤ s.ls.length + 1 := by
  unfold stepN at h
  split at h
  · cases h
  · rename_i t' ht'
    split at h
    · cases h
      unfold moveN at ht'
      split at ht'
      · cases ht'; refine ⟨⟨?_, ?_⟩, ⟨?_, ?_⟩, ?_⟩ <;> simp only <;> omega
      split at ht'
      · cases ht'; refine ⟨⟨?_, ?_⟩, ⟨?_, ?_⟩, ?_⟩ <;> simp only <;> omega
      split at ht'
      · split at ht'
        · cases ht'
        · cases ht'; refine ⟨⟨?_, ?_⟩, ⟨?_, ?_⟩, ?_⟩ <;> simp
          all_goals omega
      split at ht'
      · split at ht'
        · cases ht'; refine ⟨⟨?_, ?_⟩, ⟨?_, ?_⟩, ?_⟩ <;> simp
          all_goals omega
        · cases ht'
      split at ht'
      · cases ht'; refine ⟨⟨?_, ?_⟩, ⟨?_, ?_⟩, ?_⟩ <;> simp only <;> omega
      split at ht'
      · cases ht'; refine ⟨⟨?_, ?_⟩, ⟨?_, ?_⟩, ?_⟩ <;> simp only <;> omega
      · cases ht'; refine ⟨⟨?_, ?_⟩, ⟨?_, ?_⟩, ?_⟩ <;> omega
    · cases h
end Go.Proofs.YtlbinlhaejhobaaGreatDoor
