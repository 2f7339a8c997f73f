import Derived.Test.YtlbdjiiddofkgaaGreatDoorC16
namespace Go.Proofs.YtlbdjiiddofkgaaGreatDoor
open Go Go.RowKit
def mkI (x : Int) : Value := .int .i64 x
structure NS where
 r : Int
 ls : List Int
 p : Int
def ns0 : NS := ⟨0, [], 0⟩
def jN (s : NS) (k a : Int) : Option NS :=
 if k = 3 then some ⟨s.r + 1, s.ls, s.p⟩ else if k = 4 then some ⟨s.r - 1, s.ls, s.p⟩
 else if k = 5 then (if a ∈ s.ls then none else some ⟨s.r, s.ls ++ [a], s.p⟩)
 else if k = 6 then (if s.ls.getLast? = some a then some ⟨s.r, s.ls.dropLast, s.p⟩ else none)
 else if k = 7 then some ⟨s.r, s.ls, s.p + a⟩ else if k = 8 then some ⟨s.r, s.ls, s.p - a⟩ else some s
def xQ (s : NS) : Bool := decide (0 <= s.r /\ 0 <= s.p)
def jO (s : NS) (k a : Int) : Option NS := match jN s k a with
 | none => none
 | some t => if xQ t = true then some t else none
theorem zDF {w : World} {p : Option Addr} {n cap : Nat} {h : Option Nat} {ls : List Int} (hW : Win w 3 1 (.slice p n cap) h n (ls.map mkI)) (hn : n <= 100) (a : Int) :
  Calls Tryz.prog 264 #[.slice p n cap, .int .i64 a] w fun e w' => (∃ v : Int, e = .returned (.int .i64 v) /\ ((0 <= v) ↔ a ∈ ls)) /\ w = w' := by
 have hl : ls.length = n := by have := hW.1; simp at this; omega
 have hW' := zh hW
 have hl' := zh hl
 clear hW hl
 go_enter Tryz.func264, Tryz.ntmps264
 go_wp2
 go_loopw [8] (fun i wr => ∃ k : Nat, k <= n /\ i = .int .i64 k /\ a ∉ ls.take k /\ w = wr) (fun i _ => n - (intOf i).toNat)
 case atStart => exact ⟨0, Nat.zero_le _, rfl, by simp, rfl⟩
 case round =>
  obtain ⟨k, hk, rfl, wM, rfl⟩ := hrel
  by_cases hkn : k < n
  ·obtain ⟨g, off, cap', _, hv, _, _, _, hc, _⟩ := hW'.out.at_ (by omega)
   cases hv
   obtain ⟨x, hx⟩ : ∃ x, ls[k]? = some x := ⟨ls[k]'(by have := hl'.out; omega), List.getElem?_eq_getElem _⟩
   have c0 : w.cell? ⟨g, off + k, none⟩ = some (.int .i64 x) := hc k _ (by simp [hx, mkI])
   have vR : (k : Int) < (n : Int) := by omega
   have hx' := zh hx
   have zJ := zh wM
   clear hc hx wM
   by_cases hax : a = x
   ·have e1 : (a == x) = true := by simpa using hax
    have hin := zh (show (0 <= (k : Int)) ↔ a ∈ ls from ⟨fun _ => by rw [hax]; exact List.mem_of_getElem? hx'.out, fun _ => by omega⟩)
    clear hax
    go_wp2
    go_ret
    exact ⟨⟨_, rfl, hin.out⟩, rfl⟩
   ·have e1 : (a == x) = false := by simpa using hax
    have hst := zh (show a ∉ ls.take (k + 1) by
     rw [List.take_add_one, hx'.out]
     intro hm
     rcases List.mem_append.1 hm with hm | hm
     ·exact zJ.out hm
     ·simp at hm; exact hax hm)
    clear hax
    go_wp2
    go_roundw
    case rel => exact ⟨k + 1, by omega, by go_num, hst.out, trivial⟩
    case measure => simp [intOf]; omega
  ·obtain rfl : k = n := by omega
   have hin := zh (show (0 <= (-1 : Int)) ↔ a ∈ ls from ⟨fun h => by omega, fun h => by
    rw [List.take_of_length_le (by have := hl'.out; omega)] at wM
    exact absurd h wM⟩)
   clear wM
   go_wp2
   go_ret
   exact ⟨⟨_, rfl, hin.out⟩, rfl⟩
theorem zD3 {w : World} {p : Option Addr} {n cap : Nat} {h : Option Nat} {ls : List Int} (hW : Win w 3 1 (.slice p n cap) h n (ls.map mkI)) (hn : n <= 100) (a : Int) {v : Bool} (hv : decide (a ∈ ls) = v) :
  Calls Tryz.prog 286 #[.slice p n cap, .int .i64 a] w (RetB v w) := by
 have hi := zh (zDF hW hn a)
 have hv' := zh hv
 clear hW hn hv
 go_enter Tryz.func286, Tryz.ntmps286
 go_wp2_with fail
 refine hi.out.mono ?_
 rintro e w' ⟨⟨z, rfl, hz⟩, rfl⟩
 have hz' := zh (show decide (0 <= z) = v by rw [<- hv'.out]; exact decide_eq_decide.2 hz)
 clear hz
 go_wp2
 go_ret
 exact ⟨zAJ hz'.out, rfl⟩
def NestAt (w : World) (b2 b3 b4 : Nat) (h : Option Nat) (s : NS) : Prop :=
 ∃ v, w.heap[b2]? = some (.cells [v].toArray 24 (0, 0)) /\ w.heap[b3]? = some (.cells [mkI s.r].toArray 3 (0, 0)) /\ w.heap[b4]? = some (.cells [mkI s.p].toArray 3 (0, 0)) /\ Win w 3 1 v h s.ls.length (s.ls.map mkI) /\
  (∀ k, h = some k -> k ≠ b2 /\ k ≠ b3 /\ k ≠ b4) /\ b2 ≠ b3 /\ b2 ≠ b4 /\ b3 ≠ b4
def nfp (b2 b3 b4 : Nat) (h : Option Nat) (k : Nat) : Prop := k = b2 ∨ k = b3 ∨ k = b4 ∨ h = some k
theorem NestAt.kept {S : Nat -> Prop} {w w' : World} {b2 b3 b4 : Nat} {h : Option Nat} {s : NS} (hN : NestAt w b2 b3 b4 h s) (ho : Only S w w') (hS : ∀ k, nfp b2 b3 b4 h k -> ¬ S k) : NestAt w' b2 b3 b4 h s := by
 obtain ⟨v, h1, h2, h3, h4, h5⟩ := hN
 exact ⟨v, ho.heap h1 (hS _ (.inl rfl)), ho.heap h2 (hS _ (.inr (.inl rfl))), ho.heap h3 (hS _ (.inr (.inr (.inl rfl)))), h4.kept ho (fun k hk => hS k (.inr (.inr (.inr hk)))), h5⟩
theorem NestAt.new {w w' : World} {b2 b3 b4 : Nat} {h : Option Nat} {s : NS} (hN : NestAt w b2 b3 b4 h s) (ho : Only (fun _ => False) w w') : NestAt w' b2 b3 b4 h s := hN.kept ho (fun _ _ h => h)
theorem NestAt.lt {w : World} {b2 b3 b4 : Nat} {h : Option Nat} {s : NS} (hN : NestAt w b2 b3 b4 h s) : ∀ k, nfp b2 b3 b4 h k -> k < w.heap.size := by
 obtain ⟨v, h1, h2, h3, h4, h5⟩ := hN
 rintro k (rfl | rfl | rfl | hk)
 ·exact zAG h1
 ·exact zAG h2
 ·exact zAG h3
 ·exact h4.lt k hk
def StepEnd (w : World) (b2 b3 b4 : Nat) (h : Option Nat) (t : Option NS) (e : Ending) (w' : World) : Prop :=
 match t with
 | none => e = .returned (.bool false) /\ Only (nfp b2 b3 b4 h) w w'
 | some s => e = .returned (.bool true) /\ ∃ h', NestAt w' b2 b3 b4 h' s /\ (h' = h ∨ ∃ g, h' = some g /\ w.heap.size <= g) /\ Only (nfp b2 b3 b4 h) w w'
