import Derived.StillTail
import Derived.Deep.Quiet
import Derived.Test.YtlbdjiiddofkgaaGreatDoorRows
import Derived.ProofKit
import Derived.OpenShut
import Derived.Deep.QuietTactic
import Derived.BigQuiet
import Derived.StillTailTactics
import Derived.Outline
import Derived.IntWalk
import Derived.WalkLawsBesides
import Derived.WalkSpells
import Derived.WalkSmall
import Derived.Deep.RegionLaw
import Derived.KernelRfl
import Derived.Test.YtlbdjiiddofkgaaGreatDoorC00
namespace Go.Proofs.YtlbdjiiddofkgaaGreatDoor
open Go
section
variable {P : Program} {ops : Array Oper} {md : Region.Mode} {C : World -> Prop}
def wpAnyQL (P : Program) (md : Region.Mode) (ops : Array Oper) (C : World -> Prop) (n : Nat) (L : Array Bool -> Act -> Prop) : Nat -> Array Bool -> Act -> Prop
 | 0, listed, a => L listed a
 | f + 1, listed, a =>
  Region.ready md ops listed ≠ [] /\ ∀ i ∈ Region.ready md ops listed, i < n /\ qOp P ops C i (wpAnyQL P md ops C n L f (listed.setIfInBounds i true)) a
theorem zCV {n g : Nat} {L : Array Bool -> Act -> Prop} {Q' : Exit -> Act -> World -> Prop} (hL : ∀ listed a w, C w -> L listed a -> wpAny P md ops Q' g listed a w) :
  ∀ (f : Nat) (listed : Array Bool) (a : Act) (w : World), C w -> wpAnyQL P md ops C n L f listed a -> wpAny P md ops Q' (f + g) listed a w
 | 0, listed, a, w, hw, h => by rw [Nat.zero_add]; exact hL _ _ _ hw h
 | f + 1, listed, a, w, hw, h => by
  rw [show f + 1 + g = (f + g) + 1 by omega]
  exact ⟨fun h0 => absurd h0 h.1, fun i hi => wpOp_of_qOp hw (fun a' w' hw' h' => zCV hL f _ a' w' hw' h') (h.2 i hi).2⟩
theorem zFQ {n i : Nat} {oi : Oper} {v : Value} {L : Array Bool -> Act -> Prop} (hi : ops[i]? = some oi) (yY : ∀ (j : Nat) (o : Oper) cs b, ops[j]? = some o -> o.op ≠ .select cs b)
  (hs : Region.sinkB md ops n = true) (hc : Region.chainB md ops n = true) (hn : n < ops.size) (hin : i < n)
  (hdone : ∀ listed a, L listed a -> ∀ j ∈ Region.ready md ops listed, n <= j) :
  ∀ (f : Nat) (listed : Array Bool) (a : Act), HeadInv md ops n listed ->
   (∀ j oj, ops[j]? = some oj -> j ≠ i -> listed.getD j true = false -> (∀ e ∈ oj.after, Region.binds md e = true -> e.on ≠ i) -> oi.apart ops oj = true) ->
   i ∈ Region.ready md ops listed -> YieldsIn P ops C oi v a ->
   wpAnyQL P md ops C n L f (listed.setIfInBounds i true) (a.put oi.dst v) -> wpAnyQL P md ops C n L (f + 1) listed a := by
 intro f
 induction f with
 | zero =>
  intro listed a inv _ hr hy H
  have hun := (mem_ready.1 hr).1
  refine ⟨fun h => (by rw [h] at hr; cases hr), fun j hj => ?_⟩
  have hjn : j < n := by
   rcases Nat.lt_or_ge j n with h | h
   ·exact h
   ·exact absurd hj (tail_waits hs hc hn inv _ i rfl hin hun j h)
  refine ⟨hjn, ?_⟩
  by_cases hji : j = i
  ·subst hji; exact hy.qOp hi H
  ·have := hdone _ _ H j (ready_mono hj hji)
   omega
 | succ f ih =>
  intro listed a inv wT hr hy H
  have hun := (mem_ready.1 hr).1
  refine ⟨fun h => (by rw [h] at hr; cases hr), fun j hj => ?_⟩
  have hjn : j < n := by
   rcases Nat.lt_or_ge j n with h | h
   ·exact h
   ·exact absurd hj (tail_waits hs hc hn inv _ i rfl hin hun j h)
  refine ⟨hjn, ?_⟩
  by_cases hji : j = i
  ·subst hji; exact hy.qOp hi H
  ·have h1 := (H.2 j (ready_mono hj hji)).2
   obtain ⟨jDg, oj, hoj, hall⟩ := mem_ready.1 hj
   have wM : ∀ e ∈ oj.after, Region.binds md e = true -> e.on ≠ i := fun e he hb heq => by
    have h1 := hall e he hb
    rw [heq, getD_both hun] at h1
    cases h1
   have h2 := qOp_put hoj (wT j oj hoj hji jDg wM) (fun cs b => yY i oi cs b hi) (fun cs b => yY j oj cs b hoj) hy h1
   have jAb : ∀ k ok, ops[k]? = some ok -> k ≠ i -> (listed.setIfInBounds j true).getD k true = false ->
     (∀ e ∈ ok.after, Region.binds md e = true -> e.on ≠ i) -> oi.apart ops ok = true := fun k ok hk hki hun hno => by
    refine wT k ok hk hki ?_ hno
    by_cases hjk : j = k
    ·subst hjk; exact jDg
    ·rw [getD_set_ne true hjk] at hun; exact hun
   refine qOp_mono (fun a' h3 => ih (listed.setIfInBounds j true) a' (inv.set hj hjn) jAb (ready_mono hr (Ne.symm hji)) h3.1 ?_) h2
   rw [Array.setIfInBounds_comm _ _ hji]
   exact h3.2
theorem zEB {n g : Nat} {Lq : Act -> Prop} (yY : Region.noSelect ops = true) (hs : Region.sinkB md ops n = true) (hc : Region.chainB md ops n = true) (hn : n < ops.size) :
  ∀ (l : List Oper) (k : Nat) (listed : Array Bool) (a : Act), (∀ j, j < l.length -> l[j]? = ops[k + j]?) -> k + l.length = n -> HeadInv md ops n listed ->
  Region.lexHead md ops g l.length k listed = true -> wpQuiet P ops C Lq l a ->
  wpAnyQL P md ops C n (fun listed' a' => Region.seqB md ops g n listed' = true /\ Lq a') l.length listed a
 | [], k, listed, a, _, hk, _, hB, h => by
  have : k = n := by simpa using hk
  subst this
  exact ⟨by simpa [Region.lexHead] using hB, h⟩
 | o :: l, k, listed, a, hl, hk, inv, hB, h => by
  have h0 : ops[k]? = some o := by simpa using (hl 0 (by simp)).symm
  simp only [List.length_cons, Region.lexHead, Bool.and_eq_true] at hB
  obtain ⟨⟨hr, hf⟩, hB'⟩ := hB
  have hkn : k < n := by simp only [List.length_cons] at hk; omega
  have hr' : k ∈ Region.ready md ops listed := by simpa using hr
  have hst : qOp P ops C k (wpQuiet P ops C Lq l) a := by unfold qOp; simp only [h0]; exact h
  obtain ⟨v, hy, hK⟩ := yieldsIn_of_qOp h0 hst
  exact zFQ h0 (Region.noSelect_spec yY) hs hc hn hkn (fun listed' a' hL => seqB_ready hL.1) l.length listed a inv (Region.free_spec h0 hf) hr' hy
   (zEB yY hs hc hn l (k + 1) _ _ (fun j hj => by have := hl (j + 1) (by simp; omega); simpa [Nat.add_assoc, Nat.add_comm 1 j] using this) (by simp only [List.length_cons] at hk; omega) (inv.set hr' hkn) hB' hK)
theorem zCT {id : Nat} {Q : Exit -> Act -> World -> Prop} {a : Act} {w : World} {l : List Oper} (n : Nat) (hm : P.follows .mixedOrders = true) (hB : Region.lexTailB .any l.toArray n = true)
  (hC : C { w with drawn := w.drawn + 1 })
  (h : wpQuiet P l.toArray C (fun a' => ∀ w', C w' -> wpList P l.toArray Q (l.drop n) a' w') (l.take n) a) : (Code.region id l.toArray true).wp P Q a w := by
 simp only [Region.lexTailB, Bool.and_eq_true, decide_eq_true_eq] at hB
 obtain ⟨⟨⟨⟨yY, hn⟩, hs⟩, hc⟩, jE4⟩ := hB
 have hn' : n < l.length := by simpa using hn
 have htl : (l.take n).length = n := by simp; omega
 have hdl : (l.drop n).length = l.toArray.size - n := by simp
 have jE5 : HeadInv .any l.toArray n (Array.replicate l.toArray.size false) :=
  ⟨by simp, fun j oj _ hl => (by rw [getD_replicate_false] at hl; cases hl), fun t _ ht => getD_in (by simpa using ht) (getD_replicate_false _ _)⟩
 have H := zEB (md := .any) (g := l.toArray.size - n) yY hs hc hn (l.take n) 0 _ a (fun j hj => by
  have hj' : j < n := by rw [htl] at hj; exact hj
  simp [hj']) (by simpa using htl) jE5 (by rw [htl]; exact jE4) h
 refine wp_region_any hm ?_
 have := zCV (Q' := Q) (g := l.toArray.size - n) (fun listed a' w' hw' hL => by
  have := wpAny_of_seq (md := .any) (Q' := Q) (l.drop n) n listed a' w' (fun j => by simp [List.getElem?_drop]) (by rw [hdl]; exact hL.1) (hL.2 w' hw')
  rwa [hdl] at this) _ _ _ _ hC H
 rw [htl, show n + (l.toArray.size - n) = l.toArray.size by omega] at this
 exact this
theorem zAD {id : Nat} {Q : Exit -> Act -> World -> Prop} {a : Act} {w : World} {l : List Oper} (n : Nat) (hm : P.follows .mixedOrders = true) (hB : Region.lexTailB .any l.toArray n = true)
  (h : wpQuiet P l.toArray (fun w' => ∃ n, w' = w.drewN n) (fun a' => ∀ w', (∃ n, w' = w.drewN n) -> wpList P l.toArray Q (l.drop n) a' w') (l.take n) a) : (Code.region id l.toArray true).wp P Q a w :=
 zCT (C := fun w' => ∃ n, w' = w.drewN n) n hm hB ⟨1, rfl⟩ h
end
end Go.Proofs.YtlbdjiiddofkgaaGreatDoor
namespace Go.Proofs.YtlbdjiiddofkgaaGreatDoor.RingI
open Go.RowKit
def mk (x : Int) : Value := .int .i64 x
def sv : Option Nat -> Nat -> Value
 | none, _ => .slice none 0 0
 | some g, n => .slice (some ⟨g, 0, none⟩) n n
structure Laid (L : List Int) (first : Nat) (room : Nat) (q : List Int) : Prop where
 le : q.length <= L.length
 fits : L.length <= room
 most : room <= 4096
 place : first < L.length ∨ (L = [] /\ first = 0)
 at_ : ∀ i, i < q.length -> L[(first + i) % L.length]? = q[i]?
def RingAt (w : World) (r : Nat) (o : Option Nat) (room : Nat) (q : List Int) : Prop :=
 ∃ (t : TypeId) (first : Nat) (L : List Int),
  w.heap[r]? = some (.cells #[sv o L.length, .int .i64 first, .int .i64 q.length, .int .i64 room] t (0, 0)) /\
  (o = none -> L = []) /\ (∀ g, o = some g -> g ≠ r /\ w.heap[g]? = some (.cells (L.map mk).toArray 3 (0, 0)) /\ 0 < L.length) /\ Laid L first room q
def fp (r : Nat) (o : Option Nat) : Nat -> Prop := fun k => k = r ∨ some k = o
theorem RingAt.cells {w : World} {r : Nat} {o : Option Nat} {room : Nat} {q : List Int} (h : RingAt w r o room q) :
  ∃ (first : Nat) (L : List Int), w.cell? ⟨r, 0, none⟩ = some (sv o L.length) /\ w.cell? ⟨r, 1, none⟩ = some (.int .i64 first) /\ w.cell? ⟨r, 2, none⟩ = some (.int .i64 q.length) /\ w.cell? ⟨r, 3, none⟩ = some (.int .i64 room) /\
   w.frozen? ⟨r, 0, none⟩ = false /\ w.frozen? ⟨r, 1, none⟩ = false /\ w.frozen? ⟨r, 2, none⟩ = false /\ w.frozen? ⟨r, 3, none⟩ = false /\
   (o = none -> L = []) /\ (∀ g, o = some g -> g ≠ r /\ w.heap[g]? = some (.cells (L.map mk).toArray 3 (0, 0)) /\ 0 < L.length) /\ Laid L first room q := by
 obtain ⟨t, first, L, h, h1, h2, h3⟩ := h
 refine ⟨first, L, ?_, ?_, ?_, ?_, ?_, ?_, ?_, ?_, h1, h2, h3⟩ <;> simp [World.cell?, World.frozen?, h]
theorem RingAt.kept {w w' : World} {S : Nat -> Prop} {r : Nat} {o : Option Nat} {room : Nat} {q : List Int} (h : RingAt w r o room q) (hw : Only S w w') (hS : ∀ k, fp r o k -> ¬ S k) : RingAt w' r o room q := by
 obtain ⟨t, first, L, h, h1, h2, h3⟩ := h
 exact ⟨t, first, L, hw.heap h (hS r (.inl rfl)), h1, fun g hg => ⟨(h2 g hg).1, hw.heap (h2 g hg).2.1 (hS g (.inr hg.symm)), (h2 g hg).2.2⟩, h3⟩
theorem RingAt.lt {w : World} {r : Nat} {o : Option Nat} {room : Nat} {q : List Int} (h : RingAt w r o room q) : ∀ k, fp r o k -> k < w.heap.size := by
 obtain ⟨t, first, L, h, h1, h2, h3⟩ := h
 rintro k (rfl | hk)
 ·exact zAG h
 ·exact zAG (h2 k hk.symm).2.1
theorem RingAt.bounds {w : World} {r : Nat} {o : Option Nat} {room : Nat} {q : List Int} (h : RingAt w r o room q) : q.length <= room /\ room <= 4096 := by
 obtain ⟨t, first, L, h, h1, h2, h3⟩ := h
 exact ⟨Nat.le_trans h3.le h3.fits, h3.most⟩
theorem zQE {k : IntKind} {a b : Int} (h : a = b) : Ending.returned (.int k a) = .returned (.int k b) := by rw [h]
theorem new_ok (n : Nat) (w : World) (h : n <= 4096) :
  Calls Tryz.prog 143 #[.int .i64 n] w fun e w' => e = .returned (.pointer (some ⟨w.heap.size, 0, none⟩)) /\ RingAt w' w.heap.size none n [] /\ Only (fun _ => False) w w' := by
 go_enter Tryz.func143, Tryz.ntmps143
 go_wp2
 go_ret
 refine ⟨rfl, ⟨308, 0, [], ?_, fun _ => rfl, (fun g hg => by cases hg), ⟨by simp, by simp, h, .inr ⟨rfl, rfl⟩, by simp⟩⟩, (Only.refl _ _).alloc _⟩
 rw [heap_alloc_new]
 rfl
theorem len_any {w : World} {r : Nat} {o : Option Nat} {room : Nat} {q : List Int} (h : RingAt w r o room q) : Calls Tryz.prog 235 #[.pointer (some ⟨r, 0, none⟩)] w fun e w' => e = .returned (.int .i64 q.length) /\ w' = w := by
 obtain ⟨first, L, c0, c1, c2, c3, f0, f1, f2, f3, h1, h2, h3⟩ := h.cells
 clear h1 h2 h c0
 go_enter Tryz.func235, Tryz.ntmps235
 go_wp2
 go_ret
 exact ⟨rfl, rfl⟩
theorem zCM {w : World} {r : Nat} {o : Option Nat} {room : Nat} (h : RingAt w r o room []) : Calls Tryz.prog 300 #[.pointer (some ⟨r, 0, none⟩)] w fun e w' => e = .returned (.tuple #[Value.int .i64 0, .bool false]) /\ w' = w := by
 go_enter Tryz.func300, Tryz.ntmps300
 go_wp2_with (go_at_call 235; refine (len_any h).mono ?_; rintro e w' ⟨rfl, rfl⟩)
 go_ret2
 exact ⟨rfl, rfl⟩
theorem RingAt.slot {w : World} {r : Nat} {o : Option Nat} {room : Nat} {x : Int} {q : List Int} (h : RingAt w r o room (x :: q)) :
  ∃ (g first : Nat) (L : List Int), o = some g /\ w.cell? ⟨r, 0, none⟩ = some (.slice (some ⟨g, 0, none⟩) L.length L.length) /\ w.cell? ⟨r, 1, none⟩ = some (.int .i64 first) /\ w.cell? ⟨g, first, none⟩ = some (mk x) /\ first < L.length /\ L.length <= 4096 := by
 obtain ⟨first, L, c0, c1, c2, c3, f0, f1, f2, f3, h1, h2, h3⟩ := h.cells
 have hl : 0 < L.length := Nat.lt_of_lt_of_le (by simp) h3.le
 have hf : first < L.length := by
  rcases h3.place with h | ⟨rfl, _⟩
  ·exact h
  ·simp at hl
 cases o with
 | none => rw [h1 rfl] at hl; simp at hl
 | some g =>
  refine ⟨g, first, L, rfl, c0, c1, ?_, hf, Nat.le_trans h3.fits h3.most⟩
  refine zAA (h2 g rfl).2.1 ?_
  have := h3.at_ 0 (by simp)
  rw [Nat.add_zero, Nat.mod_eq_of_lt hf] at this
  simpa using ⟨x, by simpa using this, rfl⟩
theorem first_some {w : World} {r : Nat} {o : Option Nat} {room : Nat} {x : Int} {q : List Int} (h : RingAt w r o room (x :: q)) : Calls Tryz.prog 300 #[.pointer (some ⟨r, 0, none⟩)] w fun e w' => e = .returned (.tuple #[mk x, .bool true]) /\ ∃ n, w' = w.drewN n := by
 obtain ⟨g, first, L, rfl, c0, c1, c2, hf, hm⟩ := h.slot
 have hne : (((x :: q).length : Int) == 0) = false := by simp; omega
 have hf' : (first : Int) < (L.length : Int) := by omega
 unfold mk at c2
 obtain ⟨n, hn⟩ : ∃ n, n = (x :: q).length := ⟨_, rfl⟩
 have hc := zh (len_any h)
 rw [<- hn] at hne hc
 have hn' := zh hn
 clear hn h
 go_enter Tryz.func300, Tryz.ntmps300
 go_wp2_with (go_at_call 235; refine hc.out.mono ?_; rintro e w' ⟨rfl, rfl⟩)
 go_quiet (fail)
 go_wp2
 go_ret2
 exact ⟨rfl, _, rfl⟩
