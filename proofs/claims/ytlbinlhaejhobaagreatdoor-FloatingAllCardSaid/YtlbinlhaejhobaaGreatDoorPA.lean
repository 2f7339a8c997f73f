/- Merged: Mem Wd Win Tail Rowed. -/
import Derived.WalkKit
import Derived.Below
import Derived.OneCell
import Derived.Laws.CopyOwn
import Derived.Deep.Draws
import Derived.Lib.Hide
import Derived.Deep.OwnRows
import Derived.Deep.Quiet
import Derived.Deep.QuietTactic
import Derived.ArgAppend
import Derived.Laws.Slices
import Derived.OwnWalk
import Derived.StillTail
import Derived.OpenShut
/- Which blocks a call may change: small laws on worlds that every contract uses. Speaks of no program. -/
namespace Go.Proofs.YtlbinlhaejhobaaGreatDoor
open Go Go.RowKit

/-- Of the blocks that were there, only those of S may have changed; blocks may have come. -/
structure Only (S : Nat → Prop) (w w' : World) : Prop where
  os : w'.os = w.os
  tape : w'.tape = w.tape
  output : w'.output = w.output
  size : w.heap.size ≤ w'.heap.size
  block : ∀ k, k < w.heap.size → ¬ S k → w'.heap[k]? = w.heap[k]?

theorem Only.refl (S : Nat → Prop) (w : World) : Only S w w := ⟨rfl, rfl, rfl, Nat.le_refl _, fun _ _ _ => rfl⟩
theorem Only.trans {S T : Nat → Prop} {a b c : World} (h : Only S a b) (k : Only T b c) (hT : ∀ x, x < a.heap.size → T x → S x) : Only S a c :=
  ⟨k.os.trans h.os, k.tape.trans h.tape, k.output.trans h.output, Nat.le_trans h.size k.size, fun i hi hs => (k.block i (Nat.lt_of_lt_of_le hi h.size) (fun ht => hs (hT i hi ht))).trans (h.block i hi hs)⟩
theorem Only.trans' {S : Nat → Prop} {a b c : World} (h : Only S a b) (k : Only S b c) : Only S a c := h.trans k fun _ _ h => h
theorem Only.mono {S T : Nat → Prop} {a b : World} (h : Only S a b) (hT : ∀ x, x < a.heap.size → S x → T x) : Only T a b :=
  ⟨h.os, h.tape, h.output, h.size, fun i hi ht => h.block i hi (fun hs => ht (hT i hi hs))⟩
theorem Only.alloc {S : Nat → Prop} {a w : World} (h : Only S a w) (o : Obj) : Only S a (w.alloc o) :=
  h.trans' ⟨rfl, rfl, rfl, by simp, fun k hk _ => Below.heap_alloc _ _ _ hk⟩
theorem Only.setCell {S : Nat → Prop} {a w : World} (h : Only S a w) {p : Addr} (hp : p.block < a.heap.size → S p.block) (u : Value) : Only S a (w.setCell p u) :=
  ⟨h.os, h.tape, h.output, by simpa [World.setCell] using h.size, fun k hk hs => (Below.heap_setCell w p u k (fun e => hs (e ▸ hp (e ▸ hk)))).trans (h.block k hk hs)⟩
theorem Only.setRow {S : Nat → Prop} {a w : World} (h : Only S a w) {g : Nat} (hp : g < a.heap.size → S g) (c : Array Value) : Only S a (w.setRow g c) :=
  ⟨h.os, h.tape, h.output, by simpa [World.setRow] using h.size, fun k hk hs => (setRow_other w g k c (fun e => hs (e ▸ hp (e ▸ hk)))).trans (h.block k hk hs)⟩
theorem Only.drew1 {S : Nat → Prop} {a w : World} (h : Only S a w) : Only S a ({ w with drawn := w.drawn + 1 } : World) := ⟨h.os, h.tape, h.output, h.size, h.block⟩
theorem Only.drew {S : Nat → Prop} {a w : World} (h : Only S a w) : Only S a w.drew := ⟨h.os, h.tape, h.output, h.size, h.block⟩
theorem Only.drewN {S : Nat → Prop} {a w : World} (h : Only S a w) (n : Nat) : Only S a (w.drewN n) := ⟨h.os, h.tape, h.output, h.size, h.block⟩
theorem Only.grown {S : Nat → Prop} {a w w' : World} {row : Option Nat} (h : Only S a w) (hg : w.grownBy w' row) (hr : ∀ k, row = some k → k < a.heap.size → S k) : Only S a w' :=
  h.trans (T := fun k => some k = row) ⟨hg.os, hg.tape, hg.output, hg.size, fun k hk hne => hg.block k hk hne⟩ fun x hx e => hr x e.symm hx
theorem Only.below {S : Nat → Prop} {a w : World} {B : Nat} (h : Only S a w) (hB : B ≤ a.heap.size) (hS : ∀ k, S k → B ≤ k) : Below B a w :=
  ⟨h.os, h.tape, h.output, h.size, fun k hk => h.block k (Nat.lt_of_lt_of_le hk hB) (fun hs => by have := hS k hs; omega)⟩
theorem Only.of_below {B : Nat} {a w : World} (h : Below B a w) : Only (fun k => B ≤ k) a w :=
  ⟨h.os, h.tape, h.output, h.size, fun k _ hs => h.block k (by omega)⟩
theorem Only.of_new {a w : World} (h : Below a.heap.size a w) (S : Nat → Prop) : Only S a w :=
  ⟨h.os, h.tape, h.output, h.size, fun k hk _ => h.block k hk⟩
theorem Only.heap {S : Nat → Prop} {a w : World} (h : Only S a w) {k : Nat} {o : Obj} (ho : a.heap[k]? = some o) (hk : ¬ S k) : w.heap[k]? = some o :=
  (h.block k (lt_of_block ho) hk).trans ho
theorem Only.toGrown {w w' : World} {row : Option Nat} (h : Only (fun k => some k = row) w w') : w.grownBy w' row :=
  ⟨h.os, h.tape, h.output, h.size, fun k hk hne => h.block k hk hne⟩
theorem Only.cell {S : Nat → Prop} {a w : World} (h : Only S a w) {p : Addr} {v : Value} (hv : a.cell? p = some v) (hk : ¬ S p.block) : w.cell? p = some v :=
  (World.cell?_of_block (h.block _ (World.block_lt_of_cell? a p hv) hk)).trans hv
theorem Only.owns {S : Nat → Prop} {a w : World} {base e size n : Nat} {v : Value} {xs : List Value} (h : Only S a w) (ho : a.ownsRow base e size v n xs) (hk : ∀ k, v.ownBlock = some k → ¬ S k) : w.ownsRow base e size v n xs := by
  refine ⟨ho.1, ?_⟩
  rcases ho.2 with hn | ⟨g, cap, cur, rfl, hb, hgg, rest⟩
  · exact .inl hn
  · exact .inr ⟨g, cap, cur, rfl, hb, h.heap hgg (hk g rfl), rest⟩

theorem alloc_size (w : World) (o : Obj) : (w.alloc o).heap.size = w.heap.size + 1 := by simp
theorem heap_new_at (w : World) (o : Obj) {X : Nat} (h : w.heap.size = X) : (w.alloc o).heap[X]? = some o := by rw [← h]; exact heap_alloc_new _ _
theorem heap_kept_alloc {w : World} {k : Nat} {o : Obj} (h : w.heap[k]? = some o) (o' : Obj) : (w.alloc o').heap[k]? = some o := (Below.heap_alloc w o' k (lt_of_block h)).trans h
theorem heap_kept_set {w : World} {k : Nat} {o : Obj} (h : w.heap[k]? = some o) {p : Addr} (hp : k ≠ p.block) (u : Value) : (w.setCell p u).heap[k]? = some o := (Below.heap_setCell w p u k hp).trans h
/-- A block of a row of cells, known whole. -/
theorem row_cell {w : World} {g : Nat} {L : List Value} {e : TypeId} (h : w.heap[g]? = some (.cells L.toArray e (0, 0))) {i : Nat} {v : Value} (hv : L[i]? = some v) : w.cell? ⟨g, i, none⟩ = some v := by
  simpa [World.cell?, h] using hv
theorem row_free {w : World} {g : Nat} {L : List Value} {e : TypeId} (h : w.heap[g]? = some (.cells L.toArray e (0, 0))) (i : Nat) : w.frozen? ⟨g, i, none⟩ = false := by
  simp [World.frozen?, h]
theorem row_set {w : World} {g : Nat} {L : List Value} {e : TypeId} (h : w.heap[g]? = some (.cells L.toArray e (0, 0))) (i : Nat) (v : Value) : (w.setCell ⟨g, i, none⟩ v).heap[g]? = some (.cells (L.set i v).toArray e (0, 0)) := by
  have := heap_setCell_same w g i L.toArray e v h
  simpa using this
theorem row_lt {w : World} {g : Nat} {o : Obj} (h : w.heap[g]? = some o) : g < w.heap.size := lt_of_block h
/-- make of a number of one-cell elements: the new block, written out. -/
theorem wpList_make_list {P : Program} {w : World} {ops : Array Oper} {rest : List Oper} {o : Oper} {a : Act} {Q : Exit → Act → World → Prop}
    (hg : o.guard = none) (l c : Operand) (t : TypeId) (hop : o.op = Op.makeSlice t l c) (e : TypeId) (z : Value) (bytes : Nat) (ht : P.underlying t = some (.slice e))
    (hinfo : (P.info? e).map (fun i => (i.zero, i.size, i.bytes)) = some (some z, 1, bytes)) (hz1 : z.cells = #[z]) (kl kc : IntKind) (L C : Int) (n : Nat) (hl : a.eval l = .int kl L) (hc : a.eval c = .int kc C) (hL : L = (n : Int)) (hC : C = (n : Int))
    (hbytes : bytes * n ≤ 281474976710656) (h63 : n ≤ 9223372036854775807)
    (hK : wpList P ops Q rest (a.put o.dst (.slice (some ⟨w.heap.size, 0, none⟩) n n)) (w.alloc (.cells (List.replicate n z).toArray e))) : wpList P ops Q (o :: rest) a w := by
  refine wpList_plain hg fun K hK' => ?_
  subst hL
  subst hC
  have hrun := run_make_row' (P := P) t e z bytes ht hinfo hz1 kl kc n hbytes h63 w
  have hm : madeCells #[z] n = (List.replicate n z).toArray := by rw [← toList_madeCells_one z n]
  rw [hm] at hrun
  unfold Oper.wp
  simp only [execOp, hop, hl, hc]
  simp [hrun, Result.andThen]
  exact hK' _ _ hK
/-- The same as a run: lay it in the context ahead of the walk. -/
theorem run_make_list {P : Program} (w : World) (t e : TypeId) (z : Value) (bytes : Nat) (ht : P.underlying t = some (.slice e)) (hinfo : (P.info? e).map (fun i => (i.zero, i.size, i.bytes)) = some (some z, 1, bytes)) (hz1 : z.cells = #[z]) (n : Nat)
    (hbytes : bytes * n ≤ 281474976710656) (h63 : n ≤ 9223372036854775807) :
    Sem.run P (Instr.makeSlice t (.int .i64 n) (.int .i64 n)) w = .ok (.slice (some ⟨w.heap.size, 0, none⟩) n n) (w.alloc (.cells (List.replicate n z).toArray e)) := by
  have hrun := run_make_row' (P := P) t e z bytes ht hinfo hz1 .i64 .i64 n hbytes h63 w
  have hm : madeCells #[z] n = (List.replicate n z).toArray := by rw [← toList_madeCells_one z n]
  rw [hm] at hrun
  exact hrun
/-- The cells of a row from a place on, as copy and append ask for them. -/
theorem row_src {w : World} {g : Nat} {L : List Value} {e : TypeId} (h : w.heap[g]? = some (.cells L.toArray e (0, 0))) (first m : Nat) : ∀ j v, ((L.drop first).take m)[j]? = some v → w.cell? ((⟨g, first, none⟩ : Addr).add j) = some v := by
  intro j v hv
  rw [Addr.add_lit]
  refine row_cell h ?_
  rw [List.getElem?_take] at hv
  split at hv
  · rwa [List.getElem?_drop] at hv
  · cases hv
/-- copy into a row known whole: the row behind it, and that nothing else has turned. -/
theorem wpList_copy_only {P : Program} {w : World} {ops : Array Oper} {rest : List Oper} {o : Oper} {a : Act} {Q : Exit → Act → World → Prop} (hgd : o.guard = none) (d s : Operand) (dT sT : TypeId)
    (ho : o.op = .call { callee := .builtin .copy, args := #[d, s], argTypes := #[dT, sT] }) (elem : TypeId) (hu : P.underlying dT = some (.slice elem)) (hsz : (P.info? elem).map (·.size) = some 1)
    (dp sp : Option Addr) (dLen dCap sLen sCap : Nat) (hd : a.eval d = .slice dp dLen dCap) (hs : a.eval s = .slice sp sLen sCap)
    (g off : Nat) (cur : List Value) (t : TypeId) (hg : w.heap[g]? = some (.cells cur.toArray t (0, 0))) (cs : List Value) (hn : cs.length = Nat.min sLen dLen)
    (hpos : 0 < cs.length → dp = some ⟨g, off, none⟩ ∧ ∃ ad, sp = some ad ∧ ∀ j v, cs[j]? = some v → w.cell? (ad.add j) = some v)
    (hfit : off + cs.length ≤ cur.length) (h1 : ∀ v ∈ cs, v.oneCell' = true)
    (h : ∀ w', Hid (w'.heap[g]? = some (.cells (splice cur off cs).toArray t (0, 0))) → Only (fun k => k = g) w w' → wpList P ops Q rest (a.put o.dst (goInt cs.length)) w') :
    wpList P ops Q (o :: rest) a w := by
  by_cases h0 : cs.length = 0
  · obtain rfl : cs = [] := List.eq_nil_of_length_eq_zero h0
    refine wpList_copy_nothing hgd d s dT sT ho elem hu hsz dp sp dLen dCap sLen sCap hd hs (by simpa using hn.symm) ?_
    exact h w (show _ = _ by simpa [splice] using hg) (Only.refl _ _)
  · obtain ⟨rfl, ad, rfl, hsrc⟩ := hpos (by omega)
    refine wpList_copy_own hgd d s dT sT ho elem hu hsz g off dLen dCap ad sLen sCap hd hs cur.toArray t hg cs hn hsrc (by simpa using hfit) h1 ?_
    exact h _ (show _ = _ by simpa [splice] using setRow_heap w g _ _ t _ hg) ((Only.refl (fun k => k = g) w).setRow (fun _ => rfl) _)
/-- copy into a row known whole, as a run: lay it in the context ahead of the walk. -/
theorem run_copy_only {P : Program} (w : World) (dT sT ty elem : TypeId) (hu : P.underlying dT = some (.slice elem)) (hsz : (P.info? elem).map (·.size) = some 1) (dp sp : Option Addr) (dLen dCap sLen sCap : Nat)
    (g off : Nat) (cur : List Value) (t : TypeId) (hg : w.heap[g]? = some (.cells cur.toArray t (0, 0))) (cs : List Value) (hn : cs.length = Nat.min sLen dLen)
    (hpos : 0 < cs.length → dp = some ⟨g, off, none⟩ ∧ ∃ ad, sp = some ad ∧ ∀ j v, cs[j]? = some v → w.cell? (ad.add j) = some v)
    (hfit : off + cs.length ≤ cur.length) (h1 : ∀ v ∈ cs, v.oneCell' = true) :
    ∃ w', Sem.run P (Builtin.copy_ #[dT, sT] ty #[.slice dp dLen dCap, .slice sp sLen sCap]) w = .ok (goInt cs.length) w' ∧ w'.heap[g]? = some (.cells (splice cur off cs).toArray t (0, 0)) ∧ Only (fun k => k = g) w w' := by
  by_cases h0 : cs.length = 0
  · obtain rfl : cs = [] := List.eq_nil_of_length_eq_zero h0
    exact ⟨w, run_copy_none (P := P) w dT sT ty elem dp sp dLen dCap sLen sCap hu hsz (by simpa using hn.symm), by simpa [splice] using hg, Only.refl _ w⟩
  · obtain ⟨rfl, ad, rfl, hsrc⟩ := hpos (by omega)
    exact ⟨_, run_copy_row (P := P) w dT sT ty elem g off dLen dCap ad sLen sCap cur.toArray t cs hu hsz hg hn hsrc (by simpa using hfit) h1, by simpa [splice] using setRow_heap w g _ _ t _ hg, (Only.refl (fun k => k = g) w).setRow (fun _ => rfl) _⟩
/-- A contract met in a quiet region that stands behind another one: the draws add up. -/
theorem quiet_more {P : Program} {f : FuncId} {args : Array Value} {w : World} {a n : Nat} {v : Value}
    (h : Calls P f args (w.drewN (a + n)) fun e w' => e = .returned v ∧ ∃ m, w' = (w.drewN (a + n)).drewN m) : Calls P f args (w.drewN (a + n)) fun e w'' => e = .returned v ∧ ∃ m, w'' = w.drewN (a + m) :=
  h.mono fun _ _ ⟨he, m, hm⟩ => ⟨he, n + m, by rw [hm, World.drewN_drewN, Nat.add_assoc]⟩
theorem quiet_more_same {P : Program} {f : FuncId} {args : Array Value} {w : World} {a n : Nat} {v : Value}
    (h : Calls P f args (w.drewN (a + n)) fun e w' => e = .returned v ∧ w' = w.drewN (a + n)) : Calls P f args (w.drewN (a + n)) fun e w'' => e = .returned v ∧ ∃ m, w'' = w.drewN (a + m) :=
  h.mono fun _ _ ⟨he, hm⟩ => ⟨he, n, hm⟩
theorem cell_of_heap {w w' : World} (h : w'.heap = w.heap) (p : Addr) : w'.cell? p = w.cell? p := by simp [World.cell?, h]
theorem frozen_of_heap {w w' : World} (h : w'.heap = w.heap) (p : Addr) : w'.frozen? p = w.frozen? p := by simp [World.frozen?, h]
theorem drewN_heap (w : World) (n : Nat) : (w.drewN n).heap = w.heap := rfl
end Go.Proofs.YtlbinlhaejhobaaGreatDoor
/- A class of worlds for regions that draw their order: those that have grown out of one (new blocks, draws). Facts over the class are rules for the walk's simp. Speaks of no program. -/
namespace Go.Proofs.YtlbinlhaejhobaaGreatDoor
open Go

/-- A world that has grown out of w. -/
structure Wd (w : World) where
  W : World
  ok : Only (fun _ => False) w W

def Wd.self (w : World) : Wd w := ⟨w, Only.refl _ w⟩
instance (w : World) : Nonempty (Wd w) := ⟨Wd.self w⟩
/-- Lay it before the region's walk. -/
theorem wd_ex (w : World) : ∀ x : Wd w, ∃ y : Wd w, x.W = y.W := fun x => ⟨x, rfl⟩
theorem Wd.cell {w : World} (x : Wd w) {p : Addr} {v : Value} (h : w.cell? p = some v) : x.W.cell? p = some v := x.ok.cell h (fun h => h)
theorem wd_cell {w : World} {p : Addr} {v : Value} (h : w.cell? p = some v) : ∀ x : Wd w, x.W.cell? p = some v := fun x => x.cell h
theorem wd_heap {w : World} {k : Nat} {o : Obj} (h : w.heap[k]? = some o) : ∀ x : Wd w, x.W.heap[k]? = some o := fun x => x.ok.heap h (fun h => h)

/-- A callee's contract in such a region. -/
theorem Calls.wd {P : Program} {f : FuncId} {args : Array Value} {w : World} {x : Wd w} {v : Value}
    (h : Calls P f args x.W fun e w' => e = .returned v ∧ Only (fun _ => False) x.W w') : Calls P f args x.W fun e w'' => e = .returned v ∧ ∃ y : Wd w, w'' = y.W :=
  h.mono fun _ w' ⟨he, ho⟩ => ⟨he, ⟨w', x.ok.trans' ho⟩, rfl⟩
theorem Calls.wd_same {P : Program} {f : FuncId} {args : Array Value} {w : World} {x : Wd w} {v : Value}
    (h : Calls P f args x.W fun e w' => e = .returned v ∧ x.W = w') : Calls P f args x.W fun e w'' => e = .returned v ∧ ∃ y : Wd w, w'' = y.W :=
  h.mono fun _ _ ⟨he, ho⟩ => ⟨he, x, ho.symm⟩

/-- The region, walked in the text's order. -/
theorem wp_region_wd {P : Program} {id : Nat} {Q : Exit → Act → World → Prop} {a : Act} {w : World} {l : List Oper} (hm : P.follows .mixedOrders = true) (hB : Region.lexB .any l.toArray = true)
    (h : wpQuiet P l.toArray (fun W => ∃ x : Wd w, W = x.W) (fun a' => ∀ w', (∃ x : Wd w, w' = x.W) → Q .normal a' w') l a) : (Code.region id l.toArray true).wp P Q a w :=
  wp_region_quiet (C := fun W => ∃ x : Wd w, W = x.W) hm hB ⟨⟨{ w with drawn := w.drawn + 1 }, (Only.refl _ w).drew1⟩, rfl⟩ h
end Go.Proofs.YtlbinlhaejhobaaGreatDoor
/- A slice of the call's own that may begin anywhere in its block: appended to, cut, read. Speaks of no program. -/
namespace Go.Proofs.YtlbinlhaejhobaaGreatDoor
open Go Go.RowKit

/-- v is a slice of n elements (sz cells each), the cells xs; where it has room, it lies in the block h, from some place on. -/
def Win (w : World) (e : TypeId) (sz : Nat) (v : Value) (h : Option Nat) (n : Nat) (xs : List Value) : Prop :=
  xs.length = n * sz ∧ ∃ (p : Option Addr) (cap : Nat), v = .slice p n cap ∧ n ≤ cap ∧ cap ≤ maxLen ∧
    ((h = none ∧ cap = 0) ∨ ∃ (g off : Nat) (L : List Value), h = some g ∧ p = some ⟨g, off, none⟩ ∧ w.heap[g]? = some (.cells L.toArray e (0, 0)) ∧ off + cap * sz ≤ L.length ∧ (L.drop off).take (n * sz) = xs)

section
variable {w w' : World} {e : TypeId} {sz n : Nat} {v : Value} {h : Option Nat} {xs : List Value}

theorem Win.nil (w : World) (e : TypeId) (sz : Nat) : Win w e sz (.slice none 0 0) none 0 [] := ⟨by simp, none, 0, rfl, Nat.le_refl _, Nat.zero_le _, .inl ⟨rfl, rfl⟩⟩
theorem Win.kept {S : Nat → Prop} (hW : Win w e sz v h n xs) (ho : Only S w w') (hS : ∀ k, h = some k → ¬ S k) : Win w' e sz v h n xs := by
  obtain ⟨hl, p, cap, hv, h1, h2, h3⟩ := hW
  refine ⟨hl, p, cap, hv, h1, h2, ?_⟩
  rcases h3 with h3 | ⟨g, off, L, hg, hp, hh, h4, h5⟩
  · exact .inl h3
  · exact .inr ⟨g, off, L, hg, hp, ho.heap hh (hS g hg), h4, h5⟩
theorem Win.same (hW : Win w e sz v h n xs) (hh : w'.heap = w.heap) : Win w' e sz v h n xs := by
  unfold Win at *
  rw [hh]
  exact hW
theorem Win.lt (hW : Win w e sz v h n xs) : ∀ k, h = some k → k < w.heap.size := by
  obtain ⟨hl, p, cap, hv, h1, h2, h3⟩ := hW
  intro k hk
  rcases h3 with h3 | ⟨g, off, L, hg, hp, hh, h4, h5⟩
  · rw [h3.1] at hk; cases hk
  · rw [hg] at hk; cases hk; exact row_lt hh
theorem Win.form (hW : Win w e sz v h n xs) : ∃ p cap, v = .slice p n cap ∧ n ≤ cap ∧ cap ≤ maxLen := by
  obtain ⟨hl, p, cap, hv, h1, h2, h3⟩ := hW
  exact ⟨p, cap, hv, h1, h2⟩
/-- Where there is an element the slice's address is known, and each cell. -/
theorem Win.at_ (hW : Win w e sz v h n xs) (hn : 0 < n) : ∃ g off cap, h = some g ∧ v = .slice (some ⟨g, off, none⟩) n cap ∧ n ≤ cap ∧ cap ≤ maxLen ∧ g < w.heap.size ∧ (∀ i u, xs[i]? = some u → w.cell? ⟨g, off + i, none⟩ = some u) ∧ ∀ i, w.frozen? ⟨g, i, none⟩ = false := by
  obtain ⟨hl, p, cap, hv, h1, h2, h3⟩ := hW
  rcases h3 with h3 | ⟨g, off, L, hg, hp, hh, h4, h5⟩
  · omega
  · subst hp
    refine ⟨g, off, cap, hg, hv, h1, h2, row_lt hh, fun i u hu => ?_, fun i => row_free hh i⟩
    refine row_cell hh ?_
    rw [← h5, List.getElem?_take] at hu
    split at hu
    · rwa [List.getElem?_drop] at hu
    · cases hu
theorem Win.of_owns {base : Nat} (ho : w.ownsRow base e sz v n xs) : ∃ h, Win w e sz v h n xs ∧ ∀ g, h = some g → base ≤ g := by
  obtain ⟨hl, hn | ⟨g, cap, cur, rfl, hb, hg, hnc, hcm, hcs, htake⟩⟩ := ho
  · obtain ⟨rfl, rfl⟩ := hn
    obtain rfl : xs = [] := List.eq_nil_of_length_eq_zero (by simpa using hl)
    exact ⟨none, Win.nil w e sz, fun g hg => by cases hg⟩
  · refine ⟨some g, ⟨hl, _, cap, rfl, hnc, hcm, .inr ⟨g, 0, cur.toList, rfl, rfl, by simpa using hg, ?_, by simpa using htake⟩⟩, fun g' hg' => by cases hg'; exact hb⟩
    simp [hcs]
/-- A block made by the call, known whole. -/
theorem Win.of_row {g : Nat} {L : List Value} (hh : w.heap[g]? = some (.cells L.toArray e (0, 0))) (hL : L.length = n * sz) (hn : n ≤ maxLen) : Win w e sz (.slice (some ⟨g, 0, none⟩) n n) (some g) n L :=
  ⟨hL, _, n, rfl, Nat.le_refl _, hn, .inr ⟨g, 0, L, rfl, rfl, hh, by omega, by simpa using List.take_of_length_le (by omega)⟩⟩

theorem Win.empty (w : World) (e : TypeId) (sz : Nat) (p : Option Addr) : Win w e sz (.slice p 0 0) none 0 [] := ⟨by simp, p, 0, rfl, Nat.le_refl _, Nat.zero_le _, .inl ⟨rfl, rfl⟩⟩
/-- What append and copy ask of their source. -/
theorem Win.src {p : Option Addr} {cap : Nat} (hW : Win w e sz (.slice p n cap) h n xs) : 0 < n → ∃ ad, p = some ad ∧ ∀ j u, xs[j]? = some u → w.cell? (ad.add j) = some u := fun hn => by
  obtain ⟨g, off, cap', _, e, _, _, _, hc, _⟩ := hW.at_ hn
  cases e
  exact ⟨_, rfl, fun j u hu => by rw [Addr.add_lit]; exact hc j u hu⟩
/-- Blocks of different element types differ. -/
theorem Win.ne {e' sz' n' : Nat} {v' : Value} {h' : Option Nat} {xs' : List Value} (hW : Win w e sz v h n xs) (hW' : Win w e' sz' v' h' n' xs') (he : e ≠ e') : ∀ k, h = some k → ¬ some k = h' := fun k hk hk' => by
  obtain ⟨_, _, _, _, _, _, a⟩ := hW
  obtain ⟨_, _, _, _, _, _, b⟩ := hW'
  rcases a with a | ⟨g, _, L, hg, _, hh, _⟩
  · rw [a.1] at hk; cases hk
  · rcases b with b | ⟨g', _, L', hg', _, hh', _⟩
    · rw [b.1] at hk'; cases hk'
    · rw [hg] at hk
      rw [hg'] at hk'
      cases hk
      cases hk'
      rw [hh] at hh'
      simp at hh'
      exact he hh'.2
/-- v[k:]. -/
theorem Win.drop {p : Option Addr} {cap k : Nat} (hW : Win w e sz (.slice p n cap) h n xs) (hk : k ≤ n) :
    ∃ h', Win w e sz (.slice (if cap = k then p else p.map (·.add (k * sz))) (n - k) (cap - k)) h' (n - k) (xs.drop (k * sz)) ∧ (h' = h ∨ h' = none) := by
  obtain ⟨hl, p', cap', hv, h1, h2, h3⟩ := hW
  simp only [Value.slice.injEq, true_and] at hv
  obtain ⟨rfl, rfl⟩ := hv
  have hl' : (xs.drop (k * sz)).length = (n - k) * sz := by rw [List.length_drop, hl, Nat.sub_mul]
  by_cases hc : cap = k
  · refine ⟨none, ⟨hl', _, _, rfl, by omega, by omega, .inl ⟨rfl, by omega⟩⟩, .inr rfl⟩
  · rcases h3 with h3 | ⟨g, off, L, hg, hp, hh, h4, h5⟩
    · omega
    · subst hp
      refine ⟨h, ⟨hl', _, _, rfl, by omega, by omega, .inr ⟨g, off + k * sz, L, hg, ?_, hh, ?_, ?_⟩⟩, .inl rfl⟩
      · rw [if_neg hc]
        simp [Addr.add_lit]
      · rw [Nat.add_assoc, ← Nat.add_mul, show k + (cap - k) = cap by omega]
        exact h4
      · rw [← h5, List.drop_take, ← Nat.sub_mul, List.drop_drop]
/-- v[:k]. -/
theorem Win.take {p : Option Addr} {cap k : Nat} (hW : Win w e sz (.slice p n cap) h n xs) (hk : k ≤ n) :
    Win w e sz (.slice p k cap) h k (xs.take (k * sz)) := by
  obtain ⟨hl, p', cap', hv, h1, h2, h3⟩ := hW
  simp only [Value.slice.injEq, true_and] at hv
  obtain ⟨rfl, rfl⟩ := hv
  have hks : k * sz ≤ n * sz := Nat.mul_le_mul_right _ hk
  refine ⟨by rw [List.length_take, hl]; omega, _, _, rfl, by omega, h2, ?_⟩
  rcases h3 with h3 | ⟨g, off, L, hg, hp, hh, h4, h5⟩
  · exact .inl h3
  · exact .inr ⟨g, off, L, hg, hp, hh, h4, by rw [← h5, List.take_take]; congr 1; omega⟩
end

/-- Cells of a row set one by one. -/
def setList {α : Type} : List α → Nat → List α → List α
  | L, _, [] => L
  | L, o, v :: r => setList (L.set o v) (o + 1) r
theorem setList_length {α : Type} : ∀ (vs : List α) (o : Nat) (L : List α), (setList L o vs).length = L.length
  | [], _, _ => rfl
  | v :: r, o, L => by rw [setList, setList_length r]; simp
theorem setList_out {α : Type} : ∀ (vs : List α) (o : Nat) (L : List α) (i : Nat), i < o ∨ o + vs.length ≤ i → (setList L o vs)[i]? = L[i]?
  | [], _, _, _, _ => rfl
  | v :: r, o, L, i, h => by
    rw [setList, setList_out r (o + 1) _ i (by simp at h; omega), List.getElem?_set_ne (by simp at h; omega)]
theorem setList_in {α : Type} : ∀ (vs : List α) (o : Nat) (L : List α) (j : Nat), j < vs.length → o + vs.length ≤ L.length → (setList L o vs)[o + j]? = vs[j]?
  | [], _, _, j, hj, _ => by simp at hj
  | v :: r, o, L, 0, _, hL => by
    rw [setList, setList_out r (o + 1) _ _ (by omega), Nat.add_zero, List.getElem?_set_self (by simp at hL; omega)]
    rfl
  | v :: r, o, L, j + 1, hj, hL => by
    rw [setList, show o + (j + 1) = o + 1 + j by omega, setList_in r (o + 1) _ j (by simpa using hj) (by simp at hL ⊢; omega)]
    rfl
theorem heap_setCells {g : Nat} {e : TypeId} : ∀ (vs : List Value) (o : Nat) (w : World) (L : List Value), w.heap[g]? = some (.cells L.toArray e (0, 0)) → (w.setCells g o vs).heap[g]? = some (.cells (setList L o vs).toArray e (0, 0))
  | [], _, _, _, h => h
  | v :: r, o, w, L, h => by
    rw [World.setCells, setList]
    exact heap_setCells r (o + 1) _ _ (row_set h o v)
theorem only_setCells {g : Nat} : ∀ (vs : List Value) (o : Nat) (w : World), Only (fun k => k = g) w (w.setCells g o vs)
  | [], _, w => Only.refl _ w
  | v :: r, o, w => ((Only.refl (fun k => k = g) w).setCell (p := ⟨g, o, none⟩) (fun _ => rfl) v).trans' (only_setCells r (o + 1) _)

theorem setList_take {L xs news : List Value} {off a : Nat} (hx : (L.drop off).take a = xs) (hxl : xs.length = a) (hL : off + a + news.length ≤ L.length) :
    ((setList L (off + a) news).drop off).take (a + news.length) = xs ++ news := by
  apply List.ext_getElem?
  intro i
  rw [List.getElem?_take]
  by_cases hi : i < a + news.length
  · rw [if_pos hi, List.getElem?_drop, List.getElem?_append]
    by_cases ha : i < a
    · rw [if_pos (by omega), setList_out _ _ _ _ (by omega), ← hx, List.getElem?_take, if_pos ha, List.getElem?_drop]
    · rw [if_neg (by omega), hxl, ← setList_in news (off + a) L (i - a) (by omega) (by omega)]
      congr 1
      omega
  · rw [if_neg hi, List.getElem?_eq_none (by simp; omega)]

/-- A slice of the call's own stays so behind an append. -/
theorem step_fresh {w W0 w1 : World} {h h1 : Option Nat} (o0 : Only (fun _ => False) w W0) (hO : Only (fun k => some k = h) W0 w1) (hf : ∀ k, h = some k → w.heap.size ≤ k) (hh : h1 = h ∨ ∃ g, h1 = some g ∧ W0.heap.size ≤ g) :
    Only (fun _ => False) w w1 ∧ ∀ k, h1 = some k → w.heap.size ≤ k := by
  have hs := o0.size
  refine ⟨o0.trans hO (fun x hx e => by have := hf x e.symm; omega), fun k hk => ?_⟩
  rcases hh with rfl | ⟨g, rfl, hg⟩
  · exact hf k hk
  · cases hk; omega
theorem row_two {w : World} {X : Nat} {a b : Value} {e : TypeId} (h : w.heap[X]? = some (.cells #[a, b] e (0, 0))) : ∀ j u, [a, b][j]? = some u → w.cell? ((⟨X, 0, none⟩ : Addr).add j) = some u := fun j u hu => by
  rw [Addr.add_lit, Nat.zero_add]
  exact row_cell (L := [a, b]) h hu

section
variable {P : Program}

/-- append onto such a slice, the source whatever: the new one, and that nothing else has turned. -/
theorem run_append_win (w : World) (t ty e : TypeId) (z : Value) (sz bytes : Nat) (ht : P.underlying t = some (.slice e)) (hinfo : (P.info? e).map (fun i => (i.zero, i.size, i.bytes)) = some (some z, sz, bytes)) (hzs : z.cells.size = sz) (hsz : 0 < sz)
    {v : Value} {h : Option Nat} {n : Nat} {xs : List Value} (hW : Win w e sz v h n xs) (xp : Option Addr) (m c : Nat) (news : List Value) (hl : news.length = m * sz)
    (hsrc : 0 < m → ∃ ad, xp = some ad ∧ ∀ j u, news[j]? = some u → w.cell? (ad.add j) = some u) (h1 : ∀ u ∈ news, u.oneCell' = true) (h63 : n + m ≤ maxLen) (hbytes : (n + m) * bytes ≤ 140737488355328) :
    ∃ v' w' h', (Builtin.append_ #[t, t] ty #[v, .slice xp m c]).run P w = .ok v' w' ∧ Win w' e sz v' h' (n + m) (xs ++ news) ∧ Only (fun k => some k = h) w w' ∧ (h' = h ∨ ∃ g, h' = some g ∧ w.heap.size ≤ g) := by
  obtain ⟨i, hi, hz, hs, hb⟩ : ∃ i, P.info? e = some i ∧ i.zero = some z ∧ i.size = sz ∧ i.bytes = bytes := by
    obtain ⟨i, hi, hzz⟩ := Option.map_eq_some_iff.1 hinfo
    simp only [Prod.mk.injEq] at hzz
    exact ⟨i, hi, hzz.1, hzz.2.1, hzz.2.2⟩
  have hW' := hW
  obtain ⟨hxl, p, cap, rfl, hnc, hcm, h3⟩ := hW
  by_cases hm : m = 0
  · subst hm
    obtain rfl : news = [] := List.eq_nil_of_length_eq_zero (by simpa using hl)
    refine ⟨.slice p n cap, w, h, ?_, by simpa using hW', Only.refl _ _, .inl rfl⟩
    cases p <;> cases xp <;> simp [Builtin.append_, run_underlying ht, sizeOf, typeInfo, hi, Builtin.lenOf, Builtin.firstCells, hnc, storeCells, loadCells, loadCellsFrom]
  · obtain ⟨ad, rfl, hcells⟩ := hsrc (by omega)
    rcases h3 with ⟨rfl, rfl⟩ | ⟨g, off, L, rfl, rfl, hg, h4, h5⟩
    · obtain rfl : n = 0 := by omega
      obtain rfl : xs = [] := List.eq_nil_of_length_eq_zero (by simpa using hxl)
      have key : ∃ v' w', (Builtin.append_ #[t, t] ty #[.slice p 0 0, .slice (some ad) m c]).run P w = .ok v' w' ∧ w'.ownsRow w.heap.size e sz v' (0 + m) ([] ++ news) ∧ w.grownBy w' none := by
        cases p with
        | none =>
          obtain ⟨v', w', r1, r2, r3, _⟩ := run_append_own (P := P) w w.heap.size t ty e i z sz bytes ht hi hz hs hb hzs hsz (.slice none 0 0) 0 [] (World.ownsRow_nil w _ e sz) ad m c news hl hcells h1 h63 hbytes (Nat.le_refl _)
          exact ⟨v', w', r1, r2, r3⟩
        | some b => exact run_append_arg_grows (P := P) w t ty e i z sz bytes ht hi hz hs hb hzs hsz b 0 0 [] (by simp) (fun j u hu => by simp at hu) ad m c news hl hcells (by omega) h63 hbytes
      obtain ⟨v', w', r1, r2, r3⟩ := key
      obtain ⟨h', hw', hge⟩ := Win.of_owns r2
      refine ⟨v', w', h', r1, hw', (Only.refl _ w).grown r3 (fun k hk => by cases hk), ?_⟩
      cases h' with
      | none => exact .inl rfl
      | some g => exact .inr ⟨g, rfl, hge g rfl⟩
    · have hxs : ∀ j u, xs[j]? = some u → w.cell? ((⟨g, off, none⟩ : Addr).add j) = some u := by
        intro j u hu
        rw [Addr.add_lit]
        refine row_cell hg ?_
        rw [← h5, List.getElem?_take] at hu
        split at hu
        · rwa [List.getElem?_drop] at hu
        · cases hu
      by_cases hr : n + m ≤ cap
      · have hfit : off + n * sz + news.length ≤ L.length := by
          have : (n + m) * sz ≤ cap * sz := Nat.mul_le_mul_right _ hr
          rw [Nat.add_mul] at this
          omega
        subst hs
        have hrun := run_append_room_cells (P := P) w t ty e i ht hi g off n cap ad m c news hl hcells h1 hr (fun j hj => by
          rw [row_cell hg (v := L[off + n * i.size + j]'(by omega)) (List.getElem?_eq_getElem _)]; rfl) (fun j hj => row_free hg _)
        refine ⟨_, _, some g, hrun, ⟨by rw [List.length_append, hxl, hl, Nat.add_mul], _, cap, rfl, hr, hcm, .inr ⟨g, off, _, rfl, rfl, heap_setCells news _ w L hg, ?_, ?_⟩⟩, ?_, .inl rfl⟩
        · rw [setList_length]
          exact h4
        · rw [Nat.add_mul, ← hl]
          exact setList_take h5 hxl hfit
        · exact (only_setCells news _ w).mono (fun x _ e => by rw [e])
      · obtain ⟨v', w', r1, r2, r3⟩ := run_append_arg_grows (P := P) w t ty e i z sz bytes ht hi hz hs hb hzs hsz ⟨g, off, none⟩ n cap xs hxl hxs ad m c news hl hcells (by omega) h63 hbytes
        obtain ⟨h', hw', hge⟩ := Win.of_owns r2
        refine ⟨v', w', h', r1, hw', (Only.refl _ w).grown r3 (fun k hk => by cases hk), ?_⟩
        cases h' with
        | none =>
          exfalso
          obtain ⟨_, p', cap', _, q1, _, q3⟩ := hw'
          rcases q3 with ⟨_, q4⟩ | ⟨g', _, _, q4, _⟩
          · omega
          · cases q4
        | some g' => exact .inr ⟨g', rfl, hge g' rfl⟩

/-- The same as a law for the walk. -/
theorem wpList_append_win {w : World} {ops : Array Oper} {rest : List Oper} {o : Oper} {a : Act} {Q : Exit → Act → World → Prop} (hgd : o.guard = none) (s x : Operand) (t : TypeId)
    (hop : o.op = Op.call { callee := Callee.builtin Builtin.append, args := #[s, x], argTypes := #[t, t] }) (e : TypeId) (z : Value) (sz bytes : Nat) (ht : P.underlying t = some (.slice e))
    (hinfo : (P.info? e).map (fun i => (i.zero, i.size, i.bytes)) = some (some z, sz, bytes)) (hzs : z.cells.size = sz) (hsz : 0 < sz)
    {v : Value} {h : Option Nat} {n : Nat} {xs : List Value} (hs : a.eval s = v) (hW : Win w e sz v h n xs) (xp : Option Addr) (m c : Nat) (hx : a.eval x = .slice xp m c) (news : List Value) (hl : news.length = m * sz)
    (hsrc : 0 < m → ∃ ad, xp = some ad ∧ ∀ j u, news[j]? = some u → w.cell? (ad.add j) = some u) (h1 : ∀ u ∈ news, u.oneCell' = true) (h63 : n + m ≤ maxLen) (hbytes : (n + m) * bytes ≤ 140737488355328)
    (hK : ∀ v' w' h', Hid (Win w' e sz v' h' (n + m) (xs ++ news)) → Hid (Only (fun k => some k = h) w w') → Hid (h' = h ∨ ∃ g, h' = some g ∧ w.heap.size ≤ g) → wpList P ops Q rest (a.put o.dst v') w') : wpList P ops Q (o :: rest) a w := by
  refine wpList_plain hgd fun K hK' => ?_
  obtain ⟨v', w', h', hrun, r1, r2, r3⟩ := run_append_win (P := P) w t o.type e z sz bytes ht hinfo hzs hsz hW xp m c news hl hsrc h1 h63 hbytes
  unfold Oper.wp
  simp [execOp, hop, resolve, invoke, builtin, hs, hx, hrun, Result.andThen]
  exact hK' _ _ (hK v' w' h' r1 r2 r3)
/-- The same as a step of a region that draws. -/
theorem step_append_win {w : World} {ops : Array Oper} {o : Oper} {a : Act} {K : Act → World → Prop} {Q : Exit → Act → World → Prop} {E : Prop} (hgd : o.guard = none) (s x : Operand) (t : TypeId)
    (hop : o.op = Op.call { callee := Callee.builtin Builtin.append, args := #[s, x], argTypes := #[t, t] }) (e : TypeId) (z : Value) (sz bytes : Nat) (ht : P.underlying t = some (.slice e))
    (hinfo : (P.info? e).map (fun i => (i.zero, i.size, i.bytes)) = some (some z, sz, bytes)) (hzs : z.cells.size = sz) (hsz : 0 < sz)
    {v : Value} {h : Option Nat} {n : Nat} {xs : List Value} (hs : a.eval s = v) (hW : Win w e sz v h n xs) (xp : Option Addr) (m c : Nat) (hx : a.eval x = .slice xp m c) (news : List Value) (hl : news.length = m * sz)
    (hsrc : 0 < m → ∃ ad, xp = some ad ∧ ∀ j u, news[j]? = some u → w.cell? (ad.add j) = some u) (h1 : ∀ u ∈ news, u.oneCell' = true) (h63 : n + m ≤ maxLen) (hbytes : (n + m) * bytes ≤ 140737488355328)
    (hK : ∀ v' w' h', Hid (Win w' e sz v' h' (n + m) (xs ++ news)) → Hid (Only (fun k => some k = h) w w') → Hid (h' = h ∨ ∃ g, h' = some g ∧ w.heap.size ≤ g) → K (a.put o.dst v') w') :
    if Region.wanted o (yielded ops a.tmps) = true then Oper.wp P o a w K Q else E := by
  have hw : Region.wanted o (yielded ops a.tmps) = true := by simp [Region.wanted, hgd]
  rw [if_pos hw]
  obtain ⟨v', w', h', hrun, r1, r2, r3⟩ := run_append_win (P := P) w t o.type e z sz bytes ht hinfo hzs hsz hW xp m c news hl hsrc h1 h63 hbytes
  unfold Oper.wp
  simp [execOp, hop, resolve, invoke, builtin, hs, hx, hrun, Result.andThen]
  exact hK v' w' h' r1 r2 r3
/-- append where there is room, as a step of a region that draws: the new elements lie behind the old ones, the slice's address stays. -/
theorem step_append_room {w : World} {ops : Array Oper} {o : Oper} {a : Act} {K : Act → World → Prop} {Q : Exit → Act → World → Prop} {E : Prop} (hgd : o.guard = none) (s x : Operand) (t : TypeId)
    (hop : o.op = Op.call { callee := Callee.builtin Builtin.append, args := #[s, x], argTypes := #[t, t] }) (e : TypeId) (sz : Nat) (ht : P.underlying t = some (.slice e)) (hinfo : (P.info? e).map (·.size) = some sz)
    (g off n cap : Nat) (hs : a.eval s = .slice (some ⟨g, off, none⟩) n cap) (ad : Addr) (m c : Nat) (hx : a.eval x = .slice (some ad) m c) (L : List Value) (hg : w.heap[g]? = some (.cells L.toArray e (0, 0)))
    (news : List Value) (hl : news.length = m * sz) (hsrc : ∀ j u, news[j]? = some u → w.cell? (ad.add j) = some u) (h1 : ∀ u ∈ news, u.oneCell' = true) (hroom : n + m ≤ cap) (hfit : off + n * sz + news.length ≤ L.length)
    (hK : ∀ w', Hid (w'.heap[g]? = some (.cells (setList L (off + n * sz) news).toArray e (0, 0))) → Hid (Only (fun k => k = g) w w') → K (a.put o.dst (.slice (some ⟨g, off, none⟩) (n + m) cap)) w') :
    if Region.wanted o (yielded ops a.tmps) = true then Oper.wp P o a w K Q else E := by
  have hw : Region.wanted o (yielded ops a.tmps) = true := by simp [Region.wanted, hgd]
  rw [if_pos hw]
  obtain ⟨i, hi, hz⟩ := Option.map_eq_some_iff.1 hinfo
  subst hz
  have hrun := run_append_room_cells (P := P) w t o.type e i ht hi g off n cap ad m c news hl hsrc h1 hroom (fun j hj => by
    rw [row_cell hg (v := L[off + n * i.size + j]'(by omega)) (List.getElem?_eq_getElem _)]; rfl) (fun j hj => row_free hg _)
  unfold Oper.wp
  simp [execOp, hop, resolve, invoke, builtin, hs, hx, hrun, Result.andThen]
  exact hK _ (heap_setCells news _ w L hg) (only_setCells news _ w)
end
end Go.Proofs.YtlbinlhaejhobaaGreatDoor
/- A region that draws its order, whose first operations are quiet in a class of worlds (reads, calls that answer one value in every world of the class) and whose last ones come in one forced order: one walk of the text's order serves every order. Speaks of no program. -/
namespace Go.Proofs.YtlbinlhaejhobaaGreatDoor
open Go

section
variable {P : Program} {ops : Array Oper} {md : Region.Mode} {C : World → Prop}

/-- Whatever order is picked among the first n operations, all quiet in the class. -/
def wpAnyQL (P : Program) (md : Region.Mode) (ops : Array Oper) (C : World → Prop) (n : Nat) (L : Array Bool → Act → Prop) : Nat → Array Bool → Act → Prop
  | 0, listed, a => L listed a
  | f + 1, listed, a =>
    Region.ready md ops listed ≠ [] ∧ ∀ i ∈ Region.ready md ops listed, i < n ∧ qOp P ops C i (wpAnyQL P md ops C n L f (listed.setIfInBounds i true)) a

theorem wpAny_of_headQ {n g : Nat} {L : Array Bool → Act → Prop} {Q' : Exit → Act → World → Prop} (hL : ∀ listed a w, C w → L listed a → wpAny P md ops Q' g listed a w) :
    ∀ (f : Nat) (listed : Array Bool) (a : Act) (w : World), C w → wpAnyQL P md ops C n L f listed a → wpAny P md ops Q' (f + g) listed a w
  | 0, listed, a, w, hw, h => by rw [Nat.zero_add]; exact hL _ _ _ hw h
  | f + 1, listed, a, w, hw, h => by
    rw [show f + 1 + g = (f + g) + 1 by omega]
    exact ⟨fun h0 => absurd h0 h.1, fun i hi => wpOp_of_qOp hw (fun a' w' hw' h' => wpAny_of_headQ hL f _ a' w' hw' h') (h.2 i hi).2⟩

theorem wpAnyQL_first {n i : Nat} {oi : Oper} {v : Value} {L : Array Bool → Act → Prop} (hi : ops[i]? = some oi) (hsel : ∀ (j : Nat) (o : Oper) cs b, ops[j]? = some o → o.op ≠ .select cs b)
    (hs : Region.sinkB md ops n = true) (hc : Region.chainB md ops n = true) (hn : n < ops.size) (hin : i < n)
    (hdone : ∀ listed a, L listed a → ∀ j ∈ Region.ready md ops listed, n ≤ j) :
    ∀ (f : Nat) (listed : Array Bool) (a : Act), HeadInv md ops n listed →
      (∀ j oj, ops[j]? = some oj → j ≠ i → listed.getD j true = false → (∀ e ∈ oj.after, Region.binds md e = true → e.on ≠ i) → oi.apart ops oj = true) →
      i ∈ Region.ready md ops listed → YieldsIn P ops C oi v a →
      wpAnyQL P md ops C n L f (listed.setIfInBounds i true) (a.put oi.dst v) → wpAnyQL P md ops C n L (f + 1) listed a := by
  intro f
  induction f with
  | zero =>
    intro listed a inv _ hr hy H
    have hun := (mem_ready.1 hr).1
    refine ⟨fun h => (by rw [h] at hr; cases hr), fun j hj => ?_⟩
    have hjn : j < n := by
      rcases Nat.lt_or_ge j n with h | h
      · exact h
      · exact absurd hj (tail_waits hs hc hn inv _ i rfl hin hun j h)
    refine ⟨hjn, ?_⟩
    by_cases hji : j = i
    · subst hji; exact hy.qOp hi H
    · have := hdone _ _ H j (ready_mono hj hji)
      omega
  | succ f ih =>
    intro listed a inv hfree hr hy H
    have hun := (mem_ready.1 hr).1
    refine ⟨fun h => (by rw [h] at hr; cases hr), fun j hj => ?_⟩
    have hjn : j < n := by
      rcases Nat.lt_or_ge j n with h | h
      · exact h
      · exact absurd hj (tail_waits hs hc hn inv _ i rfl hin hun j h)
    refine ⟨hjn, ?_⟩
    by_cases hji : j = i
    · subst hji; exact hy.qOp hi H
    · have h1 := (H.2 j (ready_mono hj hji)).2
      obtain ⟨hjun, oj, hoj, hall⟩ := mem_ready.1 hj
      have hnot : ∀ e ∈ oj.after, Region.binds md e = true → e.on ≠ i := fun e he hb heq => by
        have h1 := hall e he hb
        rw [heq, getD_both hun] at h1
        cases h1
      have h2 := qOp_put hoj (hfree j oj hoj hji hjun hnot) (fun cs b => hsel i oi cs b hi) (fun cs b => hsel j oj cs b hoj) hy h1
      have hfree' : ∀ k ok, ops[k]? = some ok → k ≠ i → (listed.setIfInBounds j true).getD k true = false →
          (∀ e ∈ ok.after, Region.binds md e = true → e.on ≠ i) → oi.apart ops ok = true := fun k ok hk hki hun hno => by
        refine hfree k ok hk hki ?_ hno
        by_cases hjk : j = k
        · subst hjk; exact hjun
        · rw [getD_set_ne true hjk] at hun; exact hun
      refine qOp_mono (fun a' h3 => ih (listed.setIfInBounds j true) a' (inv.set hj hjn) hfree' (ready_mono hr (Ne.symm hji)) h3.1 ?_) h2
      rw [Array.setIfInBounds_comm _ _ hji]
      exact h3.2

theorem wpAnyQL_lex {n g : Nat} {Lq : Act → Prop} (hsel : Region.noSelect ops = true) (hs : Region.sinkB md ops n = true) (hc : Region.chainB md ops n = true) (hn : n < ops.size) :
    ∀ (l : List Oper) (k : Nat) (listed : Array Bool) (a : Act), (∀ j, j < l.length → l[j]? = ops[k + j]?) → k + l.length = n → HeadInv md ops n listed →
    Region.lexHead md ops g l.length k listed = true → wpQuiet P ops C Lq l a →
    wpAnyQL P md ops C n (fun listed' a' => Region.seqB md ops g n listed' = true ∧ Lq a') l.length listed a
  | [], k, listed, a, _, hk, _, hB, h => by
    have : k = n := by simpa using hk
    subst this
    exact ⟨by simpa [Region.lexHead] using hB, h⟩
  | o :: l, k, listed, a, hl, hk, inv, hB, h => by
    have h0 : ops[k]? = some o := by simpa using (hl 0 (by simp)).symm
    simp only [List.length_cons, Region.lexHead, Bool.and_eq_true] at hB
    obtain ⟨⟨hr, hf⟩, hB'⟩ := hB
    have hkn : k < n := by simp only [List.length_cons] at hk; omega
    have hr' : k ∈ Region.ready md ops listed := by simpa using hr
    have hst : qOp P ops C k (wpQuiet P ops C Lq l) a := by unfold qOp; simp only [h0]; exact h
    obtain ⟨v, hy, hK⟩ := yieldsIn_of_qOp h0 hst
    exact wpAnyQL_first h0 (Region.noSelect_spec hsel) hs hc hn hkn (fun listed' a' hL => seqB_ready hL.1) l.length listed a inv (Region.free_spec h0 hf) hr' hy
      (wpAnyQL_lex hsel hs hc hn l (k + 1) _ _ (fun j hj => by have := hl (j + 1) (by simp; omega); simpa [Nat.add_assoc, Nat.add_comm 1 j] using this) (by simp only [List.length_cons] at hk; omega) (inv.set hr' hkn) hB' hK)

/-- The first n operations quiet in the class, the last ones one behind the other. -/
theorem wp_region_quiet_tail {id : Nat} {Q : Exit → Act → World → Prop} {a : Act} {w : World} {l : List Oper} (n : Nat) (hm : P.follows .mixedOrders = true) (hB : Region.lexTailB .any l.toArray n = true)
    (hC : C { w with drawn := w.drawn + 1 })
    (h : wpQuiet P l.toArray C (fun a' => ∀ w', C w' → wpList P l.toArray Q (l.drop n) a' w') (l.take n) a) : (Code.region id l.toArray true).wp P Q a w := by
  simp only [Region.lexTailB, Bool.and_eq_true, decide_eq_true_eq] at hB
  obtain ⟨⟨⟨⟨hsel, hn⟩, hs⟩, hc⟩, hlex⟩ := hB
  have hn' : n < l.length := by simpa using hn
  have htl : (l.take n).length = n := by simp; omega
  have hdl : (l.drop n).length = l.toArray.size - n := by simp
  have inv0 : HeadInv .any l.toArray n (Array.replicate l.toArray.size false) :=
    ⟨by simp, fun j oj _ hl => (by rw [getD_replicate_false] at hl; cases hl), fun t _ ht => getD_in (by simpa using ht) (getD_replicate_false _ _)⟩
  have H := wpAnyQL_lex (md := .any) (g := l.toArray.size - n) hsel hs hc hn (l.take n) 0 _ a (fun j hj => by
    have hj' : j < n := by rw [htl] at hj; exact hj
    simp [hj']) (by simpa using htl) inv0 (by rw [htl]; exact hlex) h
  refine wp_region_any hm ?_
  have := wpAny_of_headQ (Q' := Q) (g := l.toArray.size - n) (fun listed a' w' hw' hL => by
    have := wpAny_of_seq (md := .any) (Q' := Q) (l.drop n) n listed a' w' (fun j => by simp [List.getElem?_drop]) (by rw [hdl]; exact hL.1) (hL.2 w' hw')
    rwa [hdl] at this) _ _ _ _ hC H
  rw [htl, show n + (l.toArray.size - n) = l.toArray.size by omega] at this
  exact this

/-- The class: the world, after some draws. -/
theorem wp_region_quiet_tail_lit {id : Nat} {Q : Exit → Act → World → Prop} {a : Act} {w : World} {l : List Oper} (n : Nat) (hm : P.follows .mixedOrders = true) (hB : Region.lexTailB .any l.toArray n = true)
    (h : wpQuiet P l.toArray (fun w' => ∃ n, w' = w.drewN n) (fun a' => ∀ w', (∃ n, w' = w.drewN n) → wpList P l.toArray Q (l.drop n) a' w') (l.take n) a) : (Code.region id l.toArray true).wp P Q a w :=
  wp_region_quiet_tail (C := fun w' => ∃ n, w' = w.drewN n) n hm hB ⟨1, rfl⟩ h

end
end Go.Proofs.YtlbinlhaejhobaaGreatDoor
/- Slices that came in, as the walks of laws are told of them. Speaks of no program. -/
namespace Go.Proofs.YtlbinlhaejhobaaGreatDoor
open Go Go.RowKit

/-- A slice that came in, read as values: of an empty one's address nothing is known. -/
def Row (w : World) (A : Option Addr) (n : Nat) (f : Nat → Value) : Prop :=
  ∀ k, k < n → ∃ b off, A = some ⟨b, off, none⟩ ∧ w.cell? ⟨b, off + k, none⟩ = some (f k) ∧ b < w.heap.size

theorem Row.below {w w' : World} {A : Option Addr} {n B : Nat} {f : Nat → Value} (h : Row w A n f) (hb : Below B w w') (hB : w.heap.size ≤ B) : Row w' A n f := fun k hk => by
  obtain ⟨b, off, rfl, hc, hlt⟩ := h k hk
  exact ⟨b, off, rfl, (hb.cell (p := ⟨b, off + k, none⟩) (Nat.lt_of_lt_of_le hlt hB)).trans hc, Nat.lt_of_lt_of_le hlt hb.size⟩
theorem Row.only {S : Nat → Prop} {w w' : World} {A : Option Addr} {n : Nat} {f : Nat → Value} (h : Row w A n f) (hb : Only S w w') (hS : ∀ k, S k → w.heap.size ≤ k) : Row w' A n f :=
  h.below (hb.below (Nat.le_refl _) hS) (Nat.le_refl _)

/-- The same of numbers: each fits its kind. -/
def IntRow (k : IntKind) (w : World) (A : Option Addr) (n : Nat) (f : Nat → Int) : Prop :=
  ∀ j, j < n → (∃ b off, A = some ⟨b, off, none⟩ ∧ w.cell? ⟨b, off + j, none⟩ = some (.int k (f j)) ∧ b < w.heap.size) ∧ (Lit.int k (f j)).wf = true
theorem IntRow.row {k : IntKind} {w : World} {A : Option Addr} {n : Nat} {f : Nat → Int} (h : IntRow k w A n f) : Row w A n (fun j => .int k (f j)) := fun j hj => (h j hj).1
theorem IntRow.wf {k : IntKind} {w : World} {A : Option Addr} {n : Nat} {f : Nat → Int} (h : IntRow k w A n f) {j : Nat} (hj : j < n) : (Lit.int k (f j)).wf = true := (h j hj).2

theorem add_block (a : Addr) (i : Nat) : (a.add i).block = a.block := by unfold Addr.add; split <;> rfl
/-- A cell at a place of a block: the address is one of whole cells. -/
theorem spot_none {w : World} {a : Addr} {v : Value} (h : w.cell? a = some v) : a.spot = none := by
  unfold World.cell? at h
  split at h
  · split at h
    · cases h
    · cases hs : a.spot with
      | none => rfl
      | some x => simp_all
  · cases h
theorem row_of {w : World} {x : Addr} {m len : Nat} {f : Nat → Value} (hcell : ∀ i, i < m → w.cell? (x.add i) = some (f i)) (hl : len ≤ m) : Row w (some x) len f := by
  intro k hk
  have h0 := hcell 0 (by omega)
  have hk' := hcell k (by omega)
  have hx : x = ⟨x.block, x.off, none⟩ := by
    have h1 := spot_none h0
    cases x with
    | mk b o s =>
      unfold Addr.add at h1
      simp at h1
      subst h1
      rfl
  have hb := World.block_lt_of_cell? w _ hk'
  rw [add_block] at hb
  refine ⟨x.block, x.off, congrArg some hx, ?_, hb⟩
  rw [hx, Addr.add_lit] at hk'
  exact hk'
theorem intRow_of {k : IntKind} {w : World} {x : Addr} {len : Nat} {zs : List Int} (hcell : ∀ i, i < zs.length → w.cell? (x.add i) = some (.int k (zs.getD i 0))) (hw : ∀ n ∈ zs, (Lit.int k n).wf = true) (hl : len ≤ zs.length) :
    IntRow k w (some x) len (fun j => zs.getD j 0) := fun j hj => by
  refine ⟨row_of (f := fun i => .int k (zs.getD i 0)) hcell hl j hj, hw _ ?_⟩
  have hj' : j < zs.length := by omega
  have : zs.getD j 0 = zs[j] := by simp [hj']
  show zs.getD j 0 ∈ zs
  rw [this]
  exact List.getElem_mem _
end Go.Proofs.YtlbinlhaejhobaaGreatDoor
