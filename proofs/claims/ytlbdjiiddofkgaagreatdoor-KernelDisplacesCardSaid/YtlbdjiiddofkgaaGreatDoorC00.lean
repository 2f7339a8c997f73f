import Derived.WalkKit
import Derived.Below
import Derived.OneCell
import Derived.Laws.CopyOwn
import Derived.Deep.Draws
import Derived.Lib.Hide
import Derived.Deep.OwnRows
import Derived.ArgAppend
import Derived.Laws.Slices
import Derived.OwnWalk
theorem Go.RowKit.zh {p : Prop} (h : p) : Go.RowKit.Hid p := h
namespace Go.Proofs.YtlbdjiiddofkgaaGreatDoor
open Go Go.RowKit
structure Only (S : Nat -> Prop) (w w' : World) : Prop where
 os : w'.os = w.os
 tape : w'.tape = w.tape
 output : w'.output = w.output
 size : w.heap.size <= w'.heap.size
 block : ∀ k, k < w.heap.size -> ¬ S k -> w'.heap[k]? = w.heap[k]?
theorem Only.refl (S : Nat -> Prop) (w : World) : Only S w w := ⟨rfl, rfl, rfl, Nat.le_refl _, fun _ _ _ => rfl⟩
theorem Only.trans {S T : Nat -> Prop} {a b c : World} (h : Only S a b) (k : Only T b c) (hT : ∀ x, x < a.heap.size -> T x -> S x) : Only S a c :=
 ⟨k.os.trans h.os, k.tape.trans h.tape, k.output.trans h.output, Nat.le_trans h.size k.size, fun i hi hs => (k.block i (Nat.lt_of_lt_of_le hi h.size) (fun ht => hs (hT i hi ht))).trans (h.block i hi hs)⟩
theorem Only.trans' {S : Nat -> Prop} {a b c : World} (h : Only S a b) (k : Only S b c) : Only S a c := h.trans k fun _ _ h => h
theorem Only.mono {S T : Nat -> Prop} {a b : World} (h : Only S a b) (hT : ∀ x, x < a.heap.size -> S x -> T x) : Only T a b :=
 ⟨h.os, h.tape, h.output, h.size, fun i hi ht => h.block i hi (fun hs => ht (hT i hi hs))⟩
theorem Only.alloc {S : Nat -> Prop} {a w : World} (h : Only S a w) (o : Obj) : Only S a (w.alloc o) :=
 h.trans' ⟨rfl, rfl, rfl, by simp, fun k hk _ => Below.heap_alloc _ _ _ hk⟩
theorem Only.setCell {S : Nat -> Prop} {a w : World} (h : Only S a w) {p : Addr} (hp : p.block < a.heap.size -> S p.block) (u : Value) : Only S a (w.setCell p u) :=
 ⟨h.os, h.tape, h.output, by simpa [World.setCell] using h.size, fun k hk hs => (Below.heap_setCell w p u k (fun e => hs (e ▸ hp (e ▸ hk)))).trans (h.block k hk hs)⟩
theorem Only.setRow {S : Nat -> Prop} {a w : World} (h : Only S a w) {g : Nat} (hp : g < a.heap.size -> S g) (c : Array Value) : Only S a (w.setRow g c) :=
 ⟨h.os, h.tape, h.output, by simpa [World.setRow] using h.size, fun k hk hs => (setRow_other w g k c (fun e => hs (e ▸ hp (e ▸ hk)))).trans (h.block k hk hs)⟩
theorem Only.drew1 {S : Nat -> Prop} {a w : World} (h : Only S a w) : Only S a ({ w with drawn := w.drawn + 1 } : World) := ⟨h.os, h.tape, h.output, h.size, h.block⟩
theorem Only.drew {S : Nat -> Prop} {a w : World} (h : Only S a w) : Only S a w.drew := ⟨h.os, h.tape, h.output, h.size, h.block⟩
theorem Only.drewN {S : Nat -> Prop} {a w : World} (h : Only S a w) (n : Nat) : Only S a (w.drewN n) := ⟨h.os, h.tape, h.output, h.size, h.block⟩
theorem Only.grown {S : Nat -> Prop} {a w w' : World} {row : Option Nat} (h : Only S a w) (hg : w.grownBy w' row) (hr : ∀ k, row = some k -> k < a.heap.size -> S k) : Only S a w' :=
 h.trans (T := fun k => some k = row) ⟨hg.os, hg.tape, hg.output, hg.size, fun k hk hne => hg.block k hk hne⟩ fun x hx e => hr x e.symm hx
theorem Only.below {S : Nat -> Prop} {a w : World} {B : Nat} (h : Only S a w) (hB : B <= a.heap.size) (hS : ∀ k, S k -> B <= k) : Below B a w :=
 ⟨h.os, h.tape, h.output, h.size, fun k hk => h.block k (Nat.lt_of_lt_of_le hk hB) (fun hs => by have := hS k hs; omega)⟩
theorem Only.heap {S : Nat -> Prop} {a w : World} (h : Only S a w) {k : Nat} {o : Obj} (ho : a.heap[k]? = some o) (hk : ¬ S k) : w.heap[k]? = some o :=
 (h.block k (lt_of_block ho) hk).trans ho
theorem Only.cell {S : Nat -> Prop} {a w : World} (h : Only S a w) {p : Addr} {v : Value} (hv : a.cell? p = some v) (hk : ¬ S p.block) : w.cell? p = some v :=
 (World.cell?_of_block (h.block _ (World.block_lt_of_cell? a p hv) hk)).trans hv
theorem zAS (w : World) (o : Obj) : (w.alloc o).heap.size = w.heap.size + 1 := by simp
theorem zAB (w : World) (o : Obj) {X : Nat} (h : w.heap.size = X) : (w.alloc o).heap[X]? = some o := by rw [<- h]; exact heap_alloc_new _ _
theorem zAF {w : World} {k : Nat} {o : Obj} (h : w.heap[k]? = some o) (o' : Obj) : (w.alloc o').heap[k]? = some o := (Below.heap_alloc w o' k (lt_of_block h)).trans h
theorem zAH {w : World} {k : Nat} {o : Obj} (h : w.heap[k]? = some o) {p : Addr} (hp : k ≠ p.block) (u : Value) : (w.setCell p u).heap[k]? = some o := (Below.heap_setCell w p u k hp).trans h
theorem zAA {w : World} {g : Nat} {L : List Value} {e : TypeId} (h : w.heap[g]? = some (.cells L.toArray e (0, 0))) {i : Nat} {v : Value} (hv : L[i]? = some v) : w.cell? ⟨g, i, none⟩ = some v := by
 simpa [World.cell?, h] using hv
theorem zAC {w : World} {g : Nat} {L : List Value} {e : TypeId} (h : w.heap[g]? = some (.cells L.toArray e (0, 0))) (i : Nat) : w.frozen? ⟨g, i, none⟩ = false := by
 simp [World.frozen?, h]
theorem zAE {w : World} {g : Nat} {L : List Value} {e : TypeId} (h : w.heap[g]? = some (.cells L.toArray e (0, 0))) (i : Nat) (v : Value) : (w.setCell ⟨g, i, none⟩ v).heap[g]? = some (.cells (L.set i v).toArray e (0, 0)) := by
 have := heap_setCell_same w g i L.toArray e v h
 simpa using this
theorem zAG {w : World} {g : Nat} {o : Obj} (h : w.heap[g]? = some o) : g < w.heap.size := lt_of_block h
theorem zB7 {P : Program} {w : World} {ops : Array Oper} {rest : List Oper} {o : Oper} {a : Act} {Q : Exit -> Act -> World -> Prop}
  (hg : o.guard = none) (l c : Operand) (t : TypeId) (hop : o.op = Op.makeSlice t l c) (e : TypeId) (z : Value) (bytes : Nat) (ht : P.underlying t = some (.slice e))
  (kF : (P.info? e).map (fun i => (i.zero, i.size, i.bytes)) = some (some z, 1, bytes)) (hz1 : z.cells = #[z]) (kl kc : IntKind) (L C : Int) (n : Nat) (hl : a.eval l = .int kl L) (hc : a.eval c = .int kc C) (hL : L = (n : Int)) (hC : C = (n : Int))
  (hbytes : bytes * n <= 281474976710656) (h63 : n <= 9223372036854775807)
  (hK : wpList P ops Q rest (a.put o.dst (.slice (some ⟨w.heap.size, 0, none⟩) n n)) (w.alloc (.cells (List.replicate n z).toArray e))) : wpList P ops Q (o :: rest) a w := by
 refine wpList_plain hg fun K hK' => ?_
 subst hL
 subst hC
 have hrun := run_make_row' (P := P) t e z bytes ht kF hz1 kl kc n hbytes h63 w
 have hm : madeCells #[z] n = (List.replicate n z).toArray := by rw [<- toList_madeCells_one z n]
 rw [hm] at hrun
 unfold Oper.wp
 simp only [execOp, hop, hl, hc]
 simp [hrun, Result.andThen]
 exact hK' _ _ hK
theorem zBL {P : Program} (w : World) (t e : TypeId) (z : Value) (bytes : Nat) (ht : P.underlying t = some (.slice e)) (kF : (P.info? e).map (fun i => (i.zero, i.size, i.bytes)) = some (some z, 1, bytes)) (hz1 : z.cells = #[z]) (n : Nat)
  (hbytes : bytes * n <= 281474976710656) (h63 : n <= 9223372036854775807) :
  Sem.run P (Instr.makeSlice t (.int .i64 n) (.int .i64 n)) w = .ok (.slice (some ⟨w.heap.size, 0, none⟩) n n) (w.alloc (.cells (List.replicate n z).toArray e)) := by
 have hrun := run_make_row' (P := P) t e z bytes ht kF hz1 .i64 .i64 n hbytes h63 w
 have hm : madeCells #[z] n = (List.replicate n z).toArray := by rw [<- toList_madeCells_one z n]
 rw [hm] at hrun
 exact hrun
theorem zDN {w : World} {g : Nat} {L : List Value} {e : TypeId} (h : w.heap[g]? = some (.cells L.toArray e (0, 0))) (first m : Nat) : ∀ j v, ((L.drop first).take m)[j]? = some v -> w.cell? ((⟨g, first, none⟩ : Addr).add j) = some v := by
 intro j v hv
 rw [Addr.add_lit]
 refine zAA h ?_
 rw [List.getElem?_take] at hv
 split at hv
 ·rwa [List.getElem?_drop] at hv
 ·cases hv
theorem zBJ {P : Program} {w : World} {ops : Array Oper} {rest : List Oper} {o : Oper} {a : Act} {Q : Exit -> Act -> World -> Prop} (hgd : o.guard = none) (d s : Operand) (dT sT : TypeId)
  (ho : o.op = .call { callee := .builtin .copy, args := #[d, s], argTypes := #[dT, sT] }) (elem : TypeId) (hu : P.underlying dT = some (.slice elem)) (hsz : (P.info? elem).map (·.size) = some 1)
  (dp sp : Option Addr) (vV vX sLen wG : Nat) (hd : a.eval d = .slice dp vV vX) (hs : a.eval s = .slice sp sLen wG)
  (g off : Nat) (cur : List Value) (t : TypeId) (hg : w.heap[g]? = some (.cells cur.toArray t (0, 0))) (cs : List Value) (hn : cs.length = Nat.min sLen vV)
  (kV : 0 < cs.length -> dp = some ⟨g, off, none⟩ /\ ∃ ad, sp = some ad /\ ∀ j v, cs[j]? = some v -> w.cell? (ad.add j) = some v)
  (wL : off + cs.length <= cur.length) (h1 : ∀ v ∈ cs, v.oneCell' = true)
  (h : ∀ w', Hid (w'.heap[g]? = some (.cells (splice cur off cs).toArray t (0, 0))) -> Only (fun k => k = g) w w' -> wpList P ops Q rest (a.put o.dst (goInt cs.length)) w') :
  wpList P ops Q (o :: rest) a w := by
 by_cases h0 : cs.length = 0
 ·obtain rfl : cs = [] := List.eq_nil_of_length_eq_zero h0
  refine wpList_copy_nothing hgd d s dT sT ho elem hu hsz dp sp vV vX sLen wG hd hs (by simpa using hn.symm) ?_
  exact h w (show _ = _ by simpa [splice] using hg) (Only.refl _ _)
 ·obtain ⟨rfl, ad, rfl, vK⟩ := kV (by omega)
  refine wpList_copy_own hgd d s dT sT ho elem hu hsz g off vV vX ad sLen wG hd hs cur.toArray t hg cs hn vK (by simpa using wL) h1 ?_
  exact h _ (show _ = _ by simpa [splice] using setRow_heap w g _ _ t _ hg) ((Only.refl (fun k => k = g) w).setRow (fun _ => rfl) _)
theorem zC8 {P : Program} (w : World) (dT sT ty elem : TypeId) (hu : P.underlying dT = some (.slice elem)) (hsz : (P.info? elem).map (·.size) = some 1) (dp sp : Option Addr) (vV vX sLen wG : Nat)
  (g off : Nat) (cur : List Value) (t : TypeId) (hg : w.heap[g]? = some (.cells cur.toArray t (0, 0))) (cs : List Value) (hn : cs.length = Nat.min sLen vV)
  (kV : 0 < cs.length -> dp = some ⟨g, off, none⟩ /\ ∃ ad, sp = some ad /\ ∀ j v, cs[j]? = some v -> w.cell? (ad.add j) = some v)
  (wL : off + cs.length <= cur.length) (h1 : ∀ v ∈ cs, v.oneCell' = true) :
  ∃ w', Sem.run P (Builtin.copy_ #[dT, sT] ty #[.slice dp vV vX, .slice sp sLen wG]) w = .ok (goInt cs.length) w' /\ w'.heap[g]? = some (.cells (splice cur off cs).toArray t (0, 0)) /\ Only (fun k => k = g) w w' := by
 by_cases h0 : cs.length = 0
 ·obtain rfl : cs = [] := List.eq_nil_of_length_eq_zero h0
  exact ⟨w, run_copy_none (P := P) w dT sT ty elem dp sp vV vX sLen wG hu hsz (by simpa using hn.symm), by simpa [splice] using hg, Only.refl _ w⟩
 ·obtain ⟨rfl, ad, rfl, vK⟩ := kV (by omega)
  exact ⟨_, run_copy_row (P := P) w dT sT ty elem g off vV vX ad sLen wG cur.toArray t cs hu hsz hg hn vK (by simpa using wL) h1, by simpa [splice] using setRow_heap w g _ _ t _ hg, (Only.refl (fun k => k = g) w).setRow (fun _ => rfl) _⟩
theorem zAL {P : Program} {f : FuncId} {args : Array Value} {w : World} {a n : Nat} {v : Value}
  (h : Calls P f args (w.drewN (a + n)) fun e w' => e = .returned v /\ ∃ m, w' = (w.drewN (a + n)).drewN m) : Calls P f args (w.drewN (a + n)) fun e w'' => e = .returned v /\ ∃ m, w'' = w.drewN (a + m) :=
 h.mono fun _ _ ⟨he, m, hm⟩ => ⟨he, n + m, by rw [hm, World.drewN_drewN, Nat.add_assoc]⟩
theorem zB9 {P : Program} {f : FuncId} {args : Array Value} {w : World} {a n : Nat} {v : Value}
  (h : Calls P f args (w.drewN (a + n)) fun e w' => e = .returned v /\ w' = w.drewN (a + n)) : Calls P f args (w.drewN (a + n)) fun e w'' => e = .returned v /\ ∃ m, w'' = w.drewN (a + m) :=
 h.mono fun _ _ ⟨he, hm⟩ => ⟨he, n, hm⟩
theorem cell_of_heap {w w' : World} (h : w'.heap = w.heap) (p : Addr) : w'.cell? p = w.cell? p := by simp [World.cell?, h]
theorem zJ5 (w : World) (n : Nat) : (w.drewN n).heap = w.heap := rfl
def Win (w : World) (e : TypeId) (sz : Nat) (v : Value) (h : Option Nat) (n : Nat) (xs : List Value) : Prop :=
 xs.length = n * sz /\ ∃ (p : Option Addr) (cap : Nat), v = .slice p n cap /\ n <= cap /\ cap <= maxLen /\
  ((h = none /\ cap = 0) ∨ ∃ (g off : Nat) (L : List Value), h = some g /\ p = some ⟨g, off, none⟩ /\ w.heap[g]? = some (.cells L.toArray e (0, 0)) /\ off + cap * sz <= L.length /\ (L.drop off).take (n * sz) = xs)
section
variable {w w' : World} {e : TypeId} {sz n : Nat} {v : Value} {h : Option Nat} {xs : List Value}
theorem Win.nil (w : World) (e : TypeId) (sz : Nat) : Win w e sz (.slice none 0 0) none 0 [] := ⟨by simp, none, 0, rfl, Nat.le_refl _, Nat.zero_le _, .inl ⟨rfl, rfl⟩⟩
theorem Win.kept {S : Nat -> Prop} (hW : Win w e sz v h n xs) (ho : Only S w w') (hS : ∀ k, h = some k -> ¬ S k) : Win w' e sz v h n xs := by
 obtain ⟨hl, p, cap, hv, h1, h2, h3⟩ := hW
 refine ⟨hl, p, cap, hv, h1, h2, ?_⟩
 rcases h3 with h3 | ⟨g, off, L, hg, hp, hh, h4, h5⟩
 ·exact .inl h3
 ·exact .inr ⟨g, off, L, hg, hp, ho.heap hh (hS g hg), h4, h5⟩
theorem Win.lt (hW : Win w e sz v h n xs) : ∀ k, h = some k -> k < w.heap.size := by
 obtain ⟨hl, p, cap, hv, h1, h2, h3⟩ := hW
 intro k hk
 rcases h3 with h3 | ⟨g, off, L, hg, hp, hh, h4, h5⟩
 ·rw [h3.1] at hk; cases hk
 ·rw [hg] at hk; cases hk; exact zAG hh
theorem Win.form (hW : Win w e sz v h n xs) : ∃ p cap, v = .slice p n cap /\ n <= cap /\ cap <= maxLen := by
 obtain ⟨hl, p, cap, hv, h1, h2, h3⟩ := hW
 exact ⟨p, cap, hv, h1, h2⟩
theorem Win.at_ (hW : Win w e sz v h n xs) (hn : 0 < n) : ∃ g off cap, h = some g /\ v = .slice (some ⟨g, off, none⟩) n cap /\ n <= cap /\ cap <= maxLen /\ g < w.heap.size /\ (∀ i u, xs[i]? = some u -> w.cell? ⟨g, off + i, none⟩ = some u) /\ ∀ i, w.frozen? ⟨g, i, none⟩ = false := by
 obtain ⟨hl, p, cap, hv, h1, h2, h3⟩ := hW
 rcases h3 with h3 | ⟨g, off, L, hg, hp, hh, h4, h5⟩
 ·omega
 ·subst hp
  refine ⟨g, off, cap, hg, hv, h1, h2, zAG hh, fun i u hu => ?_, fun i => zAC hh i⟩
  refine zAA hh ?_
  rw [<- h5, List.getElem?_take] at hu
  split at hu
  ·rwa [List.getElem?_drop] at hu
  ·cases hu
theorem Win.of_owns {base : Nat} (ho : w.ownsRow base e sz v n xs) : ∃ h, Win w e sz v h n xs /\ ∀ g, h = some g -> base <= g := by
 obtain ⟨hl, hn | ⟨g, cap, cur, rfl, hb, hg, hnc, hcm, hcs, vG⟩⟩ := ho
 ·obtain ⟨rfl, rfl⟩ := hn
  obtain rfl : xs = [] := List.eq_nil_of_length_eq_zero (by simpa using hl)
  exact ⟨none, Win.nil w e sz, fun g hg => by cases hg⟩
 ·refine ⟨some g, ⟨hl, _, cap, rfl, hnc, hcm, .inr ⟨g, 0, cur.toList, rfl, rfl, by simpa using hg, ?_, by simpa using vG⟩⟩, fun g' hg' => by cases hg'; exact hb⟩
  simp [hcs]
theorem Win.of_row {g : Nat} {L : List Value} (hh : w.heap[g]? = some (.cells L.toArray e (0, 0))) (hL : L.length = n * sz) (hn : n <= maxLen) : Win w e sz (.slice (some ⟨g, 0, none⟩) n n) (some g) n L :=
 ⟨hL, _, n, rfl, Nat.le_refl _, hn, .inr ⟨g, 0, L, rfl, rfl, hh, by omega, by simpa using List.take_of_length_le (by omega)⟩⟩
theorem Win.empty (w : World) (e : TypeId) (sz : Nat) (p : Option Addr) : Win w e sz (.slice p 0 0) none 0 [] := ⟨by simp, p, 0, rfl, Nat.le_refl _, Nat.zero_le _, .inl ⟨rfl, rfl⟩⟩
theorem Win.src {p : Option Addr} {cap : Nat} (hW : Win w e sz (.slice p n cap) h n xs) : 0 < n -> ∃ ad, p = some ad /\ ∀ j u, xs[j]? = some u -> w.cell? (ad.add j) = some u := fun hn => by
 obtain ⟨g, off, cap', _, e, _, _, _, hc, _⟩ := hW.at_ hn
 cases e
 exact ⟨_, rfl, fun j u hu => by rw [Addr.add_lit]; exact hc j u hu⟩
theorem Win.drop {p : Option Addr} {cap k : Nat} (hW : Win w e sz (.slice p n cap) h n xs) (hk : k <= n) :
  ∃ h', Win w e sz (.slice (if cap = k then p else p.map (·.add (k * sz))) (n - k) (cap - k)) h' (n - k) (xs.drop (k * sz)) /\ (h' = h ∨ h' = none) := by
 obtain ⟨hl, p', cap', hv, h1, h2, h3⟩ := hW
 simp only [Value.slice.injEq, true_and] at hv
 obtain ⟨rfl, rfl⟩ := hv
 have hl' : (xs.drop (k * sz)).length = (n - k) * sz := by rw [List.length_drop, hl, Nat.sub_mul]
 by_cases hc : cap = k
 ·refine ⟨none, ⟨hl', _, _, rfl, by omega, by omega, .inl ⟨rfl, by omega⟩⟩, .inr rfl⟩
 ·rcases h3 with h3 | ⟨g, off, L, hg, hp, hh, h4, h5⟩
  ·omega
  ·subst hp
   refine ⟨h, ⟨hl', _, _, rfl, by omega, by omega, .inr ⟨g, off + k * sz, L, hg, ?_, hh, ?_, ?_⟩⟩, .inl rfl⟩
   ·rw [if_neg hc]
    simp [Addr.add_lit]
   ·rw [Nat.add_assoc, <- Nat.add_mul, show k + (cap - k) = cap by omega]
    exact h4
   ·rw [<- h5, List.drop_take, <- Nat.sub_mul, List.drop_drop]
theorem Win.take {p : Option Addr} {cap k : Nat} (hW : Win w e sz (.slice p n cap) h n xs) (hk : k <= n) :
  Win w e sz (.slice p k cap) h k (xs.take (k * sz)) := by
 obtain ⟨hl, p', cap', hv, h1, h2, h3⟩ := hW
 simp only [Value.slice.injEq, true_and] at hv
 obtain ⟨rfl, rfl⟩ := hv
 have hks : k * sz <= n * sz := Nat.mul_le_mul_right _ hk
 refine ⟨by rw [List.length_take, hl]; omega, _, _, rfl, by omega, h2, ?_⟩
 rcases h3 with h3 | ⟨g, off, L, hg, hp, hh, h4, h5⟩
 ·exact .inl h3
 ·exact .inr ⟨g, off, L, hg, hp, hh, h4, by rw [<- h5, List.take_take]; congr 1; omega⟩
end
def jK {α : Type} : List α -> Nat -> List α -> List α
 | L, _, [] => L
 | L, o, v :: r => jK (L.set o v) (o + 1) r
theorem zAY {α : Type} : ∀ (vs : List α) (o : Nat) (L : List α), (jK L o vs).length = L.length
 | [], _, _ => rfl
 | v :: r, o, L => by rw [jK, zAY r]; simp
theorem zA1 {α : Type} : ∀ (vs : List α) (o : Nat) (L : List α) (i : Nat), i < o ∨ o + vs.length <= i -> (jK L o vs)[i]? = L[i]?
 | [], _, _, _, _ => rfl
 | v :: r, o, L, i, h => by
  rw [jK, zA1 r (o + 1) _ i (by simp at h; omega), List.getElem?_set_ne (by simp at h; omega)]
theorem zBC {α : Type} : ∀ (vs : List α) (o : Nat) (L : List α) (j : Nat), j < vs.length -> o + vs.length <= L.length -> (jK L o vs)[o + j]? = vs[j]?
 | [], _, _, j, hj, _ => by simp at hj
 | v :: r, o, L, 0, _, hL => by
  rw [jK, zA1 r (o + 1) _ _ (by omega), Nat.add_zero, List.getElem?_set_self (by simp at hL; omega)]
  rfl
 | v :: r, o, L, j + 1, hj, hL => by
  rw [jK, show o + (j + 1) = o + 1 + j by omega, zBC r (o + 1) _ j (by simpa using hj) (by simp at hL ⊢; omega)]
  rfl
theorem zA2 {g : Nat} {e : TypeId} : ∀ (vs : List Value) (o : Nat) (w : World) (L : List Value), w.heap[g]? = some (.cells L.toArray e (0, 0)) -> (w.setCells g o vs).heap[g]? = some (.cells (jK L o vs).toArray e (0, 0))
 | [], _, _, _, h => h
 | v :: r, o, w, L, h => by
  rw [World.setCells, jK]
  exact zA2 r (o + 1) _ _ (zAE h o v)
theorem zA3 {g : Nat} : ∀ (vs : List Value) (o : Nat) (w : World), Only (fun k => k = g) w (w.setCells g o vs)
 | [], _, w => Only.refl _ w
 | v :: r, o, w => ((Only.refl (fun k => k = g) w).setCell (p := ⟨g, o, none⟩) (fun _ => rfl) v).trans' (zA3 r (o + 1) _)
theorem zGZ {L xs news : List Value} {off a : Nat} (hx : (L.drop off).take a = xs) (hxl : xs.length = a) (hL : off + a + news.length <= L.length) :
  ((jK L (off + a) news).drop off).take (a + news.length) = xs ++ news := by
 apply List.ext_getElem?
 intro i
 rw [List.getElem?_take]
 by_cases hi : i < a + news.length
 ·rw [if_pos hi, List.getElem?_drop, List.getElem?_append]
  by_cases ha : i < a
  ·rw [if_pos (by omega), zA1 _ _ _ _ (by omega), <- hx, List.getElem?_take, if_pos ha, List.getElem?_drop]
  ·rw [if_neg (by omega), hxl, <- zBC news (off + a) L (i - a) (by omega) (by omega)]
   congr 1
   omega
 ·rw [if_neg hi, List.getElem?_eq_none (by simp; omega)]
theorem zCL {w W0 w1 : World} {h h1 : Option Nat} (o0 : Only (fun _ => False) w W0) (hO : Only (fun k => some k = h) W0 w1) (hf : ∀ k, h = some k -> w.heap.size <= k) (hh : h1 = h ∨ ∃ g, h1 = some g /\ W0.heap.size <= g) :
  Only (fun _ => False) w w1 /\ ∀ k, h1 = some k -> w.heap.size <= k := by
 have hs := o0.size
 refine ⟨o0.trans hO (fun x hx e => by have := hf x e.symm; omega), fun k hk => ?_⟩
 rcases hh with rfl | ⟨g, rfl, hg⟩
 ·exact hf k hk
 ·cases hk; omega
section
variable {P : Program}
theorem zCU (w : World) (t ty e : TypeId) (z : Value) (sz bytes : Nat) (ht : P.underlying t = some (.slice e)) (kF : (P.info? e).map (fun i => (i.zero, i.size, i.bytes)) = some (some z, sz, bytes)) (hzs : z.cells.size = sz) (hsz : 0 < sz)
  {v : Value} {h : Option Nat} {n : Nat} {xs : List Value} (hW : Win w e sz v h n xs) (xp : Option Addr) (m c : Nat) (news : List Value) (hl : news.length = m * sz)
  (vK : 0 < m -> ∃ ad, xp = some ad /\ ∀ j u, news[j]? = some u -> w.cell? (ad.add j) = some u) (h1 : ∀ u ∈ news, u.oneCell' = true) (h63 : n + m <= maxLen) (hbytes : (n + m) * bytes <= 140737488355328) :
  ∃ v' w' h', (Builtin.append_ #[t, t] ty #[v, .slice xp m c]).run P w = .ok v' w' /\ Win w' e sz v' h' (n + m) (xs ++ news) /\ Only (fun k => some k = h) w w' /\ (h' = h ∨ ∃ g, h' = some g /\ w.heap.size <= g) := by
 obtain ⟨i, hi, hz, hs, hb⟩ : ∃ i, P.info? e = some i /\ i.zero = some z /\ i.size = sz /\ i.bytes = bytes := by
  obtain ⟨i, hi, hzz⟩ := Option.map_eq_some_iff.1 kF
  simp only [Prod.mk.injEq] at hzz
  exact ⟨i, hi, hzz.1, hzz.2.1, hzz.2.2⟩
 have hW' := hW
 obtain ⟨hxl, p, cap, rfl, hnc, hcm, h3⟩ := hW
 by_cases hm : m = 0
 ·subst hm
  obtain rfl : news = [] := List.eq_nil_of_length_eq_zero (by simpa using hl)
  refine ⟨.slice p n cap, w, h, ?_, by simpa using hW', Only.refl _ _, .inl rfl⟩
  cases p <;> cases xp <;> simp [Builtin.append_, run_underlying ht, sizeOf, typeInfo, hi, Builtin.lenOf, Builtin.firstCells, hnc, storeCells, loadCells, loadCellsFrom]
 ·obtain ⟨ad, rfl, jY⟩ := vK (by omega)
  rcases h3 with ⟨rfl, rfl⟩ | ⟨g, off, L, rfl, rfl, hg, h4, h5⟩
  ·obtain rfl : n = 0 := by omega
   obtain rfl : xs = [] := List.eq_nil_of_length_eq_zero (by simpa using hxl)
   have key : ∃ v' w', (Builtin.append_ #[t, t] ty #[.slice p 0 0, .slice (some ad) m c]).run P w = .ok v' w' /\ w'.ownsRow w.heap.size e sz v' (0 + m) ([] ++ news) /\ w.grownBy w' none := by
    cases p with
    | none =>
     obtain ⟨v', w', r1, r2, r3, _⟩ := run_append_own (P := P) w w.heap.size t ty e i z sz bytes ht hi hz hs hb hzs hsz (.slice none 0 0) 0 [] (World.ownsRow_nil w _ e sz) ad m c news hl jY h1 h63 hbytes (Nat.le_refl _)
     exact ⟨v', w', r1, r2, r3⟩
    | some b => exact run_append_arg_grows (P := P) w t ty e i z sz bytes ht hi hz hs hb hzs hsz b 0 0 [] (by simp) (fun j u hu => by simp at hu) ad m c news hl jY (by omega) h63 hbytes
   obtain ⟨v', w', r1, r2, r3⟩ := key
   obtain ⟨h', hw', hge⟩ := Win.of_owns r2
   refine ⟨v', w', h', r1, hw', (Only.refl _ w).grown r3 (fun k hk => by cases hk), ?_⟩
   cases h' with
   | none => exact .inl rfl
   | some g => exact .inr ⟨g, rfl, hge g rfl⟩
  ·have hxs : ∀ j u, xs[j]? = some u -> w.cell? ((⟨g, off, none⟩ : Addr).add j) = some u := by
    intro j u hu
    rw [Addr.add_lit]
    refine zAA hg ?_
    rw [<- h5, List.getElem?_take] at hu
    split at hu
    ·rwa [List.getElem?_drop] at hu
    ·cases hu
   by_cases hr : n + m <= cap
   ·have wL : off + n * sz + news.length <= L.length := by
     have : (n + m) * sz <= cap * sz := Nat.mul_le_mul_right _ hr
     rw [Nat.add_mul] at this
     omega
    subst hs
    have hrun := run_append_room_cells (P := P) w t ty e i ht hi g off n cap ad m c news hl jY h1 hr (fun j hj => by
     rw [zAA hg (v := L[off + n * i.size + j]'(by omega)) (List.getElem?_eq_getElem _)]; rfl) (fun j hj => zAC hg _)
    refine ⟨_, _, some g, hrun, ⟨by rw [List.length_append, hxl, hl, Nat.add_mul], _, cap, rfl, hr, hcm, .inr ⟨g, off, _, rfl, rfl, zA2 news _ w L hg, ?_, ?_⟩⟩, ?_, .inl rfl⟩
    ·rw [zAY]
     exact h4
    ·rw [Nat.add_mul, <- hl]
     exact zGZ h5 hxl wL
    ·exact (zA3 news _ w).mono (fun x _ e => by rw [e])
   ·obtain ⟨v', w', r1, r2, r3⟩ := run_append_arg_grows (P := P) w t ty e i z sz bytes ht hi hz hs hb hzs hsz ⟨g, off, none⟩ n cap xs hxl hxs ad m c news hl jY (by omega) h63 hbytes
    obtain ⟨h', hw', hge⟩ := Win.of_owns r2
    refine ⟨v', w', h', r1, hw', (Only.refl _ w).grown r3 (fun k hk => by cases hk), ?_⟩
    cases h' with
    | none =>
     exfalso
     obtain ⟨_, p', cap', _, q1, _, q3⟩ := hw'
     rcases q3 with ⟨_, q4⟩ | ⟨g', _, _, q4, _⟩
     ·omega
     ·cases q4
    | some g' => exact .inr ⟨g', rfl, hge g' rfl⟩
theorem zAP {w : World} {ops : Array Oper} {rest : List Oper} {o : Oper} {a : Act} {Q : Exit -> Act -> World -> Prop} (hgd : o.guard = none) (s x : Operand) (t : TypeId)
  (hop : o.op = Op.call { callee := Callee.builtin Builtin.append, args := #[s, x], argTypes := #[t, t] }) (e : TypeId) (z : Value) (sz bytes : Nat) (ht : P.underlying t = some (.slice e))
  (kF : (P.info? e).map (fun i => (i.zero, i.size, i.bytes)) = some (some z, sz, bytes)) (hzs : z.cells.size = sz) (hsz : 0 < sz)
  {v : Value} {h : Option Nat} {n : Nat} {xs : List Value} (hs : a.eval s = v) (hW : Win w e sz v h n xs) (xp : Option Addr) (m c : Nat) (hx : a.eval x = .slice xp m c) (news : List Value) (hl : news.length = m * sz)
  (vK : 0 < m -> ∃ ad, xp = some ad /\ ∀ j u, news[j]? = some u -> w.cell? (ad.add j) = some u) (h1 : ∀ u ∈ news, u.oneCell' = true) (h63 : n + m <= maxLen) (hbytes : (n + m) * bytes <= 140737488355328)
  (hK : ∀ v' w' h', Hid (Win w' e sz v' h' (n + m) (xs ++ news)) -> Hid (Only (fun k => some k = h) w w') -> Hid (h' = h ∨ ∃ g, h' = some g /\ w.heap.size <= g) -> wpList P ops Q rest (a.put o.dst v') w') : wpList P ops Q (o :: rest) a w := by
 refine wpList_plain hgd fun K hK' => ?_
 obtain ⟨v', w', h', hrun, r1, r2, r3⟩ := zCU (P := P) w t o.type e z sz bytes ht kF hzs hsz hW xp m c news hl vK h1 h63 hbytes
 unfold Oper.wp
 simp [execOp, hop, resolve, invoke, builtin, hs, hx, hrun, Result.andThen]
 exact hK' _ _ (hK v' w' h' r1 r2 r3)
theorem zBE {w : World} {ops : Array Oper} {o : Oper} {a : Act} {K : Act -> World -> Prop} {Q : Exit -> Act -> World -> Prop} {E : Prop} (hgd : o.guard = none) (s x : Operand) (t : TypeId)
  (hop : o.op = Op.call { callee := Callee.builtin Builtin.append, args := #[s, x], argTypes := #[t, t] }) (e : TypeId) (z : Value) (sz bytes : Nat) (ht : P.underlying t = some (.slice e))
  (kF : (P.info? e).map (fun i => (i.zero, i.size, i.bytes)) = some (some z, sz, bytes)) (hzs : z.cells.size = sz) (hsz : 0 < sz)
  {v : Value} {h : Option Nat} {n : Nat} {xs : List Value} (hs : a.eval s = v) (hW : Win w e sz v h n xs) (xp : Option Addr) (m c : Nat) (hx : a.eval x = .slice xp m c) (news : List Value) (hl : news.length = m * sz)
  (vK : 0 < m -> ∃ ad, xp = some ad /\ ∀ j u, news[j]? = some u -> w.cell? (ad.add j) = some u) (h1 : ∀ u ∈ news, u.oneCell' = true) (h63 : n + m <= maxLen) (hbytes : (n + m) * bytes <= 140737488355328)
  (hK : ∀ v' w' h', Hid (Win w' e sz v' h' (n + m) (xs ++ news)) -> Hid (Only (fun k => some k = h) w w') -> Hid (h' = h ∨ ∃ g, h' = some g /\ w.heap.size <= g) -> K (a.put o.dst v') w') :
  if Region.wanted o (yielded ops a.tmps) = true then Oper.wp P o a w K Q else E := by
 have hw : Region.wanted o (yielded ops a.tmps) = true := by simp [Region.wanted, hgd]
 rw [if_pos hw]
 obtain ⟨v', w', h', hrun, r1, r2, r3⟩ := zCU (P := P) w t o.type e z sz bytes ht kF hzs hsz hW xp m c news hl vK h1 h63 hbytes
 unfold Oper.wp
 simp [execOp, hop, resolve, invoke, builtin, hs, hx, hrun, Result.andThen]
 exact hK v' w' h' r1 r2 r3
theorem step_append_room {w : World} {ops : Array Oper} {o : Oper} {a : Act} {K : Act -> World -> Prop} {Q : Exit -> Act -> World -> Prop} {E : Prop} (hgd : o.guard = none) (s x : Operand) (t : TypeId)
  (hop : o.op = Op.call { callee := Callee.builtin Builtin.append, args := #[s, x], argTypes := #[t, t] }) (e : TypeId) (sz : Nat) (ht : P.underlying t = some (.slice e)) (kF : (P.info? e).map (·.size) = some sz)
  (g off n cap : Nat) (hs : a.eval s = .slice (some ⟨g, off, none⟩) n cap) (ad : Addr) (m c : Nat) (hx : a.eval x = .slice (some ad) m c) (L : List Value) (hg : w.heap[g]? = some (.cells L.toArray e (0, 0)))
  (news : List Value) (hl : news.length = m * sz) (vK : ∀ j u, news[j]? = some u -> w.cell? (ad.add j) = some u) (h1 : ∀ u ∈ news, u.oneCell' = true) (hroom : n + m <= cap) (wL : off + n * sz + news.length <= L.length)
  (hK : ∀ w', Hid (w'.heap[g]? = some (.cells (jK L (off + n * sz) news).toArray e (0, 0))) -> Hid (Only (fun k => k = g) w w') -> K (a.put o.dst (.slice (some ⟨g, off, none⟩) (n + m) cap)) w') :
  if Region.wanted o (yielded ops a.tmps) = true then Oper.wp P o a w K Q else E := by
 have hw : Region.wanted o (yielded ops a.tmps) = true := by simp [Region.wanted, hgd]
 rw [if_pos hw]
 obtain ⟨i, hi, hz⟩ := Option.map_eq_some_iff.1 kF
 subst hz
 have hrun := run_append_room_cells (P := P) w t o.type e i ht hi g off n cap ad m c news hl vK h1 hroom (fun j hj => by
  rw [zAA hg (v := L[off + n * i.size + j]'(by omega)) (List.getElem?_eq_getElem _)]; rfl) (fun j hj => zAC hg _)
 unfold Oper.wp
 simp [execOp, hop, resolve, invoke, builtin, hs, hx, hrun, Result.andThen]
 exact hK _ (zA2 news _ w L hg) (zA3 news _ w)
end
end Go.Proofs.YtlbdjiiddofkgaaGreatDoor
namespace Go.Proofs.YtlbdjiiddofkgaaGreatDoor
namespace Krn
open Go Go.RowKit
section
variable {α : Type} {f : α -> List Value} {sz : Nat}
def rowC (f : α -> List Value) (l : List α) : List Value := l.flatMap f
theorem zBY (a b : List α) : rowC f (a ++ b) = rowC f a ++ rowC f b := by simp [rowC]
theorem zFP (x : α) : rowC f [x] = f x := by simp [rowC]
theorem zBQ (hf : ∀ x, (f x).length = sz) (l : List α) : (rowC f l).length = l.length * sz := by
 induction l with
 | nil => simp [rowC]
 | cons x l ih =>
  rw [show rowC f (x :: l) = f x ++ rowC f l from rfl, List.length_append, ih, hf, List.length_cons, Nat.add_mul]
  omega
theorem zCA (hf : ∀ x, (f x).length = sz) : ∀ (l : List α) (i : Nat) (x : α), l[i]? = some x -> ∀ j, j < sz -> (rowC f l)[i * sz + j]? = (f x)[j]?
 | [], i, x, h, _, _ => by simp at h
 | y :: l, 0, x, h, j, hj => by
  obtain rfl : y = x := by simpa using h
  rw [show rowC f (y :: l) = f y ++ rowC f l from rfl, List.getElem?_append_left (by rw [hf]; omega)]
  congr 1
  omega
 | y :: l, i + 1, x, h, j, hj => by
  rw [show rowC f (y :: l) = f y ++ rowC f l from rfl, List.getElem?_append_right (by rw [hf, Nat.add_mul]; omega), hf]
  have e : (i + 1) * sz + j - sz = i * sz + j := by rw [Nat.add_mul]; omega
  rw [e]
  exact zCA hf l i x (by simpa using h) j hj
theorem zJE (hf : ∀ x, (f x).length = sz) : ∀ (l : List α) (i : Nat) (x y : α) (j : Nat) (u : Value), l[i]? = some x -> j < sz -> f y = (f x).set j u -> (rowC f l).set (i * sz + j) u = rowC f (l.set i y)
 | [], i, x, y, j, u, h, _, _ => by simp at h
 | z :: l, 0, x, y, j, u, h, hj, hy => by
  obtain rfl : z = x := by simpa using h
  rw [show rowC f (z :: l) = f z ++ rowC f l from rfl, List.set_append_left _ _ (by rw [hf]; omega), List.set_cons_zero, show rowC f (y :: l) = f y ++ rowC f l from rfl, hy]
  congr 2
  omega
 | z :: l, i + 1, x, y, j, u, h, hj, hy => by
  rw [show rowC f (z :: l) = f z ++ rowC f l from rfl, List.set_append_right _ _ (by rw [hf, Nat.add_mul]; omega), hf]
  have e : (i + 1) * sz + j - sz = i * sz + j := by rw [Nat.add_mul]; omega
  rw [e, zJE hf l i x y j u (by simpa using h) hj hy, List.set_cons_succ]
  rfl
end
section
variable {w w' : World} {e : TypeId} {sz n : Nat} {v : Value} {o : Option Nat} {xs : List Value}
theorem zEA {g off cap k : Nat} (hW : Win w e sz (.slice (some ⟨g, off, none⟩) n cap) o n xs) (hn : 0 < n) (hk : k < n * sz) (u : Value) : Win (w.setCell ⟨g, off + k, none⟩ u) e sz (.slice (some ⟨g, off, none⟩) n cap) o n (xs.set k u) := by
 obtain ⟨hl, p, cap', hv, h1, h2, h3⟩ := hW
 simp only [Value.slice.injEq, true_and] at hv
 obtain ⟨hp, rfl⟩ := hv
 refine ⟨by rw [List.length_set]; exact hl, _, _, rfl, h1, h2, ?_⟩
 rcases h3 with h3 | ⟨g', off', L, hg, hp', hh, h4, h5⟩
 ·omega
 ·rw [<- hp] at hp'
  simp only [Option.some.injEq, Addr.mk.injEq, and_true] at hp'
  obtain ⟨rfl, rfl⟩ := hp'
  refine .inr ⟨g, off, L.set (off + k) u, hg, rfl, zAE hh _ _, by rw [List.length_set]; exact h4, ?_⟩
  rw [<- h5]
  apply List.ext_getElem?
  intro i
  rw [List.getElem?_take, List.getElem?_set]
  by_cases hi : i < n * sz
  ·rw [if_pos hi, List.getElem?_drop, List.getElem?_set]
   by_cases hik : k = i
   ·subst hik
    have hlen : off + k < L.length := by
     have : n * sz <= cap * sz := Nat.mul_le_mul_right _ h1
     omega
    have hlen2 : k < (List.take (n * sz) (List.drop off L)).length := by rw [List.length_take, List.length_drop]; omega
    rw [if_pos rfl, if_pos rfl, if_pos hlen, if_pos hlen2]
   ·rw [if_neg (by omega), if_neg hik, List.getElem?_take, if_pos hi, List.getElem?_drop]
  ·rw [if_neg hi, if_neg (by omega), List.getElem?_take, if_neg hi]
theorem zBG {α : Type} {f : α -> List Value} {l : List α} (hf : ∀ x, (f x).length = sz) (hW : Win w e sz v o l.length (rowC f l)) {i : Nat} {x : α} (hx : l[i]? = some x) : ∃ g off cap, o = some g /\ v = .slice (some ⟨g, off, none⟩) l.length cap /\ l.length <= cap /\ cap <= maxLen /\ i < l.length /\ g < w.heap.size /\ (∀ j u, (f x)[j]? = some u -> w.cell? ⟨g, off + i * sz + j, none⟩ = some u) /\ ∀ k, w.frozen? ⟨g, k, none⟩ = false := by
 have hi := (List.getElem?_eq_some_iff.1 hx).1
 obtain ⟨g, off, cap, h1, h2, h3, h4, h5, h6, h7⟩ := hW.at_ (by omega)
 refine ⟨g, off, cap, h1, h2, h3, h4, hi, h5, fun j u hu => ?_, h7⟩
 have hj : j < sz := by have := (List.getElem?_eq_some_iff.1 hu).1; rw [hf] at this; exact this
 rw [Nat.add_assoc]
 exact h6 _ _ ((zCA hf l i x hx j hj).trans hu)
theorem zJF {α : Type} {f : α -> List Value} {l : List α} (hf : ∀ x, (f x).length = sz) {g off cap : Nat} (hW : Win w e sz (.slice (some ⟨g, off, none⟩) l.length cap) o l.length (rowC f l)) {i : Nat} {x y : α} (hx : l[i]? = some x) {j : Nat} {u : Value} (hj : j < sz) (hy : f y = (f x).set j u) :
  Win (w.setCell ⟨g, off + i * sz + j, none⟩ u) e sz (.slice (some ⟨g, off, none⟩) (l.set i y).length cap) o (l.set i y).length (rowC f (l.set i y)) := by
 have hi := (List.getElem?_eq_some_iff.1 hx).1
 have hk : i * sz + j < l.length * sz := by
  have : (i + 1) * sz <= l.length * sz := Nat.mul_le_mul_right _ hi
  rw [Nat.add_mul] at this
  omega
 have := zEA hW (by omega) hk u
 rw [zJE hf l i x y j u hx hj hy, <- Nat.add_assoc] at this
 rw [List.length_set]
 exact this
end
