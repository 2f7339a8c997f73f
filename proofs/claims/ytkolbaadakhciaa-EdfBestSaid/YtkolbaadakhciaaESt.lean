/- edf: the stretches. -/
import Derived.Test.YtkolbaadakhciaaEInv
import Derived.Deep.LoopGhost
namespace Go.Proofs.Ytkolbaadakhciaa
namespace Edf
open Go Go.RowKit

def Str.cells (s : Str) : List Value := [.int .i64 (s.p : Int), .int .i64 (s.f : Int), .int .i64 (s.e : Int)]
def strC (S : List Str) : List Value := Krn.rowC Str.cells S
theorem str_len (s : Str) : s.cells.length = 3 := rfl
theorem info71 : (Try.prog.info? 71).map (fun i => (i.zero, i.size, i.bytes)) = some (some (.agg #[.int .i64 0, .int .i64 0, .int .i64 0]), 3, 24) := by kernel_rfl
theorem win_apart {w : World} {e e' : TypeId} {sz n k : Nat} {v : Value} {h : Option Nat} {xs : List Value} {L : List Value} (hW : Win w e sz v h n xs) (hk : w.heap[k]? = some (.cells L.toArray e' (0, 0))) (he : e ≠ e') : h ≠ some k := by
  rintro rfl
  obtain ⟨_, _, _, _, _, _, h3⟩ := hW
  rcases h3 with ⟨h3, _⟩ | ⟨g, off, L', hg, hp, hh, _⟩
  · cases h3
  · cases hg
    rw [hk] at hh
    cases hh
    exact he rfl
theorem row_three {w : World} {X : Nat} {L : List Value} {e : TypeId} (h : w.heap[X]? = some (.cells L.toArray e (0, 0))) : ∀ j u, L[j]? = some u → w.cell? ((⟨X, 0, none⟩ : Addr).add j) = some u := fun j u hu => by
  rw [Addr.add_lit, Nat.zero_add]
  exact row_cell (L := L) h hu
theorem str_one (s : Str) : ∀ u ∈ s.cells, u.oneCell' = true := by
  intro u hu
  simp only [Str.cells, List.mem_cons, List.mem_nil_iff, or_false] at hu
  rcases hu with rfl | rfl | rfl <;> rfl

/-- Memory between two stretches: all of the call's own. -/
structure Mem (w W : World) (r : Nat) (T : Ws) (es : List En) (o : Option Nat) (vc : Value) (hc : Option Nat) (Cm : List Nat) (vt : Value) (ht : Option Nat) (S : List Str) : Prop where
  rt : RAt W r o T es
  hp : HeapFrom es 0 es.length
  c : Win W 3 1 vc hc Cm.length (dat Cm)
  ap : Apart r o hc T.b
  t : Win W 71 3 vt ht S.length (strC S)
  b : w.heap.size ≤ r ∧ w.heap.size ≤ T.b ∧ (∀ k, o = some k → w.heap.size ≤ k) ∧ ∀ k, ht = some k → w.heap.size ≤ k
  on : Only (fun _ => False) w W
theorem Mem.tne {w W : World} {r : Nat} {T : Ws} {es : List En} {o : Option Nat} {vc : Value} {hc : Option Nat} {Cm : List Nat} {vt : Value} {ht : Option Nat} {S : List Str} (h : Mem w W r T es o vc hc Cm vt ht S) : ∀ k, ht = some k → ¬ fq r o T.b k ∧ ¬ hc = some k := fun k hk => by
  obtain ⟨v, h1, h2, h3, h4, h5, h6⟩ := h.rt
  refine ⟨?_, fun e => ?_⟩
  · rintro (e | e | e)
    · exact win_apart h.t h1 (by decide) (hk.trans (by rw [e]))
    · exact h.t.ne h2 (by decide) k hk e.symm
    · exact win_apart h.t h4 (by decide) (hk.trans (by rw [e]))
  · exact h.t.ne h.c (by decide) k hk e.symm
theorem Mem.new {w W W' : World} {r : Nat} {T : Ws} {es : List En} {o : Option Nat} {vc : Value} {hc : Option Nat} {Cm : List Nat} {vt : Value} {ht : Option Nat} {S : List Str} (h : Mem w W r T es o vc hc Cm vt ht S) (ho : Only (fun _ => False) W W') : Mem w W' r T es o vc hc Cm vt ht S :=
  ⟨h.rt.new ho, h.hp, h.c.kept ho (fun _ _ h => h), h.ap, h.t.kept ho (fun _ _ h => h), h.b, h.on.trans' ho⟩
/-- Some are let in. -/
theorem Mem.lets {w W W' : World} {r now : Nat} {T : Ws} {es : List En} {o : Option Nat} {vc : Value} {hc : Option Nat} {Cm : List Nat} {vt : Value} {ht : Option Nat} {S : List Str} {e : Ending} (h : Mem w W r T es o vc hc Cm vt ht S) (he : LetEnd W r o T es Cm now e W') :
    ∃ o' es' v' hc' Tk Cm', e = .returned v' ∧ Cm = Tk ++ Cm' ∧ List.Perm es' (es ++ Tk.map (enOf T.l)) ∧ (∀ i ∈ Tk, rl T.l i ≤ now) ∧ (∀ i, Cm'.head? = some i → now < rl T.l i) ∧ Mem w W' r T es' o' v' hc' Cm' vt ht S := by
  obtain ⟨o', es', v', hc', Tk, Cm', h1, h2, h3, h4, h5, h6, h7, h8, h9, h10, h11⟩ := he
  obtain ⟨b1, b2, b3, b4⟩ := h.b
  refine ⟨o', es', v', hc', Tk, Cm', h1, h2, h3, h8, h9, h5, h4, h6, h7, h.t.kept h11 (fun k hk hf => (h.tne k hk).1 (by rcases hf with e | e; exact .inl e; exact .inr (.inl e))), ⟨b1, b2, fun k hk => ?_, b4⟩, ?_⟩
  · rcases h10 with rfl | ⟨g, rfl, hg⟩
    · exact b3 k hk
    · cases hk
      have := h.on.size
      omega
  · refine h.on.trans h11 (fun k hk hf => ?_)
    rcases hf with e | e
    · omega
    · have := b3 k e; omega
/-- One is taken from the heap. -/
theorem Mem.pop {w W W' : World} {r : Nat} {T : Ws} {es : List En} {o : Option Nat} {vc : Value} {hc : Option Nat} {Cm : List Nat} {vt : Value} {ht : Option Nat} {S : List Str} {e : Ending} {x : En} (h : Mem w W r T es o vc hc Cm vt ht S) (he : HPopEnd W r o T es x e W') :
    e = .returned (.iface 3 (.int .i64 (x.n : Int))) ∧ ∃ es', List.Perm (es' ++ [x]) es ∧ Mem w W' r T es' o vc hc Cm vt ht S := by
  obtain ⟨h1, es', h2, h3, h4, h5⟩ := he
  obtain ⟨b1, b2, b3, b4⟩ := h.b
  refine ⟨h1, es', h3, h2, h4, h.c.kept h5 (fun k hk hf => ?_), h.ap, h.t.kept h5 (fun k hk hf => (h.tne k hk).1 (by rcases hf with e | e; exact .inl e; exact .inr (.inl e))), h.b, ?_⟩
  · obtain ⟨a1, a2, a3⟩ := h.ap k hk
    rcases hf with e | e
    · exact a1 e
    · exact a3 e
  · refine h.on.trans h5 (fun k hk hf => ?_)
    rcases hf with e | e
    · omega
    · have := b3 k e; omega
/-- A stretch is told. -/
theorem Mem.tell {w W W' : World} {r : Nat} {T : Ws} {es : List En} {o : Option Nat} {vc : Value} {hc : Option Nat} {Cm : List Nat} {vt v' : Value} {ht h' : Option Nat} {S : List Str} {s : Str} (h : Mem w W r T es o vc hc Cm vt ht S) (hW : Win W' 71 3 v' h' (S.length + 1) (strC S ++ s.cells)) (hO : Only (fun k => some k = ht) W W') (hh : h' = ht ∨ ∃ g, h' = some g ∧ W.heap.size ≤ g) : Mem w W' r T es o vc hc Cm v' h' (S ++ [s]) := by
  obtain ⟨b1, b2, b3, b4⟩ := h.b
  refine ⟨h.rt.kept hO (fun k hk e => (h.tne k e.symm).1 hk), h.hp, h.c.kept hO (fun k hk e => (h.tne k e.symm).2 hk), h.ap, ?_, ⟨b1, b2, b3, fun k hk => ?_⟩, h.on.trans hO (fun k hk e => by have := b4 k e.symm; omega)⟩
  · unfold strC at hW ⊢
    rw [Krn.rowC_append, Krn.rowC_one, List.length_append]
    exact hW
  · rcases hh with rfl | ⟨g, rfl, hg⟩
    · exact b4 k hk
    · cases hk
      have := h.on.size
      omega
/-- It goes on. -/
theorem Mem.go {w W W' : World} {r p m : Nat} {T : Ws} {es : List En} {o : Option Nat} {vc : Value} {hc : Option Nat} {Cm : List Nat} {vt : Value} {ht : Option Nat} {S : List Str} {e : Ending} (h : Mem w W r T es o vc hc Cm vt ht S) (he : GoEnd W r o T es p m e W') :
    e = .returned (.tuple #[]) ∧ ∃ o' es', List.Perm es' (if m < cs T.l p then es ++ [enOf T.l p] else es) ∧ Mem w W' r (spend T p m) es' o' vc hc Cm vt ht S := by
  obtain ⟨h1, o', es', h2, h3, h4, h5, h6⟩ := he
  obtain ⟨b1, b2, b3, b4⟩ := h.b
  refine ⟨h1, o', es', h4, h2, h3, h.c.kept h6 (fun k hk hf => ?_), fun k hk => ?_, h.t.kept h6 (fun k hk hf => (h.tne k hk).1 hf), ⟨b1, b2, fun k hk => ?_, b4⟩, ?_⟩
  · obtain ⟨a1, a2, a3⟩ := h.ap k hk
    rcases hf with e | e | e
    · exact a1 e
    · exact a3 e
    · exact a2 e
  · obtain ⟨a1, a2, a3⟩ := h.ap k hk
    refine ⟨a1, a2, ?_⟩
    rcases h5 with rfl | ⟨g, rfl, hg⟩
    · exact a3
    · intro e
      cases e
      have := h.c.lt k hk
      omega
  · rcases h5 with rfl | ⟨g, rfl, hg⟩
    · exact b3 k hk
    · cases hk
      have := h.on.size
      omega
  · refine h.on.trans h6 (fun k hk hf => ?_)
    rcases hf with e | e | e
    · omega
    · have := b3 k e; omega
    · omega

def StEnd (w : World) (l : List Wk) (e : Ending) (w' : World) : Prop :=
  ∃ v h S t, e = .returned v ∧ Win w' 71 3 v h S.length (strC S) ∧ (∀ g, h = some g → w.heap.size ≤ g) ∧ Told l t S ∧ (∀ q, q < l.length → lef l t q = 0) ∧ S.length ≤ 1048576 * l.length ∧ Only (fun _ => False) w w'
end Edf
end Go.Proofs.Ytkolbaadakhciaa
