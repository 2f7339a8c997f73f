/- Delta's list in memory: nodes that hang on each other behind a head. No conditions beside each theorem's own. -/
import Derived.Test.YtbmegpcdcbfjmaaRows
import Derived.Test.YtbmegpcdcbfjmaaMem
namespace Go.Proofs.Ytbmegpcdcbfjmaa.Delta
open Go.RowKit

/-- A node: its block, its key, its gap. -/
abbrev Nd := Nat × Int × Int
def ptrTo : List Nd → Value → Value
  | [], v => v
  | n :: _, _ => .pointer (some ⟨n.1, 0, none⟩)
def Seg (w : World) : List Nd → Value → Prop
  | [], _ => True
  | n :: r, v => w.heap[n.1]? = some (.cells #[.int .i64 n.2.1, .int .i64 n.2.2, ptrTo r v] 74 (0, 0)) ∧ Seg w r v
def blocks (ns : List Nd) : List Nat := ns.map (·.1)
def prevB (l : Nat) (ns : List Nd) : Nat := ((ns.getLast?).map (·.1)).getD l

theorem ptrTo_nil (v : Value) : ptrTo [] v = v := rfl
theorem ptrTo_cons (n : Nd) (r : List Nd) (v : Value) : ptrTo (n :: r) v = .pointer (some ⟨n.1, 0, none⟩) := rfl
theorem ptrTo_append (p q : List Nd) (v : Value) : ptrTo (p ++ q) v = ptrTo p (ptrTo q v) := by cases p <;> rfl
theorem Seg.append {w : World} : ∀ {p q : List Nd} {v : Value}, Seg w (p ++ q) v ↔ Seg w p (ptrTo q v) ∧ Seg w q v
  | [], q, v => by simp [Seg]
  | n :: p, q, v => by
    rw [List.cons_append, Seg, Seg, ptrTo_append, Seg.append]
    exact ⟨fun ⟨a, b, c⟩ => ⟨⟨a, b⟩, c⟩, fun ⟨⟨a, b⟩, c⟩ => ⟨a, b, c⟩⟩
theorem Seg.kept {S : Nat → Prop} {w w' : World} (ho : Only S w w') : ∀ {ns : List Nd} {v : Value}, Seg w ns v → (∀ b ∈ blocks ns, ¬ S b) → Seg w' ns v
  | [], _, _, _ => trivial
  | n :: r, v, h, hS => ⟨ho.heap h.1 (hS n.1 (by simp [blocks])), Seg.kept ho h.2 (fun b hb => hS b (by simp [blocks] at hb ⊢; exact .inr hb))⟩
theorem Seg.lt {w : World} : ∀ {ns : List Nd} {v : Value}, Seg w ns v → ∀ b ∈ blocks ns, b < w.heap.size
  | [], _, _, b, hb => by simp [blocks] at hb
  | n :: r, v, h, b, hb => by
    rcases List.mem_cons.1 hb with rfl | hb
    · exact row_lt h.1
    · exact Seg.lt h.2 b hb
theorem prevB_nil (l : Nat) : prevB l [] = l := rfl
theorem prevB_concat (l : Nat) (p : List Nd) (n : Nd) : prevB l (p ++ [n]) = n.1 := by simp [prevB]

/-- A head and some nodes, the last of which leads to v. -/
def Part (w : World) (l : Nat) (ns : List Nd) (v : Value) (c : Int) : Prop :=
  (∃ u0 u1, w.heap[l]? = some (.cells #[u0, u1, ptrTo ns v, .int .i64 c] 76 (0, 0))) ∧ Seg w ns v
/-- The whole list. -/
def ListAt (w : World) (l : Nat) (ns : List Nd) : Prop := Part w l ns (.pointer none) ns.length ∧ (l :: blocks ns).Nodup
def fp (l : Nat) (ns : List Nd) : Nat → Prop := fun k => k = l ∨ k ∈ blocks ns

theorem Part.split {w : World} {l : Nat} {p q : List Nd} {v : Value} {c : Int} : Part w l (p ++ q) v c ↔ Part w l p (ptrTo q v) c ∧ Seg w q v := by
  unfold Part
  rw [Seg.append, ptrTo_append]
  exact ⟨fun ⟨a, b, c⟩ => ⟨⟨a, b⟩, c⟩, fun ⟨⟨a, b⟩, c⟩ => ⟨a, b, c⟩⟩
theorem Part.kept {S : Nat → Prop} {w w' : World} {l : Nat} {ns : List Nd} {v : Value} {c : Int} (h : Part w l ns v c) (ho : Only S w w') (hS : ∀ b, fp l ns b → ¬ S b) : Part w' l ns v c := by
  obtain ⟨⟨u0, u1, h1⟩, h2⟩ := h
  exact ⟨⟨u0, u1, ho.heap h1 (hS l (.inl rfl))⟩, h2.kept ho (fun b hb => hS b (.inr hb))⟩
theorem ListAt.kept {S : Nat → Prop} {w w' : World} {l : Nat} {ns : List Nd} (h : ListAt w l ns) (ho : Only S w w') (hS : ∀ b, fp l ns b → ¬ S b) : ListAt w' l ns := ⟨h.1.kept ho hS, h.2⟩
theorem Seg.same {w w' : World} (e : w'.heap = w.heap) : ∀ {ns : List Nd} {v : Value}, Seg w ns v → Seg w' ns v
  | [], _, _ => trivial
  | n :: r, v, h => ⟨by rw [e]; exact h.1, Seg.same e h.2⟩
theorem ListAt.same {w w' : World} {l : Nat} {ns : List Nd} (h : ListAt w l ns) (e : w'.heap = w.heap) : ListAt w' l ns := by
  obtain ⟨⟨⟨u0, u1, h1⟩, h2⟩, h3⟩ := h
  exact ⟨⟨⟨u0, u1, by rw [e]; exact h1⟩, h2.same e⟩, h3⟩
theorem ListAt.lt {w : World} {l : Nat} {ns : List Nd} (h : ListAt w l ns) : ∀ b, fp l ns b → b < w.heap.size := by
  obtain ⟨⟨⟨u0, u1, h1⟩, h2⟩, _⟩ := h
  rintro b (rfl | hb)
  · exact row_lt h1
  · exact h2.lt b hb

/-- What leads on from the last of some nodes. -/
theorem Part.next {w : World} {l : Nat} {ns : List Nd} {v : Value} {c : Int} (h : Part w l ns v c) : w.cell? ⟨prevB l ns, 2, none⟩ = some v ∧ w.frozen? ⟨prevB l ns, 2, none⟩ = false := by
  obtain ⟨⟨u0, u1, h1⟩, h2⟩ := h
  rcases List.eq_nil_or_concat ns with rfl | ⟨p, n, rfl⟩
  · rw [prevB_nil]
    simp [World.cell?, World.frozen?, h1, ptrTo]
  · rw [List.concat_eq_append] at *
    rw [prevB_concat]
    have := (Seg.append.1 h2).2.1
    simp [World.cell?, World.frozen?, this, ptrTo]
theorem Part.count {w : World} {l : Nat} {ns : List Nd} {v : Value} {c : Int} (h : Part w l ns v c) : w.cell? ⟨l, 3, none⟩ = some (.int .i64 c) ∧ w.frozen? ⟨l, 3, none⟩ = false ∧ w.cell? ⟨l, 2, none⟩ = some (ptrTo ns v) ∧ w.frozen? ⟨l, 2, none⟩ = false := by
  obtain ⟨⟨u0, u1, h1⟩, h2⟩ := h
  simp [World.cell?, World.frozen?, h1]
theorem Seg.cells {w : World} {n : Nd} {r : List Nd} {v : Value} (h : Seg w (n :: r) v) : w.cell? ⟨n.1, 0, none⟩ = some (.int .i64 n.2.1) ∧ w.cell? ⟨n.1, 1, none⟩ = some (.int .i64 n.2.2) ∧ w.cell? ⟨n.1, 2, none⟩ = some (ptrTo r v) ∧ ∀ i, w.frozen? ⟨n.1, i, none⟩ = false := by
  have h1 := h.1
  refine ⟨?_, ?_, ?_, fun i => ?_⟩ <;> simp [World.cell?, World.frozen?, h1]

/-- A store into where the last of some nodes leads. -/
theorem Part.setNext {w : World} {l : Nat} {ns : List Nd} {v : Value} {c : Int} (h : Part w l ns v c) (hd : (l :: blocks ns).Nodup) (u : Value) : Part (w.setCell ⟨prevB l ns, 2, none⟩ u) l ns u c := by
  obtain ⟨⟨u0, u1, h1⟩, h2⟩ := h
  rcases List.eq_nil_or_concat ns with rfl | ⟨p, n, rfl⟩
  · rw [prevB_nil]
    have := heap_setCell_same w l 2 _ 76 u h1
    exact ⟨⟨u0, u1, by rw [this]; simp [ptrTo]⟩, trivial⟩
  · rw [List.concat_eq_append] at *
    rw [prevB_concat]
    obtain ⟨h3, h4⟩ := Seg.append.1 h2
    have hln : l ≠ n.1 := by
      have := (List.nodup_cons.1 hd).1
      simp [blocks] at this
      exact fun e => this.2 e
    have hnp : n.1 ∉ blocks p := by
      have := (List.nodup_cons.1 hd).2
      simp [blocks, List.nodup_append] at this ⊢
      intro a b hab
      exact this.2 _ _ _ hab rfl
    refine ⟨⟨u0, u1, ?_⟩, Seg.append.2 ⟨?_, ?_, trivial⟩⟩
    · rw [Below.heap_setCell _ _ _ _ (by exact hln), h1, ptrTo_append, ptrTo_append]
      rfl
    · exact h3.kept ((Only.refl (fun k => k = n.1) w).setCell (p := ⟨n.1, 2, none⟩) (fun _ => rfl) u) (fun b hb e => hnp (e ▸ hb))
    · have := heap_setCell_same w n.1 2 _ 74 u h4.1
      rw [this]
      simp [ptrTo]
/-- A store of the count. -/
theorem Part.setCount {w : World} {l : Nat} {ns : List Nd} {v : Value} {c : Int} (h : Part w l ns v c) (hd : (l :: blocks ns).Nodup) (c' : Int) : Part (w.setCell ⟨l, 3, none⟩ (.int .i64 c')) l ns v c' := by
  obtain ⟨⟨u0, u1, h1⟩, h2⟩ := h
  have := heap_setCell_same w l 3 _ 76 (.int .i64 c') h1
  refine ⟨⟨u0, u1, by rw [this]; simp⟩, h2.kept ((Only.refl (fun k => k = l) w).setCell (p := ⟨l, 3, none⟩) (fun _ => rfl) _) (fun b hb e => ?_)⟩
  subst e
  exact (List.nodup_cons.1 hd).1 hb
/-- A store of a node's gap. -/
theorem Seg.setGap {w : World} {n : Nd} {r : List Nd} {v : Value} (h : Seg w (n :: r) v) (hd : n.1 ∉ blocks r) (g : Int) : Seg (w.setCell ⟨n.1, 1, none⟩ (.int .i64 g)) ((n.1, n.2.1, g) :: r) v := by
  have := heap_setCell_same w n.1 1 _ 74 (.int .i64 g) h.1
  refine ⟨by rw [this]; simp, h.2.kept ((Only.refl (fun k => k = n.1) w).setCell (p := ⟨n.1, 1, none⟩) (fun _ => rfl) _) (fun b hb e => ?_)⟩
  subst e
  exact hd hb
end Go.Proofs.Ytbmegpcdcbfjmaa.Delta
