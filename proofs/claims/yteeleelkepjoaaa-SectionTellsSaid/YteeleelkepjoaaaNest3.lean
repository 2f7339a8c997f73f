/- Package prog's closures: locking and unlocking. -/
import Derived.Test.YteeleelkepjoaaaNest2
import Derived.Deep.DrawnRows
namespace Go.Proofs.Yteeleelkepjoaaa
open Go Go.RowKit

theorem infoI : (Try.prog.info? 3).map (fun i => (i.zero, i.size, i.bytes)) = some (some (Value.int .i64 0), 1, 8) := by kernel_rfl
theorem row_all {w : World} {X : Nat} {L : List Value} {e : TypeId} (h : w.heap[X]? = some (.cells L.toArray e (0, 0))) : ∀ j u, L[j]? = some u → w.cell? ((⟨X, 0, none⟩ : Addr).add j) = some u := fun j u hu => by
  rw [Addr.add_lit, Nat.zero_add]
  exact row_cell (L := L) h hu

/-- The blocks of the closures behind an append to the locked ones. -/
theorem lock_end {w W w4 : World} {b2 b3 b4 : Nat} {h h4 : Option Nat} {s : NS} {v4 : Value} {a : Int} {n : Nat} (hN : NestAt w b2 b3 b4 h s) (hn : n = s.ls.length) (hW : Only (fun _ => False) w W)
    (h4w : Win w4 3 1 v4 h4 (n + 1) (s.ls.map mkI ++ [mkI a])) (h4o : Only (fun k => some k = h) W w4) (hh : h4 = h ∨ ∃ g, h4 = some g ∧ W.heap.size ≤ g) :
    NestAt (w4.setCell ⟨b2, 0, none⟩ v4) b2 b3 b4 h4 ⟨s.r, s.ls ++ [a], s.p⟩ ∧ (h4 = h ∨ ∃ g, h4 = some g ∧ w.heap.size ≤ g) ∧ Only (nfp b2 b3 b4 h) w (w4.setCell ⟨b2, 0, none⟩ v4) := by
  have hlt := hN.lt
  have hs := hW.size
  obtain ⟨v, e2, e3, e4, eW, hd, n23, n24, n34⟩ := hN.new hW
  have k2 := h4o.heap e2 (fun e => (hd b2 e.symm).1 rfl)
  have k3 := h4o.heap e3 (fun e => (hd b3 e.symm).2.1 rfl)
  have k4 := h4o.heap e4 (fun e => (hd b4 e.symm).2.2 rfl)
  have hne : ∀ k, h4 = some k → k ≠ b2 ∧ k ≠ b3 ∧ k ≠ b4 := by
    rintro k rfl
    rcases hh with hh | ⟨g, hg, hge⟩
    · exact hd k hh.symm
    · cases hg
      have q2 := hlt b2 (.inl rfl)
      have q3 := hlt b3 (.inr (.inl rfl))
      have q4 := hlt b4 (.inr (.inr (.inl rfl)))
      omega
  have hO : Only (fun k => k = b2) w4 (w4.setCell ⟨b2, 0, none⟩ v4) := (Only.refl (fun k => k = b2) w4).setCell (p := ⟨b2, 0, none⟩) (fun _ => rfl) _
  refine ⟨⟨v4, row_set k2 0 v4, hO.heap k3 (fun e => n23 e.symm), hO.heap k4 (fun e => n24 e.symm), ?_, hne, n23, n24, n34⟩, ?_, ?_⟩
  · simp only [List.length_append, List.map_append, List.length_cons, List.length_nil, List.map_cons, List.map_nil]
    rw [← hn]
    exact h4w.kept hO (fun k hk e => (hne k hk).1 e)
  · rcases hh with hh | ⟨g, hg, hge⟩
    · exact .inl hh
    · exact .inr ⟨g, hg, by omega⟩
  · exact ((hW.mono (T := nfp b2 b3 b4 h) (fun _ _ h => h.elim)).trans h4o (fun k _ e => .inr (.inr (.inr e.symm)))).trans hO (fun k _ e => .inl e)

end Go.Proofs.Yteeleelkepjoaaa
