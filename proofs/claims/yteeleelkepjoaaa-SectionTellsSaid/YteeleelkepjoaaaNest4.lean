/- Package prog's closures: unlocking; the end; all kinds in one; what makes them. -/
import Derived.Test.YteeleelkepjoaaaNest3
namespace Go.Proofs.Yteeleelkepjoaaa
open Go Go.RowKit

theorem unlock_end {w W : World} {b2 b3 b4 m cap : Nat} {h : Option Nat} {s : NS} {ls : List Int} {x : Int} {p0 : Option Addr} (hN : NestAt w b2 b3 b4 h s) (hls : s.ls = ls ++ [x]) (hm : ls.length = m) (hW : Only (fun _ => False) w W) (c2 : w.cell? ⟨b2, 0, none⟩ = some (.slice p0 (m + 1) cap)) :
    NestAt (W.setCell ⟨b2, 0, none⟩ (.slice p0 m cap)) b2 b3 b4 h ⟨s.r, ls, s.p⟩ ∧ Only (nfp b2 b3 b4 h) w (W.setCell ⟨b2, 0, none⟩ (.slice p0 m cap)) := by
  obtain ⟨v, e2, e3, e4, eW, hd, n23, n24, n34⟩ := hN
  have hv : v = .slice p0 (m + 1) cap := by
    have := row_cell e2 (i := 0) (v := v) rfl
    rw [this] at c2
    exact Option.some.inj c2
  subst hv
  have hO : Only (fun k => k = b2) W (W.setCell ⟨b2, 0, none⟩ (.slice p0 m cap)) := (Only.refl (fun k => k = b2) W).setCell (p := ⟨b2, 0, none⟩) (fun _ => rfl) _
  have hlen : s.ls.length = m + 1 := by rw [hls]; simp [hm]
  rw [hlen] at eW
  have ht := eW.take (k := m) (by omega)
  rw [hls, List.map_append, List.take_left' (by simp [hm])] at ht
  refine ⟨⟨_, row_set (hW.heap e2 (fun h => h)) 0 _, hO.heap (hW.heap e3 (fun h => h)) (fun e => n23 e.symm), hO.heap (hW.heap e4 (fun h => h)) (fun e => n24 e.symm), ?_, hd, n23, n24, n34⟩, ?_⟩
  · subst hm
    exact (ht.kept hW (fun _ _ h => h)).kept hO (fun k hk e => (hd k hk).1 e)
  · exact (hW.mono (T := nfp b2 b3 b4 h) (fun _ _ h => h.elim)).trans hO (fun k _ e => .inl e)

end Go.Proofs.Yteeleelkepjoaaa
