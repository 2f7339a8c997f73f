/- The document's Bound and Count, as a line has them. -/
import Derived.Test.YtlbinlhaejhobaaGreatDoorRef8
import Derived.Test.YtlbinlhaejhobaaGreatDoorRef7
namespace Go.Proofs.YtlbinlhaejhobaaGreatDoor
namespace Adm
open Go Go.RowKit Rca Sct Lin Lck Cst Rld Pre
open Bch (U sA sC sM sA_le sC_le sM_le GrowU Ld LRow LB orU IsWin)

/-- The document's Bound, as a line has it. -/
theorem rrel_any {w : World} {c : ConfV} {d : ConfL} {pl : Tks} (hC : ConfIn w c d pl) (hF : Fin0.Fine c d pl) {i : Nat} (hi : i < c.ta.n) :
    Calls Tryz.prog 56 #[c.val, .int .i64 (i : Int)] w (AnsI (relI c pl i : Int) w) := by
  obtain ⟨t, l, h1, h2, -⟩ := fine_at hC hF hi
  have hm := hF.machine
  have hb := rbound_any (cfok hC hF) (by omega) (by omega) h1
  have e : (relI c pl i : Int) = Rld.bndZ c pl c.s.toNat t.th l := by
    unfold relI
    rw [h1]
    have := (bndU_bound (W := c.wy) (T := touB c.s.toNat pl (aboU pl.ts t.th c.ta.n)) (L := loadS c.s.toNat l) (by omega) (by omega) (k := c.s.toNat)).1
    unfold Rld.bndZ
    show ((bndU c.wy (touB c.s.toNat pl (aboU pl.ts t.th c.ta.n)) (loadS c.s.toNat l) c.s.toNat).toNat : Int) = _
    omega
  rw [e]
  exact hb
/-- The document's Count, as a line has it. -/
theorem rcnt_any {w : World} {c : ConfV} {d : ConfL} {pl : Tks} (hC : ConfIn w c d pl) (hF : Fin0.Fine c d pl) {i : Nat} (hi : i < c.ta.n) {win : Nat} (hwin : win ≤ 18446744073709551615) :
    Calls Tryz.prog 57 #[c.val, .int .i64 (i : Int), U win] w (GrowU (cntI c pl i win) w) := by
  obtain ⟨t, l, h1, h2, -⟩ := fine_at hC hF hi
  have hn := hF.counts
  have e : cntI c pl i win = totU (cntU pl.ts win) (aboU pl.ts t.th c.ta.n) := by unfold cntI; rw [thI_at h2]
  rw [e]
  exact rcount_any hC.t (by omega) hwin h2
end Adm
end Go.Proofs.YtlbinlhaejhobaaGreatDoor
