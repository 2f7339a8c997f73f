/- One step of the way up to a window. -/
import Derived.Test.YtcgnboplpibcgaaRdm
import Derived.Deep.RegionHeld3
namespace Go.Proofs.Ytcgnboplpibcgaa
open Go Go.RowKit
/-- What work is: a block of a delay, the loads, and how far it has come. -/
structure WorkAt (w : World) (p : Nat) (d : Nat) (A : Option Addr) (n cap : Nat) (l : List Ld) (r : Nat) : Prop where
  at_ : w.heap[p]? = some (.cells [U d, .slice A n cap, U r].toArray 63 (0, 0))
  row : LRow w A l
  ap : ∀ b off, 0 < l.length → A = some ⟨b, off, none⟩ → b ≠ p
theorem WorkAt.new {w w' : World} {p d n cap r : Nat} {A : Option Addr} {l : List Ld} (h : WorkAt w p d A n cap l r) (ho : Only (fun _ => False) w w') : WorkAt w' p d A n cap l r := ⟨ho.heap h.at_ (fun h => h), h.row.new ho, h.ap⟩
def StepEnd (p d : Nat) (A : Option Addr) (n cap : Nat) (l : List Ld) (y : Nat) (w : World) (e : Ending) (w' : World) : Prop :=
  e = .returned (U y) ∧ WorkAt w' p d A n cap l y ∧ Only (fun k => k = p) w w'
set_option maxHeartbeats 2000000 in
theorem wstep_any {w : World} {p d n cap r x : Nat} {A : Option Addr} {l : List Ld} (h : WorkAt w p d A n cap l r) (hn : l.length = n) (hnn : n ≤ 1000) (hb : LB l) (hd : d ≤ 18446744073709551615) (hx : x ≤ 18446744073709551615) :
    Calls Try.prog 34 #[.pointer (some ⟨p, 0, none⟩), U x] w (StepEnd p d A n cap l (dem d l x) w) := by
  have hc := Lib.hid (fun W (ho : Only (fun _ => False) w W) => demand_any (cap := cap) (x := x) (h.row.new ho) hn hnn hb hd hx)
  obtain ⟨y, hy⟩ : ∃ y, y = dem d l x := ⟨_, rfl⟩
  rw [← hy] at hc ⊢
  obtain ⟨Z, hZ⟩ : ∃ Z, Z = StepEnd p d A n cap l y w := ⟨_, rfl⟩
  rw [← hZ]
  have hZ' := Lib.hid hZ
  have hfin := Lib.hid (fun W (ho : Only (fun _ => False) w W) => show StepEnd p d A n cap l y w (.returned (U y)) (W.setCell ⟨p, 2, none⟩ (U y)) from
    ⟨rfl, ⟨row_set (h.new ho).at_ 2 _, (h.new ho).row.kept ((Only.refl (fun k => k = p) W).setCell (p := ⟨p, 2, none⟩) (fun _ => rfl) _) (fun b off hl e k => h.ap b off hl e k), h.ap⟩, (ho.mono (fun _ _ h => h.elim)).trans' ((Only.refl (fun k => k = p) W).setCell (p := ⟨p, 2, none⟩) (fun _ => rfl) _)⟩)
  have hk := Lib.hid (fun W (ho : Only (fun _ => False) w W) => show W.cell? ⟨p, 0, none⟩ = some (U d) ∧ W.cell? ⟨p, 1, none⟩ = some (.slice A n cap) ∧ p < W.heap.size from
    ⟨row_cell (h.new ho).at_ (i := 0) rfl, row_cell (h.new ho).at_ (i := 1) rfl, row_lt (h.new ho).at_⟩)
  have hk2 := Lib.hid (fun W (ho : Only (fun _ => False) w W) => show W.cell? ⟨p, 2, none⟩ = some (U r) ∧ W.frozen? ⟨p, 2, none⟩ = false from
    ⟨row_cell (h.new ho).at_ (i := 2) rfl, row_free (h.new ho).at_ 2⟩)
  have hk3 := Lib.hid (fun W (ho : Only (fun _ => False) w W) (v : Value) => show (W.setCell ⟨p, 2, none⟩ v).cell? ⟨p, 0, none⟩ = some (U d) ∧ (W.setCell ⟨p, 2, none⟩ v).cell? ⟨p, 1, none⟩ = some (.slice A n cap) ∧ p < (W.setCell ⟨p, 2, none⟩ v).heap.size from
    ⟨row_cell (row_set (h.new ho).at_ 2 v) (i := 0) rfl, row_cell (row_set (h.new ho).at_ 2 v) (i := 1) rfl, row_lt (row_set (h.new ho).at_ 2 v)⟩)
  obtain ⟨e0, e1, el⟩ := hk.out _ (Only.refl _ _)
  clear h hn hb hd hx hy hZ
  go_enter Try.func34, Try.ntmps34
  go_wp2
  go_region_held3 (fun W0 => W0.cell? ⟨p, 0, none⟩ = some (U d) ∧ W0.cell? ⟨p, 1, none⟩ = some (.slice A n cap) ∧ p < W0.heap.size)
    (first | exact hk3.out _ hO6 _ | exact hk.out _ (by repeat (first | assumption | exact Only.refl _ _ | apply Only.drew)))
    (first
      | (go_at_call 12; (with_reducible refine (hc.out _ (by repeat (first | assumption | exact Only.refl _ _ | apply Only.drew))).mono ?_); rintro _ w6 ⟨rfl, ho6⟩; have hO6 : Only (fun _ => False) w w6 := Only.trans' (by repeat (first | assumption | exact Only.refl _ _ | apply Only.drew)) ho6; obtain ⟨e2, f2⟩ := hk2.out _ hO6; clear ho6))
  all_goals
    go_wp2
    rw [hZ'.out]
    exact hfin.out _ hO6
end Go.Proofs.Ytcgnboplpibcgaa
