/- Events in memory; whether two rows are the same; scripts as texts. -/
import Derived.Test.YtgfgjbbpochiiaaDoorBuild
namespace Go.Proofs.YtgfgjbbpochiiaaDoor
open Go Go.RowKit

structure EvAt (w : World) (g off : Nat) (x : EvV) : Prop where
  c0 : w.cell? ⟨g, off, none⟩ = some (.int .i64 x.at_)
  c1 : w.cell? ⟨g, off + 1, none⟩ = some (.int .i64 x.k)
  c2 : w.cell? ⟨g, off + 2, none⟩ = some (.int .i64 x.a)
  c3 : w.cell? ⟨g, off + 3, none⟩ = some (.int .i64 x.b)
  c4 : w.cell? ⟨g, off + 4, none⟩ = some (.int .i64 x.c)
/-- Events in memory. -/
def EvRow (w : World) (A : Option Addr) (l : List EvV) : Prop :=
  ∀ (k : Nat) x, l[k]? = some x → ∃ b off, A = some ⟨b, off, none⟩ ∧ b < w.heap.size ∧ EvAt w b (off + k * 5) x
theorem EvRow.new {w w' : World} {A : Option Addr} {l : List EvV} (h : EvRow w A l) (ho : Only (fun _ => False) w w') : EvRow w' A l := fun k x hx => by
  obtain ⟨b, off, rfl, hb, h⟩ := h k x hx
  exact ⟨b, off, rfl, Nat.lt_of_lt_of_le hb ho.size, ho.cell h.c0 (fun h => h), ho.cell h.c1 (fun h => h), ho.cell h.c2 (fun h => h), ho.cell h.c3 (fun h => h), ho.cell h.c4 (fun h => h)⟩
theorem EvAt.of_cells {w : World} {g off : Nat} {L : List Value} {x : EvV} {n : Nat} (hg : ∀ i u, L[i]? = some u → w.cell? ⟨g, off + i, none⟩ = some u) (hx : ∀ i u, x.cells[i]? = some u → L[n * 5 + i]? = some u) : EvAt w g (off + n * 5) x := by
  have h := fun i u (hi : x.cells[i]? = some u) => hg _ u (hx i u hi)
  refine ⟨?_, ?_, ?_, ?_, ?_⟩
  · have := h 0 _ rfl; rwa [← Nat.add_assoc] at this
  · have := h 1 _ rfl; rwa [← Nat.add_assoc] at this
  · have := h 2 _ rfl; rwa [← Nat.add_assoc] at this
  · have := h 3 _ rfl; rwa [← Nat.add_assoc] at this
  · have := h 4 _ rfl; rwa [← Nat.add_assoc] at this
theorem evCells_at : ∀ (l : List EvV) (n : Nat) (x : EvV), l[n]? = some x → ∀ i u, x.cells[i]? = some u → (evCells l)[n * 5 + i]? = some u
  | [], n, x, h, i, u, hu => by simp at h
  | r :: l, n, x, h, i, u, hu => by
    have hr : r.cells.length = 5 := rfl
    have hrc : evCells (r :: l) = r.cells ++ evCells l := rfl
    rw [hrc]
    cases n with
    | zero =>
      simp at h
      subst h
      have hi := (List.getElem?_eq_some_iff.1 hu).1
      rw [List.getElem?_append_left (by omega)]
      simpa using hu
    | succ n =>
      rw [List.getElem?_append_right (by omega), hr, show (n + 1) * 5 + i - 5 = n * 5 + i by omega]
      exact evCells_at l n x (by simpa using h) i u hu
theorem Win.evs {w : World} {p : Option Addr} {cap n : Nat} {h : Option Nat} {l : List EvV} (hW : Win w 23 5 (.slice p n cap) h n (evCells l)) (hn : l.length = n) : EvRow w p l := fun k x hx => by
  have hk := (List.getElem?_eq_some_iff.1 hx).1
  obtain ⟨g, off, cp, -, hv, -, -, hgl, hgc, -⟩ := hW.at_ (by omega)
  cases hv
  exact ⟨g, off, rfl, hgl, EvAt.of_cells hgc (evCells_at l k x hx)⟩

/-! ### The same -/
set_option maxRecDepth 100000 in
set_option maxHeartbeats 1000000 in
theorem same_any {w : World} {A B : Option Addr} {n m ca cb : Nat} {l : List EvV} (hA : EvRow w A l) (hB : EvRow w B l) (hn : l.length = n) (hm : n = m) (hmax : n ≤ 1000000) : Calls Tryd.prog 13 #[.slice A n ca, .slice B m cb] w (fun e w' => e = .returned (.bool true) ∧ Only (fun _ => False) w w') := by
  subst hm
  have hA' := Lib.hid hA
  have hB' := Lib.hid hB
  have hn' := Lib.hid hn
  clear hA hB hn
  go_enter Tryd.func13, Tryd.ntmps13
  go_wp2
  go_loopw [13] (fun i wr => ∃ k : Nat, k ≤ n ∧ i = .int .i64 k ∧ Only (fun _ => False) w wr) (fun i _ => n - (intOf i).toNat)
  case atStart => exact ⟨0, Nat.zero_le _, rfl, Only.refl _ _⟩
  case round =>
    obtain ⟨k, hk, rfl, hO⟩ := hrel
    obtain ⟨ws, hws⟩ : ∃ ws : World, ws = wr := ⟨_, rfl⟩
    subst hws
    by_cases hkn : k < n
    · have hkn' : (k : Int) < (n : Int) := by omega
      obtain ⟨x, hx⟩ : ∃ x, l[k]? = some x := ⟨l[k]'(by have := hn'.out; omega), List.getElem?_eq_getElem _⟩
      obtain ⟨b, off, rfl, hb, q0, q1, q2, q3, q4⟩ := (hA'.out.new hO) k x hx
      obtain ⟨c, off2, rfl, hc, r0, r1, r2, r3, r4⟩ := (hB'.out.new hO) k x hx
      have hO' := Lib.hid hO
      clear hx hO
      go_upto_region 6 with fail
      go_cut [24] from 16 to 23 (fun v wc => v = .bool false ∧ Only (fun _ => False) ws wc)
      case first =>
        go_quiet (fail)
        go_wp2_with fail
        go_meet
        case rel => exact ⟨by simp, (Only.refl _ _).drewN _⟩
      obtain ⟨rfl, hOc⟩ := hcut
      have hOc' := Lib.hid (hO'.out.trans' hOc)
      clear hOc q0 q1 q2 q3 q4 r0 r1 r2 r3 r4
      go_wp2
      go_roundw
      case rel => exact ⟨k + 1, by omega, by go_num, hOc'.out⟩
      case measure => simp [intOf]; omega
    · obtain rfl : k = n := by omega
      have hO' := Lib.hid hO
      clear hO
      go_wp2
      go_ret
      exact ⟨rfl, hO'.out⟩
end Go.Proofs.YtgfgjbbpochiiaaDoor
