/- Above at the set at which BandNone's fixed calls ask it. -/
import Derived.Test.YtafcdjmbbpnbiaaDoorBand
import Derived.Deep.AppendLies
import Derived.Laws.OwnMore
namespace Go.Proofs.YtafcdjmbbpnbiaaDoor
open Go.RowKit

theorem info3 : (Tryd.prog.info? 3).map (fun i => (i.zero, i.size, i.bytes)) = some (some (.int .i64 0), 1, 8) := by kernel_rfl
def Above2 (w : World) (b : Nat) (e : Ending) (w' : World) : Prop :=
  ∃ v, e = .returned v ∧ w'.ownsRow (w.heap.size + 1) 3 1 v 2 [.int .i64 64, .int .i64 5] ∧ St w' b 40 1 ∧ Below w.heap.size w w'
theorem St.keep {W W' : World} {b : Nat} {x y : Int} {row : Option Nat} (h : St W b x y) (hg : W.grownBy W' row) (hne : some b ≠ row) : St W' b x y := by
  obtain ⟨h0, h1, f0, f1, hb⟩ := h
  exact ⟨(hg.cell_far ⟨b, 0, none⟩ hb hne).trans h0, (hg.cell_far ⟨b, 1, none⟩ hb hne).trans h1, (hg.frozen_far ⟨b, 0, none⟩ hb hne).trans f0, (hg.frozen_far ⟨b, 1, none⟩ hb hne).trans f1, Nat.lt_of_lt_of_le hb hg.size⟩
theorem St.alloc {W : World} {b : Nat} {x y : Int} (h : St W b x y) (o : Obj) : St (W.alloc o) b x y := h.keep (World.grownBy_alloc _ _ none) (by simp)
theorem own_ne {W : World} {r e size n : Nat} {v : Value} {xs : List Value} (h : W.ownsRow (r + 1) e size v n xs) : some r ≠ v.ownBlock := fun e => by
  have := (h.lt r e.symm).1
  omega
/-- What a round leaves of the copied set, of the row and of all below. -/
theorem round_parts {r n : Nat} {t : Int} {v v' : Value} {xs : List Value} {w wr w1 w2 : World} {o : Obj} (hbe : Below r w wr) (hsz : r < wr.heap.size) (hown : wr.ownsRow (r + 1) 3 1 v n xs)
    (hg : (wr.alloc o).grownBy w1 v.ownBlock) (hown1 : w1.ownsRow (r + 1) 3 1 v' (n + 1) (xs ++ [.int .i64 t])) (hg2 : w1.grownBy w2 (some r)) :
    Below r w w2 ∧ r < w2.heap.size ∧ w2.ownsRow (r + 1) 3 1 v' (n + 1) (xs ++ [.int .i64 t]) := by
  have hs1 : wr.heap.size + 1 ≤ w1.heap.size := by simpa using hg.size
  refine ⟨?_, ?_, ?_⟩
  · have h1 : Below r w w1 := (hbe.alloc (by omega) o).grown hg (by simp; omega) (fun k hk => by have := (hown.lt k hk).1; omega)
    exact h1.grown hg2 (by omega) (fun k hk => by cases hk; omega)
  · have := hg2.size; omega
  · exact hown1.kept hg2 (.inr (fun e => own_ne hown1 e.symm))

set_option maxHeartbeats 800000 in
theorem above_3 (b : Nat) (w : World) (h : St w b 40 1) : Calls Tryd.prog 11 #[.pointer (some ⟨b, 0, none⟩), .int .i64 3] w (Above2 w b) := by
  have hh := Lib.hid h
  obtain ⟨h0, h1, f0, f1, hb⟩ := h
  obtain ⟨i0, hi, hz0, hz1, hz2⟩ := info_parts info3
  go_enter Tryd.func11, Tryd.ntmps11
  go_wp2_with (go_at_call 8; refine (top_40_1 _ _ (by simp [St, go_sem])).mono ?_; rintro e w1 ⟨rfl, rfl⟩)
  clear h0 h1 f0 f1
  go_loopw [5, 7] (fun v t wr => Below w.heap.size w wr ∧ w.heap.size < wr.heap.size ∧ ((t = .int .i64 64 ∧ wr.ownsRow (w.heap.size + 1) 3 1 v 0 [] ∧ St wr w.heap.size 40 1) ∨ (t = .int .i64 5 ∧ wr.ownsRow (w.heap.size + 1) 3 1 v 1 [.int .i64 64] ∧ St wr w.heap.size 40 0) ∨ (t = .int .i64 3 ∧ wr.ownsRow (w.heap.size + 1) 3 1 v 2 [.int .i64 64, .int .i64 5] ∧ St wr w.heap.size 8 0))) (fun _ t _ => (intOf t).toNat)
  case atStart => exact ⟨(Below.refl _ _).alloc (Nat.le_refl _) _, by simp, .inl ⟨rfl, ⟨rfl, .inl ⟨rfl, rfl⟩⟩, by simp [St, go_sem]⟩⟩
  case round =>
    obtain ⟨hbe, hsz, hrel⟩ := hrel
    have hbe' := Lib.hid hbe
    clear hbe
    rcases hrel with ⟨rfl, hown, hS⟩ | ⟨rfl, hown, hS⟩ | ⟨rfl, hown, hS⟩
    · have hown' := Lib.hid hown
      have hS' := Lib.hid hS
      clear hown hS
      go_wp2_with (first | (go_at_call 6; refine (drop_64_40_1 _ _ (hS1'.out)).mono ?_; rintro e w2 ⟨rfl, hS2, hg2⟩; have hS2' := Lib.hid hS2; have hg2' := Lib.hid hg2; clear hS2 hg2) | (go_at_call 8; refine (top_40_0 _ _ hS2'.out).mono ?_; rintro e w3 ⟨rfl, rfl⟩) | (at_builtin; refine wpList_append_own _ rfl _ _ 27 rfl (w.heap.size + 1) 3 i0 (.int .i64 0) 1 8 Tryd.underlying27 hi hz0 hz1 hz2 rfl (by decide) _ 0 [] rfl (hown'.out.alloc _) ⟨wr.heap.size, 0, none⟩ 1 1 [.int .i64 64] rfl rfl (cell_one_new _ _ _) (by simp [Value.oneCell']) (by unfold maxLen; omega) (by omega) (by simp; omega) ?_; intro v' w1 hown1 hgrow _; have hown1' := Lib.hid hown1; have hgrow' := Lib.hid hgrow; clear hown1 hgrow; have hS1' := Lib.hid ((hS'.out.alloc _).keep hgrow'.out (own_ne hown'.out))))
      go_roundw
      case rel =>
        obtain ⟨p1, p2, p3⟩ := round_parts hbe'.out hsz hown'.out hgrow'.out hown1'.out hg2'.out
        exact ⟨p1, p2, .inr (.inl ⟨rfl, p3, hS2'.out⟩)⟩
      case measure => simp [intOf]
    · have hown' := Lib.hid hown
      have hS' := Lib.hid hS
      clear hown hS
      go_wp2_with (first | (go_at_call 6; refine (drop_5_40_0 _ _ (hS1'.out)).mono ?_; rintro e w2 ⟨rfl, hS2, hg2⟩; have hS2' := Lib.hid hS2; have hg2' := Lib.hid hg2; clear hS2 hg2) | (go_at_call 8; refine (top_8_0 _ _ hS2'.out).mono ?_; rintro e w3 ⟨rfl, rfl⟩) | (at_builtin; refine wpList_append_own _ rfl _ _ 27 rfl (w.heap.size + 1) 3 i0 (.int .i64 0) 1 8 Tryd.underlying27 hi hz0 hz1 hz2 rfl (by decide) _ 1 [.int .i64 64] rfl (hown'.out.alloc _) ⟨wr.heap.size, 0, none⟩ 1 1 [.int .i64 5] rfl rfl (cell_one_new _ _ _) (by simp [Value.oneCell']) (by unfold maxLen; omega) (by omega) (by simp; omega) ?_; intro v' w1 hown1 hgrow _; have hown1' := Lib.hid hown1; have hgrow' := Lib.hid hgrow; clear hown1 hgrow; have hS1' := Lib.hid ((hS'.out.alloc _).keep hgrow'.out (own_ne hown'.out))))
      go_roundw
      case rel =>
        obtain ⟨p1, p2, p3⟩ := round_parts hbe'.out hsz hown'.out hgrow'.out hown1'.out hg2'.out
        exact ⟨p1, p2, .inr (.inr ⟨rfl, p3, hS2'.out⟩)⟩
      case measure => simp [intOf]
    · have hown' := Lib.hid hown
      clear hown hS
      go_wp2
      go_ret
      exact ⟨_, rfl, hown'.out, hh.out.keep ⟨hbe'.out.os, hbe'.out.tape, hbe'.out.output, hbe'.out.size, fun k hk _ => hbe'.out.block k hk⟩ (by simp : some b ≠ none), hbe'.out⟩
end Go.Proofs.YtafcdjmbbpnbiaaDoor
