/- chain: the deepest chain as the links tell it. -/
import Derived.Test.YtdoimkmhincmmaaBcLnk
namespace Go.Proofs.Ytdoimkmhincmmaa
namespace Bch
open Go Go.RowKit Go.Maps Go.Shelf
theorem order_has {p : Nat → Int} : ∀ {n y : Nat}, y < n → y ∈ orderUp p n
  | 0, y, h => by omega
  | n + 1, y, h => by
    unfold orderUp
    rw [ins_mem]
    by_cases hy : y = n
    · exact .inl hy
    · exact .inr (order_has (by omega))
theorem ins_nodup {p : Nat → Int} {x : Nat} : ∀ {l : List Nat}, l.Nodup → x ∉ l → (ins p x l).Nodup
  | [], _, _ => by simp [ins]
  | a :: l, h, hx => by
    rw [List.nodup_cons] at h
    unfold ins
    split
    · rw [List.nodup_cons, ins_mem]
      refine ⟨?_, ins_nodup h.2 (fun hh => hx (by simp [hh]))⟩
      rintro (rfl | hh)
      · exact hx (by simp)
      · exact h.1 hh
    · rw [List.nodup_cons, List.nodup_cons]
      exact ⟨hx, h⟩
theorem order_nodup (p : Nat → Int) : ∀ n, (orderUp p n).Nodup
  | 0 => List.nodup_nil
  | n + 1 => ins_nodup (order_nodup p n) (fun h => by have := order_lt h; omega)
/-- The links followed from a task on. -/
def Foll (L : Chn.Lks) : Option Nat → List Nat → Prop
  | none, c => c = []
  | some _, [] => False
  | some t, x :: c => x = t ∧ ∃ d f, L t = some (d, f) ∧ Foll L f c
theorem foll_of_good {F : Nat → Int} {L : Chn.Lks} {t : Nat} {c : List Nat} (h : Chn.Good F L t c) : Foll L (some t) c := by
  induction h with
  | last h hd => exact ⟨rfl, _, _, h, rfl⟩
  | link h hc hd ih => exact ⟨rfl, _, _, h, ih⟩
def firstO (ts : List TaskV) : Option Nat := Chn.pick (fun _ => true) (Chn.dOf (lks ts)) (ordL ts) none
theorem right_facts {ts : List TaskV} (h : rightB ts = true) : ts.length ≤ 12 ∧ (∀ i, i < ts.length → prio ts i ≤ thr ts i) ∧ (∀ i k, i < ts.length → k < ts.length → prio ts i = prio ts k → i = k) ∧ (∀ i, i < ts.length → 0 ≤ frm ts i ∧ frm ts i ≤ 1048576) := by
  obtain ⟨h1, h2⟩ := of_decide_eq_true h
  refine ⟨h1, fun i hi => (h2 i hi).1.1, fun i k hi hk e => ?_, fun i hi => (h2 i hi).1.2⟩
  rcases Nat.lt_trichotomy i k with h3 | h3 | h3
  · exact absurd e ((h2 k hk).2 i h3)
  · exact h3
  · exact absurd e.symm ((h2 i hi).2 k h3)
/-- What the deepest chain is. -/
def DeepOk (ts : List TaskV) (C : List Nat) : Prop :=
  Foll (lks ts) (firstO ts) C ∧ C.length ≤ 12 ∧ (∀ x ∈ C, x < ts.length) ∧ Chn.dO (Chn.dOf (lks ts)) (firstO ts) = Chn.depth (frm ts) C ∧ (rightB ts = false → C = []) ∧
  (rightB ts = true → (ts.length = 0 → C = []) ∧ (0 < ts.length → Chn.Chain ts.length (prio ts) (thr ts) C ∧ C ≠ [] ∧ ∀ r, r ≠ [] → Chn.Chain ts.length (prio ts) (thr ts) r → Chn.better (prio ts) (frm ts) r C = false))
theorem deep_ex (ts : List TaskV) : ∃ C, DeepOk ts C := by
  cases hr : rightB ts with
  | false =>
    have ho : ordL ts = [] := by rw [ordL, hr]; rfl
    have hf : firstO ts = none := by rw [firstO, ho]; rfl
    refine ⟨[], ?_, by simp, by simp, ?_, fun _ => rfl, fun h => absurd (hr.symm.trans h) (by simp)⟩
    · rw [hf]; rfl
    · rw [hf]; rfl
  | true =>
    obtain ⟨_, hTH, _, hF⟩ := right_facts hr
    have ho : ordL ts = orderUp (prio ts) ts.length := by rw [ordL, if_pos hr]
    have hd := Chn.deepest (n := ts.length) (P := prio ts) (TH := thr ts) (F := frm ts) (ord := ordL ts) hTH (fun i hi => (hF i hi).1) (by rw [ho]; exact order_sorted _ _) (fun i => by rw [ho]; exact ⟨order_lt, order_has⟩) (by rw [ho]; exact order_nodup _ _)
    by_cases h0 : ts.length = 0
    · have hf : firstO ts = none := hd.1 h0
      refine ⟨[], ?_, by simp, by simp, ?_, fun _ => rfl, fun _ => ⟨fun _ => rfl, fun h => by omega⟩⟩
      · rw [hf]; rfl
      · rw [hf]; rfl
    · obtain ⟨k, c, h1, h2, h3, h4, h5⟩ := hd.2 (by omega)
      have hf : firstO ts = some k := h1
      refine ⟨c, ?_, ?_, h3.lt, ?_, fun h => absurd (hr.symm.trans h) (by simp), fun _ => ⟨fun h => absurd h h0, fun _ => ⟨h3, h4, h5⟩⟩⟩
      · rw [hf]; exact foll_of_good h2
      · cases c with
        | nil => exact absurd rfl h4
        | cons a r =>
          have h6 := Chn.chain_len hTH h3
          have h7 := Chn.rank_le (P := prio ts) (h3.lt a (by simp))
          simp only [List.length_cons]
          omega
      · rw [hf]; exact h2.depth
noncomputable def deepL (ts : List TaskV) : List Nat := Classical.choose (deep_ex ts)
theorem deepL_ok (ts : List TaskV) : DeepOk ts (deepL ts) := Classical.choose_spec (deep_ex ts)
end Bch
end Go.Proofs.Ytdoimkmhincmmaa
