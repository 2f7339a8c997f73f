/- The document's layer 26, of a configuration that may be: Deepest, Depth. -/
import Derived.Test.YtlbinlhaejhobaaGreatDoorBcRde
import Derived.Test.YtlbinlhaejhobaaGreatDoorPN
import Derived.Test.YtlbinlhaejhobaaGreatDoorAdm3
namespace Go.Proofs.YtlbinlhaejhobaaGreatDoor
namespace Bch
open Go Go.RowKit Go.Maps
theorem doneC_all {ts : List TaskV} (hTH : ∀ i, i < ts.length → prio ts i ≤ thr ts i) (hn : ts.length ≤ 9) : doneC ts ts.length = Chn.allC ts.length (prio ts) (thr ts) := by
  unfold doneC Chn.allC
  have key : ∀ (m : List Nat), (∀ i ∈ m, i < ts.length) → m.flatMap (fun i => Chn.chains ts.length (prio ts) (thr ts) 9 i) = m.flatMap (fun i => Chn.chains ts.length (prio ts) (thr ts) ts.length i) := by
    intro m
    induction m with
    | nil => intro _; rfl
    | cons i m ih =>
      intro h
      have hi := h i (by simp)
      have h1 := Chn.rank_le (P := prio ts) hi
      rw [List.flatMap_cons, List.flatMap_cons, ih (fun j hj => h j (by simp [hj])), Chn.chains_fuel hTH 9 ts.length i hi (by omega) (by omega)]
  exact key _ (fun i hi => List.mem_range.1 hi)
theorem deep_same {ts : List TaskV} (hr : rightB ts = true) (hn : ts.length ≤ 9) : (deepL ts = [] ∧ Chn.bestF (prio ts) (frm ts) (doneC ts ts.length) none = none) ∨ Chn.bestF (prio ts) (frm ts) (doneC ts ts.length) none = some (deepL ts) := by
  obtain ⟨_, hTH, hP, hF⟩ := right_facts hr
  obtain ⟨_, _, _, _, _, hd⟩ := deepL_ok ts
  obtain ⟨h0, h1⟩ := hd hr
  by_cases hz : ts.length = 0
  · left
    refine ⟨h0 hz, ?_⟩
    unfold doneC
    rw [hz]
    rfl
  · right
    obtain ⟨c1, c2, c3⟩ := h1 (by omega)
    rw [doneC_all hTH hn]
    have hin := (Chn.all_iff hTH (l := deepL ts)).2 ⟨c2, c1⟩
    obtain ⟨m, m1, m2, m3⟩ := Chn.bestF_none (P := prio ts) (F := frm ts) (r := Chn.allC ts.length (prio ts) (thr ts)) (fun h => by rw [h] at hin; simp at hin)
    obtain ⟨k1, k2⟩ := (Chn.all_iff hTH (l := m)).1 m2
    rw [m1, Chn.better_uniq hP k2.lt c1.lt (c3 m k1 k2) (m3 _ hin)]
theorem best_row {ts : List TaskV} (hr : rightB ts = true) (hn : ts.length ≤ 9) {W : World} {u : Value} (h : BestAt W ts.length u (Chn.bestF (prio ts) (frm ts) (doneC ts ts.length) none)) :
    ∃ A cap h2, u = .slice A (deepL ts).length cap ∧ Win W 3 1 (.slice A (deepL ts).length cap) h2 (deepL ts).length (dat (deepL ts)) := by
  rcases deep_same hr hn with ⟨h1, h2⟩ | h2
  · rw [h2] at h
    rw [h1]
    exact ⟨none, 0, none, h, Win.nil _ _ _⟩
  · rw [h2] at h
    obtain ⟨A, cap, hh, e, hW, -⟩ := h
    exact ⟨_, cap, hh, e, hW⟩
end Bch
namespace Adm
open Go Go.RowKit Rca Sct Lin Lck Cst Rld Pre
open Bch (GrowI rightB frm thr deepL bndZ deepL_ok right_facts best_row rdeepest_any depth_any)
theorem fine_right {w : World} {c : ConfV} {d : ConfL} {pl : Tks} (hC : ConfIn w c d pl) (hF : Fin0.Fine c d pl) : rightB pl.ts = true := by
  have hlen := hC.t.len
  have hn := hF.counts
  refine decide_eq_true ⟨by omega, fun i hi => ?_⟩
  obtain ⟨t, l, h1, h2, -⟩ := fine_at hC hF (show i < c.ta.n by omega)
  have h3 := hF.nums (show i < c.ta.n by omega) h1
  refine ⟨⟨?_, ?_, ?_⟩, fun k hk e => ?_⟩
  · rw [Bch.prio_at h2, Bch.thr_at h2]; omega
  · rw [Bch.frm_at h2]; omega
  · rw [Bch.frm_at h2]; omega
  · have := fine_prio hC hF (show k < c.ta.n by omega) (show i < c.ta.n by omega) (show prio pl.ts k = prio pl.ts i from e)
    omega
theorem rdeep_any {w : World} {c : ConfV} {d : ConfL} {pl : Tks} (hC : ConfIn w c d pl) (hF : Fin0.Fine c d pl) :
    Calls Tryz.prog 19 #[c.val] w (fun e W' => ∃ A cap h2, e = .returned (.slice A (deepL pl.ts).length cap) ∧ Win W' 3 1 (.slice A (deepL pl.ts).length cap) h2 (deepL pl.ts).length (dat (deepL pl.ts)) ∧ Only (fun _ => False) w W') := by
  have hr := fine_right hC hF
  have hn := hF.counts
  have hlen := hC.t.len
  obtain ⟨_, hTH, _, hFr⟩ := right_facts hr
  refine (rdeepest_any hC.t (by omega) hTH hFr).mono ?_
  rintro e W' ⟨u, rfl, hB, hO⟩
  obtain ⟨A, cap, h2, rfl, hW⟩ := best_row hr (by omega) hB
  exact ⟨A, cap, h2, rfl, hW, hO⟩
theorem rdepth_any {w : World} {c : ConfV} {d : ConfL} {pl : Tks} (hC : ConfIn w c d pl) (hF : Fin0.Fine c d pl) {A : Option Addr} {cap : Nat} {hh : Option Nat} (hW : Win w 3 1 (.slice A (deepL pl.ts).length cap) hh (deepL pl.ts).length (dat (deepL pl.ts))) :
    Calls Tryz.prog 18 #[c.val, .slice A (deepL pl.ts).length cap] w (GrowI (bndZ pl.ts) w) := by
  have hr := fine_right hC hF
  have hn := hF.counts
  obtain ⟨_, hTH, _, hFr⟩ := right_facts hr
  obtain ⟨hC1, hC2, hC3, -⟩ := (deepL_ok pl.ts).2
  exact depth_any hC.t (by omega) hW rfl (by omega) hC2 hFr
end Adm
end Go.Proofs.YtlbinlhaejhobaaGreatDoor
