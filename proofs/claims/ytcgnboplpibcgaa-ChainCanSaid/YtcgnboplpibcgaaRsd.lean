/- chain: tasks whose thresholds are raised. -/
import Derived.Test.YtcgnboplpibcgaaOpn26
namespace Go.Proofs.Ytcgnboplpibcgaa
open Go Go.RowKit Go.Maps Go.Shelf
/-- The cells of tasks behind each other. -/
def flat : List TaskV → List Value
  | [] => []
  | t :: l => t.cells ++ flat l
theorem cells7 (t : TaskV) : t.cells.length = 7 := rfl
theorem flat_len : ∀ l : List TaskV, (flat l).length = l.length * 7
  | [] => rfl
  | t :: l => by rw [flat, List.length_append, flat_len l, cells7, List.length_cons]; omega
theorem flat_get : ∀ {l : List TaskV} {k i : Nat} {t : TaskV} {u : Value}, l[k]? = some t → t.cells[i]? = some u → (flat l)[k * 7 + i]? = some u
  | [], k, i, t, u, h, _ => by simp at h
  | a :: l, 0, i, t, u, h, hu => by
    obtain rfl : a = t := by simpa using h
    have hi : i < 7 := by have := (List.getElem?_eq_some_iff.1 hu).1; rwa [cells7] at this
    rw [flat, List.getElem?_append_left (by rw [cells7]; omega)]
    simpa using hu
  | a :: l, k + 1, i, t, u, h, hu => by
    rw [flat, List.getElem?_append_right (by rw [cells7]; omega), cells7, show (k + 1) * 7 + i - 7 = k * 7 + i by omega]
    exact flat_get (by simpa using h) hu
theorem flat_inv : ∀ {l : List TaskV} {j : Nat} {u : Value}, (flat l)[j]? = some u → ∃ k t i, l[k]? = some t ∧ t.cells[i]? = some u ∧ j = k * 7 + i
  | [], j, u, h => by simp [flat] at h
  | a :: l, j, u, h => by
    rw [flat] at h
    by_cases hj : j < 7
    · rw [List.getElem?_append_left (by rw [cells7]; omega)] at h
      exact ⟨0, a, j, rfl, h, by omega⟩
    · rw [List.getElem?_append_right (by rw [cells7]; omega), cells7] at h
      obtain ⟨k, t, i, h1, h2, h3⟩ := flat_inv h
      exact ⟨k + 1, t, i, by simpa using h1, h2, by omega⟩
def raise (t : TaskV) (z : Int) : TaskV := { t with th := z }
theorem flat_set : ∀ {l : List TaskV} {k : Nat} {t : TaskV} {z : Int}, l[k]? = some t → (flat l).set (k * 7 + 1) (.int .i64 z) = flat (l.set k (raise t z))
  | [], k, t, z, h => by simp at h
  | a :: l, 0, t, z, h => by
    obtain rfl : a = t := by simpa using h
    rw [flat, List.set_append_left _ _ (by rw [cells7]; omega), List.set_cons_zero, flat]
    rfl
  | a :: l, k + 1, t, z, h => by
    rw [flat, List.set_append_right _ _ (by rw [cells7]; omega), cells7, show (k + 1) * 7 + 1 - 7 = k * 7 + 1 by omega, flat_set (by simpa using h), List.set_cons_succ, flat]
theorem cell_one (t : TaskV) : ∀ u ∈ t.cells, u.oneCell' = true := by
  intro u hu
  simp [TaskV.cells] at hu
  rcases hu with rfl | rfl | rfl | rfl | rfl | rfl | rfl <;> rfl
theorem flat_one (l : List TaskV) : ∀ u ∈ flat l, u.oneCell' = true := by
  induction l with
  | nil => intro u hu; simp [flat] at hu
  | cons t l ih =>
    intro u hu
    rw [flat] at hu
    rcases List.mem_append.1 hu with h | h
    · exact cell_one t u h
    · exact ih u h
/-- Tasks in memory, read as a row of cells. -/
theorem flat_src {w : World} {x : Sl} {ts : List TaskV} (h : TasksAt w x ts) (hn : 0 < x.n) : ∃ ad, x.A = some ad ∧ ∀ j u, (flat ts)[j]? = some u → w.cell? (ad.add j) = some u := by
  obtain ⟨b, off, hA, -, -⟩ := h.at_ 0 (ts[0]'(by rw [h.len]; exact hn)) (List.getElem?_eq_getElem _)
  refine ⟨_, hA, fun j u hu => ?_⟩
  obtain ⟨k, t, i, h1, h2, rfl⟩ := flat_inv hu
  obtain ⟨b', off', hA', -, hc⟩ := h.at_ k t h1
  rw [hA] at hA'
  cases hA'
  rw [Addr.add_lit]
  have hi : i < 7 := by have := (List.getElem?_eq_some_iff.1 h2).1; rwa [cells7] at this
  rw [show off + (k * 7 + i) = off + k * 7 + i by omega]
  match i, hi, h2 with
  | 0, _, h2 => cases h2; exact hc.c0
  | 1, _, h2 => cases h2; exact hc.c1
  | 2, _, h2 => cases h2; exact hc.c2
  | 3, _, h2 => cases h2; exact hc.c3
  | 4, _, h2 => cases h2; exact hc.c4
  | 5, _, h2 => cases h2; exact hc.c5
  | 6, _, h2 => cases h2; exact hc.c6
theorem flat_tasks {w : World} {A : Option Addr} {n cap : Nat} {h : Option Nat} {ts : List TaskV} (hW : Win w 57 7 (.slice A n cap) h n (flat ts)) (hl : ts.length = n) : TasksAt w ⟨A, n, cap⟩ ts := by
  obtain ⟨p, cap', hv, hc, _⟩ := hW.form
  simp only [Value.slice.injEq, true_and] at hv
  obtain ⟨rfl, rfl⟩ := hv
  refine ⟨hl, hc, fun k t ht => ?_⟩
  have hk := (List.getElem?_eq_some_iff.1 ht).1
  obtain ⟨g, off, cc, _, hv, _, _, hgl, hcell, _⟩ := hW.at_ (by omega)
  simp only [Value.slice.injEq, true_and] at hv
  have hcc : ∀ i u, t.cells[i]? = some u → w.cell? ⟨g, off + k * 7 + i, none⟩ = some u := fun i u hu => by
    rw [show off + k * 7 + i = off + (k * 7 + i) by omega]
    exact hcell _ _ (flat_get ht hu)
  exact ⟨g, off, hv.1, hgl, hcc 0 _ rfl, hcc 1 _ rfl, hcc 2 _ rfl, hcc 3 _ rfl, hcc 4 _ rfl, hcc 5 _ rfl, hcc 6 _ rfl⟩
/-- A row of several cells an element, one cell set. -/
theorem Win.setCell7 {w : World} {e : TypeId} {sz g off n cap : Nat} {h : Option Nat} {xs : List Value} (hW : Win w e sz (.slice (some ⟨g, off, none⟩) n cap) h n xs) (hn : 0 < n) (i : Nat) (u : Value) :
    h = some g ∧ Win (w.setCell ⟨g, off + i, none⟩ u) e sz (.slice (some ⟨g, off, none⟩) n cap) h n (xs.set i u) := by
  obtain ⟨hl, p, cap', hv, h1, h2, h3⟩ := hW
  simp only [Value.slice.injEq, true_and] at hv
  obtain ⟨rfl, rfl⟩ := hv
  rcases h3 with h3 | ⟨g', off', L, hg, hp, hh, h4, h5⟩
  · omega
  · simp only [Option.some.injEq, Addr.mk.injEq, and_true] at hp
    obtain ⟨rfl, rfl⟩ := hp
    refine ⟨hg, by simpa using hl, _, cap, rfl, h1, h2, .inr ⟨g, off, L.set (off + i) u, hg, rfl, row_set hh _ _, by simpa using h4, ?_⟩⟩
    rw [← h5, List.drop_set, if_neg (by omega), show off + i - off = i by omega, List.take_set]
/-- The same tasks, with thresholds that are no lower. -/
structure Rais (ts us : List TaskV) : Prop where
  len : us.length = ts.length
  at_ : ∀ (k : Nat) t u, ts[k]? = some t → us[k]? = some u → u.p = t.p ∧ u.fr = t.fr ∧ t.th ≤ u.th
theorem Rais.refl (ts : List TaskV) : Rais ts ts := ⟨rfl, fun k t u h1 h2 => by rw [h1] at h2; cases h2; exact ⟨rfl, rfl, Int.le_refl _⟩⟩
theorem Rais.set {ts us : List TaskV} (h : Rais ts us) {k : Nat} {u : TaskV} {z : Int} (hu : us[k]? = some u) (hz : u.th ≤ z) : Rais ts (us.set k (raise u z)) := by
  have hk := (List.getElem?_eq_some_iff.1 hu).1
  refine ⟨by rw [List.length_set]; exact h.len, fun j t v h1 h2 => ?_⟩
  by_cases hj : j = k
  · subst hj
    rw [List.getElem?_set_self hk] at h2
    cases h2
    have := h.at_ j t u h1 hu
    exact ⟨this.1, this.2.1, Int.le_trans this.2.2 hz⟩
  · rw [List.getElem?_set_ne (Ne.symm hj)] at h2
    exact h.at_ j t v h1 h2
theorem Rais.num {ts us : List TaskV} (h : Rais ts us) {k : Nat} (hk : k < ts.length) : prio us k = prio ts k ∧ frm us k = frm ts k ∧ thr ts k ≤ thr us k := by
  obtain ⟨t, ht⟩ : ∃ t, ts[k]? = some t := ⟨_, List.getElem?_eq_getElem hk⟩
  obtain ⟨u, hu⟩ : ∃ t, us[k]? = some t := ⟨_, List.getElem?_eq_getElem (by rw [h.len]; exact hk)⟩
  have := h.at_ k t u ht hu
  rw [prio_at ht, prio_at hu, frm_at ht, frm_at hu, thr_at ht, thr_at hu]
  exact this
theorem depth_eq {F G : Nat → Int} : ∀ {l : List Nat}, (∀ x ∈ l, F x = G x) → Chn.depth F l = Chn.depth G l
  | [], _ => rfl
  | x :: l, h => by
    show F x + Chn.depth F l = G x + Chn.depth G l
    rw [h x (by simp), depth_eq (fun y hy => h y (by simp [hy]))]
/-- Raised thresholds make no chain deeper. -/
theorem bnd_mono {ts us : List TaskV} (hr : rightB ts = true) (h : Rais ts us) : bndZ us ≤ bndZ ts := by
  obtain ⟨h12, hTH, hP, hF⟩ := right_facts hr
  have hru : rightB us = true := by
    refine decide_eq_true ⟨by rw [h.len]; exact h12, fun i hi => ?_⟩
    rw [h.len] at hi
    obtain ⟨e1, e2, e3⟩ := h.num hi
    have hT := hTH i hi
    have hFF := hF i hi
    refine ⟨⟨by omega, by omega, by omega⟩, fun k hk e => ?_⟩
    obtain ⟨k1, _, _⟩ := h.num (k := k) (by omega)
    rw [k1, e1] at e
    have := hP k i (by omega) hi e
    omega
  have o1 := deepL_ok ts
  have o2 := deepL_ok us
  by_cases h0 : ts.length = 0
  · unfold bndZ
    rw [(o1.2.2.2.2.2 hr).1 h0, (o2.2.2.2.2.2 hru).1 (by rw [h.len]; exact h0)]
    exact Int.le_refl _
  · obtain ⟨c1, c2, c3⟩ := (o1.2.2.2.2.2 hr).2 (by omega)
    obtain ⟨d1, d2, _⟩ := (o2.2.2.2.2.2 hru).2 (by rw [h.len]; omega)
    have hlt : ∀ x ∈ deepL us, x < ts.length := fun x hx => by have := o2.2.2.1 x hx; rwa [h.len] at this
    have key : ∀ l : List Nat, Chn.Chain us.length (prio us) (thr us) l → Chn.Chain ts.length (prio ts) (thr ts) l := by
      intro l
      induction l with
      | nil => intro _; trivial
      | cons a l ih =>
        intro hc
        cases l with
        | nil => exact h.len ▸ hc
        | cons b l =>
          obtain ⟨g1, g2, g3⟩ := hc
          have hb := g3.lt b (by simp)
          rw [h.len] at g1 hb
          refine ⟨g1, ?_, ih g3⟩
          have g2 := of_decide_eq_true g2
          have na := h.num g1
          have nb := h.num hb
          exact decide_eq_true (by omega)
    have hb := c3 _ d2 (key _ d1)
    have hno : ¬ (Chn.depth (frm ts) (deepL ts) < Chn.depth (frm ts) (deepL us) ∨ _) := fun hh => by rw [Chn.better_iff.2 hh] at hb; cases hb
    have hde : Chn.depth (frm us) (deepL us) = Chn.depth (frm ts) (deepL us) := depth_eq (fun x hx => (h.num (hlt x hx)).2.1)
    unfold bndZ
    rw [hde]
    have : ¬ Chn.depth (frm ts) (deepL ts) < Chn.depth (frm ts) (deepL us) := fun hh => hno (.inl hh)
    omega
theorem info57 : (Try.prog.info? 57).map (fun i => (i.zero, i.size, i.bytes)) = some (some (Value.agg #[.int .i64 0, .int .i64 0, .int .i64 0, .int .i64 0, .int .i64 0, .int .i64 0, .slice none 0 0]), 7, 72) := by kernel_rfl
end Go.Proofs.Ytcgnboplpibcgaa
