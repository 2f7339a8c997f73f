/- BusyRises: the walk. -/
import Derived.Test.YtcgnboplpibcgaaIn25
import Derived.Test.YtcgnboplpibcgaaStep
import Derived.Deep.RegionLaw
import Derived.Deep.RegionLawGrows
namespace Go.Proofs.Ytcgnboplpibcgaa
open Go Go.RowKit
def lcells (l : List Ld) : List Value := l.flatMap fun y => [U y.1, U y.2]
theorem lcells_length (l : List Ld) : (lcells l).length = l.length * 2 := by
  induction l with
  | nil => rfl
  | cons y l ih => rw [lcells, List.flatMap_cons, List.length_append, ← lcells, ih]; simp; omega
theorem lcells_at : ∀ (l : List Ld) (k c p : Nat), l[k]? = some (c, p) → (lcells l)[k * 2]? = some (U c) ∧ (lcells l)[k * 2 + 1]? = some (U p)
  | [], k, c, p, h => by simp at h
  | y :: l, 0, c, p, h => by
    simp at h
    subst h
    exact ⟨rfl, rfl⟩
  | y :: l, k + 1, c, p, h => by
    have h' : l[k]? = some (c, p) := by simpa using h
    obtain ⟨h1, h2⟩ := lcells_at l k c p h'
    have e : lcells (y :: l) = [U y.1, U y.2] ++ lcells l := rfl
    rw [e, show (k + 1) * 2 = k * 2 + 2 by omega]
    exact ⟨by rw [List.getElem?_append_right (by simp)]; simpa using h1, by rw [List.getElem?_append_right (by simp)]; simpa using h2⟩
theorem lcells_one (l : List Ld) : ∀ u ∈ lcells l, u.oneCell' = true := by
  intro u hu
  unfold lcells at hu
  rw [List.mem_flatMap] at hu
  obtain ⟨y, _, h⟩ := hu
  simp at h
  rcases h with rfl | rfl <;> rfl
theorem lrow_src {w : World} {A : Option Addr} {l : List Ld} {n : Nat} (h : LRow w A l) (hn : l.length = n) (h0 : 0 < n) : ∃ ad, A = some ad ∧ ∀ j u, (lcells l)[j]? = some u → w.cell? (ad.add j) = some u := by
  obtain ⟨b, off, rfl, _, _, _⟩ := h 0 (l[0]'(by omega)).1 (l[0]'(by omega)).2 (List.getElem?_eq_getElem (by omega))
  refine ⟨_, rfl, fun j u hj => ?_⟩
  have hjl := (List.getElem?_eq_some_iff.1 hj).1
  rw [lcells_length] at hjl
  obtain ⟨⟨c, p⟩, hcp⟩ : ∃ y, l[j / 2]? = some y := ⟨_, List.getElem?_eq_getElem (by omega)⟩
  obtain ⟨b', off', e, c1, c2, _⟩ := h (j / 2) c p hcp
  cases e
  obtain ⟨h1, h2⟩ := lcells_at l (j / 2) c p hcp
  rw [Addr.add_lit]
  rcases Nat.mod_two_eq_zero_or_one j with hm | hm
  · rw [show j / 2 * 2 = j by omega] at h1 c1
    rw [h1] at hj
    cases hj
    exact c1
  · rw [show j / 2 * 2 + 1 = j by omega] at h2
    rw [show off + j / 2 * 2 + 1 = off + j by omega] at c2
    rw [h2] at hj
    cases hj
    exact c2
theorem win_lrow {w : World} {A : Option Addr} {n cap : Nat} {h : Option Nat} {l : List Ld} (hW : Win w 37 2 (.slice A n cap) h n (lcells l)) : LRow w A l := by
  intro k c p hk
  have hl := hW.1
  rw [lcells_length] at hl
  have hkl := (List.getElem?_eq_some_iff.1 hk).1
  obtain ⟨g, off, cap', _, hv, _, _, hlt, hc, _⟩ := hW.at_ (by omega)
  simp only [Value.slice.injEq, true_and] at hv
  obtain ⟨rfl, rfl⟩ := hv
  obtain ⟨h1, h2⟩ := lcells_at l k c p hk
  exact ⟨g, off, rfl, hc _ _ h1, by have := hc _ _ h2; rwa [← Nat.add_assoc] at this, hlt⟩
theorem info37' : (Try.prog.info? 37).map (fun i => (i.zero, i.size, i.bytes)) = some (some (.agg #[U 0, U 0]), 2, 16) := by kernel_rfl
theorem lb_snoc {l : List Ld} {c p : Nat} (h : LB l) (hc : c ≤ 18446744073709551615) (hp : p ≤ 18446744073709551615) : LB (l ++ [(c, p)]) := fun k a b hk => by
  rw [List.getElem?_append] at hk
  split at hk
  · exact h k a b hk
  · cases hh : k - l.length with
    | zero => rw [hh] at hk; simp at hk; omega
    | succ j => rw [hh] at hk; simp at hk
theorem win_rises {D E : Nat → Nat} {m : Nat} (h : ∀ x, x ≤ m → D x ≤ E x) (hm : m ≤ 18446744073709551615) : orU (win D m) ≤ orU (win E m) ∧ (win D m = 0 → win E m = 0) := by
  have hd := win_is D m
  have he := win_is E m
  generalize win D m = a at *
  generalize win E m = b at *
  unfold orU
  rcases hd with ⟨rfl, h1⟩ | ⟨h1, h2, h3, h4⟩ <;> rcases he with ⟨rfl, k1⟩ | ⟨k1, k2, k3, k4⟩
  · simp
  · have := h1 b k1 k2
    have := h b k2
    omega
  · rw [if_neg (by omega)]
    simp
    omega
  · rw [if_neg (by omega), if_neg (by omega)]
    refine ⟨?_, by omega⟩
    rcases Nat.lt_or_ge b a with hh | hh
    · have := h4 b k1 hh
      have := h b k2
      omega
    · exact hh
set_option maxRecDepth 100000 in
set_option maxHeartbeats 8000000 in
theorem rises_any {w : World} {A : Option Addr} {n cap d m c p : Nat} {l : List Ld} (h : LoadsIn w A n l) (hd : d ≤ 4294967295) (hm : m ≤ 4294967295) (hc : c ≤ 18446744073709551615) (hp : p ≤ 18446744073709551615) :
    Calls Try.prog 5 #[.int .u32 d, .int .u32 m, .slice A n cap, .agg #[U c, U p]] w (AnsB true w) := by
  have hI := Lib.hid h
  obtain ⟨Z, hZ⟩ : ∃ Z, Z = AnsB true w := ⟨_, rfl⟩
  rw [← hZ]
  have hZ' := Lib.hid hZ
  obtain ⟨X, hX⟩ : ∃ X, X = w.heap.size := ⟨_, rfl⟩
  have hX' := Lib.hid hX
  have hb := Lib.hid (And.intro hc hp)
  clear h hZ hX hc hp
  by_cases h1 : 12 < n
  · have h1' : (12 : Int) < n := by omega
    go_enter Try.func5, Try.ntmps5
    go_wp2_with fail
    refine (fixed25_any _).mono ?_
    rintro e w2 ⟨rfl, ho⟩
    have hO2 := Lib.hid (((Only.refl _ _).alloc _).trans' ho)
    clear ho
    go_wp2
    rw [hZ'.out]
    exact ⟨rfl, hO2.out⟩
  have h1' : ¬ (12 : Int) < n := by omega
  have hn12 : n ≤ 12 := by omega
  go_enter Try.func5, Try.ntmps5
  go_wp2_with fail
  rw [← hX'.out]
  refine (fixed25_any _).mono ?_
  rintro e w2 ⟨rfl, ho⟩
  have hO2 := Lib.hid (((Only.refl _ _).alloc _).trans' ho)
  have hB2 := Lib.hid (ho.heap (heap_new_at _ _ hX'.out.symm) (fun h => h))
  clear ho
  go_wp2_with fail
  refine (window_any (most := 5000) (d := d) (hI.out.new hO2.out).row hI.out.len (by omega) hI.out.lb (by omega) (by omega)).mono ?_
  rintro e w3 ⟨rfl, ho⟩
  have hO3 := Lib.hid (hO2.out.trans' ho)
  have hB3 := Lib.hid (ho.heap hB2.out (fun h => h))
  clear ho hB2
  rw [show min 5000 16777216 = 5000 by decide]
  obtain ⟨r0, hr0⟩ : ∃ r0, r0 = win (dem d l) 5000 := ⟨_, rfl⟩
  rw [← hr0]
  obtain ⟨o0, ho0⟩ : ∃ o0, o0 = orU r0 := ⟨_, rfl⟩
  rw [← ho0]
  obtain ⟨b0, hb0⟩ : ∃ b0, b0 = decide (0 < r0) := ⟨_, rfl⟩
  rw [← hb0]
  have k0 := Lib.hid (And.intro hr0 (And.intro ho0 hb0))
  clear hr0 ho0 hb0
  go_wp2_with fail
  rw [show (d : Int) + (m : Int) = ((d + m : Nat) : Int) by omega]
  refine (window_any (most := 5000) (d := d + m) (hI.out.new hO3.out).row hI.out.len (by omega) hI.out.lb (by omega) (by omega)).mono ?_
  rintro e w4 ⟨rfl, ho⟩
  have hO4 := Lib.hid (hO3.out.trans' ho)
  have hB4 := Lib.hid (ho.heap hB3.out (fun h => h))
  clear ho hB3
  rw [show min 5000 16777216 = 5000 by decide]
  obtain ⟨r1, hr1⟩ : ∃ r1, r1 = win (dem (d + m) l) 5000 := ⟨_, rfl⟩
  rw [← hr1]
  obtain ⟨o1, ho1⟩ : ∃ o1, o1 = orU r1 := ⟨_, rfl⟩
  rw [← ho1]
  obtain ⟨b1, hb1⟩ : ∃ b1, b1 = decide (0 < r1) := ⟨_, rfl⟩
  rw [← hb1]
  have k1 := Lib.hid (And.intro hr1 (And.intro ho1 hb1))
  clear hr1 ho1 hb1
  obtain ⟨nl, hnl⟩ : ∃ nl, nl = n := ⟨_, rfl⟩
  have hbox := Lib.hid (fun W (ho : Only (fun _ => False) w4 W) => show W.cell? ⟨X, 0, none⟩ = some (U c) ∧ W.cell? ⟨X, 1, none⟩ = some (U p) ∧ X < W.heap.size from
    ⟨row_cell (L := [U c, U p]) (ho.heap hB4.out (fun h => h)) (i := 0) rfl, row_cell (L := [U c, U p]) (ho.heap hB4.out (fun h => h)) (i := 1) rfl, row_lt (ho.heap hB4.out (fun h => h))⟩)
  obtain ⟨x0, x1, xl⟩ := hbox.out w4 (Only.refl _ _)
  have hsrc := Lib.hid (fun W (ho : Only (fun _ => False) w4 W) => lrow_src (hI.out.new (hO4.out.trans' ho)).row hI.out.len)
  have hlen := Lib.hid (show (lcells l).length = n * 2 by rw [lcells_length, hI.out.len])
  obtain ⟨r2, hr2⟩ : ∃ r2, r2 = win (dem d (l ++ [(c, p)])) 5000 := ⟨_, rfl⟩
  have hwin := Lib.hid (fun W (A' : Option Addr) (cap' : Nat) (h' : Option Nat) (hW : Win W 37 2 (.slice A' (0 + n + 1) cap') h' (0 + n + 1) ([] ++ lcells l ++ [U c, U p])) =>
    show Calls Try.prog 14 #[.int .u64 (d : Int), .slice A' (n + 1) cap', .int .u64 5000] W (WinEnd r2 W) from by
      have hW2 : Win W 37 2 (.slice A' (n + 1) cap') h' (n + 1) (lcells (l ++ [(c, p)])) := by
        rw [Nat.zero_add] at hW
        rw [lcells, List.flatMap_append]; exact hW
      have := window_any (most := 5000) (d := d) (n := n + 1) (cap := cap') (win_lrow hW2) (by rw [List.length_append, hI.out.len]; rfl) (by omega) (lb_snoc hI.out.lb hb.out.1 hb.out.2) (by omega) (by omega)
      rwa [show min 5000 16777216 = 5000 by decide, ← hr2] at this)
  have hr2' := Lib.hid hr2
  clear hr2 hB4
  go_wp2
  have hn5 : n + 1 ≤ 1000 := by omega
  have hwd : IntKind.u64.wrap (d : Int) = d := by rw [IntKind.wrap_u64]; omega
  go_region_law (first
    | (refine step_append_win rfl (.tmp 40) (.tmp 41) 23 rfl 37 (.agg #[U 0, U 0]) 2 16 Try.underlying23 info37' rfl (by decide) (h := none) (n := 0) (xs := []) (by rfl) (Win.empty _ _ _ _) A n cap (by rfl) (lcells l) hlen.out (hsrc.out _ (by repeat (first | assumption | exact Only.refl _ _ | apply Only.drew | apply Only.alloc))) (lcells_one l) (by unfold maxLen; omega) (by omega) ?_; intro v5 w5 h5 hW5 hO5 hh5; obtain ⟨hO45, hnew5⟩ := step_fresh (w := w4) (by repeat (first | assumption | exact Only.refl _ _ | apply Only.drew | apply Only.alloc)) hO5.out (fun _ h => by cases h) hh5.out; have hnew5' := Lib.hid hnew5; clear hnew5; obtain ⟨y0, y1, yl⟩ := hbox.out w5 hO45)
    | (refine step_append_win rfl (.tmp 42) (.tmp 44) 23 rfl 37 (.agg #[U 0, U 0]) 2 16 Try.underlying23 info37' rfl (by decide) (v := v5) (h := h5) (n := 0 + n) (xs := [] ++ lcells l) (by rfl) (by first | exact hW5.out | exact hW5.out.kept (by repeat (first | exact Only.refl (fun _ => False) _ | apply Only.drew | apply Only.alloc)) (fun _ _ h => h)) _ 1 1 (by rfl) [U c, U p] rfl (fun _ => ⟨_, rfl, (by (first | exact row_two (heap_new_at _ _ (by simp)) | exact row_two (heap_kept_alloc (heap_new_at _ _ (by simp)) _) | exact row_two (hO5.out.heap (heap_new_at _ _ (by simp)) (fun e => by cases e)) | exact row_two (hO5.out.heap (heap_kept_alloc (heap_new_at _ _ (by simp)) _) (fun e => by cases e))))⟩) (by simp [Value.oneCell']) (by unfold maxLen; omega) (by omega) ?_; intro v6 w6 h6 hW6 hO6 hh6; have hO46 := (step_fresh (w := w4) (by repeat (first | assumption | exact Only.refl _ _ | apply Only.drew | apply Only.alloc)) hO6.out hnew5'.out hh6.out).1; obtain ⟨A6, cap6, rfl, -, -⟩ := hW6.out.form)
    | (refine step_call rfl Try.func14 (by kernel_rfl) rfl _ _ rfl [.int .u64 (d : Int), .slice A6 (n + 1) cap6, .int .u64 5000] rfl (hwin.out w6 A6 cap6 h6 hW6.out) ?_; rintro e w7 ⟨rfl, ho7⟩; refine ⟨_, rfl, ?_⟩; have hO47 : Only (fun _ => False) w w7 := hO4.out.trans' (hO46.trans' ho7)))
  all_goals
    obtain ⟨kr0, ko0, kb0⟩ := k0.out
    obtain ⟨kr1, ko1, kb1⟩ := k1.out
    have f1 := win_rises (D := dem d l) (E := dem (d + m) l) (m := 5000) (fun x hx => dem_mono (by omega) l (Nat.le_refl _) (by omega)) (by omega)
    have f2 := win_rises (D := dem d l) (E := dem d (l ++ [(c, p)])) (m := 5000) (fun x hx => dem_snoc (by omega)) (by omega)
    rw [← kr0, ← kr1, ← ko0, ← ko1] at f1
    rw [← kr0, ← hr2'.out, ← ko0] at f2
    obtain ⟨o2, ho2⟩ : ∃ o2, o2 = orU r2 := ⟨_, rfl⟩
    obtain ⟨b2, hb2⟩ : ∃ b2, b2 = decide (0 < r2) := ⟨_, rfl⟩
    rw [← ho2, ← hb2]
    rw [← ho2] at f2
    have g1 : (o0 : Int) ≤ o1 := by omega
    have g2 : (o0 : Int) ≤ o2 := by omega
    have g3 : (b0 || (!b1 && !b2)) = true := by
      rw [kb0, kb1, hb2]
      by_cases hz : r0 = 0
      · rw [f1.2 hz, f2.2 hz]
        simp
      · rw [decide_eq_true (show 0 < r0 by omega)]
        rfl
    have hO47' := Lib.hid hO47
    clear kr0 ko0 kb0 kr1 ko1 kb1 f1 f2 ho2 hb2 hO47 ho7
    cases b0 <;> cases b1 <;> cases b2 <;> first
      | (cases g3; done)
      | (go_wp2
         rw [hZ'.out]
         exact ⟨by simp, hO47'.out⟩)
end Go.Proofs.Ytcgnboplpibcgaa
