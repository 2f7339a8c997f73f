/- 'same', and the fixed calls of the statements of layer 4. -/
import Derived.Test.YtbmegpcdcbfjmaaDeltaV
namespace Go.Proofs.Ytbmegpcdcbfjmaa.Delta
open Go.RowKit

theorem same_any {w : World} {n : Nat} {p1 p2 : Option Addr} {c1 c2 : Nat} {h1 h2 : Option Nat} {xs : List Int} (W1 : Win w 3 1 (.slice p1 n c1) h1 n (xs.map mkI)) (W2 : Win w 3 1 (.slice p2 n c2) h2 n (xs.map mkI)) (hn : n ≤ 1000) :
    Calls Try.prog 27 #[.slice p1 n c1, .slice p2 n c2] w fun e w' => e = .returned (.bool true) ∧ ∃ m, w' = w.drewN m := by
  have hxl : xs.length = n := by have := W1.1; simpa using this
  have hnn : ((n : Int) == (n : Int)) = true := by simp
  by_cases h0 : n = 0
  · subst h0
    clear W1 W2 hxl
    go_enter Try.func27, Try.ntmps27
    go_wp2
    go_loop [13] (fun i => i = .int .i64 0) (fun _ => 0)
    case atStart => rfl
    case round =>
      subst hrel
      go_wp2
      go_ret
      exact ⟨rfl, 0, rfl⟩
  · obtain ⟨g1, o1, c1', _, e1, _, _, _, k1, _⟩ := W1.at_ (by omega)
    obtain ⟨g2, o2, c2', _, e2, _, _, _, k2, _⟩ := W2.at_ (by omega)
    cases e1
    cases e2
    have hK := Lib.hid (And.intro k1 (And.intro k2 hxl))
    clear W1 W2 k1 k2 hxl
    go_enter Try.func27, Try.ntmps27
    go_wp2
    go_loopw [13] (fun i wr => ∃ j : Nat, j ≤ n ∧ i = .int .i64 j ∧ ∃ m, wr = w.drewN m) (fun i _ => n - (intOf i).toNat)
    case atStart => exact ⟨0, Nat.zero_le _, rfl, 0, rfl⟩
    case round =>
      obtain ⟨j, hj, rfl, m, rfl⟩ := hrel
      by_cases hjn : j < n
      · obtain ⟨k1, k2, hxl⟩ := hK.out
        have hy : (xs.map mkI)[j]? = some (.int .i64 (xs[j]'(by omega))) := by simp [mkI]
        have d1 := k1 j _ hy
        have d2 := k2 j _ hy
        have hjn' : (j : Int) < (n : Int) := by omega
        generalize xs[j]'(by omega) = y at d1 d2
        clear hy k1 k2 hxl
        go_wp2
        go_quiet (fail)
        go_wp2
        go_roundw
        case rel => exact ⟨j + 1, by omega, by go_num, _, rfl⟩
        case measure => simp [intOf]; omega
      · go_wp2
        go_ret
        exact ⟨rfl, _, rfl⟩

theorem fixed_any (w : World) : Calls Try.prog 19 #[] w fun e w' => e = .returned (.bool true) ∧ Below w.heap.size w w' := by
  obtain ⟨B, hB⟩ : ∃ B, B = w.heap.size := ⟨_, rfl⟩
  have hB' := Lib.hid hB
  go_enter Try.func19, Try.ntmps19
  go_wp2_with fail
  refine (new_ok _).mono ?_
  rintro e w1 ⟨rfl, hL1, ho1⟩
  rw [← hB] at hL1 ⊢
  have O1 := Lib.hid (ho1.mono (T := fun k => B ≤ k) (fun _ _ h => h.elim))
  clear ho1 hB
  go_wp2_with fail
  refine (put_ok hL1 ⟨by simp [dat], by simp [dat, total]⟩ (by simp) 2 5 (by simp) (by omega)).mono ?_
  rintro e w2 ⟨rfl, ns2, hL2, hd2, hb2, ho2⟩
  have hfp2 : ∀ k, fp B ns2 k → B ≤ k := by
    rintro k (rfl | hk)
    · exact Nat.le_refl _
    · rcases hb2 k hk with h | h
      · simp [blocks] at h
      · have := O1.out.size; have := hB'.out; omega
  have O2 := Lib.hid (O1.out.trans ho2 (fun k _ hk => by
    rcases hk with rfl | hk
    · exact Nat.le_refl _
    · simp [blocks] at hk))
  have H2 := Lib.hid hfp2
  have D2 : Hid (dat ns2 = [(2, 5)]) := Lib.hid hd2
  clear hfp2 hd2 hb2 ho2
  go_wp2_with fail
  refine (put_ok hL2 (by rw [D2.out]; exact ⟨by simp, by simp [total]⟩) (by have := congrArg List.length D2.out; simp [dat] at this; omega) 1 3 (by
    intro m hm
    have : m.2 ∈ dat ns2 := List.mem_map.2 ⟨m, hm, rfl⟩
    rw [D2.out] at this
    simp at this
    rw [this]
    decide) (by omega)).mono ?_
  rintro e w3 ⟨rfl, ns3, hL3, hd3, hb3, ho3⟩
  have hfp3 : ∀ k, fp B ns3 k → B ≤ k := by
    rintro k (rfl | hk)
    · exact Nat.le_refl _
    · rcases hb3 k hk with h | h
      · exact H2.out k (.inr h)
      · have := O2.out.size; have := hB'.out; omega
  have O3 := Lib.hid (O2.out.trans ho3 (fun k _ hk => H2.out k hk))
  have H3 := Lib.hid hfp3
  have D3 : Hid (dat ns3 = [(1, 3), (2, 2)]) := Lib.hid (by rw [hd3, D2.out]; rfl)
  clear hfp3 hd3 hb3 ho3 hL1 hL2
  have hl3 : Hid (ns3.length = 2) := Lib.hid (by have := congrArg List.length D3.out; simpa [dat] using this)
  have hL3' := Lib.hid hL3
  clear hL3
  go_wp2_with fail
  refine (gaps_any hL3'.out (by have := hl3.out; omega)).mono ?_
  rintro e w4 ⟨v4, h4, rfl, hW4, hh4, ho4⟩
  have hg : ns3.map (fun m => m.2.2) = [3, 2] := by
    have := congrArg (List.map (·.2)) D3.out
    simpa [dat, Function.comp_def] using this
  rw [hg] at hW4
  obtain ⟨g4, o4, c4, e4, rfl, hn1, hn2, hlt4, k4, _⟩ := hW4.at_ (by simp)
  have d40 : w4.cell? ⟨g4, o4, none⟩ = some (.int .i64 3) := k4 0 _ rfl
  have d41 : w4.cell? ⟨g4, o4 + 1, none⟩ = some (.int .i64 2) := k4 1 _ rfl
  have hg4 : Hid (w3.heap.size ≤ g4) := Lib.hid (hh4 g4 e4)
  have hL4 := Lib.hid (hL3'.out.new ho4)
  have O4 := Lib.hid (O3.out.trans ho4 (fun _ _ h => h.elim))
  have hL3s := Lib.hid hL3'.out.lt
  clear hW4 hh4 ho4 k4 hg hn1 hn2
  have hc4 : (2 : Int) ≤ ([3, 2] : List Int).length := by simp
  go_wp2_with fail
  refine (adv_ok hL4.out (by rw [D3.out]; exact ⟨by simp, by simp [total]⟩) (by have := hl3.out; omega) 4 (by omega)).mono ?_
  rintro e w5 ⟨v5, h5, ns5, rfl, hW5, hh5, hL5, hd5, hb5, ho5⟩
  rw [D3.out] at hW5 hd5
  change Win w5 3 1 v5 h5 1 [.int .i64 1] at hW5
  replace hd5 : dat ns5 = [(2, 1)] := hd5
  obtain ⟨g5, o5, c5, e5, rfl, hn1, hn2, hlt5, k5, _⟩ := hW5.at_ (by simp)
  have d50 : w5.cell? ⟨g5, o5, none⟩ = some (.int .i64 1) := k5 0 _ rfl
  have hn4 : ∀ k, fp B ns3 k → k ≠ g4 := fun k hk e => by have := hL3s.out k hk; have := hg4.out; omega
  have d40' : w5.cell? ⟨g4, o4, none⟩ = some (.int .i64 3) := ho5.cell d40 (fun h => hn4 _ h rfl)
  have d41' : w5.cell? ⟨g4, o4 + 1, none⟩ = some (.int .i64 2) := ho5.cell d41 (fun h => hn4 _ h rfl)
  have O5 := Lib.hid (O4.out.trans ho5 (fun k _ hk => H3.out k hk))
  obtain ⟨n5, rfl, hn5⟩ : ∃ n5 : Nd, ns5 = [n5] ∧ n5.2 = (2, 1) := by
    cases ns5 with
    | nil => simp [dat] at hd5
    | cons n5 r =>
      simp only [dat, List.map_cons, List.cons.injEq, List.map_eq_nil_iff] at hd5
      exact ⟨n5, by rw [hd5.2], hd5.1⟩
  have hL5' := Lib.hid hL5
  have hn5' := Lib.hid hn5
  have hnx := next_some hL5
  rw [hn5] at hnx
  have hnx' := Lib.hid hnx
  have htw := put_twice (p := []) hL5 (by simp) 1 (by omega)
  rw [hn5] at htw
  have htw' := Lib.hid htw
  clear hW5 hh5 hL5 hd5 hb5 ho5 k5 hn1 hn2 d40 d41 hn4 hn5 hnx htw
  go_wp2_with fail
  refine hnx'.out.mono ?_
  rintro e w' ⟨rfl, rfl⟩
  go_wp2_with fail
  refine htw'.out.mono ?_
  rintro e w' ⟨rfl, rfl⟩
  go_wp2_with fail
  refine (put_range B 3 (-1) (by omega)).mono ?_
  rintro e w' ⟨rfl, rfl⟩
  go_wp2
  go_ret
  exact ⟨rfl, O5.out.below (Nat.le_refl _) (fun k hk => by have := hB'.out; omega)⟩
end Go.Proofs.Ytbmegpcdcbfjmaa.Delta
