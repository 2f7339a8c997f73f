/- The document's own Drop, Put and Advance of layer 4. -/
import Derived.Test.YtbmegpcdcbfjmaaRefR
import Derived.Deep.DrawnRows
namespace Go.Proofs.Ytbmegpcdcbfjmaa.Ref
open Go.RowKit Delta
attribute [local go_sem ↓] Go.wp_at_zero Go.wp_at_succ

/-- A slice of rows that a call makes. -/
def MadeRows (w : World) (xs : Gaps) (e : Ending) (w' : World) : Prop :=
  ∃ p cap h, e = .returned (.slice p xs.length cap) ∧ RowsAt w' p xs.length cap h xs ∧ (∀ k, h = some k → w.heap.size ≤ k) ∧ Only (fun _ => False) w w'

def zrow : Value := .agg #[.int .i64 0, .int .i64 0]
theorem none_only {w w' : World} (h : Only (fun k => some k = none) w w') : Only (fun _ => False) w w' := h.mono (fun _ _ e => by cases e)

theorem drop_any {w : World} {p : Option Addr} {n cap : Nat} {h : Option Nat} {xs : Gaps} (hR : RowsAt w p n cap h xs) (hn : n ≤ 1000) (i : Nat) (hi : i < n) :
    Calls Try.prog 25 #[.slice p n cap, .int .i64 i] w (MadeRows w (xs.take i ++ xs.drop (i + 1))) := by
  have hlen : (xs.take i ++ xs.drop (i + 1)).length = n - 1 := by simp [hR.2]; omega
  obtain ⟨g, off, _, rfl, hcap, _⟩ := hR.at_ (by omega)
  have hWt := hR.1.take (k := i) (by omega)
  obtain ⟨hd, hWd, _⟩ := hR.1.drop (k := i + 1) (by omega)
  rw [flat_take] at hWt
  rw [flat_drop] at hWd
  have hA : (if cap = i + 1 then some ⟨g, off, none⟩ else (some (⟨g, off, none⟩ : Addr)).map (·.add ((i + 1) * 2))) = (if cap = i + 1 then some ⟨g, off, none⟩ else some ⟨g, off + (i + 1) * 2, none⟩) := by simp [Addr.add_lit]
  rw [hA] at hWd
  have s1 := Lib.hid (fun W (hW : Only (fun _ => False) w W) => (hWt.kept hW (fun _ _ h => h)).src)
  have s2 := Lib.hid (fun W (hW : Only (fun _ => False) w W) => (hWd.kept hW (fun _ _ h => h)).src)
  have l1 : (flat (xs.take i)).length = i * 2 := by rw [flat_length]; simp [hR.2]; omega
  have l2 : (flat (xs.drop (i + 1))).length = (n - (i + 1)) * 2 := by rw [flat_length]; simp [hR.2]
  have hi0 : (0 : Int) ≤ (i : Int) := by omega
  have hi1 : (i : Int) ≤ (cap : Int) := by omega
  have hi2 : (0 : Int) ≤ (i : Int) + 1 := by omega
  have hi3 : (i : Int) + 1 ≤ (n : Int) := by omega
  have hwr : IntKind.i64.wrap ((i : Int) + 1) = (i : Int) + 1 := IntWalk.i64_in _ (by omega)
  have ht : ((i : Int) + 1).toNat = i + 1 := by omega
  have hH := Lib.hid (And.intro l1 (And.intro l2 hlen))
  clear hR hWt hWd hA l1 l2 hlen
  go_enter Try.func25, Try.ntmps25
  go_wp2
  go_region_law (first
    | (refine step_append_win rfl (.tmp 5) (.tmp 8) 47 rfl 60 zrow 2 16 Try.underlying47 info60 rfl (by decide) (v := .slice (some ⟨w.heap.size, 0, none⟩) 0 0) (by simp [Act.eval]) (Win.empty _ 60 2 _) (some ⟨g, off, none⟩) i cap (by simp [Act.eval]) (flat (xs.take i)) hH.out.1 (s1.out _ ((Only.refl _ w).alloc _).drew) (flat_one _) (by unfold maxLen; omega) (by omega) ?_; intro v1 w1 h1 hW1 hO1 hh1)
    | (refine step_append_win rfl (.tmp 9) (.tmp 13) 47 rfl 60 zrow 2 16 Try.underlying47 info60 rfl (by decide) (v := v1) (by simp [Act.eval]) hW1.out (if cap = i + 1 then some ⟨g, off, none⟩ else some ⟨g, off + (i + 1) * 2, none⟩) (n - (i + 1)) (cap - (i + 1)) (by simp [Act.eval]) (flat (xs.drop (i + 1))) hH.out.2.1 (s2.out _ ((((Only.refl _ w).alloc _).drew).trans' (none_only hO1.out))) (flat_one _) (by unfold maxLen; omega) (by omega) ?_; intro v2 w2 h2 hW2 hO2 hh2))
  go_wp2
  all_goals
    go_ret
    have e1 : 0 + i + (n - (i + 1)) = n - 1 := by omega
    have hW2' := hW2.out
    rw [e1] at hW2'
    obtain ⟨p2, c2, rfl, _⟩ := hW2'.form
    have hs1 := hO1.out.size
    rw [show ((w.alloc (.cells #[] 60)).drew).heap.size = w.heap.size + 1 by simp] at hs1
    have hh1' : ∀ k, h1 = some k → w.heap.size < k := fun k hk => by
      rcases hh1.out with rfl | ⟨g1, rfl, hg1⟩
      · cases hk
      · cases hk
        have : ((w.alloc (.cells #[] 60)).drew).heap.size = w.heap.size + 1 := by simp
        omega
    refine ⟨p2, c2, h2, by rw [hH.out.2.2]; rfl, ⟨?_, by rw [hH.out.2.2]⟩, ?_, ?_⟩
    · rw [hH.out.2.2, flat_append]
      simpa using hW2'
    · intro k hk
      rcases hh2.out with rfl | ⟨g2, rfl, hg2⟩
      · have := hh1' k hk; omega
      · cases hk; omega
    · refine ((((Only.refl (fun _ => False) w).alloc _).drew).trans' (none_only hO1.out)).trans hO2.out (fun x hx e => ?_)
      have := hh1' x e.symm
      omega

theorem upTo_spec : ∀ (m : Gaps) (a : Int), (∀ j, j < upTo m a → ∃ x, m[j]? = some x ∧ x.2 ≤ a) ∧ (upTo m a < m.length → ∃ x, m[upTo m a]? = some x ∧ ¬ x.2 ≤ a)
  | [], _ => ⟨fun j hj => absurd hj (by simp [upTo]), fun h => by simp at h⟩
  | x :: r, a => by
    obtain ⟨i1, i2⟩ := upTo_spec r a
    rw [upTo]
    split
    · rename_i hx
      refine ⟨fun j hj => ?_, fun h => ?_⟩
      · cases j with
        | zero => exact ⟨x, rfl, hx⟩
        | succ j => exact i1 j (by omega)
      · exact i2 (by simp at h; omega)
    · rename_i hx
      exact ⟨fun j hj => absurd hj (by omega), fun _ => ⟨x, rfl, hx⟩⟩

set_option maxHeartbeats 1000000 in
theorem put_any {w : World} {p : Option Addr} {n cap : Nat} {h : Option Nat} {xs : Gaps} (hR : RowsAt w p n cap h xs) (hn : n ≤ 1000) (key a : Int) :
    Calls Try.prog 22 #[.slice p n cap, .int .i64 key, .int .i64 a] w (MadeRows w (rput xs key a)) := by
  obtain ⟨i, hi⟩ : ∃ i, i = upTo xs a := ⟨_, rfl⟩
  have hin : i ≤ n := by rw [hi, ← hR.2]; exact upTo_le xs a
  obtain ⟨hu1, hu2⟩ := upTo_spec xs a
  rw [← hi, hR.2] at hu2
  rw [← hi] at hu1
  have hlen : (rput xs key a).length = n + 1 := by simp [rput, hR.2, ← hi]; omega
  obtain ⟨_, cap', hv, hcap, _⟩ := hR.1.form
  cases hv
  have hWt := hR.1.take (k := i) hin
  obtain ⟨hd, hWd, _⟩ := hR.1.drop (k := i) hin
  rw [flat_take] at hWt
  rw [flat_drop] at hWd
  have hA : (if cap = i then p else p.map (·.add (i * 2))) = (if cap = i then p else p.map (·.add (i * 2))) := rfl
  have s1 := Lib.hid (fun W (hW : Only (fun _ => False) w W) => (hWt.kept hW (fun _ _ h => h)).src)
  have s2 := Lib.hid (fun W (hW : Only (fun _ => False) w W) => (hWd.kept hW (fun _ _ h => h)).src)
  have l1 : (flat (xs.take i)).length = i * 2 := by rw [flat_length]; simp [hR.2]; omega
  have l2 : (flat (xs.drop i)).length = (n - i) * 2 := by rw [flat_length]; simp [hR.2]
  have hi1 : (i : Int) ≤ (cap : Int) := by omega
  have hi3 : (i : Int) ≤ (n : Int) := by omega
  have hi0 : (0 : Int) ≤ (i : Int) := by omega
  have hH := Lib.hid (And.intro l1 (And.intro l2 hlen))
  have hu := Lib.hid (And.intro hu1 hu2)
  have hR' := Lib.hid hR
  have hi' := Lib.hid hi
  clear hR hWt hWd hA l1 l2 hlen hu1 hu2 hi
  go_enter Try.func22, Try.ntmps22
  go_wp2
  go_loop [7] (fun v => ∃ j : Nat, j ≤ i ∧ v = .int .i64 j) (fun v => n - (intOf v).toNat)
  case atStart => exact ⟨0, Nat.zero_le _, rfl⟩
  case round =>
    obtain ⟨j, hj, rfl⟩ := hrel
    by_cases hji : j < i
    · obtain ⟨x, hx, hxa⟩ := hu.out.1 j hji
      obtain ⟨g, off, _, rfl, _, hc⟩ := hR'.out.at_ (by omega)
      obtain ⟨c0, c1⟩ := hc j x hx
      have hjn' : (j : Int) < (n : Int) := by omega
      clear hc hx c0
      go_wp2
      go_round
      case rel => exact ⟨j + 1, by omega, by go_num⟩
      case measure => simp [intOf]; omega
    · obtain rfl : j = i := by omega
      by_cases hjn : j < n
      · obtain ⟨x, hx, hxa⟩ := hu.out.2 hjn
        obtain ⟨g, off, _, rfl, _, hc⟩ := hR'.out.at_ (by omega)
        obtain ⟨c0, c1⟩ := hc j x hx
        have hjn' : (j : Int) < (n : Int) := by omega
        have hcj : ¬ cap = j := by omega
        have s2' : ∀ W, Only (fun _ => False) w W → 0 < n - j → ∃ ad, some (⟨g, off + j * 2, none⟩ : Addr) = some ad ∧ ∀ k u, (flat (xs.drop j))[k]? = some u → W.cell? (ad.add k) = some u := fun W hW h0 => by
          have := s2.out W hW h0
          rw [if_neg hcj] at this
          simpa [Addr.add_lit] using this
        have s3 := Lib.hid s2'
        clear hc hx c0 s2'
        go_wp2
        go_region_law (first
          | (refine step_append_win rfl (.tmp 23) (.tmp 26) 47 rfl 60 zrow 2 16 Try.underlying47 info60 rfl (by decide) (v := .slice _ 0 0) (by rfl) (Win.empty _ 60 2 _) _ j cap (by rfl) (flat (xs.take j)) hH.out.1 (s1.out _ (by first | exact ((Only.refl _ w).alloc _).drew | exact (((Only.refl _ w).alloc _).alloc _).drew)) (flat_one _) (by unfold maxLen; omega) (by omega) ?_; intro v1 w1 h1 hW1 hO1 hh1; have q1 := Lib.hid (step_fresh (by first | exact ((Only.refl _ w).alloc _).drew | exact (((Only.refl _ w).alloc _).alloc _).drew) hO1.out (fun k h => by cases h) hh1.out))
          | (refine step_append_win rfl (.tmp 27) (.tmp 31) 47 rfl 60 zrow 2 16 Try.underlying47 info60 rfl (by decide) (v := v1) (by rfl) (by first | exact hW1.out | exact hW1.out.kept ((Only.refl (fun _ => False) _).alloc _) (fun _ _ h => h)) _ 1 1 (by rfl) [.int .i64 key, .int .i64 a] rfl (fun _ => ⟨_, rfl, (by first | exact row_two (heap_new_at _ _ rfl) | exact row_two ((none_only hO1.out).heap (heap_new_at _ _ (by simp)) (fun h => h)) | exact row_two ((none_only hO1.out).heap (heap_kept_alloc (heap_new_at _ _ rfl) _) (fun h => h)))⟩) (by intro u hu; simp at hu; rcases hu with rfl | rfl <;> rfl) (by unfold maxLen; omega) (by omega) ?_; intro v2 w2 h2 hW2 hO2 hh2; have q2 := Lib.hid (step_fresh (by first | exact q1.out.1 | exact q1.out.1.alloc _) hO2.out q1.out.2 hh2.out))
          | (refine step_append_win rfl (.tmp 32) (.tmp 35) 47 rfl 60 zrow 2 16 Try.underlying47 info60 rfl (by decide) (v := v2) (by rfl) hW2.out _ (n - j) _ (by rfl) (flat (xs.drop j)) hH.out.2.1 (s3.out _ q2.out.1) (flat_one _) (by unfold maxLen; omega) (by omega) ?_; intro v3 w3 h3 hW3 hO3 hh3; have q3 := Lib.hid (step_fresh q2.out.1 hO3.out q2.out.2 hh3.out)))
        all_goals go_wp2
        all_goals
          go_ret
          have hW3' := hW3.out
          rw [show 0 + j + 1 + (n - j) = n + 1 by omega] at hW3'
          obtain ⟨p3, c3, rfl, _⟩ := hW3'.form
          refine ⟨p3, c3, h3, by rw [hH.out.2.2]; rfl, ⟨?_, by rw [hH.out.2.2]⟩, q3.out.2, q3.out.1⟩
          rw [hH.out.2.2, rput, ← hi'.out, flat_append]
          simpa [flat, cellsOf2] using hW3'
      · have hjn' : ¬ (j : Int) < (n : Int) := by omega
        obtain rfl : j = n := by omega
        go_wp2
        go_region_law (first
          | (refine step_append_win rfl (.tmp 23) (.tmp 26) 47 rfl 60 zrow 2 16 Try.underlying47 info60 rfl (by decide) (v := .slice _ 0 0) (by rfl) (Win.empty _ 60 2 _) _ j cap (by rfl) (flat (xs.take j)) hH.out.1 (s1.out _ (by first | exact ((Only.refl _ w).alloc _).drew | exact (((Only.refl _ w).alloc _).alloc _).drew)) (flat_one _) (by unfold maxLen; omega) (by omega) ?_; intro v1 w1 h1 hW1 hO1 hh1; have q1 := Lib.hid (step_fresh (by first | exact ((Only.refl _ w).alloc _).drew | exact (((Only.refl _ w).alloc _).alloc _).drew) hO1.out (fun k h => by cases h) hh1.out))
          | (refine step_append_win rfl (.tmp 27) (.tmp 31) 47 rfl 60 zrow 2 16 Try.underlying47 info60 rfl (by decide) (v := v1) (by rfl) (by first | exact hW1.out | exact hW1.out.kept ((Only.refl (fun _ => False) _).alloc _) (fun _ _ h => h)) _ 1 1 (by rfl) [.int .i64 key, .int .i64 a] rfl (fun _ => ⟨_, rfl, (by first | exact row_two (heap_new_at _ _ rfl) | exact row_two ((none_only hO1.out).heap (heap_new_at _ _ (by simp)) (fun h => h)) | exact row_two ((none_only hO1.out).heap (heap_kept_alloc (heap_new_at _ _ rfl) _) (fun h => h)))⟩) (by intro u hu; simp at hu; rcases hu with rfl | rfl <;> rfl) (by unfold maxLen; omega) (by omega) ?_; intro v2 w2 h2 hW2 hO2 hh2; have q2 := Lib.hid (step_fresh (by first | exact q1.out.1 | exact q1.out.1.alloc _) hO2.out q1.out.2 hh2.out))
          | (refine step_append_win rfl (.tmp 32) (.tmp 35) 47 rfl 60 zrow 2 16 Try.underlying47 info60 rfl (by decide) (v := v2) (by rfl) hW2.out _ 0 _ (by rfl) (flat []) rfl (fun h => absurd h (by omega)) (flat_one _) (by unfold maxLen; omega) (by omega) ?_; intro v3 w3 h3 hW3 hO3 hh3; have q3 := Lib.hid (step_fresh q2.out.1 hO3.out q2.out.2 hh3.out)))
        all_goals go_wp2
        all_goals
          go_ret
          have hW3' := hW3.out
          rw [show 0 + j + 1 + 0 = j + 1 by omega] at hW3'
          obtain ⟨p3, c3, rfl, _⟩ := hW3'.form
          refine ⟨p3, c3, h3, by rw [hH.out.2.2]; rfl, ⟨?_, by rw [hH.out.2.2]⟩, q3.out.2, q3.out.1⟩
          rw [hH.out.2.2, rput, ← hi'.out, flat_append]
          have hd0 : xs.drop j = [] := List.drop_eq_nil_of_le (by have := hR'.out.2; omega)
          rw [hd0]
          simpa [flat, cellsOf2] using hW3'
end Go.Proofs.Ytbmegpcdcbfjmaa.Ref
