/- edf: the stable sort of few places; the places by their works' releases. -/
import Derived.Test.YtkolbaadakhciaaESort
namespace Go.Proofs.Ytkolbaadakhciaa
namespace Edf
open Go Go.RowKit

set_option maxRecDepth 100000 in
set_option maxHeartbeats 4000000 in
theorem stable_small {w : World} {g q n off cap : Nat} {pre post : List Value} {L : List Nat} {p : Nat → Int} {M : Nat → Prop} (hc : CmpOk w g q p M) (hM : ∀ x ∈ L, M x) (hpre : pre.length = off) (hL : L.length = n) (hn : n < 20) (hg : RowW w g pre post L) :
    Calls Try.prog 55 #[.slice (some ⟨g, off, none⟩) n cap, .int .i64 (n : Int), .func (.func 50) #[] #[.pointer (some ⟨q, 0, none⟩)]] w (SortEnd w g pre post L p) := by
  obtain ⟨Z, hZ⟩ : ∃ Z, Z = SortEnd w g pre post L p := ⟨_, rfl⟩
  rw [← hZ]
  have h1 : Calls Try.prog 58 #[.slice (some ⟨g, off, none⟩) n cap, .int .i64 0, .int .i64 (n : Int), .func (.func 50) #[] #[.pointer (some ⟨q, 0, none⟩)]] w (SortEnd w g pre post L p) := isort_any (a := 0) (b := n) (cap := cap) hc hM (by omega) (by omega) (Nat.zero_le _) (Nat.le_refl _) (by omega) hg
  rw [← hZ] at h1
  have h1' := Lib.hid h1
  have hZ' := Lib.hid hZ
  have h20 : ¬ (20 : Int) ≤ n := by omega
  have h21 : ¬ (20 : Int) < n := by omega
  clear hc hM hpre hL hg h1 hZ
  go_enter Try.func55, Try.ntmps55
  go_wp2
  go_loopw [7, 8] (fun a b wr => a = .int .i64 0 ∧ b = .int .i64 20 ∧ wr = w) (fun _ _ _ => 0)
  case atStart => exact ⟨rfl, rfl, rfl⟩
  case round =>
    obtain ⟨rfl, rfl, rfl⟩ := hrel
    go_wp2_with fail
    refine h1'.out.mono ?_
    intro e w9 hz
    have he := hz
    rw [hZ'.out] at he
    obtain ⟨rfl, -⟩ := he
    have hz' := Lib.hid hz
    clear hz
    go_wp2
    go_loopw [6] (fun a wr => a = .int .i64 20 ∧ wr = w9) (fun _ _ => 0)
    case atStart => exact ⟨rfl, rfl⟩
    case round =>
      obtain ⟨rfl, rfl⟩ := hrel
      go_wp2
      go_end0
      exact hz'.out

theorem sort_small {w : World} {g q n off cap : Nat} {pre post : List Value} {L : List Nat} {p : Nat → Int} {M : Nat → Prop} (hc : CmpOk w g q p M) (hM : ∀ x ∈ L, M x) (hpre : pre.length = off) (hL : L.length = n) (hn : n < 20) (hg : RowW w g pre post L) :
    Calls Try.prog 49 #[.slice (some ⟨g, off, none⟩) n cap, .func (.func 50) #[] #[.pointer (some ⟨q, 0, none⟩)]] w (SortEnd w g pre post L p) := by
  obtain ⟨Z, hZ⟩ : ∃ Z, Z = SortEnd w g pre post L p := ⟨_, rfl⟩
  rw [← hZ]
  have h1 := stable_small (cap := cap) hc hM hpre hL hn hg
  rw [← hZ] at h1
  have h1' := Lib.hid h1
  have hZ' := Lib.hid hZ
  clear hc hM hpre hL hg h1 hZ
  go_enter Try.func49, Try.ntmps49
  go_wp2_with fail
  refine h1'.out.mono ?_
  intro e w9 hz
  have he := hz
  rw [hZ'.out] at he
  obtain ⟨rfl, -⟩ := he
  have hz' := Lib.hid hz
  clear hz
  go_wp2
  go_end0
  exact hz'.out

/-! byRelease. -/
def busy (l : List Wk) : List Nat := (List.range l.length).filter fun k => decide (0 < cs l k)
def busyTo (l : List Wk) (k : Nat) : List Nat := (List.range k).filter fun k => decide (0 < cs l k)
theorem busyTo_succ (l : List Wk) (k : Nat) : busyTo l (k + 1) = if 0 < cs l k then busyTo l k ++ [k] else busyTo l k := by
  unfold busyTo
  rw [List.range_succ, List.filter_append]
  by_cases h : 0 < cs l k
  · rw [if_pos h]; simp [h]
  · rw [if_neg h]; simp [h]
theorem busyTo_len (l : List Wk) (k : Nat) : (busyTo l k).length ≤ k := by
  unfold busyTo
  exact Nat.le_trans (List.length_filter_le _ _) (by simp)
theorem busy_mem {l : List Wk} {k : Nat} : k ∈ busy l ↔ k < l.length ∧ 0 < cs l k := by
  unfold busy
  simp
theorem busy_nodup (l : List Wk) : (busy l).Nodup := List.nodup_range.filter _

theorem cs_at {l : List Wk} {k : Nat} {x : Wk} (h : l[k]? = some x) : cs l k = x.c ∧ rl l k = x.r ∧ du l k = x.d := by
  unfold cs rl du
  rw [h]
  exact ⟨rfl, rfl, rfl⟩

set_option maxRecDepth 100000 in
theorem cmp_rel {w : World} {q b n cap : Nat} {l : List Wk} (hq : w.heap[q]? = some (.cells [.slice (some ⟨b, 0, none⟩) n cap].toArray 40 (0, 0))) (hb : w.heap[b]? = some (.cells (wkCells l).toArray 53 (0, 0))) (hn : l.length = n) {x y : Nat} (hx : x < n) (hy : y < n) :
    Calls Try.prog 50 #[.int .i64 (x : Int), .int .i64 (y : Int), .pointer (some ⟨q, 0, none⟩)] w (fun e w' => e = .returned (.int .i64 (cmpZ (rl l x : Int) (rl l y : Int))) ∧ Only (fun _ => False) w w') := by
  obtain ⟨X, hX⟩ : ∃ t, l[x]? = some t := ⟨_, List.getElem?_eq_getElem (by omega)⟩
  obtain ⟨Y, hY⟩ : ∃ t, l[y]? = some t := ⟨_, List.getElem?_eq_getElem (by omega)⟩
  have c0 := (wk_row hb hX).1
  have d0 := (wk_row hb hY).1
  rw [(cs_at hX).2.1, (cs_at hY).2.1]
  have e0 := row_cell hq (i := 0) rfl
  obtain ⟨V, hV⟩ : ∃ V, V = cmpZ (X.r : Int) (Y.r : Int) := ⟨_, rfl⟩
  have q1 := fun v : Wd w => Calls.wd_same (x := v) (compare_any v.W (X.r : Int) (Y.r : Int))
  rw [← hV] at q1 ⊢
  have q1' := Lib.hid q1
  have p0 := wd_cell c0
  have p1 := wd_cell d0
  have p2 := wd_cell e0
  have hex := wd_ex w
  have ha' : (x : Int) < (n : Int) := by omega
  have hb' : (y : Int) < (n : Int) := by omega
  clear hb hn hX hY hV q1 c0 d0 e0 hq
  go_enter Try.func50, Try.ntmps50
  go_wp2
  refine wp_region_wd (by kernel_rfl) (by kernel_rfl) ?_
  repeat (go_big_quiet_step (first | (go_at_call 51; with_reducible exact q1'.out _)))
  refine wpQuiet_nil ?_
  rintro _ ⟨v, rfl⟩
  have hv := Lib.hid v.ok
  go_wp2
  go_ret
  exact ⟨rfl, hv.out⟩
end Edf
end Go.Proofs.Ytkolbaadakhciaa
