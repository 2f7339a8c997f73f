/- The document's Less; sums of shares, the program's and the document's. -/
import Derived.Test.YtkolbaadakhciaaHy2
import Derived.Deep.Cut
import Derived.Deep.CutRange
import Derived.Deep.CutBlock
import Derived.Deep.RegionHeld3
namespace Go.Proofs.Ytkolbaadakhciaa
namespace Hyp
open Go Go.RowKit
open Bch (U sA sM sA_le sM_le ret_u mul_any add_any mul64_any)

set_option maxHeartbeats 1000000 in
theorem rless_any : ∀ (n a b c d : Nat) (w : World), b + d ≤ n → a ≤ 18446744073709551615 → b ≤ 18446744073709551615 → c ≤ 18446744073709551615 → d ≤ 18446744073709551615 →
    Calls Try.prog 19 #[U a, U b, U c, U d] w (GrowV (.bool (lessB a b c d)) w) := by
  intro n
  induction n with
  | zero =>
    intro a b c d w hn ha hb hc hd
    obtain rfl : b = 0 := by omega
    go_enter Try.func19, Try.ntmps19
    go_wp2
    go_ret
    exact ⟨by simp [lessB], Only.refl _ _⟩
  | succ n ih =>
    intro a b c d w hn ha hb hc hd
    obtain ⟨Z, hZ⟩ : ∃ Z, Z = GrowV (.bool (lessB a b c d)) w := ⟨_, rfl⟩
    rw [← hZ]
    have hZ' := Lib.hid hZ
    clear hZ
    by_cases hb0 : b = 0
    · subst hb0
      have hfin := Lib.hid (show Z (.returned (.bool false)) w from by rw [hZ'.out]; exact ⟨by simp [lessB], Only.refl _ _⟩)
      clear ih
      go_enter Try.func19, Try.ntmps19
      go_wp2
      exact hfin.out
    have hb1 : ((b : Int) == 0) = false := by simpa using hb0
    by_cases hd0 : d = 0
    · subst hd0
      have hfin := Lib.hid (show Z (.returned (.bool true)) w from by rw [hZ'.out]; exact ⟨by simp [lessB, hb0], Only.refl _ _⟩)
      clear ih
      go_enter Try.func19, Try.ntmps19
      go_wp2
      exact hfin.out
    have hd1 : ((d : Int) == 0) = false := by simpa using hd0
    have hbn : (b : Int) ≠ 0 := by omega
    have hdn : (d : Int) ≠ 0 := by omega
    obtain ⟨q, hq⟩ : ∃ q, q = a / b := ⟨_, rfl⟩
    obtain ⟨p, hp⟩ : ∃ p, p = c / d := ⟨_, rfl⟩
    have hq9 : q ≤ a := by rw [hq]; exact Nat.div_le_self _ _
    have hp9 : p ≤ c := by rw [hp]; exact Nat.div_le_self _ _
    have hdq : (a : Int) / (b : Int) = (q : Int) := by rw [hq]; rfl
    have hdp : (c : Int) / (d : Int) = (p : Int) := by rw [hp]; rfl
    obtain ⟨r, hr⟩ : ∃ r, r = a % b := ⟨_, rfl⟩
    obtain ⟨s, hs⟩ : ∃ s, s = c % d := ⟨_, rfl⟩
    have hmr : (a : Int) % (b : Int) = (r : Int) := by rw [hr]; rfl
    have hms : (c : Int) % (d : Int) = (s : Int) := by rw [hs]; rfl
    have hrb : r < b := by rw [hr]; exact Nat.mod_lt _ (by omega)
    have hsd : s < d := by rw [hs]; exact Nat.mod_lt _ (by omega)
    by_cases hqp : q = p
    · subst hqp
      have hw := less_left (a := a) (c := c) (show 0 < b by omega) (show 0 < d by omega) (by rw [← hq, ← hp])
      rcases Nat.eq_zero_or_pos s with hs0 | hs0
      · have hs1 : ((s : Int) == 0) = true := by simpa using hs0
        have hfin := Lib.hid (fun W (ho : Only (fun _ => False) w W) => show Z (.returned (.bool false)) W from by rw [hZ'.out, hw, ← hs, hs0]; exact ⟨by simp, ho⟩)
        clear ih hr hs hq hp hw
        go_enter Try.func19, Try.ntmps19
        go_wp2
        go_region
        go_wp2
        exact hfin.out _ (Only.refl _ _).drew
      replace hs0 : ¬ s = 0 := by omega
      have hs1 : ((s : Int) == 0) = false := by simpa using hs0
      by_cases hr0 : r = 0
      · have hr1 : ((r : Int) == 0) = true := by simpa using hr0
        have hfin := Lib.hid (fun W (ho : Only (fun _ => False) w W) => show Z (.returned (.bool true)) W from by
          rw [hZ'.out, hw, ← hs, ← hr, hr0, decide_eq_true (by simp only [Nat.zero_mul]; exact Nat.mul_pos (by omega) (by omega))]; exact ⟨rfl, ho⟩)
        clear ih hr hs hq hp hw
        go_enter Try.func19, Try.ntmps19
        go_wp2
        go_region
        go_wp2
        exact hfin.out _ (Only.refl _ _).drew
      have hr1 : ((r : Int) == 0) = false := by simpa using hr0
      have ht := less_turn (a := a) (c := c) (show 0 < b by omega) (show 0 < d by omega) (by rw [← hq, ← hp]) (by rw [← hs]; exact hs0) (by rw [← hr]; exact hr0)
      rw [← hs, ← hr] at ht
      obtain ⟨B, hB⟩ : ∃ B, B = lessB d s b r := ⟨_, rfl⟩
      have hfin := Lib.hid (fun W (ho : Only (fun _ => False) w W) => show Z (.returned (.bool B)) W from by rw [hZ'.out, ht, hB]; exact ⟨rfl, ho⟩)
      have ci := Lib.hid (fun W => ih d s b r W (by omega) hd (by omega) hb (by omega))
      rw [← hB] at ci
      have q1 := Lib.hid (fun (x : Wd w.drew) => Calls.wd (x := x) (ci.out x.W))
      have hex := wd_ex w.drew
      clear ih hr hs hq hp hw ht hB ci
      go_enter Try.func19, Try.ntmps19
      go_wp2
      go_region
      go_wp2
      refine wp_region_wd (by kernel_rfl) (by kernel_rfl) ?_
      repeat (go_big_quiet_step (first | (go_at_call 19; with_reducible exact q1.out _)))
      refine wpQuiet_nil ?_
      rintro _ ⟨v, rfl⟩
      have hf := Lib.hid (hfin.out v.W (((Only.refl _ w).drew).trans' v.ok))
      go_wp2
      exact hf.out
    · have hw := less_whole (a := a) (c := c) (show 0 < b by omega) (show 0 < d by omega) (by rw [← hq, ← hp]; exact hqp)
      rw [← hq, ← hp] at hw
      have hqp' : ((q : Int) == p) = false := by simp; omega
      have hqp2 : ((q : Int) != p) = true := by simp; omega
      have hfin := Lib.hid (fun W (ho : Only (fun _ => False) w W) => show Z (.returned (.bool (decide (q < p)))) W from by rw [hZ'.out, hw]; exact ⟨rfl, ho⟩)
      clear ih hr hs hq hp hw
      by_cases hlt : q < p
      · rw [decide_eq_true hlt] at hfin
        have hlt' : (q : Int) < p := by omega
        go_enter Try.func19, Try.ntmps19
        go_wp2
        go_region
        go_wp2
        go_region
        go_wp2
        exact hfin.out _ (Only.refl _ _).drew.drew
      · rw [decide_eq_false hlt] at hfin
        have hlt' : ¬ (q : Int) < p := by omega
        go_enter Try.func19, Try.ntmps19
        go_wp2
        go_region
        go_wp2
        go_region
        go_wp2
        exact hfin.out _ (Only.refl _ _).drew.drew

/-- A region that draws: the first n operations quiet in worlds that grow, the last ones one behind the other. -/
theorem wp_region_wd_tail {P : Program} {id : Nat} {Q : Exit → Act → World → Prop} {a : Act} {w : World} {l : List Oper} (n : Nat) (hm : P.follows .mixedOrders = true) (hB : Region.lexTailB .any l.toArray n = true)
    (h : wpQuiet P l.toArray (fun W => ∃ x : Wd w, W = x.W) (fun a' => ∀ w', (∃ x : Wd w, w' = x.W) → wpList P l.toArray Q (l.drop n) a' w') (l.take n) a) : (Code.region id l.toArray true).wp P Q a w :=
  wp_region_quiet_tail (C := fun W => ∃ x : Wd w, W = x.W) n hm hB ⟨⟨{ w with drawn := w.drawn + 1 }, (Only.refl _ w).drew1⟩, rfl⟩ h

def overA (a b c d : Nat) : Nat := sA (sM (smA a b) (smB c d)) (sM (smA c d) (smB a b))
def underA (a b c d : Nat) : Nat := sM (smB a b) (smB c d)
def isBig (a b c d : Nat) : Bool := decide (overA a b c d = 18446744073709551615 ∨ underA a b c d = 18446744073709551615)
def adA (a b c d : Nat) : Nat := if isBig a b c d then 18446744073709551615 else smA (overA a b c d) (underA a b c d)
def adB (a b c d : Nat) : Nat := if isBig a b c d then 0 else smB (overA a b c d) (underA a b c d)

set_option maxRecDepth 100000 in
set_option maxHeartbeats 4000000 in
theorem add2_any (a b c d : Nat) (w : World) (ha : a ≤ 18446744073709551615) (hb : b ≤ 18446744073709551615) (hc : c ≤ 18446744073709551615) (hd : d ≤ 18446744073709551615) :
    Calls Try.prog 20 #[Sh a b, Sh c d] w (GrowV (Sh (adA a b c d) (adB a b c d)) w) := by
  obtain ⟨Z, hZ⟩ : ∃ Z, Z = GrowV (Sh (adA a b c d) (adB a b c d)) w := ⟨_, rfl⟩
  rw [← hZ]
  have hZ' := Lib.hid hZ
  clear hZ
  obtain ⟨W3, hW3⟩ : ∃ W3, W3 = ((w.alloc (.cells #[U a, U b] 29)).alloc (.cells #[U c, U d] 29)).alloc (.cells #[.int .u64 0, .int .u64 0] 29) := ⟨_, rfl⟩
  obtain ⟨q, hq⟩ : ∃ q, q = w.heap.size := ⟨_, rfl⟩
  have hO3 : Only (fun _ => False) w W3 := by rw [hW3]; exact (((Only.refl _ w).alloc _).alloc _).alloc _
  have b0 : W3.heap[q]? = some (.cells [U a, U b].toArray 29 (0, 0)) := by rw [hW3]; exact heap_kept_alloc (heap_kept_alloc (heap_new_at _ _ hq.symm) _) _
  have b1 : W3.heap[q + 1]? = some (.cells [U c, U d].toArray 29 (0, 0)) := by rw [hW3]; exact heap_kept_alloc (heap_new_at _ _ (by simp [hq])) _
  have b2 : W3.heap[q + 1 + 1]? = some (.cells [Value.int .u64 0, .int .u64 0].toArray 29 (0, 0)) := by rw [hW3]; exact heap_new_at _ _ (by simp [hq])
  have c1 := Lib.hid (fun W => simple_any a b W ha hb)
  have c2 := Lib.hid (fun W => simple_any c d W hc hd)
  have hE : adA a b c d = (if isBig a b c d then 18446744073709551615 else smA (overA a b c d) (underA a b c d)) ∧ adB a b c d = (if isBig a b c d then 0 else smB (overA a b c d) (underA a b c d)) := ⟨rfl, rfl⟩
  unfold isBig overA underA at hE
  have ka := smA_le (b := b) ha
  have kb := smB_le (a := a) hb
  have kc := smA_le (b := d) hc
  have kd := smB_le (a := c) hd
  obtain ⟨A, hA⟩ : ∃ A, A = smA a b := ⟨_, rfl⟩
  obtain ⟨B, hB⟩ : ∃ B, B = smB a b := ⟨_, rfl⟩
  obtain ⟨C, hC⟩ : ∃ C, C = smA c d := ⟨_, rfl⟩
  obtain ⟨D, hD⟩ : ∃ D, D = smB c d := ⟨_, rfl⟩
  rw [← hA, ← hB] at c1 
  rw [← hC, ← hD] at c2
  rw [← hA, ← hB, ← hC, ← hD] at hE
  rw [← hA] at ka
  rw [← hB] at kb
  rw [← hC] at kc
  rw [← hD] at kd
  have m1 := Lib.hid (fun W => mul_any A D W ka kd)
  have m2 := Lib.hid (fun W => mul_any C B W kc kb)
  have m3 := Lib.hid (fun W => add_any (sM A D) (sM C B) W (sM_le _ _) (sM_le _ _))
  have m4 := Lib.hid (fun W => mul_any B D W kb kd)
  have ku := sM_le B D
  have ko := sA_le (sM A D) (sM C B)
  obtain ⟨x1, hx1⟩ : ∃ x, x = sM A D := ⟨_, rfl⟩
  obtain ⟨x2, hx2⟩ : ∃ x, x = sM C B := ⟨_, rfl⟩
  obtain ⟨u, hu⟩ : ∃ x, x = sM B D := ⟨_, rfl⟩
  rw [← hx1] at m1 m3 hE ko
  rw [← hx2] at m2 m3 hE ko
  rw [← hu] at m4 hE ku
  obtain ⟨o, ho⟩ : ∃ x, x = sA x1 x2 := ⟨_, rfl⟩
  rw [← ho] at m3 hE ko
  have m5 := Lib.hid (fun W => simple_any o u W ko ku)
  have hE' := Lib.hid hE
  clear hE hA hB hC hD hx1 hx2 hu ho
  have hW3' := Lib.hid hW3
  have hq' := Lib.hid hq
  have p0 := wd_cell (row_cell b0 (i := 0) rfl)
  have p1 := wd_cell (row_cell b0 (i := 1) rfl)
  have p2 := wd_cell (row_cell b1 (i := 0) rfl)
  have p3 := wd_cell (row_cell b1 (i := 1) rfl)
  have q1 := Lib.hid (fun (x : Wd W3) => Calls.wd (x := x) (c1.out x.W))
  have q2 := Lib.hid (fun (x : Wd W3) => Calls.wd (x := x) (c2.out x.W))
  have hex := wd_ex W3
  clear hW3 hq
  go_enter Try.func20, Try.ntmps20
  go_upto_region 1 with fail
  rw [← hq'.out]
  rw [← hW3'.out]
  refine wp_region_wd_tail 4 (by kernel_rfl) (by kernel_rfl) ?_
  simp only [List.take_succ_cons, List.take_zero, List.drop_succ_cons, List.drop_zero]
  repeat (go_big_quiet_step (first | (go_at_call 21; with_reducible exact q1.out _) | (go_at_call 21; with_reducible exact q2.out _)))
  refine wpQuiet_nil ?_
  rintro _ ⟨v, rfl⟩
  have r0 := v.ok.heap b0 (fun h => h)
  have r1 := v.ok.heap b1 (fun h => h)
  have r2 := v.ok.heap b2 (fun h => h)
  have s0 := row_cell r0 (i := 0) rfl
  have s1 := row_cell r0 (i := 1) rfl
  have s2 := row_cell r1 (i := 0) rfl
  have s3 := row_cell r1 (i := 1) rfl
  have f0 := row_free r0 0
  have f1 := row_free r0 1
  have f2 := row_free r1 0
  have f3 := row_free r1 1
  have hv : Only (fun _ => False) w v.W := hO3.trans' v.ok
  have g0 := row_set (row_set r0 0 (U A)) 1 (U B)
  have g1 : _ = some (Obj.cells [U A, U B].toArray 29 (0, 0)) := heap_kept_set (heap_kept_set g0 (p := ⟨q + 1, 0, none⟩) (by simp) (U C)) (p := ⟨q + 1, 1, none⟩) (by simp) (U D)
  have g2 : _ = some (Obj.cells [U C, U D].toArray 29 (0, 0)) := row_set (row_set (heap_kept_set (heap_kept_set r1 (p := ⟨q, 0, none⟩) (by simp) (U A)) (p := ⟨q, 1, none⟩) (by simp) (U B)) 0 (U C)) 1 (U D)
  have n1 : q + 1 + 1 ≠ q := by omega
  have n2 : q + 1 + 1 ≠ q + 1 := by omega
  have g3 := heap_kept_set (heap_kept_set (heap_kept_set (heap_kept_set r2 (p := ⟨q, 0, none⟩) n1 (U A)) (p := ⟨q, 1, none⟩) n1 (U B)) (p := ⟨q + 1, 0, none⟩) n2 (U C)) (p := ⟨q + 1, 1, none⟩) n2 (U D)
  have gO : Only (fun _ => False) w ((((v.W.setCell ⟨q, 0, none⟩ (U A)).setCell ⟨q, 1, none⟩ (U B)).setCell ⟨q + 1, 0, none⟩ (U C)).setCell ⟨q + 1, 1, none⟩ (U D)) := by
    have hqq := hq'.out
    exact (((hv.setCell (p := ⟨q, 0, none⟩) (fun h => by simp at h; omega) _).setCell (p := ⟨q, 1, none⟩) (fun h => by simp at h; omega) _).setCell (p := ⟨q + 1, 0, none⟩) (fun h => by simp at h; omega) _).setCell (p := ⟨q + 1, 1, none⟩) (fun h => by simp at h; omega) _
  obtain ⟨W5, hW5⟩ : ∃ W5, W5 = ((((v.W.setCell ⟨q, 0, none⟩ (U A)).setCell ⟨q, 1, none⟩ (U B)).setCell ⟨q + 1, 0, none⟩ (U C)).setCell ⟨q + 1, 1, none⟩ (U D)) := ⟨_, rfl⟩
  rw [← hW5] at g1 g2 g3 gO
  have g1' := Lib.hid g1
  have g2' := Lib.hid g2
  have g3' := Lib.hid g3
  have gO' := Lib.hid gO
  have hW5' := Lib.hid hW5
  clear r0 r1 r2 hv g0 g1 g2 g3 gO hW5 p0 p1 p2 p3 q1 q2 hex b0 b1 b2 hO3
  go_wp2_with fail
  rw [← hW5'.out]
  clear s0 s1 s2 s3 f0 f1 f2 f3
  have y0 := row_cell g1'.out (i := 0) rfl
  have y1 := row_cell g1'.out (i := 1) rfl
  have y2 := row_cell g2'.out (i := 0) rfl
  have y3 := row_cell g2'.out (i := 1) rfl
  go_quiet (first | (go_at_call 30; with_reducible exact Calls.quiet_of_same (m1.out _)) | (go_at_call 30; with_reducible exact Calls.quiet_of_same (m2.out _)) | (go_at_call 32; exact Calls.quiet_of_same (m3.out _)))
  have z1 : (W5.drewN nq).heap[q]? = some (.cells [U A, U B].toArray 29 (0, 0)) := g1'.out
  have z2 : (W5.drewN nq).heap[q + 1]? = some (.cells [U C, U D].toArray 29 (0, 0)) := g2'.out
  have z3 : (W5.drewN nq).heap[q + 1 + 1]? = some (.cells [Value.int .u64 0, .int .u64 0].toArray 29 (0, 0)) := g3'.out
  have zO : Only (fun _ => False) w (W5.drewN nq) := gO'.out.drewN nq
  clear y0 y1 y2 y3 g1' g2' g3' gO' hW5' hW3'
  obtain ⟨W6, hW6⟩ : ∃ W6, W6 = W5.drewN nq := ⟨_, rfl⟩
  rw [← hW6] at z1 z2 z3 zO ⊢
  clear hW6
  have y1 := row_cell z1 (i := 1) rfl
  have y3 := row_cell z2 (i := 1) rfl
  have hrow := Lib.hid (fun W (ho : Only (fun _ => False) W6 W) => ho.heap z3 (fun h => h))
  have hon := Lib.hid (fun W (ho : Only (fun _ => False) W6 W) => zO.trans' ho)
  have hqq : w.heap.size ≤ q + 1 + 1 := by have := hq'.out; omega
  have hqq' := Lib.hid hqq
  have ce := Lib.hid endless_any
  clear z1 z2 z3 zO hqq hq'
  by_cases ho : o = 18446744073709551615
  · have hB : (decide (o = 18446744073709551615 ∨ u = 18446744073709551615)) = true := decide_eq_true (.inl ho)
    have hE2 := hE'.out
    rw [if_pos hB, if_pos hB] at hE2
    rw [hE2.1, hE2.2] at hZ'
    have hfin := Lib.hid (fun W (ho : Only (fun _ => False) w W) => show Z (.returned (Sh 18446744073709551615 0)) W from by rw [hZ'.out]; exact ⟨rfl, ho⟩)
    have ho1 : ((o : Int) == 18446744073709551615) = true := by simp; omega
    clear hE2 hE' hZ' hB ho m1 m2 m3 m5
    go_wp2_with (first | (go_at_call 30; refine (m4.out _).mono ?_; rintro e w' ⟨rfl, hw⟩; rw [hw]; clear hw) | (go_at_call 33; refine (ce.out _).mono ?_; rintro e w7 ⟨rfl, h7⟩; have e7 := hrow.out w7 h7; have v0 := row_cell e7 (i := 0) rfl; have v1 := row_cell e7 (i := 1) rfl; have f0 := row_free e7 0; have f1 := row_free e7 1; have e7' := Lib.hid e7; have h7' := Lib.hid h7; clear h7 e7))
    obtain ⟨x0, x1', xO⟩ := set_two (u := .int .u64 18446744073709551615) (v := .int .u64 0) hqq'.out (hon.out _ h7'.out) e7'.out
    exact bodyPost_ret (v := .agg #[.int .u64 18446744073709551615, .int .u64 0]) (by simp [results, Try.results20, go_sem, x0, x1']) rfl (hfin.out _ xO)
  have ho1 : ((o : Int) == 18446744073709551615) = false := by simp; omega
  by_cases hu : u = 18446744073709551615
  · have hB : (decide (o = 18446744073709551615 ∨ u = 18446744073709551615)) = true := decide_eq_true (.inr hu)
    have hE2 := hE'.out
    rw [if_pos hB, if_pos hB] at hE2
    rw [hE2.1, hE2.2] at hZ'
    have hfin := Lib.hid (fun W (ho : Only (fun _ => False) w W) => show Z (.returned (Sh 18446744073709551615 0)) W from by rw [hZ'.out]; exact ⟨rfl, ho⟩)
    have hu1 : ((u : Int) == 18446744073709551615) = true := by simp; omega
    clear hE2 hE' hZ' hB ho hu m1 m2 m3 m5
    go_wp2_with (first | (go_at_call 30; refine (m4.out _).mono ?_; rintro e w' ⟨rfl, hw⟩; rw [hw]; clear hw) | (go_at_call 33; refine (ce.out _).mono ?_; rintro e w7 ⟨rfl, h7⟩; have e7 := hrow.out w7 h7; have v0 := row_cell e7 (i := 0) rfl; have v1 := row_cell e7 (i := 1) rfl; have f0 := row_free e7 0; have f1 := row_free e7 1; have e7' := Lib.hid e7; have h7' := Lib.hid h7; clear h7 e7))
    obtain ⟨x0, x1', xO⟩ := set_two (u := .int .u64 18446744073709551615) (v := .int .u64 0) hqq'.out (hon.out _ h7'.out) e7'.out
    exact bodyPost_ret (v := .agg #[.int .u64 18446744073709551615, .int .u64 0]) (by simp [results, Try.results20, go_sem, x0, x1']) rfl (hfin.out _ xO)
  · have hB : (decide (o = 18446744073709551615 ∨ u = 18446744073709551615)) = false := decide_eq_false (by omega)
    have hE2 := hE'.out
    rw [if_neg (by rw [hB]; simp), if_neg (by rw [hB]; simp)] at hE2
    rw [hE2.1, hE2.2] at hZ'
    have hu1 : ((u : Int) == 18446744073709551615) = false := by simp; omega
    obtain ⟨E, hEE⟩ : ∃ E, E = smA o u := ⟨_, rfl⟩
    obtain ⟨F, hFF⟩ : ∃ F, F = smB o u := ⟨_, rfl⟩
    rw [← hEE, ← hFF] at m5 hZ'
    have hfin := Lib.hid (fun W (ho : Only (fun _ => False) w W) => show Z (.returned (Sh E F)) W from by rw [hZ'.out]; exact ⟨rfl, ho⟩)
    clear hE2 hE' hZ' hB ho hu m1 m2 m3 hEE hFF
    go_wp2_with (first | (go_at_call 30; refine (m4.out _).mono ?_; rintro e w' ⟨rfl, hw⟩; rw [hw]; clear hw) | (go_at_call 21; refine (m5.out _).mono ?_; rintro e w7 ⟨rfl, h7⟩; have e7 := hrow.out w7 h7; have v0 := row_cell e7 (i := 0) rfl; have v1 := row_cell e7 (i := 1) rfl; have f0 := row_free e7 0; have f1 := row_free e7 1; have e7' := Lib.hid e7; have h7' := Lib.hid h7; clear h7 e7))
    obtain ⟨x0, x1', xO⟩ := set_two (u := .int .u64 (E : Int)) (v := .int .u64 (F : Int)) hqq'.out (hon.out _ h7'.out) e7'.out
    exact bodyPost_ret (v := .agg #[.int .u64 (E : Int), .int .u64 (F : Int)]) (by simp [results, Try.results20, go_sem, x0, x1']) rfl (hfin.out _ xO)

theorem u_eq (a b : Nat) : ((a : Int) == (b : Int)) = decide (a = b) := by
  by_cases h : a = b
  · simp [h]
  · rw [decide_eq_false h]; exact beq_eq_false_iff_ne.2 (by omega)

/-- What the document's Add tells is what the program's does. -/
theorem radd_pure (a b c d : Nat) (_hb : smB a b ≤ 18446744073709551615) :
    (smB a b = 0 ∨ smB c d = 0 ∨ timesB (smA a b) (smB c d) = false ∨ timesB (smA c d) (smB a b) = false ∨ timesB (smB a b) (smB c d) = false ∨ 18446744073709551614 < smA a b * smB c d + smA c d * smB a b → adA a b c d = 18446744073709551615 ∧ adB a b c d = 0) ∧
    (¬ (smB a b = 0 ∨ smB c d = 0 ∨ timesB (smA a b) (smB c d) = false ∨ timesB (smA c d) (smB a b) = false ∨ timesB (smB a b) (smB c d) = false ∨ 18446744073709551614 < smA a b * smB c d + smA c d * smB a b) → adA a b c d = smA (smA a b * smB c d + smA c d * smB a b) (smB a b * smB c d) ∧ adB a b c d = smB (smA a b * smB c d + smA c d * smB a b) (smB a b * smB c d)) := by
  unfold adA adB isBig overA underA
  generalize smA a b = A at *
  generalize smB a b = B at *
  generalize smA c d = C at *
  generalize smB c d = D at *
  unfold timesB
  constructor
  · intro h
    by_cases hB : decide (sA (sM A D) (sM C B) = 18446744073709551615 ∨ sM B D = 18446744073709551615) = true
    · rw [if_pos hB, if_pos hB]; exact ⟨rfl, rfl⟩
    · rw [if_neg hB, if_neg hB]
      have hu : sM B D = 0 := by
        rcases h with rfl | rfl | h | h | h | h
        · simp [sM]
        · simp [sM]
        · exact absurd (decide_eq_true (.inl (by have h := of_decide_eq_false h; unfold sA sM; (repeat' split) <;> omega))) hB
        · exact absurd (decide_eq_true (.inl (by have h := of_decide_eq_false h; unfold sA sM; (repeat' split) <;> omega))) hB
        · exact absurd (decide_eq_true (.inr (by have h := of_decide_eq_false h; unfold sM; split; all_goals omega))) hB
        · exact absurd (decide_eq_true (.inl (by unfold sA sM; (repeat' split) <;> omega))) hB
      rw [hu]
      exact ⟨by simp [smA], by simp [smB]⟩
  · intro h
    simp only [not_or, decide_eq_false_iff_not, Decidable.not_not] at h
    obtain ⟨-, -, h1, h2, h3, h4⟩ := h
    have e1 : sM A D = A * D := by unfold sM; rw [if_neg (by omega)]
    have e2 : sM C B = C * B := by unfold sM; rw [if_neg (by omega)]
    have e3 : sM B D = B * D := by unfold sM; rw [if_neg (by omega)]
    have e4 : sA (A * D) (C * B) = A * D + C * B := by unfold sA; rw [if_neg (by omega)]
    rw [e1, e2, e3, e4]
    have hB : ¬ (decide (A * D + C * B = 18446744073709551615 ∨ B * D = 18446744073709551615) = true) := by simp; omega
    rw [if_neg hB, if_neg hB]
    exact ⟨rfl, rfl⟩
end Hyp
end Go.Proofs.Ytkolbaadakhciaa
