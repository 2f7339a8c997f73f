/- preempt: how often a job is displaced: the program's, and the reference's. -/
import Derived.Test.YtdoimkmhincmmaaPre2
namespace Go.Proofs.Ytdoimkmhincmmaa
namespace Pre
open Go Go.RowKit Rca Sct Lin Lck Cst Rld
open Bch (U sA sC sA_le sC_le GrowU)

def per (ts : List TaskV) (k : Nat) : Int := (ts.map (·.pe)).getD k 0
theorem per_at {ts : List TaskV} {k : Nat} {t : TaskV} (h : ts[k]? = some t) : per ts k = t.pe := by
  unfold per
  rw [List.getD_eq_getElem?_getD, List.getElem?_map, h]
  rfl
/-- What some number of each comes to, together. -/
def totU (f : Nat → Nat) (L : List Nat) : Nat := L.foldl (fun s i => sA s (f i)) 0
theorem totU_le (f : Nat → Nat) (L : List Nat) : totU f L ≤ 18446744073709551615 := by
  have key : ∀ (L : List Nat) (s : Nat), s ≤ 18446744073709551615 → L.foldl (fun s i => sA s (f i)) s ≤ 18446744073709551615 := by
    intro L
    induction L with
    | nil => intro s h; exact h
    | cons x L ih => intro s _; exact ih _ (sA_le _ _)
  exact key L 0 (by omega)
theorem totU_snoc {f : Nat → Nat} {L : List Nat} {j x : Nat} (h : L[j]? = some x) : totU f (L.take (j + 1)) = sA (totU f (L.take j)) (f x) := by
  unfold totU
  rw [Bch.take_snoc h, List.foldl_append]
  rfl
def cntU (ts : List TaskV) (win : Nat) (i : Nat) : Nat := sC win (ofU (per ts i))
set_option maxRecDepth 100000 in
theorem cl27_any {w : World} {c : ConfV} {ts : List TaskV} {qc qw win : Nat} (hC : w.heap[qc]? = some (.cells c.cells.toArray 27 (0, 0))) (hT : TasksAt w c.ta ts) (hw : w.heap[qw]? = some (.cells #[U win] 28 (0, 0))) (hwin : win ≤ 18446744073709551615) {i : Nat} (hi : i < ts.length) :
    Calls Try.prog 27 (#[.int .i64 (i : Int)] ++ #[.pointer (some ⟨qw, 0, none⟩), .pointer (some ⟨qc, 0, none⟩)]) w (GrowU (cntU ts win i) w) := by
  obtain ⟨t, ht⟩ : ∃ t, ts[i]? = some t := ⟨_, List.getElem?_eq_getElem hi⟩
  have e8 := row_cell hC (i := 8) rfl
  have hqc := row_lt hC
  have ew := row_cell hw (i := 0) rfl
  have hqw := row_lt hw
  obtain ⟨b, off, hA, hb, hCe⟩ := hT.at_ i t ht
  have c2 := hCe.c2
  have hlt : (i : Int) < c.ta.n := by have := hT.len; omega
  have hV : cntU ts win i = sC win (ofU t.pe) := by rw [cntU, per_at ht]
  rw [hV]
  have q1 := Lib.hid (fun W => satOf_any t.pe W)
  have q2 := Lib.hid (fun W => Bch.ceil_any win (ofU t.pe) W hwin (ofU_le _))
  obtain ⟨V, hV2⟩ : ∃ V, V = sC win (ofU t.pe) := ⟨_, rfl⟩
  rw [← hV2] at q2 ⊢
  obtain ⟨V1, hV1⟩ : ∃ V, V = ofU t.pe := ⟨_, rfl⟩
  rw [← hV1] at q1 q2
  unfold ConfV.cells at e8
  obtain ⟨s, wy, h, mi, ⟨mA, mn, mc⟩, g, ⟨cA, cn, cc⟩, ⟨eA, en, ec⟩, ⟨tA, tn, tc⟩, ⟨lA, ln, lc⟩⟩ := c
  dsimp only at *
  subst hA
  clear hC hT hw hi ht hCe hV hV2 hV1 hwin
  show Calls Try.prog 27 #[.int .i64 (i : Int), .pointer (some ⟨qw, 0, none⟩), .pointer (some ⟨qc, 0, none⟩)] w _
  go_enter Try.func27, Try.ntmps27
  go_wp2_with fail
  go_quiet (first | (go_at_call 29; exact Calls.quiet_of_same (q1.out _)) | (go_at_call 28; exact Calls.quiet_of_same (q2.out _)))
  go_wp2
  go_ret
  exact ⟨rfl, (Only.refl _ _).drewN _⟩
set_option maxRecDepth 100000 in
set_option maxHeartbeats 2000000 in
theorem total_any {w : World} {A : Option Addr} {n cap : Nat} {hh : Option Nat} {L : List Nat} {f : Nat → Nat} {qc qw : Nat} (hW : Win w 3 1 (.slice A n cap) hh n (dat L)) (hl : L.length = n) (hn9 : n ≤ 1000000) (hf : ∀ i, f i ≤ 18446744073709551615)
    (hcl : ∀ W, Only (fun _ => False) w W → ∀ i ∈ L, Calls Try.prog 27 (#[.int .i64 (i : Int)] ++ #[.pointer (some ⟨qw, 0, none⟩), .pointer (some ⟨qc, 0, none⟩)]) W (GrowU (f i) W)) :
    Calls Try.prog 25 #[.slice A n cap, .func (.func 27) #[] #[.pointer (some ⟨qw, 0, none⟩), .pointer (some ⟨qc, 0, none⟩)]] w (GrowU (totU f L) w) := by
  obtain ⟨Z, hZ⟩ : ∃ Z, Z = GrowU (totU f L) w := ⟨_, rfl⟩
  rw [← hZ]
  have hZ' := Lib.hid hZ
  have hW' := Lib.hid (fun W (ho : Only (fun _ => False) w W) => hW.kept ho (fun _ _ h => h))
  have hl' := Lib.hid hl
  have hcl' := Lib.hid hcl
  have hf' := Lib.hid hf
  have hT0 := Lib.hid (show totU f (L.take 0) = 0 from rfl)
  clear hW hl hcl hf hZ
  go_enter Try.func25, Try.ntmps25
  go_wp2
  go_loopw [5, 7, 10] (fun u5 _ i wr => ∃ k : Nat, i = .int .i64 k ∧ k ≤ n ∧ u5 = U (totU f (L.take k)) ∧ Hid (Only (fun _ => False) w wr)) (fun _ _ i _ => n - (intOf i).toNat)
  case atStart => exact ⟨0, rfl, Nat.zero_le _, by rw [hT0.out]; rfl, Lib.hid (Only.refl _ _)⟩
  case round =>
    obtain ⟨k, rfl, hk, rfl, hO⟩ := hrel
    obtain ⟨ws, hws⟩ : ∃ ws : World, ws = wr := ⟨_, rfl⟩
    subst hws
    obtain ⟨S, hS⟩ : ∃ S, S = totU f (L.take k) := ⟨_, rfl⟩
    have hS9 : S ≤ 18446744073709551615 := by rw [hS]; exact totU_le _ _
    rw [← hS]
    by_cases hkn : k < n
    · have hkn' : (k : Int) < n := by omega
      obtain ⟨x, hx⟩ : ∃ x, L[k]? = some x := ⟨_, List.getElem?_eq_getElem (by have := hl'.out; omega)⟩
      obtain ⟨g, off, rfl, cx, cxl⟩ := cell_at (hW'.out ws hO.out) (dat_at hx)
      have hsu := Lib.hid (show totU f (L.take (k + 1)) = sA S (f x) by rw [totU_snoc hx, hS])
      have q1 := Lib.hid (hcl'.out ws hO.out x (List.mem_of_getElem? hx))
      have q2 := Lib.hid (fun W => Bch.add_any S (f x) W hS9 (hf'.out x))
      obtain ⟨F, hF⟩ : ∃ F, F = f x := ⟨_, rfl⟩
      rw [← hF] at hsu q1 q2
      obtain ⟨V, hV⟩ : ∃ V, V = sA S F := ⟨_, rfl⟩
      rw [← hV] at hsu q2
      clear hx hS hF hV
      go_wp2_with fail
      refine q1.out.mono ?_
      rintro e w4 ⟨rfl, ho⟩
      have hO4 := Lib.hid (hO.out.trans' ho)
      clear ho q1 cx cxl
      go_wp2_with fail
      refine (q2.out _).mono ?_
      rintro e w5 ⟨rfl, hw5⟩
      subst hw5
      go_wp2
      go_roundw
      case rel => exact ⟨k + 1, by go_num, by omega, by rw [hsu.out], hO4⟩
      case measure => simp [intOf]; omega
    · obtain rfl : k = n := by omega
      have hfin := Lib.hid (show Z (.returned (U S)) ws from by rw [hZ'.out, hS, List.take_of_length_le (by have := hl'.out; omega)]; exact ⟨rfl, hO.out⟩)
      clear hS
      go_wp2
      exact hfin.out
set_option maxRecDepth 100000 in
set_option maxHeartbeats 2000000 in
theorem count_any {w : World} {c : ConfV} {ts : List TaskV} (hT : TasksAt w c.ta ts) (hs9 : c.ta.n ≤ 1000000) {win : Nat} (hwin : win ≤ 18446744073709551615) {i : Nat} {ti : TaskV} (hi : ts[i]? = some ti) :
    Calls Try.prog 8 #[c.val, .int .i64 (i : Int), U win] w (GrowU (totU (cntU ts win) (aboU ts ti.th c.ta.n)) w) := by
  obtain ⟨Z, hZ⟩ : ∃ Z, Z = GrowU (totU (cntU ts win) (aboU ts ti.th c.ta.n)) w := ⟨_, rfl⟩
  rw [← hZ]
  obtain ⟨q, hq⟩ : ∃ q, q = w.heap.size := ⟨_, rfl⟩
  obtain ⟨W2, hW2⟩ : ∃ W2, W2 = (w.alloc (.cells c.cells.toArray 27)).alloc (.cells #[U win] 28) := ⟨_, rfl⟩
  have hO2 : Only (fun _ => False) w W2 := by rw [hW2]; exact ((Only.refl _ w).alloc _).alloc _
  have b0 : W2.heap[q]? = some (.cells c.cells.toArray 27 (0, 0)) := by rw [hW2]; exact heap_kept_alloc (heap_new_at _ _ hq.symm) _
  have b1 : W2.heap[q + 1]? = some (.cells #[U win] 28 (0, 0)) := by rw [hW2]; exact heap_new_at _ _ (by simp [hq])
  have hq' := Lib.hid hq
  have hmf : ∀ (fn : Fn) (first cap : Array Value) (w : World), (Instr.makeFunc fn first cap).run Try.prog w = .ok (.func fn first cap) w := fun _ _ _ _ => rfl
  have cab := Lib.hid (above_any (hT.new hO2) hs9 hi)
  have ctot := Lib.hid (fun W (ho : Only (fun _ => False) W2 W) (A : Option Addr) (cap : Nat) (hh : Option Nat) (hW : Win W 3 1 (.slice A (aboU ts ti.th c.ta.n).length cap) hh (aboU ts ti.th c.ta.n).length (dat (aboU ts ti.th c.ta.n))) =>
    total_any (qc := q) (qw := q + 1) (f := cntU ts win) hW rfl (Nat.le_trans (aboU_len _ _ _) hs9) (fun i => sC_le hwin) (fun W' ho' i hi' => cl27_any ((ho.trans' ho').heap b0 (fun h => h)) (hT.new (hO2.trans' (ho.trans' ho'))) ((ho.trans' ho').heap b1 (fun h => h)) hwin (by have := (aboU_mem.1 hi').1; have := hT.len; omega)))
  have d0 := row_cell b0 (i := 0) rfl
  have d1 := row_cell b0 (i := 1) rfl
  have d2 := row_cell b0 (i := 2) rfl
  have d3 := row_cell b0 (i := 3) rfl
  have d4 := row_cell b0 (i := 4) rfl
  have d5 := row_cell b0 (i := 5) rfl
  have d6 := row_cell b0 (i := 6) rfl
  have d7 := row_cell b0 (i := 7) rfl
  have d8 := row_cell b0 (i := 8) rfl
  have d9 := row_cell b0 (i := 9) rfl
  have dl := row_lt b0
  have hfin := Lib.hid (fun W (ho : Only (fun _ => False) W2 W) => show Z (.returned (U (totU (cntU ts win) (aboU ts ti.th c.ta.n)))) W from by rw [hZ]; exact ⟨rfl, hO2.trans' ho⟩)
  obtain ⟨L, hL⟩ : ∃ L, L = aboU ts ti.th c.ta.n := ⟨_, rfl⟩
  rw [← hL] at cab ctot hfin
  unfold RowEnd at cab
  obtain ⟨V, hV⟩ : ∃ V, V = totU (cntU ts win) L := ⟨_, rfl⟩
  rw [← hV] at ctot hfin
  obtain ⟨m, hm⟩ : ∃ m, m = L.length := ⟨_, rfl⟩
  rw [← hm] at cab ctot
  unfold ConfV.val at cab ⊢
  unfold ConfV.cells at hW2
  have hW2' := Lib.hid hW2
  clear hT hi hZ hq hO2 b0 b1 hW2 hL hV hm hwin
  obtain ⟨s, wy, h, mi, ⟨mA, mn, mc⟩, g, ⟨cA, cn, cc⟩, ⟨eA, en, ec⟩, ⟨tA, tn, tc⟩, ⟨lA, ln, lc⟩⟩ := c
  dsimp only at *
  go_enter Try.func8, Try.ntmps8
  go_upto_region 1 with fail
  rw [← hq'.out]
  rw [← hW2'.out]
  go_wp2_with fail
  refine cab.out.mono ?_
  rintro e w4 ⟨p, cp, hh, rfl, hW, -, ho⟩
  have q2 := Lib.hid (ctot.out w4 ho p cp hh hW)
  have hO4 := Lib.hid ho
  clear ho hW d0 d1 d2 d3 d4 d5 d6 d7 d8 d9 dl cab ctot
  go_wp2_with fail
  refine q2.out.mono ?_
  rintro e w5 ⟨rfl, ho⟩
  have hf := Lib.hid (hfin.out w5 (hO4.out.trans' ho))
  clear ho
  go_wp2
  exact hf.out
end Pre
end Go.Proofs.Ytdoimkmhincmmaa
