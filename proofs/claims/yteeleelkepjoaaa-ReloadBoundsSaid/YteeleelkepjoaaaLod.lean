/- reload: loads, who is above. -/
import Derived.Test.YteeleelkepjoaaaBlk
import Derived.Deep.LoopGhost
namespace Go.Proofs.Yteeleelkepjoaaa
namespace Rld
open Go Go.RowKit Rca Srt

theorem has_any (w : World) (c : ConfV) (z : Int) : Calls Try.prog 33 #[c.val, .int .i64 z] w (GrowB (hasT c.ta.n z) w) := by
  have hO := (Only.refl (fun _ => False) w).alloc (.cells c.cells.toArray 27)
  have hB := heap_new_at w (.cells c.cells.toArray 27) rfl
  obtain ⟨W1, hW1⟩ : ∃ W1, W1 = w.alloc (.cells c.cells.toArray 27) := ⟨_, rfl⟩
  have e8 := row_cell hB (i := 8) rfl
  have hlt1 := row_lt hB
  rw [← hW1] at e8 hO hlt1
  obtain ⟨V, hV⟩ : ∃ V, V = hasT c.ta.n z := ⟨_, rfl⟩
  rw [← hV]
  unfold hasT at hV
  rw [show c.val = .agg #[.int .i64 c.s, .int .i64 c.wy, .int .i64 c.h, .int .i64 c.mi, .slice c.mb.A c.mb.n c.mb.cap, .int .i64 c.g, .slice c.cn.A c.cn.n c.cn.cap, .slice c.ce.A c.ce.n c.ce.cap, .slice c.ta.A c.ta.n c.ta.cap, .slice c.li.A c.li.n c.li.cap] from rfl]
  unfold ConfV.cells at hW1
  obtain ⟨s, wy, h, mi, ⟨mA, mn, mc⟩, g, ⟨cA, cn, cc⟩, ⟨eA, en, ec⟩, ⟨tA, tn, tc⟩, ⟨lA, ln, lc⟩⟩ := c
  simp only at *
  have hW1' := Lib.hid hW1
  have hO' := Lib.hid hO
  have hV' := Lib.hid hV
  clear hB hW1 hO hV
  go_enter Try.func33, Try.ntmps33
  by_cases h0 : 0 ≤ z
  · by_cases h1 : z < (tn : Int)
    · have : V = true := by rw [hV'.out]; simp [h0, h1]
      subst this
      go_wp2
      rw [← hW1'.out]
      go_wp2
      go_ret
      exact ⟨rfl, hO'.out⟩
    · have : V = false := by rw [hV'.out]; simp [h1]
      subst this
      go_wp2
      rw [← hW1'.out]
      go_wp2
      go_ret
      exact ⟨rfl, hO'.out⟩
  · have : V = false := by rw [hV'.out]; simp [h0]
    subst this
    go_wp2
    rw [← hW1'.out]
    go_ret
    exact ⟨rfl, hO'.out⟩

theorem sets_any (w : World) (S : Nat) (wy h mi : Int) (h1 : 1 ≤ S) (h2 : S ≤ 16) : Calls Try.prog 42 #[.agg #[.int .i64 (S : Int), .int .i64 wy, .int .i64 h, .int .i64 mi]] w (GrowI (S : Int) w) := by
  have a1 : ¬ (S : Int) < 1 := by omega
  have a2 : ¬ (16 : Int) < (S : Int) := by omega
  have hO := (Only.refl (fun _ => False) w).alloc (.cells #[.int .i64 (S : Int), .int .i64 wy, .int .i64 h, .int .i64 mi] 23)
  have hO' := Lib.hid hO
  clear hO h1 h2
  go_enter Try.func42, Try.ntmps42
  go_wp2
  go_ret
  exact ⟨rfl, hO'.out⟩
def clZ (z : Int) : Int := min (max z 0) 100
theorem clamped_any (w : World) (z : Int) : Calls Try.prog 44 #[.int .i64 z] w (fun e w' => e = .returned (.int .i64 (clZ z)) ∧ w = w') := by
  go_enter Try.func44, Try.ntmps44
  go_wp2
  go_ret
  exact ⟨rfl, rfl⟩

/-- The loads of a row's first blocks. -/
def lrow (S : Nat) (B : List Nat) : List Value := (List.range S).map (fun s => Value.int .i64 (Lru.loadN S B s : Int))
theorem lrow_len (S : Nat) (B : List Nat) : (lrow S B).length = S := by simp [lrow]
theorem loadN_succ {S k b s : Nat} {B : List Nat} (h : B[k]? = some b) : Lru.loadN S (B.take (k + 1)) s = Lru.loadN S (B.take k) s + (if b % S = s then 1 else 0) := by
  unfold Lru.loadN
  rw [List.take_add_one, h, List.filter_append, List.length_append]
  congr 1
  by_cases hb : b % S = s <;> simp [hb]
theorem lrow_at {S : Nat} {B : List Nat} {s : Nat} (hs : s < S) : (lrow S B)[s]? = some (.int .i64 (Lru.loadN S B s : Int)) := by
  unfold lrow
  rw [List.getElem?_map, List.getElem?_range hs]
  rfl
theorem lrow_set {S k b : Nat} {B : List Nat} (h : B[k]? = some b) : (lrow S (B.take k)).set (b % S) (.int .i64 ((Lru.loadN S (B.take k) (b % S) : Int) + 1)) = lrow S (B.take (k + 1)) := by
  apply List.ext_getElem?
  intro j
  by_cases hj : j < S
  · rw [List.getElem?_set, lrow_at (B := B.take (k + 1)) hj, loadN_succ h]
    by_cases he : b % S = j
    · subst he
      rw [if_pos rfl, if_pos (by rw [lrow_len]; exact hj), if_pos rfl]
      push_cast
      rfl
    · rw [if_neg he, if_neg he, lrow_at hj]
      rfl
  · rw [List.getElem?_eq_none (by simp [lrow_len]; omega), List.getElem?_eq_none (by rw [lrow_len]; omega)]
theorem lrow_zero (S : Nat) : lrow S [] = List.replicate S (.int .i64 0) := by
  apply List.ext_getElem?
  intro j
  by_cases hj : j < S
  · rw [lrow_at hj, List.getElem?_replicate, if_pos hj]
    simp [Lru.loadN]
  · rw [List.getElem?_eq_none (by rw [lrow_len]; omega), List.getElem?_eq_none (by simp; omega)]
theorem loadN_le (S : Nat) (B : List Nat) (s : Nat) : Lru.loadN S B s ≤ B.length := by
  unfold Lru.loadN
  exact List.length_filter_le _ _
def loadsL (S : Nat) (l : List Opn) : List Value := (List.range S).map (fun s => Value.int .i64 (loadS S l s : Int))
theorem lrow_loads {S : Nat} {l : List Opn} {B : List Nat} (hb : B.Nodup) (h : ∀ x, x ∈ B ↔ x ∈ accN l) : lrow S B = loadsL S l := by
  unfold lrow loadsL
  refine List.map_congr_left fun s _ => ?_
  rw [loadS_of hb h]
theorem accN_len (l : List Opn) : (accN l).length ≤ l.length := by
  unfold accN
  rw [List.length_map]
  exact List.length_filter_le _ _

/-- What Loads answers. -/
def LodEnd (S : Nat) (l : List Opn) (w : World) (e : Ending) (w' : World) : Prop :=
  ∃ g, e = .returned (.slice (some ⟨g, 0, none⟩) S S) ∧ w.heap.size ≤ g ∧ w'.heap[g]? = some (.cells (loadsL S l).toArray 3 (0, 0)) ∧ Only (fun _ => False) w w'
set_option maxRecDepth 100000 in
set_option maxHeartbeats 2000000 in
theorem loads_any {w : World} {A : Option Addr} {n cap : Nat} {l : List Opn} (hl : OpnRow w A l) (hn : l.length = n) (h9 : n ≤ 1000000) (hok : accOk l) (S : Nat) (wy h mi : Int) (h1 : 1 ≤ S) (h2 : S ≤ 16) :
    Calls Try.prog 24 #[.slice A n cap, .agg #[.int .i64 (S : Int), .int .i64 wy, .int .i64 h, .int .i64 mi]] w (LodEnd S l w) := by
  obtain ⟨Z, hZ⟩ : ∃ Z, Z = LodEnd S l w := ⟨_, rfl⟩
  rw [← hZ]
  have hZ' := Lib.hid hZ
  obtain ⟨W1, hW1⟩ : ∃ W1, W1 = w.alloc (.cells #[.int .i64 (S : Int), .int .i64 wy, .int .i64 h, .int .i64 mi] 23) := ⟨_, rfl⟩
  have hO : Only (fun _ => False) w W1 := by rw [hW1]; exact (Only.refl (fun _ => False) w).alloc _
  have hb := heap_new_at w (.cells #[.int .i64 (S : Int), .int .i64 wy, .int .i64 h, .int .i64 mi] 23) rfl
  rw [← hW1] at hb
  have hb' := Lib.hid hb
  have hO' := Lib.hid hO
  have hq := Lib.hid (fun W (hW : Only (fun _ => False) w W) => blocks_any (cap := cap) (hl.new hW) hn h9 hok)
  have hs := Lib.hid (fun W => sets_any W S wy h mi h1 h2)
  have hlen9 := Lib.hid (show (accN l).length ≤ n from hn ▸ accN_len l)
  have c0 := row_cell (L := [.int .i64 (S : Int), .int .i64 wy, .int .i64 h, .int .i64 mi]) hb (i := 0) rfl
  have c1 := row_cell (L := [.int .i64 (S : Int), .int .i64 wy, .int .i64 h, .int .i64 mi]) hb (i := 1) rfl
  have c2 := row_cell (L := [.int .i64 (S : Int), .int .i64 wy, .int .i64 h, .int .i64 mi]) hb (i := 2) rfl
  have c3 := row_cell (L := [.int .i64 (S : Int), .int .i64 wy, .int .i64 h, .int .i64 mi]) hb (i := 3) rfl
  have hlt := row_lt hb
  have hW1' := Lib.hid hW1
  have hS0 : ((S : Int) == 0) = false := beq_eq_false_iff_ne.2 (by omega)
  have hSp : (0 : Int) < (S : Int) := by omega
  have hSn : (S : Int) ≠ 0 := by omega
  have mk := fun W0 : World => run_make_list (P := Try.prog) W0 24 3 (.int .i64 0) 8 Try.underlying24 (by kernel_rfl) rfl S (by omega) (by omega)
  clear hl hn hok hO hb hW1 hZ
  go_enter Try.func24, Try.ntmps24
  go_wp2_with fail
  rw [← hW1'.out]
  go_wp2_with fail
  refine (hs.out _).mono ?_
  rintro e w2 ⟨rfl, hO2⟩
  have hO2' := Lib.hid hO2
  have hb2 := Lib.hid (hO2.heap hb'.out (fun h => h))
  replace c0 := hO2.cell c0 (fun h => h)
  replace hlt := Nat.lt_of_lt_of_le hlt hO2.size
  clear hO2 c1 c2 c3 hs
  obtain ⟨G, hG⟩ : ∃ G, G = w2.heap.size := ⟨_, rfl⟩
  have hG' := Lib.hid hG
  clear hG
  go_wp2_with fail
  rw [← hG'.out]
  clear mk
  have hO3 := Lib.hid ((hO'.out.trans' hO2'.out).alloc (.cells (List.replicate S (Value.int .i64 0)).toArray 3))
  have hr3 := Lib.hid (heap_new_at w2 (.cells (List.replicate S (Value.int .i64 0)).toArray 3) hG'.out.symm)
  have hGw : w.heap.size ≤ G := by
    have h3 := hO'.out.size
    have h4 := hO2'.out.size
    have h5 := hG'.out
    omega
  refine (hq.out _ hO3.out).mono ?_
  rintro e w4 ⟨B, p, cp, hh, rfl, hnd, hmem, hWB, hfr, hO4⟩
  have hr4 := Lib.hid (hO4.heap hr3.out (fun h => h))
  have hO4' := Lib.hid (hO3.out.trans' hO4)
  have hb4 := Lib.hid (hO4.heap (heap_kept_alloc hb2.out _) (fun h => h))
  obtain ⟨m, hm⟩ : ∃ m, m = B.length := ⟨_, rfl⟩
  rw [← hm] at hWB ⊢
  have hm9 : m ≤ n := by
    have := Lru.nodup_le hnd (fun x hx => (hmem x).1 hx)
    have := hlen9.out
    omega
  have hm' := Lib.hid hm
  have hWB' := Lib.hid hWB
  have hnd' := Lib.hid hnd
  have hmem' := Lib.hid hmem
  have hne : ∀ k, hh = some k → ¬ k = G := by
    intro k hk e
    have := hfr k hk
    rw [alloc_size] at this
    have := hG'.out
    omega
  have hne' := Lib.hid hne
  have c4 := row_cell (L := [.int .i64 (S : Int), .int .i64 wy, .int .i64 h, .int .i64 mi]) hb4.out (i := 0) rfl
  have hlt4 := row_lt hb4.out
  have hGlt := row_lt hr4.out
  have hGb : ¬ w.heap.size = G := by
    have h3 := hO2'.out.size
    have h4 := row_lt hb'.out
    have h5 := hG'.out
    omega
  clear hO4 hm hWB hnd hmem hne hfr c0 hlt
  go_wp2
  go_loopw [17] (fun i wr => ∃ k : Nat, k ≤ m ∧ i = .int .i64 k ∧ wr.heap[G]? = some (.cells (lrow S (B.take k)).toArray 3 (0, 0)) ∧ Only (fun k => k = G) w4 wr) (fun i _ => m - (intOf i).toNat)
  case atStart => exact ⟨0, Nat.zero_le _, rfl, by rw [List.take_zero, lrow_zero]; exact hr4.out, Only.refl _ _⟩
  case round =>
    obtain ⟨k, hk, rfl, hr, hO5⟩ := hrel
    obtain ⟨ws, hws⟩ : ∃ ws : World, ws = wr := ⟨_, rfl⟩
    subst hws
    have hr' := Lib.hid hr
    have hO5' := Lib.hid hO5
    have c5 := hO5.cell c4 (fun e => hGb e)
    replace hlt4 := Nat.lt_of_lt_of_le hlt4 hO5.size
    replace hGlt := Nat.lt_of_lt_of_le hGlt hO5.size
    clear c4 hr hO5
    by_cases hkm : k < m
    · have hkm' : (k : Int) < (m : Int) := by omega
      obtain ⟨b, hbk⟩ : ∃ b, B[k]? = some b := ⟨_, List.getElem?_eq_getElem (by have := hm'.out; omega)⟩
      obtain ⟨g2, goff2, capp2, _, hv2, _, _, hgl2, hgc2, _⟩ := (hWB'.out.kept hO5'.out (fun x hx e => hne'.out x hx e)).at_ (by omega)
      cases hv2
      have g1 := hgc2 k _ (dat_at hbk)
      have hbp : (0 : Int) ≤ (b : Int) := by omega
      have hbS : b % S < S := Nat.mod_lt _ (by omega)
      have d1 := row_cell hr'.out (lrow_at (B := B.take k) hbS)
      have d2 := row_free hr'.out (b % S)
      obtain ⟨q, hqe⟩ : ∃ q, q = b % S := ⟨_, rfl⟩
      have hrem : (b : Int) % (S : Int) = (q : Int) := by omega
      rw [← hqe] at hbS d1 d2
      obtain ⟨x, hx⟩ : ∃ x, x = Lru.loadN S (B.take k) q := ⟨_, rfl⟩
      have hx9 : x ≤ m := by
        rw [hx]
        refine Nat.le_trans (loadN_le _ _ _) ?_
        rw [List.length_take]
        omega
      have hset := lrow_set (S := S) hbk
      rw [← hqe, ← hx] at hset
      rw [← hx] at d1
      have hset' := Lib.hid hset
      have hbS' : (q : Int) < (S : Int) := by omega
      clear hgc2 hbk hset hx hqe
      go_wp2
      go_roundw
      case rel =>
        refine ⟨k + 1, by omega, by go_num, ?_, hO5'.out.setCell (p := ⟨G, q, none⟩) (fun _ => rfl) _⟩
        rw [← hset'.out]
        exact row_set hr'.out q _
      case measure => simp [intOf]; omega
    · obtain rfl : k = m := by omega
      have hkm' : ¬ (k : Int) < (k : Int) := by omega
      have hfin : Z (.returned (.slice (some ⟨G, 0, none⟩) S S)) ws := by
        rw [hZ'.out]
        refine ⟨G, rfl, hGw, ?_, hO4'.out.trans hO5'.out (fun x hx e => by omega)⟩
        have := hr'.out
        rw [hm'.out, List.take_length, lrow_loads hnd'.out hmem'.out] at this
        exact this
      have hfin' := Lib.hid hfin
      clear hfin
      go_wp2
      exact hfin'.out
end Rld
end Go.Proofs.Yteeleelkepjoaaa
