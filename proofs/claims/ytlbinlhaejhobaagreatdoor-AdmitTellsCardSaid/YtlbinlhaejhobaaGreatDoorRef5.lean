/- The document's layer 23: Loads. -/
import Derived.Test.YtlbinlhaejhobaaGreatDoorRef4
namespace Go.Proofs.YtlbinlhaejhobaaGreatDoor
namespace Rld
open Go Go.RowKit Rca Srt
set_option maxRecDepth 100000 in
set_option maxHeartbeats 2000000 in
theorem rloads_any {w : World} {A : Option Addr} {n cap : Nat} {l : List Opn} (hl : OpnRow w A l) (hn : l.length = n) (h9 : n ≤ 1000000) (hok : accOk l) (S : Nat) (wy h mi : Int) (h1 : 1 ≤ S) (h2 : S ≤ 16) :
    Calls Tryz.prog 85 #[.slice A n cap, .agg #[.int .i64 (S : Int), .int .i64 wy, .int .i64 h, .int .i64 mi]] w (LodEnd S l w) := by
  obtain ⟨Z, hZ⟩ : ∃ Z, Z = LodEnd S l w := ⟨_, rfl⟩
  rw [← hZ]
  have hZ' := Lib.hid hZ
  obtain ⟨W1, hW1⟩ : ∃ W1, W1 = w.alloc (.cells #[.int .i64 (S : Int), .int .i64 wy, .int .i64 h, .int .i64 mi] 23) := ⟨_, rfl⟩
  have hO : Only (fun _ => False) w W1 := by rw [hW1]; exact (Only.refl (fun _ => False) w).alloc _
  have hb := heap_new_at w (.cells #[.int .i64 (S : Int), .int .i64 wy, .int .i64 h, .int .i64 mi] 23) rfl
  rw [← hW1] at hb
  have hb' := Lib.hid hb
  have hO' := Lib.hid hO
  have hq := Lib.hid (fun W (hW : Only (fun _ => False) w W) => rblocks_any (cap := cap) (hl.new hW) hn h9 hok)
  have hb1 : ¬ (S : Int) < 1 := by omega
  have hb2 : ¬ (16 : Int) < (S : Int) := by omega
  have hlen9 := Lib.hid (show (accN l).length ≤ n from hn ▸ accN_len l)
  have c0 := row_cell (L := [.int .i64 (S : Int), .int .i64 wy, .int .i64 h, .int .i64 mi]) hb (i := 0) rfl
  have c1 := row_cell (L := [.int .i64 (S : Int), .int .i64 wy, .int .i64 h, .int .i64 mi]) hb (i := 1) rfl
  have c2 := row_cell (L := [.int .i64 (S : Int), .int .i64 wy, .int .i64 h, .int .i64 mi]) hb (i := 2) rfl
  have c3 := row_cell (L := [.int .i64 (S : Int), .int .i64 wy, .int .i64 h, .int .i64 mi]) hb (i := 3) rfl
  have hlt := row_lt hb
  have hW1' := Lib.hid hW1
  have hS0 : ((S : Int) == 0) = false := beq_eq_false_iff_ne.2 (by omega)
  have hSp : (0 : Int) < (S : Int) := by omega
  have hSn : (S : Int) ≠ 0 := by omega
  have mk := fun W0 : World => run_make_list (P := Tryz.prog) W0 24 3 (.int .i64 0) 8 Tryz.underlying24 (by kernel_rfl) rfl S (by omega) (by omega)
  clear hl hn hok hO hb hW1 hZ
  go_enter Tryz.func85, Tryz.ntmps85
  obtain ⟨G, hG⟩ : ∃ G, G = W1.heap.size := ⟨_, rfl⟩
  have hG' := Lib.hid hG
  clear hG
  go_upto_region 1 with fail
  rw [← hW1'.out]
  go_upto_region 4 with fail
  rw [← hG'.out]
  clear mk
  have hO3 := Lib.hid (hO'.out.alloc (.cells (List.replicate S (Value.int .i64 0)).toArray 3))
  have hr3 := Lib.hid (heap_new_at W1 (.cells (List.replicate S (Value.int .i64 0)).toArray 3) hG'.out.symm)
  go_wp2_with fail
  have hGw : w.heap.size ≤ G := by
    have h3 := hO'.out.size
    have h5 := hG'.out
    omega
  refine (hq.out _ hO3.out).mono ?_
  rintro e w4 ⟨B, p, cp, hh, rfl, hnd, hmem, hWB, hfr, hO4⟩
  have hr4 := Lib.hid (hO4.heap hr3.out (fun h => h))
  have hO4' := Lib.hid (hO3.out.trans' hO4)
  have hb4 := Lib.hid (hO4.heap (heap_kept_alloc hb'.out _) (fun h => h))
  obtain ⟨m, hm⟩ : ∃ m, m = B.length := ⟨_, rfl⟩
  rw [← hm] at hWB ⊢
  have hm9 : m ≤ n := by
    have := Lru.nodup_le hnd (fun x hx => (hmem x).1 hx)
    have := hlen9.out
    omega
  have hm' := Lib.hid hm
  have hWB' := Lib.hid hWB
  have hnd' := Lib.hid hnd
  have hmem' := Lib.hid hmem
  have hne : ∀ k, hh = some k → ¬ k = G := by
    intro k hk e
    have := hfr k hk
    rw [alloc_size] at this
    have := hG'.out
    omega
  have hne' := Lib.hid hne
  have c4 := row_cell (L := [.int .i64 (S : Int), .int .i64 wy, .int .i64 h, .int .i64 mi]) hb4.out (i := 0) rfl
  have hlt4 := row_lt hb4.out
  have hGlt := row_lt hr4.out
  have hGb : ¬ w.heap.size = G := by
    have h4 := row_lt hb'.out
    have h5 := hG'.out
    omega
  clear hO4 hm hWB hnd hmem hne hfr c0 c1 c2 c3 hlt
  go_wp2
  go_loopw [7, 22] (fun _ i wr => ∃ k : Nat, k ≤ m ∧ i = .int .i64 k ∧ wr.heap[G]? = some (.cells (lrow S (B.take k)).toArray 3 (0, 0)) ∧ Only (fun k => k = G) w4 wr) (fun _ i _ => m - (intOf i).toNat)
  case atStart => exact ⟨0, Nat.zero_le _, rfl, by rw [List.take_zero, lrow_zero]; exact hr4.out, Only.refl _ _⟩
  case round =>
    obtain ⟨k, hk, rfl, hr, hO5⟩ := hrel
    obtain ⟨ws, hws⟩ : ∃ ws : World, ws = wr := ⟨_, rfl⟩
    subst hws
    have hr' := Lib.hid hr
    have hO5' := Lib.hid hO5
    have c5 := hO5.cell c4 (fun e => hGb e)
    replace hlt4 := Nat.lt_of_lt_of_le hlt4 hO5.size
    replace hGlt := Nat.lt_of_lt_of_le hGlt hO5.size
    clear c4 hr hO5
    by_cases hkm : k < m
    · have hkm' : (k : Int) < (m : Int) := by omega
      obtain ⟨b, hbk⟩ : ∃ b, B[k]? = some b := ⟨_, List.getElem?_eq_getElem (by have := hm'.out; omega)⟩
      obtain ⟨g2, goff2, capp2, _, hv2, _, _, hgl2, hgc2, _⟩ := (hWB'.out.kept hO5'.out (fun x hx e => hne'.out x hx e)).at_ (by omega)
      cases hv2
      have g1 := hgc2 k _ (dat_at hbk)
      have hbp : (0 : Int) ≤ (b : Int) := by omega
      have hbS : b % S < S := Nat.mod_lt _ (by omega)
      have d1 := row_cell hr'.out (lrow_at (B := B.take k) hbS)
      have d2 := row_free hr'.out (b % S)
      obtain ⟨q, hqe⟩ : ∃ q, q = b % S := ⟨_, rfl⟩
      have hrem : (b : Int) % (S : Int) = (q : Int) := by omega
      rw [← hqe] at hbS d1 d2
      obtain ⟨x, hx⟩ : ∃ x, x = Lru.loadN S (B.take k) q := ⟨_, rfl⟩
      have hx9 : x ≤ m := by
        rw [hx]
        refine Nat.le_trans (loadN_le _ _ _) ?_
        rw [List.length_take]
        omega
      have hset := lrow_set (S := S) hbk
      rw [← hqe, ← hx] at hset
      rw [← hx] at d1
      have hset' := Lib.hid hset
      have hbS' : (q : Int) < (S : Int) := by omega
      clear hgc2 hbk hset hx hqe
      have hb0 : ¬ (b : Int) < 0 := by omega
      go_wp2
      refine wp_region_quiet_tail_lit 14 (by kernel_rfl) (by kernel_rfl) ?_
      simp only [List.take_succ_cons, List.take_zero, List.drop_succ_cons, List.drop_zero]
      repeat (go_big_quiet_step (fail))
      refine wpQuiet_nil ?_
      rintro _ ⟨nq, rfl⟩
      go_wp2
      go_roundw
      case rel =>
        refine ⟨k + 1, by omega, by go_num, ?_, (hO5'.out.drewN _).setCell (p := ⟨G, q, none⟩) (fun _ => rfl) _⟩
        rw [← hset'.out]
        exact row_set (by have := hr'.out; exact this) q _
      case measure => simp [intOf]; omega
    · obtain rfl : k = m := by omega
      have hkm' : ¬ (k : Int) < (k : Int) := by omega
      have hfin : Z (.returned (.slice (some ⟨G, 0, none⟩) S S)) ws := by
        rw [hZ'.out]
        refine ⟨G, rfl, hGw, ?_, hO4'.out.trans hO5'.out (fun x hx e => by omega)⟩
        have := hr'.out
        rw [hm'.out, List.take_length, lrow_loads hnd'.out hmem'.out] at this
        exact this
      have hfin' := Lib.hid hfin
      clear hfin
      go_wp2
      exact hfin'.out
end Rld
end Go.Proofs.YtlbinlhaejhobaaGreatDoor
