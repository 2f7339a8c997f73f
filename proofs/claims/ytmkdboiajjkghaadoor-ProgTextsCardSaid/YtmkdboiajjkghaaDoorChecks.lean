/- ProgChecks' walk, but for the fixed calls: whether any program, and each of its operations, may be, is the same on both sides. -/
import Derived.Test.YtmkdboiajjkghaaDoorRcheck
namespace Go.Proofs.YtmkdboiajjkghaaDoor
open Go Go.RowKit

/-- The fixed calls' contract. -/
def FixedOk (w : World) : Prop := ∀ W : World, Only (fun _ => False) w W → Calls Tryd.prog 5 #[] W (GrowB true W)

theorem few_any (w : World) (A : Option Addr) (n cap : Nat) {v : Bool} (hv : decide (n ≤ 80) = v) : Calls Tryd.prog 6 #[.slice A n cap] w (RetB v w) := by
  have hv' := Lib.hid hv
  clear hv
  by_cases h : n ≤ 80
  · have h1 : (n : Int) ≤ 80 := by omega
    have hz := Lib.hid (show true = v by rw [← hv'.out]; simp [h])
    go_enter Tryd.func6, Tryd.ntmps6
    go_wp2
    go_ret
    exact ⟨ret_bool hz.out, rfl⟩
  · have h1 : ¬ (n : Int) ≤ 80 := by omega
    have hz := Lib.hid (show false = v by rw [← hv'.out]; simp; omega)
    go_enter Tryd.func6, Tryd.ntmps6
    go_wp2
    go_ret
    exact ⟨ret_bool hz.out, rfl⟩

def nums (r : RoomV) : List Int := [r.m, r.g, r.c, r.l]
def inR (z : Int) : Prop := -1000 ≤ z ∧ z ≤ 1000

set_option maxRecDepth 100000 in
set_option maxHeartbeats 2000000 in
theorem checks_walk {w : World} (hF : FixedOk w) (hw : Words w) {A : Option Addr} {n cap : Nat} {l : List Opn} (hl : OpnRow w A l) (hn : l.length = n) (hcap : n ≤ cap) (r : RoomV) : Calls Tryd.prog 3 #[.slice A n cap, r.val] w (GrowB true w) := by
  have hw' := Lib.hid hw
  have hl' := Lib.hid hl
  have hn' := Lib.hid hn
  have hF' := Lib.hid hF
  have hrv := Lib.hid (show r.val = .agg #[.int .i64 r.m, .int .i64 r.g, .int .i64 r.c, .int .i64 r.l] from rfl)
  rw [hrv.out]
  clear hw hl hn hF
  by_cases h80 : n ≤ 80
  · have hfew := Lib.hid (fun W => few_any W A n cap (v := true) (by simpa using h80))
    go_enter Tryd.func3, Tryd.ntmps3
    go_wp2_with fail
    refine (hF'.out _ ((Only.refl _ w).alloc _)).mono ?_
    rintro e w1 ⟨rfl, hO1⟩
    have hbox := hO1.heap (heap_new_at w (.cells [.int .i64 r.m, .int .i64 r.g, .int .i64 r.c, .int .i64 r.l].toArray 24) rfl) (fun h => h)
    have r0 := row_cell hbox (i := 0) rfl
    have r1 := row_cell hbox (i := 1) rfl
    have r2 := row_cell hbox (i := 2) rfl
    have r3 := row_cell hbox (i := 3) rfl
    have hO1' := Lib.hid (((Only.refl (fun _ => False) w).alloc _).trans' hO1)
    have hbox' := Lib.hid hbox
    clear hO1 hbox
    go_wp2_with fail
    refine (hfew.out _).mono ?_
    rintro e w1b ⟨rfl, hw1⟩
    subst hw1
    have hrow := Lib.hid (show (w1.alloc (.cells ((nums r).map mkI).toArray 3)).heap[w1.heap.size]? = some (.cells ((nums r).map mkI).toArray 3 (0, 0)) from heap_new_at _ _ rfl)
    have hO2 := Lib.hid (show Only (fun _ => False) w1 (w1.alloc (.cells ((nums r).map mkI).toArray 3)) from (Only.refl _ w1).alloc _)
    rw [show ((nums r).map mkI).toArray = #[.int .i64 r.m, .int .i64 r.g, .int .i64 r.c, .int .i64 r.l] from rfl] at hrow hO2
    clear r0 r1 r2 r3
    have r0 := row_cell hbox'.out (i := 0) rfl
    have r1 := row_cell hbox'.out (i := 1) rfl
    have r2 := row_cell hbox'.out (i := 2) rfl
    have r3 := row_cell hbox'.out (i := 3) rfl
    go_wp2
    generalize World.alloc w1 _ = W2 at hrow hO2 ⊢
    clear r0 r1 r2 r3
    go_loopw [24] (fun i wr => ∃ k : Nat, k ≤ 4 ∧ i = .int .i64 k ∧ (∀ j z, j < k → (nums r)[j]? = some z → inR z) ∧ W2 = wr) (fun i _ => 4 - (intOf i).toNat)
    case atStart => exact ⟨0, by omega, rfl, (fun j z hj => by omega), rfl⟩
    case round =>
      obtain ⟨k, hk, rfl, hall, rfl⟩ := hrel
      by_cases hk4 : k < 4
      · have hk4' : (k : Int) < 4 := by omega
        obtain ⟨z, hz⟩ : ∃ z, (nums r)[k]? = some z := ⟨(nums r)[k]'hk4, List.getElem?_eq_getElem _⟩
        have c0 : W2.cell? ⟨w1.heap.size, k, none⟩ = some (.int .i64 z) := row_cell (L := (nums r).map mkI) hrow.out (by simp [hz, mkI])
        have hz' := Lib.hid (And.intro hall hz)
        clear hall hz
        by_cases z1 : z < -1000
        · go_wp2
          go_ret
          exact ⟨rfl, hO1'.out.trans' hO2.out⟩
        · by_cases z2 : 1000 < z
          · go_wp2
            go_ret
            exact ⟨rfl, hO1'.out.trans' hO2.out⟩
          · have hnx := Lib.hid (show ∀ j y, j < k + 1 → (nums r)[j]? = some y → inR y from fun j y hj hy => by
              by_cases hjk : j < k
              · exact hz'.out.1 j y hjk hy
              · obtain rfl : j = k := by omega
                rw [hz'.out.2] at hy
                cases hy
                exact ⟨by omega, by omega⟩)
            go_wp2
            go_roundw
            case rel => exact ⟨k + 1, by omega, by go_num, hnx.out, trivial⟩
            case measure => simp [intOf]; omega
      · obtain rfl : k = 4 := by omega
        have hr : r.ok := ⟨hall 0 _ (by omega) rfl, hall 1 _ (by omega) rfl, hall 2 _ (by omega) rfl, hall 3 _ (by omega) rfl⟩
        have hr' := Lib.hid hr
        clear hall hr
        have hbx2 := Lib.hid (hO2.out.heap hbox'.out (fun h => h))
        have hOW := Lib.hid (hO1'.out.trans' hO2.out)
        go_wp2
        go_loopw [37] (fun i wr => ∃ k : Nat, k ≤ n ∧ i = .int .i64 k ∧ Only (fun _ => False) W2 wr) (fun i _ => n - (intOf i).toNat)
        case atStart => exact ⟨0, Nat.zero_le _, rfl, Only.refl _ _⟩
        case round =>
          obtain ⟨k, hk, rfl, hO⟩ := hrel
          obtain ⟨ws, hws⟩ : ∃ ws : World, ws = wr := ⟨_, rfl⟩
          subst hws
          have hbx := hO.heap hbx2.out (fun h => h)
          have hOs := Lib.hid (hOW.out.trans' hO)
          have hOq := Lib.hid hO
          clear hO
          by_cases hkn : k < n
          · have hkn' : (k : Int) < (n : Int) := by omega
            obtain ⟨x, hx⟩ : ∃ x, l[k]? = some x := ⟨l[k]'(by have := hn'.out; omega), List.getElem?_eq_getElem _⟩
            obtain ⟨bb, off, hA, hbb, q0, q1, q2⟩ := (hl'.out.new hOs.out) k x hx
            subst hA
            have hbx' := Lib.hid hbx
            clear hbx hx
            have hbk := Lib.hid (show (ws.alloc (.cells [.int .i64 x.k, .int .i64 x.a, .int .i64 x.b].toArray 29)).heap[ws.heap.size]? = some (.cells [.int .i64 x.k, .int .i64 x.a, .int .i64 x.b].toArray 29 (0, 0)) from heap_new_at _ _ rfl)
            have hOk := Lib.hid (show Only (fun _ => False) ws (ws.alloc (.cells [.int .i64 x.k, .int .i64 x.a, .int .i64 x.b].toArray 29)) from (Only.refl _ ws).alloc _)
            go_wp2
            generalize World.alloc ws _ = W3 at hbk hOk ⊢
            clear q0 q1 q2
            have hb3 := hOk.out.heap hbx'.out (fun h => h)
            have c0 := wd_cell (row_cell hbk.out (i := 0) rfl)
            have c1 := wd_cell (row_cell hbk.out (i := 1) rfl)
            have c2 := wd_cell (row_cell hbk.out (i := 2) rfl)
            have r0 := wd_cell (row_cell hb3 (i := 0) rfl)
            have r1 := wd_cell (row_cell hb3 (i := 1) rfl)
            have r2 := wd_cell (row_cell hb3 (i := 2) rfl)
            have r3 := wd_cell (row_cell hb3 (i := 3) rfl)
            have hex := wd_ex W3
            obtain ⟨z, hz⟩ : ∃ z, z = opZ x r := ⟨_, rfl⟩
            obtain ⟨y, hy⟩ : ∃ y, y = numZ x.k := ⟨_, rfl⟩
            have hW3 := Lib.hid (hOs.out.trans' hOk.out)
            have p1 := fun v : Wd W3 => Calls.wd (x := v) (op_any (hw'.out.new (hW3.out.trans' v.ok)) x r hr'.out)
            have p2 := fun v : Wd W3 => Calls.wd (x := v) (rop_any v.W x r hr'.out)
            have p3 := fun v : Wd W3 => Calls.wd_same (x := v) (numbers_any (hw'.out.new (hW3.out.trans' v.ok)) x.k)
            have p4 := fun v : Wd W3 => Calls.wd_same (x := v) (rnumbers_any v.W x.k)
            rw [← hz] at p1 p2
            rw [← hy] at p3 p4
            rw [show x.val = .agg #[.int .i64 x.k, .int .i64 x.a, .int .i64 x.b] from rfl] at p1 p2
            rw [hrv.out] at p1
            have p1' := Lib.hid p1
            have p2' := Lib.hid p2
            have p3' := Lib.hid p3
            have p4' := Lib.hid p4
            have zz : (z != z) = false := by simp
            have yy : (y != y) = false := by simp
            clear hb3 hz hy p1 p2 p3 p4
            refine wp_region_wd (by kernel_rfl) (by kernel_rfl) ?_
            repeat (go_big_quiet_step (first | (go_at_call 7; exact p1'.out _) | (go_at_call 8; exact p2'.out _) | (go_at_call 9; exact p3'.out _) | (go_at_call 10; exact p4'.out _)))
            refine wpQuiet_nil ?_
            rintro _ ⟨v, rfl⟩
            have hv := Lib.hid (hOk.out.trans' v.ok)
            have hOv := hOq
            clear c0 c1 c2 r0 r1 r2 r3 hex
            go_wp2
            go_roundw
            case rel => exact ⟨k + 1, by omega, by go_num, hOv.out.trans' hv.out⟩
            case measure => simp [intOf]; omega
          · obtain rfl : k = n := by omega
            have hb3 := hbx
            have r0 := wd_cell (row_cell hb3 (i := 0) rfl)
            have r1 := wd_cell (row_cell hb3 (i := 1) rfl)
            have r2 := wd_cell (row_cell hb3 (i := 2) rfl)
            have r3 := wd_cell (row_cell hb3 (i := 3) rfl)
            have hex := wd_ex ws
            obtain ⟨z, hz⟩ : ∃ z, z = checkZ l r := ⟨_, rfl⟩
            have p1 := fun v : Wd ws => Calls.wd (x := v) (check_any (cap := cap) (hw'.out.new (hOs.out.trans' v.ok)) (hl'.out.new (hOs.out.trans' v.ok)) r hr'.out)
            have p2 := fun v : Wd ws => Calls.wd (x := v) (rcheck_any (cap := cap) (hl'.out.new (hOs.out.trans' v.ok)) (by rw [hn'.out]; exact hcap) r hr'.out)
            rw [← hz, hn'.out] at p1 p2
            rw [hrv.out] at p1
            have p1' := Lib.hid p1
            have p2' := Lib.hid p2
            have zz : (z == z) = true := by simp
            clear hb3 hz p1 p2 hbx
            go_wp2
            refine wp_region_wd (by kernel_rfl) (by kernel_rfl) ?_
            repeat (go_big_quiet_step (first | (go_at_call 11; exact p1'.out _) | (go_at_call 12; exact p2'.out _)))
            refine wpQuiet_nil ?_
            rintro _ ⟨v, rfl⟩
            have hv := Lib.hid (hOs.out.trans' v.ok)
            clear r0 r1 r2 r3 hex
            go_wp2
            go_ret
            exact ⟨rfl, hv.out⟩
  · have hfew := Lib.hid (fun W => few_any W A n cap (v := false) (by simpa using h80))
    go_enter Tryd.func3, Tryd.ntmps3
    go_wp2_with fail
    refine (hF'.out _ ((Only.refl _ w).alloc _)).mono ?_
    rintro e w1 ⟨rfl, hO1⟩
    have hO1' := Lib.hid (((Only.refl (fun _ => False) w).alloc _).trans' hO1)
    clear hO1
    go_wp2_with fail
    refine (hfew.out _).mono ?_
    rintro e w1b ⟨rfl, hw1⟩
    subst hw1
    go_wp2
    go_ret
    exact ⟨rfl, hO1'.out⟩
end Go.Proofs.YtmkdboiajjkghaaDoor
