/- The cache's Twin. -/
import Derived.Test.YtbjpnjgkpkfngaaNew
namespace Go.Proofs.Ytbjpnjgkpkfngaa
open Go Go.RowKit

def TwinEnd (S W : Nat) (G : Nat → List Int) (w : World) (e : Ending) (w' : World) : Prop :=
  ∃ r R M, e = .returned (.pointer (some ⟨r, 0, none⟩)) ∧ w.heap.size ≤ r ∧ w.heap.size ≤ R ∧ w.heap.size ≤ M ∧ CacheAt w' r R M S W G ∧ Only (fun _ => False) w w'
/-- The first i rows. -/
def part (G : Nat → List Int) (i : Nat) : Nat → List Int := fun k => if k < i then G k else []
theorem part_next (G : Nat → List Int) (i : Nat) : upd (part G i) i (G i) = part G (i + 1) := by
  funext k
  unfold upd part
  by_cases h : k = i
  · subst h
    rw [if_pos rfl, if_pos (by omega)]
  · rw [if_neg h]
    by_cases h1 : k < i
    · rw [if_pos h1, if_pos (by omega)]
    · rw [if_neg h1, if_neg (by omega)]
theorem CacheAt.alike {w : World} {r R M S W : Nat} {G G' : Nat → List Int} (h : CacheAt w r R M S W G) (hG : ∀ i, i < S → G i = G' i) : CacheAt w r R M S W G' := by
  obtain ⟨L, hL, hl, hc⟩ := h.room
  refine ⟨h.hS, h.hW, h.root, ?_, fun i hi => by rw [← hG i hi]; exact h.len i hi, L, hL, hl, fun i hi j x hx => hc i hi j x (by rw [hG i hi]; exact hx)⟩
  have : rowsL M S W G' = rowsL M S W G := by
    unfold rowsL
    refine List.map_congr_left (fun k hk => ?_)
    rw [hG k (List.mem_range.1 hk)]
  rw [this]
  exact h.rows
/-- A row written into an empty one. -/
theorem row_put {w w4 : World} {r R M S W i : Nat} {G : Nat → List Int} {L : List Value} {g : List Int} (h : CacheAt w r R M S W G) (hi : i < S) (hg : g.length ≤ W) (h0 : G i = []) (hl : L.length = S * W) (hc : ∀ i, i < S → ∀ j x, (G i)[j]? = some x → L[i * W + j]? = some (.int .i64 x))
    (h4 : w4.heap[M]? = some (.cells (setList L (i * W) (g.map (Value.int .i64))).toArray 3 (0, 0))) (ho : Only (fun k => k = M) w w4) :
    CacheAt (w4.setCell ⟨R, i, none⟩ (rowV M W i g.length)) r R M S W (upd G i g) ∧ Only (fun k => k = R ∨ k = M) w (w4.setCell ⟨R, i, none⟩ (rowV M W i g.length)) := by
  obtain ⟨n1, n2, n3⟩ := h.ne
  have hsw : i * W + W ≤ S * W := by
    have := Nat.mul_le_mul_right W (show i + 1 ≤ S from hi)
    rw [Nat.succ_mul] at this
    exact this
  have hR1 : w4.heap[R]? = some (.cells (rowsL M S W G).toArray 34 (0, 0)) := ho.heap h.rows (by exact n3)
  refine ⟨⟨h.hS, h.hW, heap_kept_set (ho.heap h.root (by exact n2)) (p := ⟨R, i, none⟩) (by exact n1) _, ?_, fun k hk => ?_, setList L (i * W) (g.map (Value.int .i64)), heap_kept_set h4 (p := ⟨R, i, none⟩) (by exact n3.symm) _, ?_, ?_⟩, ?_⟩
  · rw [← rows_upd M S W i G g hi]
    exact row_set hR1 i _
  · unfold upd
    split
    · exact hg
    · exact h.len k hk
  · rw [setList_length, hl]
  · intro k hk j x hx
    unfold upd at hx
    by_cases hki : k = i
    · subst hki
      rw [if_pos rfl] at hx
      have hj := (List.getElem?_eq_some_iff.1 hx).1
      rw [setList_in _ _ _ j (by simpa using hj) (by simp; omega), List.getElem?_map, hx]
      rfl
    · rw [if_neg hki] at hx
      have hj : j < W := by have := (List.getElem?_eq_some_iff.1 hx).1; have := h.len k hk; omega
      rw [setList_out]
      · exact hc k hk j x hx
      · by_cases h1 : k * W + j < i * W
        · exact .inl h1
        · by_cases h2 : i * W + (g.map (Value.int .i64)).length ≤ k * W + j
          · exact .inr h2
          · exfalso
            rw [List.length_map] at h2
            exact hki (row_apart (k := k * W + j - i * W) hj (by omega) (by omega))
  · exact (ho.mono (fun x _ hx => .inr hx)).setCell (p := ⟨R, i, none⟩) (fun _ => .inl rfl) _

set_option maxRecDepth 100000 in
set_option maxHeartbeats 1000000 in
theorem twin_any {w : World} {r R M S W : Nat} {G : Nat → List Int} (h : CacheAt w r R M S W G) : Calls Try.prog 8 #[.pointer (some ⟨r, 0, none⟩)] w (TwinEnd S W G w) := by
  have q1 := Lib.hid (fun n => sets_any (w := w.drewN n) (h.new ((Only.refl _ w).drewN n)))
  have q1b := Lib.hid (sets_any h)
  have q2 := Lib.hid (fun W0 => new_any W0 S W h.hS h.hW)
  have hS1 := h.hS.1
  have hS2 := h.hS.2
  have hW1 := h.hW.1
  have hW2 := h.hW.2
  have hSz : ((S : Int) == 0) = false := by simp; omega
  have hS0 : (0 : Int) < (S : Int) := by omega
  have c0 := row_cell h.root (i := 0) rfl
  have c1 := row_cell h.rows (rowsL_at M S W G 0 (by omega))
  unfold rowV at c1
  rw [Nat.zero_mul] at c1
  have h' := Lib.hid h
  clear h
  go_enter Try.func8, Try.ntmps8
  go_wp2_with (go_at_call 14; refine q1b.out.mono ?_; rintro e w' ⟨rfl, rfl⟩)
  refine wp_region_quiet_tail_lit 9 (by kernel_rfl) (by kernel_rfl) ?_
  simp only [List.take_succ_cons, List.take_zero, List.drop_succ_cons, List.drop_zero]
  repeat (go_big_quiet_step (first | (go_at_call 14; exact (q1.out _).mono (fun _ _ h => ⟨h.1, _, h.2.symm⟩))))
  refine wpQuiet_nil ?_
  rintro _ ⟨nq, rfl⟩
  have hO0 := Lib.hid (show Only (fun _ => False) w (w.drewN nq) from (Only.refl _ w).drewN nq)
  go_wp2_with fail
  refine (q2.out _).mono ?_
  rintro e W1 ⟨r', R', M', rfl, g1, g2, g3, hC, hO1⟩
  have hW1 := Lib.hid (And.intro (hO0.out.trans' hO1) (And.intro (show w.heap.size ≤ r' from g1) (And.intro (show w.heap.size ≤ R' from g2) (show w.heap.size ≤ M' from g3))))
  have hC' := Lib.hid hC
  have d0 := row_cell (hW1.out.1.heap h'.out.root (fun h => h)) (i := 0) rfl
  clear hC hO1 g1 g2 g3 c0 c1
  go_wp2
  clear d0
  go_loopw [24] (fun i wr => ∃ k : Nat, k ≤ S ∧ i = .int .i64 k ∧ Hid (CacheAt wr r' R' M' S W (part G k)) ∧ Hid (Only (fun _ => False) w wr)) (fun i _ => S - (intOf i).toNat)
  case atStart => exact ⟨0, Nat.zero_le _, rfl, Lib.hid (hC'.out.alike (fun i hi => by simp [part])), Lib.hid hW1.out.1⟩
  case round =>
    clear hC'
    obtain ⟨k, hk, rfl, hC, hO⟩ := hrel
    obtain ⟨ws, hws⟩ : ∃ ws : World, ws = wr := ⟨_, rfl⟩
    subst hws
    by_cases hkS : k < S
    · have hkS' : (k : Int) < (S : Int) := by omega
      have hc := Lib.hid (h'.out.new hO.out)
      have c1 := row_cell hc.out.rows (rowsL_at M S W G k hkS)
      have d0 := row_cell hC.out.root (i := 0) rfl
      have d1 := row_cell hC.out.rows (rowsL_at M' S W (part G k) k hkS)
      have hpe : part G k k = [] := by simp [part]
      rw [hpe] at d1
      unfold rowV at c1 d1
      obtain ⟨n, hn⟩ : ∃ n, n = (G k).length := ⟨_, rfl⟩
      obtain ⟨a, ha⟩ : ∃ a, a = k * W := ⟨_, rfl⟩
      have hnW : n ≤ W := by rw [hn]; exact hc.out.len k hkS
      rw [← hn, ← ha] at c1
      rw [← ha] at d1
      rw [List.length_nil] at d1
      obtain ⟨L, hL, hl, hLc⟩ := hC.out.room
      have haL : a + W ≤ L.length := by
        rw [hl, ha]
        have := Nat.mul_le_mul_right W (show k + 1 ≤ S from hkS)
        rw [Nat.succ_mul] at this
        exact this
      have g1 := Lib.hid (fun (W0 : World) (e : W0.heap = ws.heap) => show W0.heap[M']? = some (.cells L.toArray 3 (0, 0)) from by rw [e]; exact hL)
      have g2 := Lib.hid (fun (W0 : World) (e : W0.heap = ws.heap) => show ∀ j u, ((G k).map (Value.int .i64))[j]? = some u → W0.cell? ((⟨M, a, none⟩ : Addr).add j) = some u from fun j u hu => by
        rw [cell_of_heap e, Addr.add_lit]
        rw [List.getElem?_map] at hu
        obtain ⟨x, hx, rfl⟩ := Option.map_eq_some_iff.1 hu
        rw [ha]
        exact hc.out.cell hkS hx)
      have g3 := Lib.hid (show ((G k).map (Value.int .i64)).length = n * 1 from by rw [List.length_map, hn, Nat.mul_one])
      have g4 := Lib.hid (show ∀ u ∈ (G k).map (Value.int .i64), u.oneCell' = true from fun u hu => by
        obtain ⟨x, _, rfl⟩ := List.mem_map.1 hu
        rfl)
      have g5 := Lib.hid (show a + 0 * 1 + ((G k).map (Value.int .i64)).length ≤ L.length from by rw [g3.out]; omega)
      have g6 := Lib.hid (fun (W0 w4 : World) (e : W0.heap = ws.heap) (ho : Only (fun k => k = M') W0 w4) => by
        have hne := hC.out.ne
        have b0 : w4.heap[r']? = _ := ho.heap (by rw [e]; exact hC.out.root) (by exact hne.2.1)
        have b1 : w4.heap[R']? = _ := ho.heap (by rw [e]; exact hC.out.rows) (by exact hne.2.2)
        exact And.intro (row_cell b0 (i := 0) rfl) (And.intro (row_free b1 k) (row_cell b1 (rowsL_at M' S W (part G k) k hkS))))
      have hfin := Lib.hid (show ∀ w4 : World, w4.heap[M']? = some (.cells (setList L (a + 0 * 1) ((G k).map (Value.int .i64))).toArray 3 (0, 0)) → Only (fun k => k = M') ws.drew w4 →
          CacheAt (w4.setCell ⟨R', k, none⟩ (.slice (some ⟨M', a, none⟩) n W)) r' R' M' S W (part G (k + 1)) ∧ Only (fun _ => False) w (w4.setCell ⟨R', k, none⟩ (.slice (some ⟨M', a, none⟩) n W)) from fun w4 h4 ho => by
        rw [Nat.zero_mul, Nat.add_zero, ha] at h4
        obtain ⟨p1, p2⟩ := row_put (g := G k) (hC.out.new ((Only.refl _ ws).drew)) hkS (hc.out.len k hkS) hpe hl hLc h4 ho
        rw [part_next] at p1
        rw [ha, hn]
        refine ⟨p1, (hO.out.drew).trans p2 (fun x hx e => ?_)⟩
        have := hW1.out.2
        rcases e with e | e <;> omega)
      clear hn ha hl hLc hpe hL
      go_wp2
      go_region_law (refine step_append_room rfl (.tmp 40) (.tmp 41) 34 rfl 3 1 Try.underlying34 (by kernel_rfl) M' a 0 W (by simp [Act.eval]) ⟨M, a, none⟩ n W (by simp [Act.eval]) L (g1.out _ rfl) ((G k).map (Value.int .i64)) g3.out (g2.out _ rfl) g4.out (by omega) g5.out ?_; intro w4 hw4 hO4; obtain ⟨e0, e1, e2⟩ := g6.out ws.drew w4 rfl hO4.out; have hw4b := Lib.hid hw4.out)
      all_goals
        have hE := Lib.hid (hfin.out w4 hw4b.out hO4.out)
        go_wp2
        go_roundw
        case rel => exact ⟨k + 1, by omega, by go_num, Lib.hid hE.out.1, Lib.hid hE.out.2⟩
        case measure => simp [intOf]; omega
    · obtain rfl : k = S := by omega
      have hal := Lib.hid (hC.out.alike (G' := G) (fun i hi => by simp [part, hi]))
      go_wp2
      go_ret
      exact ⟨r', R', M', rfl, hW1.out.2.1, hW1.out.2.2.1, hW1.out.2.2.2, hal.out, hO.out⟩
end Go.Proofs.Ytbjpnjgkpkfngaa
