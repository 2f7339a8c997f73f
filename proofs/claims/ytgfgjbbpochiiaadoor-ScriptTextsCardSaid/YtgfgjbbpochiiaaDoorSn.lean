/- The program's line of an event. -/
import Derived.Test.YtgfgjbbpochiiaaDoorSm
namespace Go.Proofs.YtgfgjbbpochiiaaDoor
open Go Go.RowKit

def figsE (r : EvV) : List Int := [r.at_, r.a, r.b, r.c]
theorem okE_iff {r : EvV} (hk : 1 ≤ r.k ∧ r.k ≤ 5) : okE r ↔ ((figsE r).take (knums r.k.toNat)).any beyond = false ∧ ((figsE r).drop (knums r.k.toNat)).any (fun x => x != 0) = false := by
  have hb : ∀ x, beyond x = false ↔ inN x := fun x => by unfold beyond; simp
  unfold okE
  by_cases h5 : r.k = 5
  · rw [if_pos h5, h5]
    simp [figsE, knums, hb]
  · rw [if_neg h5]
    have : knums r.k.toNat = 2 := by unfold knums; rw [if_neg (by omega), if_neg (by omega)]
    rw [this]
    simp [figsE, hb]
    constructor
    · rintro ⟨-, h1, h2, h3, h4⟩
      exact ⟨⟨h1, h2⟩, h3, h4⟩
    · rintro ⟨⟨h1, h2⟩, h3, h4⟩
      exact ⟨hk, h1, h2, h3, h4⟩

/-- Words, in a row of five. -/
def lrow (l : List (List UInt8)) : List Value := (l ++ List.replicate (5 - l.length) []).map sv
theorem lrow_set {l : List (List UInt8)} (h : l.length < 5) (x : List UInt8) : (lrow l).set l.length (sv x) = lrow (l ++ [x]) := by
  unfold lrow
  rw [List.length_append]
  obtain ⟨m, hm⟩ : ∃ m, 5 - l.length = m + 1 := ⟨5 - l.length - 1, by omega⟩
  rw [hm, show 5 - (l.length + [x].length) = m by simp; omega, List.replicate_succ, List.map_append, List.map_cons]
  rw [List.set_append_right _ _ (by rw [List.length_map]; exact Nat.le_refl _)]
  simp
theorem lrow_len {l : List (List UInt8)} (h : l.length ≤ 5) : (lrow l).length = 5 := by
  unfold lrow
  rw [List.length_map, List.length_append, List.length_replicate]
  omega
theorem lrow_at {l : List (List UInt8)} {j : Nat} {x : List UInt8} (h : l[j]? = some x) : (lrow l)[j]? = some (sv x) := by
  have hj : j < l.length := (List.getElem?_eq_some_iff.1 h).1
  unfold lrow
  rw [List.getElem?_map, List.getElem?_append_left hj, h]
  rfl
/-- A name among them, at the second place. -/
def InsEnd (X : Nat) (l : List (List UInt8)) (w : World) (e : Ending) (w' : World) : Prop := e = .returned (.slice (some ⟨X, 0, none⟩) l.length 5) ∧ w'.heap[X]? = some (.cells (lrow l).toArray 9 (0, 0)) ∧ Only (fun k => k = X) w w'
theorem ins_any {w : World} {X V : Nat} {l : List (List UInt8)} {x a : List UInt8} {r : List (List UInt8)} (hX : w.heap[X]? = some (.cells (lrow l).toArray 9 (0, 0))) (hV : w.heap[V]? = some (.cells #[sv x] 9 (0, 0))) (hne : V ≠ X) (hl : l = a :: r) (hr : r.length = 1 ∨ r.length = 3) (n : Nat) (hn : n = l.length) :
    Calls Tryd.prog 22 #[.slice (some ⟨X, 0, none⟩) n 5, .int .i64 1, .slice (some ⟨V, 0, none⟩) 1 1] w (InsEnd X (a :: x :: r) w) := by
  have hlen : 2 ≤ l.length ∧ l.length ≤ 4 := by rw [hl, List.length_cons]; omega
  subst hn
  have hX5 := lrow_len (l := l) (by omega)
  have h := Tryd.slices_Insert_string_shift X 0 l.length 5 1 V 0 1 1 (l.map sv) [sv x] w (by omega) (by omega) (by omega) (by omega) hne (by rw [List.length_map]) rfl
    (fun j v hv => by
      rw [List.getElem?_map] at hv
      obtain ⟨y, hy, rfl⟩ := Option.map_eq_some_iff.1 hv
      rw [Nat.zero_add]
      exact row_cell hX (lrow_at hy))
    (fun j hj => by rw [Nat.zero_add, row_cell hX (v := (lrow l)[j]'(by omega)) (List.getElem?_eq_getElem _)]; rfl)
    (fun j hj => row_free hX _)
    (fun j v hv => by
      rw [Nat.zero_add]
      exact row_cell (L := [sv x]) hV hv)
    (fun v hv => by obtain ⟨y, _, rfl⟩ := List.mem_map.1 hv; rfl) (fun v hv => by rw [List.mem_singleton] at hv; rw [hv]; rfl)
    9 9 1 5 (shape_of (L := [sv x]) hV) (by rw [shape_of hX, hX5]) (by omega) (row_free (L := [sv x]) hV 0) (row_free (L := [sv x]) hV 1)
  refine h.mono ?_
  rintro e w' ⟨rfl, rfl⟩
  refine ⟨by rw [hl]; rfl, ?_, ?_⟩
  · have h1 := heap_setCells ((l.map sv).drop 1) 2 w.drew (lrow l) hX
    have h2 := heap_setCells [sv x] 1 _ _ h1
    rw [show setList (setList (lrow l) 2 ((l.map sv).drop 1)) 1 [sv x] = lrow (a :: x :: r) from by
      subst hl
      rcases hr with hr | hr
      · match r, hr with
        | [b], _ => rfl
      · match r, hr with
        | [b, c, d], _ => rfl] at h2
    exact h2
  · exact (((Only.refl (fun k => k = X) w).drew).trans' (only_setCells _ 2 _)).trans' (only_setCells _ 1 _)

theorem mk05 (w : World) : Sem.run Tryd.prog (Instr.makeSlice 54 (.int .i64 0) (.int .i64 5)) w = .ok (.slice (some ⟨w.heap.size, 0, none⟩) 0 5) (w.alloc (.cells (lrow []).toArray 9)) := by kernel_rfl
/-- The words of the first j numbers. -/
def numsW (L : List Int) (j : Nat) : List (List UInt8) := (L.take j).map Lib.itoa
theorem numsW_len {L : List Int} {j : Nat} (h : j ≤ L.length) : (numsW L j).length = j := by
  unfold numsW
  rw [List.length_map, List.length_take]
  omega
theorem numsW_snoc {L : List Int} {j : Nat} {x : Int} (h : L[j]? = some x) : numsW L (j + 1) = numsW L j ++ [Lib.itoa x] := by
  unfold numsW
  rw [List.take_add_one, h, List.map_append]
  rfl

set_option maxRecDepth 100000 in
set_option maxHeartbeats 4000000 in
theorem line_any {w : World} (hb : Bas w) (r : EvV) (hf : r.fit) : Calls Tryd.prog 7 #[r.val] w (LineEnd r w) := by
  have hO := (Only.refl (fun _ => False) w).alloc (.cells r.cells.toArray 23)
  have hB := heap_new_at w (.cells r.cells.toArray 23) rfl
  obtain ⟨W1, hW1⟩ : ∃ W1, W1 = w.alloc (.cells r.cells.toArray 23) := ⟨_, rfl⟩
  have hsz1 : W1.heap.size = w.heap.size + 1 := by rw [hW1]; simp
  rw [← hW1] at hO hB
  have hW1' := Lib.hid hW1
  have hO' := Lib.hid hO
  have e0 := row_cell hB (i := 0) rfl
  have e1 := row_cell hB (i := 1) rfl
  have e2 := row_cell hB (i := 2) rfl
  have e3 := row_cell hB (i := 3) rfl
  have e4 := row_cell hB (i := 4) rfl
  have hlt := row_lt hB
  clear hW1 hB
  have hiff := Lib.hid (okE_iff (r := r))
  by_cases k1 : r.k < 1
  · have hno := Lib.hid (show ¬ okE r from fun h => by have := h.1; omega)
    unfold EvV.val
    unfold EvV.cells at hW1'
    clear hsz1
    go_enter Tryd.func7, Tryd.ntmps7
    go_upto_region 1 with fail
    rw [← hW1'.out]
    go_wp2
    go_ret2
    exact lineEnd_no hno.out hO'.out
  by_cases k2 : (5 : Int) < r.k
  · have hno := Lib.hid (show ¬ okE r from fun h => by have := h.1; omega)
    unfold EvV.val
    unfold EvV.cells at hW1'
    clear hsz1
    go_enter Tryd.func7, Tryd.ntmps7
    go_upto_region 1 with fail
    rw [← hW1'.out]
    go_wp2
    go_ret2
    exact lineEnd_no hno.out hO'.out
  have hb1 := hb.new hO'.out
  obtain ⟨m, hm⟩ : ∃ m : Nat, r.k = m := ⟨r.k.toNat, by omega⟩
  have hm5 : m ≤ 5 := by omega
  have hm1 : 1 ≤ m := by omega
  have cn := hb1.names m (by omega)
  have cu := hb1.nums m (by omega)
  rw [Nat.mul_comm] at cn cu
  have h0g := World.block_lt_of_cell? W1 _ cn
  have hbw := Lib.hid hb1
  have hm' := Lib.hid hm
  have k0 : (0 : Int) ≤ (m : Int) := by omega
  have k6 : (m : Int) < 6 := by omega
  have hfit := Lib.hid hf
  rw [hm] at e1 k1 k2
  obtain ⟨SN, hSN⟩ : ∃ S, S = toBA (kname m) := ⟨_, rfl⟩
  rw [← hSN] at cn
  obtain ⟨nn, hnn⟩ : ∃ n, n = knums m := ⟨_, rfl⟩
  rw [← hnn] at cu
  have hSN' := Lib.hid hSN
  have hnn' := Lib.hid hnn
  have hcase : nn = 2 ∨ nn = 4 := by
    rw [hnn]
    unfold knums
    split
    · exact .inr rfl
    · rw [if_neg (by omega)]
      exact .inl rfl
  unfold EvV.val
  unfold EvV.cells at hW1'
  rw [hm] at hW1' ⊢
  clear hSN hnn hb hb1 hf hm hO
  go_enter Tryd.func7, Tryd.ntmps7
  go_upto_region 1 with fail
  rw [← hW1'.out]
  go_upto_region 5 with fail
  have hr1 := heap_kept_alloc (heap_new_at W1 (.cells [Value.string SN, .int .i64 nn].toArray 49) rfl) (.cells [Value.int .i64 r.at_, .int .i64 r.a, .int .i64 r.b, .int .i64 r.c].toArray 51)
  have hr2 := heap_new_at (W1.alloc (.cells [Value.string SN, .int .i64 nn].toArray 49)) (.cells [Value.int .i64 r.at_, .int .i64 r.a, .int .i64 r.b, .int .i64 r.c].toArray 51) rfl
  have hO3 := (((Only.refl (fun _ => False) W1).alloc (.cells [Value.string SN, .int .i64 nn].toArray 49)).alloc (.cells [Value.int .i64 r.at_, .int .i64 r.a, .int .i64 r.b, .int .i64 r.c].toArray 51))
  rw [alloc_size] at hr2
  have hs3 : ((W1.alloc (.cells [Value.string SN, .int .i64 nn].toArray 49)).alloc (.cells [Value.int .i64 r.at_, .int .i64 r.a, .int .i64 r.b, .int .i64 r.c].toArray 51)).heap.size = w.heap.size + 3 := by rw [alloc_size, alloc_size, hsz1]
  rw [hsz1] at hr1 hr2
  change Code.wp _ _ _ _ ((W1.alloc (.cells [Value.string SN, .int .i64 nn].toArray 49)).alloc (.cells [Value.int .i64 r.at_, .int .i64 r.a, .int .i64 r.b, .int .i64 r.c].toArray 51))
  generalize (W1.alloc (.cells [Value.string SN, .int .i64 nn].toArray 49)).alloc (.cells [Value.int .i64 r.at_, .int .i64 r.a, .int .i64 r.b, .int .i64 r.c].toArray 51) = W3 at hr1 hr2 hO3 hs3 ⊢
  obtain ⟨G, hG⟩ : ∃ G, G = w.heap.size := ⟨_, rfl⟩
  have hG' := Lib.hid hG
  have hr1' := Lib.hid hr1
  have hr2' := Lib.hid hr2
  have hO3' := Lib.hid hO3
  have y1 := row_cell hr1 (i := 1) rfl
  have yl1 := row_lt hr1
  have yl2 := row_lt hr2
  clear e0 e1 e2 e3 e4 cn cu hr1 hr2 hO3 hlt h0g hG
  go_cut [6, 7] from 32 to 37 (fun a b wc => ∃ A B cA cB, a = .slice A nn cA ∧ b = .slice B (4 - nn) cB ∧ NumRow wc A ((figsE r).take nn) ∧ NumRow wc B ((figsE r).drop nn) ∧ Only (fun _ => False) W3 wc)
  case first =>
    rcases hcase with rfl | rfl
    · go_quiet (fail)
      go_wp2_with fail
      go_meet
      case rel =>
        refine ⟨some ⟨w.heap.size + 1 + 1, 0, none⟩, some ⟨w.heap.size + 1 + 1, 2, none⟩, 4, 2, rfl, rfl, ?_, ?_, (Only.refl _ _).drewN _⟩
        · intro j x hx
          refine ⟨_, _, rfl, yl2, ?_⟩
          match j, hx with
          | 0, hx => cases hx; exact row_cell hr2'.out rfl
          | 1, hx => cases hx; exact row_cell hr2'.out rfl
          | j + 2, hx => simp [figsE] at hx
        · intro j x hx
          refine ⟨_, _, rfl, yl2, ?_⟩
          match j, hx with
          | 0, hx => cases hx; exact row_cell hr2'.out rfl
          | 1, hx => cases hx; exact row_cell hr2'.out rfl
          | j + 2, hx => simp [figsE] at hx
    · go_quiet (fail)
      go_wp2_with fail
      go_meet
      case rel =>
        refine ⟨some ⟨w.heap.size + 1 + 1, 0, none⟩, some ⟨w.heap.size + 1 + 1, 0, none⟩, 4, 0, rfl, rfl, ?_, ?_, (Only.refl _ _).drewN _⟩
        · intro j x hx
          refine ⟨_, _, rfl, yl2, ?_⟩
          match j, hx with
          | 0, hx => cases hx; exact row_cell hr2'.out rfl
          | 1, hx => cases hx; exact row_cell hr2'.out rfl
          | 2, hx => cases hx; exact row_cell hr2'.out rfl
          | 3, hx => cases hx; exact row_cell hr2'.out rfl
          | j + 4, hx => simp [figsE] at hx
        · intro j x hx
          simp [figsE] at hx
  obtain ⟨A, B, cA, cB, rfl, rfl, hA, hB, hO⟩ := hcut
  obtain ⟨W4, hW4⟩ : ∃ W4 : World, W4 = wc := ⟨_, rfl⟩
  subst hW4
  have hlA : ((figsE r).take nn).length = nn := by
    rw [List.length_take]
    rcases hcase with rfl | rfl <;> rfl
  have hlB : ((figsE r).drop nn).length = 4 - nn := by
    rw [List.length_drop]
    rfl
  have q1 := Lib.hid (contains_any 18 beyond (.inl rfl) isBeyond_any hA hlA (by omega) (cap := cA))
  have q2 := Lib.hid (contains_any 19 (fun x => x != 0) (.inr rfl) isOther_any hB hlB (by omega) (cap := cB))
  have hiff2 := hiff.out (by have := hm'.out; omega)
  rw [hm'.out, Int.toNat_natCast, ← hnn'.out] at hiff2
  have hall := Lib.hid (hO'.out.trans' (hO3'.out.trans' hO))
  have hr14 := Lib.hid (hO.heap hr1'.out (fun h => h))
  have hO4 := Lib.hid hO
  clear hB hlB y1 yl1 yl2 hO hiff
  cases hT : ((figsE r).take nn).any beyond with
  | true =>
    have hno := Lib.hid (show ¬ okE r from fun h => by have := (hiff2.1 h).1; rw [hT] at this; cases this)
    rw [hT] at q1
    clear hT hiff2
    go_wp2_with fail
    refine q1.out.mono ?_
    rintro e w' ⟨rfl, rfl⟩
    go_wp2
    go_ret2
    exact lineEnd_no hno.out hall.out
  | false =>
    cases hF : ((figsE r).drop nn).any (fun x => x != 0) with
    | true =>
      have hno := Lib.hid (show ¬ okE r from fun h => by have := (hiff2.1 h).2; rw [hF] at this; cases this)
      rw [hT] at q1
      rw [hF] at q2
      clear hT hF hiff2
      go_wp2_with fail
      refine q1.out.mono ?_
      rintro e w' ⟨rfl, rfl⟩
      go_wp2_with fail
      refine q2.out.mono ?_
      rintro e w' ⟨rfl, rfl⟩
      go_wp2
      go_ret2
      exact lineEnd_no hno.out hall.out
    | false =>
      have hok := Lib.hid (hiff2.2 ⟨hT, hF⟩)
      rw [hT] at q1
      rw [hF] at q2
      have hA' := Lib.hid hA
      have hlA' := Lib.hid hlA
      clear hT hF hiff2 hA hlA
      obtain ⟨W5, hW5⟩ : ∃ W5, W5 = W4.alloc (.cells (lrow []).toArray 9) := ⟨_, rfl⟩
      have hX5 := Lib.hid (show W5.heap[W4.heap.size]? = some (.cells (lrow []).toArray 9 (0, 0)) from by rw [hW5]; exact heap_new_at _ _ rfl)
      have hO5 := Lib.hid (show Only (fun _ => False) W4 W5 from by rw [hW5]; exact (Only.refl _ _).alloc _)
      have hmk := mk05 W4
      rw [← hW5] at hmk
      clear hW5
      go_wp2_with fail
      refine q1.out.mono ?_
      rintro e w' ⟨rfl, rfl⟩
      go_wp2_with fail
      refine q2.out.mono ?_
      rintro e w' ⟨rfl, rfl⟩
      have hxf := Lib.hid (show ∀ x ∈ (figsE r).take nn, fitI x from fun x hx => by
        have h := List.mem_of_mem_take hx
        simp only [figsE, List.mem_cons, List.not_mem_nil, or_false] at h
        have f := hfit.out
        rcases h with rfl | rfl | rfl | rfl
        · exact f.at_
        · exact f.a
        · exact f.b
        · exact f.c)
      obtain ⟨L, hL⟩ : ∃ L, L = (figsE r).take nn := ⟨_, rfl⟩
      rw [← hL] at hxf hA' hlA'
      have hL' := Lib.hid hL
      have hX45 := Lib.hid (row_lt hX5.out)
      have hg5 := Lib.hid (show w.heap.size + 1 ≠ W4.heap.size from by
        have := row_lt hr14.out
        omega)
      have hbw5 := Lib.hid ((hbw.out.new (hO3'.out.trans' hO4.out)).new hO5.out)
      clear hL
      go_wp2
      go_loopw [8, 47] (fun l i wr => ∃ j : Nat, j ≤ nn ∧ i = .int .i64 j ∧ l = .slice (some ⟨W4.heap.size, 0, none⟩) j 5 ∧ wr.heap[W4.heap.size]? = some (.cells (lrow (numsW L j)).toArray 9 (0, 0)) ∧ Only (fun k => k = W4.heap.size) W5 wr) (fun _ i _ => nn - (intOf i).toNat)
      case atStart => exact ⟨0, Nat.zero_le _, rfl, rfl, hX5.out, Only.refl _ _⟩
      case round =>
        obtain ⟨j, hj, rfl, rfl, hrow, hOr⟩ := hrel
        obtain ⟨ws, hws⟩ : ∃ ws : World, ws = wr := ⟨_, rfl⟩
        subst hws
        have hrow' := Lib.hid hrow
        have hOr' := Lib.hid hOr
        have hO5r := Lib.hid (show Only (fun _ => False) W4 ws from hO5.out.trans hOr (fun k hk e => by omega))
        have hbwr := Lib.hid (((hbw.out.new (hO3'.out.trans' hO4.out))).new hO5r.out)
        clear hrow hOr
        by_cases hjn : j < nn
        · have hjn' : (j : Int) < (nn : Int) := by omega
          obtain ⟨x, hx⟩ : ∃ x, L[j]? = some x := ⟨L[j]'(by have := hlA'.out; omega), List.getElem?_eq_getElem _⟩
          obtain ⟨g, off, rfl, hg, hc⟩ := hA'.out j x hx
          have hc2 := hO5r.out.cell hc (fun h => h)
          have hg2 := Nat.lt_of_lt_of_le hg hO5r.out.size
          have hxfit := hxf.out x (List.mem_of_getElem? hx)
          have hit := Lib.hid (itoa_any hbwr.out x hxfit)
          have hln := numsW_len (L := L) (j := j) (by have := hlA'.out; omega)
          have hset := Lib.hid (show setList (lrow (numsW L j)) (0 + j * 1) [sv (Lib.itoa x)] = lrow (numsW L (j + 1)) from by
            rw [numsW_snoc hx, Nat.zero_add, Nat.mul_one]
            show (lrow (numsW L j)).set j (sv (Lib.itoa x)) = _
            have := lrow_set (l := numsW L j) (by omega) (Lib.itoa x)
            rw [hln] at this
            exact this)
          have hlen5 := Lib.hid (lrow_len (l := numsW L j) (by omega))
          unfold GrowS at hit
          obtain ⟨T, hT⟩ : ∃ T, T = toBA (Lib.itoa x) := ⟨_, rfl⟩
          rw [← hT] at hit
          have hT' := Lib.hid (show sv (Lib.itoa x) = .string T from by rw [hT]; rfl)
          rw [hT'.out] at hset
          have hn4 : nn ≤ 4 := by omega
          clear hc hg hxfit hT hx hln hcase
          go_wp2_with fail
          refine hit.out.mono ?_
          rintro e w6 ⟨rfl, hO6⟩
          have hO6' := Lib.hid hO6
          clear hO6
          go_wp2_with (at_builtin; go_loud (refine wpList_append_room rfl _ _ 54 rfl 9 1 Tryd.underlying54 (by kernel_rfl) W4.heap.size 0 j 5 rfl _ 1 1 rfl (lrow (numsW L j)) ((hO6'.out.alloc _).heap hrow'.out (fun h => h)) [.string T] rfl (fun i u hu => by rw [Addr.add_lit, Nat.zero_add]; exact row_cell (L := [Value.string T]) (heap_new_at _ _ (by simp)) hu) (by simp [Value.oneCell']) (by omega) (by rw [hlen5.out]; simp; omega) ?_; intro w7 h7 hO7))
          go_roundw
          case rel =>
            refine ⟨j + 1, by omega, by go_num, rfl, by rw [← hset.out]; exact h7.out, (hOr'.out.trans (hO6'.out.alloc _) (fun _ _ h => h.elim)).trans' hO7.out⟩
          case measure => simp [intOf]; omega
        · obtain rfl : j = nn := by omega
          obtain ⟨rr, hwl, hrr, hwe⟩ : ∃ rr : List (List UInt8), numsW L j = Lib.itoa r.at_ :: rr ∧ (rr.length = 1 ∨ rr.length = 3) ∧ Lib.itoa r.at_ :: kname m :: rr = wordsE r := by
            have hnm := hnn'.out
            have hmk' := hm'.out
            rw [hL'.out]
            unfold knums at hnm
            by_cases h5 : m = 5
            · rw [if_pos h5] at hnm
              rw [hnm]
              refine ⟨[Lib.itoa r.a, Lib.itoa r.b, Lib.itoa r.c], rfl, .inr rfl, ?_⟩
              rw [wordsE_five (by omega), h5]
            · rw [if_neg h5, if_neg (by omega)] at hnm
              rw [hnm]
              refine ⟨[Lib.itoa r.a], rfl, .inl rfl, ?_⟩
              rw [wordsE_three (by omega), hmk', Int.toNat_natCast]
          have hnlen := numsW_len (L := L) (j := j) (by have := hlA'.out; omega)
          have hl5 : (wordsE r).length ≤ 5 := (wordsE_len r).2
          have hjl := lineE_len hok.out
          have hins := Lib.hid (fun (W : World) (hX : W.heap[W4.heap.size]? = some (.cells (lrow (numsW L j)).toArray 9 (0, 0))) (V : Nat) (hV : W.heap[V]? = some (.cells #[sv (kname m)] 9 (0, 0))) (hne : V ≠ W4.heap.size) =>
            ins_any hX hV hne hwl hrr j hnlen.symm)
          rw [hwe] at hins
          have hjn := Lib.hid (fun (W : World) (hX : W.heap[W4.heap.size]? = some (.cells (lrow (wordsE r)).toArray 9 (0, 0))) =>
            jn_any (wordsE r) hX (fun j x hx => lrow_at hx) 5 (wordsE r).length rfl hl5 (by unfold lineE at hjl; omega) (by omega))
          unfold InsEnd at hins
          unfold JoinEnd at hjn
          obtain ⟨wl, hwl2⟩ : ∃ n, n = (wordsE r).length := ⟨_, rfl⟩
          rw [← hwl2] at hins hjn
          have hsn := Lib.hid (show sv (kname m) = .string SN from by rw [hSN'.out]; rfl)
          rw [hsn.out] at hins
          obtain ⟨TL, hTL⟩ : ∃ T, T = toBA (joinL 32 (wordsE r)) := ⟨_, rfl⟩
          rw [← hTL] at hjn
          have hTL' := Lib.hid (show TL = toBA (lineE r) from hTL)
          have hrn := (hO5r.out).heap hr14.out (fun h => h)
          have z0 := row_cell hrn (i := 0) rfl
          have zl := row_lt hrn
          have hfin := Lib.hid (hall.out.trans' hO5r.out)
          have hxw := Lib.hid (Nat.lt_of_lt_of_le hX45.out hOr'.out.size)
          have hsz4 := Lib.hid (hO5r.out.size)
          have hV0 := Lib.hid (heap_new_at ws (.cells [Value.string SN].toArray 9) rfl)
          have hX0 := Lib.hid (heap_kept_alloc hrow'.out (.cells [Value.string SN].toArray 9))
          have hO8 := Lib.hid ((Only.refl (fun _ => False) ws).alloc (.cells [Value.string SN].toArray 9))
          clear hwl hrr hwe hnlen hl5 hjl hwl2 hTL hcase hrn
          go_wp2_with fail
          refine (hins.out _ hX0.out _ hV0.out (by have := hxw.out; omega)).mono ?_
          rintro e w8 ⟨rfl, hX8, hO9⟩
          have hX8' := Lib.hid hX8
          have hO9' := Lib.hid hO9
          clear hX8 hO9 z0
          go_wp2_with fail
          refine (hjn.out _ hX8'.out).mono ?_
          rintro e w9 ⟨rfl, hO10⟩
          have hO10' := Lib.hid hO10
          clear hO10
          go_wp2
          go_ret2
          exact lineEnd_yes hok.out (((hall.out.trans' ((hO5r.out.trans' hO8.out).trans hO9'.out (fun k hk e => by omega)))).trans' hO10'.out) hTL'.out
end Go.Proofs.YtgfgjbbpochiiaaDoor
