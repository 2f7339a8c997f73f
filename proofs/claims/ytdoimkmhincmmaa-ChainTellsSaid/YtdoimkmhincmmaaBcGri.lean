/- chain: the groups of tasks. -/
import Derived.Test.YtdoimkmhincmmaaBcGcl
import Derived.Deep.RegionHeldLaw
namespace Go.Proofs.Ytdoimkmhincmmaa
namespace Bch
open Go Go.RowKit Go.Maps Go.Shelf
attribute [local go_sem] Oper.semAt_some
theorem info40 : (Try.prog.info? 24).map (fun i => (i.zero, i.size, i.bytes)) = some (some (Value.slice none 0 0), 1, 24) := by kernel_rfl
/-- Between two rounds: the groups so far, and the box of their row. -/
def GI (w4 : World) (base qb : Nat) (ts : List TaskV) (X : Nat → Prop) (pre : List Nat) (W : World) : Prop :=
  (∃ (p : Option Addr) (cap : Nat) (ho : Option Nat) (V : List Value) (H : Nat → Option Nat), W.heap[qb]? = some (.cells [Value.slice p (groupsOf ts pre).length cap].toArray 42 (0, 0)) ∧ GrpAt W base p cap ho V H (groupsOf ts pre) ∧
    (∀ b, ho = some b → ¬ X b) ∧ ∀ j b, j < (groupsOf ts pre).length → H j = some b → ¬ X b) ∧ ¬ X qb ∧ (∀ k, X k → w4.heap.size ≤ k ∧ k < W.heap.size) ∧ Only (fun k => k = qb) w4 W ∧ base ≤ W.heap.size
theorem GI.steady {w4 : World} {base qb : Nat} {ts : List TaskV} : Steady (GI w4 base qb ts) := by
  refine ⟨fun {X pre A C} h ho => ?_, fun {X X' pre A} hX h => ?_⟩
  · obtain ⟨⟨p, cap, go, V, H, g1, g2, g3, g4⟩, h2, h3, h4, h5⟩ := h
    have hl := row_lt g1
    have hs := ho.size
    refine ⟨⟨p, cap, go, V, H, ho.heap g1 h2, g2.kept ho g3 g4, fun b hb hx => ?_, fun j b hj hb hx => ?_⟩, fun hx => ?_, fun k hk => ?_, h4.trans ho (fun x hx h => by have := (h3 x h).1; omega), by omega⟩
    · rcases hx with hx | hx
      · exact g3 b hb hx
      · have := g2.o.lt b hb; omega
    · rcases hx with hx | hx
      · exact g4 j b hj hb hx
      · have := g2.lt hj hb; omega
    · rcases hx with hx | hx
      · exact h2 hx
      · omega
    · have := h4.size
      rcases hk with hk | hk
      · have := h3 k hk; omega
      · omega
  · obtain ⟨⟨p, cap, go, V, H, g1, g2, g3, g4⟩, h2, h3, h4, h5⟩ := h
    exact ⟨⟨p, cap, go, V, H, g1, g2, fun b hb hx => g3 b hb (hX _ hx), fun j b hj hb hx => g4 j b hj hb (hX _ hx)⟩, fun hx => h2 (hX _ hx), fun k hk => h3 k (hX k hk), h4, h5⟩
def grpL (ts : List TaskV) : List (List Nat) := groupsOf ts (ordL ts)
theorem groups_mem {ts : List TaskV} : ∀ (l : List Nat) (gs : List (List Nat)), (∀ M ∈ l.foldl (fun gs x => putG ts x gs) gs, ∀ i ∈ M, i ∈ l ∨ ∃ N ∈ gs, i ∈ N)
  | [], gs, M, hM, i, hi => .inr ⟨M, hM, hi⟩
  | x :: l, gs, M, hM, i, hi => by
    rcases groups_mem l (putG ts x gs) M hM i hi with h | ⟨N, hN, hi'⟩
    · exact .inl (by simp [h])
    · rcases putG_mem hN with rfl | h1 | ⟨L, h1, rfl⟩
      · simp at hi'
        exact .inl (by simp [hi'])
      · exact .inr ⟨N, h1, hi'⟩
      · rcases List.mem_append.1 hi' with h2 | h2
        · exact .inr ⟨L, h1, h2⟩
        · simp at h2
          exact .inl (by simp [h2])
/-- What the groups are bounded by. -/
theorem groups_bd {ts : List TaskV} {pre : List Nat} (h : pre <+: ordL ts) : (groupsOf ts pre).length ≤ 12 ∧ ∀ M ∈ groupsOf ts pre, M.length ≤ 12 ∧ ∀ i ∈ M, i < ts.length := by
  have h1 := groups_len (ts := ts) pre []
  have h2 := groups_row (ts := ts) pre 0 [] (by simp)
  have h3 := h.length_le
  have h4 := ordL_len ts
  refine ⟨by unfold groupsOf; simp only [List.length_nil] at h1; omega, fun M hM => ⟨by have := h2 M hM; omega, fun i hi => ?_⟩⟩
  rcases groups_mem pre [] M hM i hi with h5 | ⟨N, hN, _⟩
  · exact (ordL_lt (h.subset h5)).1
  · simp at hN
def GrpEnd (w : World) (gs : List (List Nat)) (e : Ending) (w' : World) : Prop :=
  ∃ (p : Option Addr) (cap : Nat) (ho : Option Nat) (V : List Value) (H : Nat → Option Nat), e = .returned (.slice p gs.length cap) ∧ GrpAt w' w.heap.size p cap ho V H gs ∧ Only (fun _ => False) w w'
theorem GrpAt.base {w : World} {base base' : Nat} {p : Option Addr} {cap : Nat} {ho : Option Nat} {V : List Value} {H : Nat → Option Nat} {gs : List (List Nat)} (h : GrpAt w base p cap ho V H gs) (hb : base' ≤ base) : GrpAt w base' p cap ho V H gs :=
  ⟨h.o, fun b e => by have := h.ofresh b e; omega, h.row, fun j b hj e => ⟨by have := (h.fresh j b hj e).1; omega, (h.fresh j b hj e).2⟩, h.sep⟩
theorem GI.close {W4 W7 W' : World} {base q : Nat} {ts : List TaskV} {X RD T : Nat → Prop} {l : List Nat} {p : Option Addr} {cap : Nat} {ho : Option Nat} {V : List Value} {H : Nat → Option Nat} {gs : List (List Nat)} (hgs : gs = groupsOf ts l) (h5 : ¬ X (q + 1)) (h6 : ∀ k, X k → W4.heap.size ≤ k ∧ k < W7.heap.size) (h7 : Only (fun k => k = q + 1) W4 W7) (h8 : base ≤ W7.heap.size)
    (hRD : ∀ k, RD k → k < base ∧ q + 2 ≤ k) (hW4 : W4.heap.size ≤ base) (hO : Only T W7 W') (hT : ∀ k, T k → k = q + 1 ∨ (base ≤ k ∧ ¬ X k)) (hb : W'.heap[q + 1]? = some (.cells [Value.slice p gs.length cap].toArray 42 (0, 0)))
    (hG : GrpAt W' base p cap ho V H gs) (hx1 : ∀ b, ho = some b → ¬ X b) (hx2 : ∀ j b, j < gs.length → H j = some b → ¬ X b) : Only (fun k => ¬ RD k ∧ ¬ X k) W7 W' ∧ GI W4 base (q + 1) ts X l W' := by
  subst hgs
  have hs := hO.size
  refine ⟨hO.mono (fun k _ hk => ?_), ⟨p, cap, ho, V, H, hb, hG, hx1, hx2⟩, h5, fun k hk => ⟨(h6 k hk).1, by have := (h6 k hk).2; omega⟩, h7.trans hO (fun k hk ht => ?_), by omega⟩
  · rcases hT k hk with rfl | ⟨h1, h2⟩
    · exact ⟨fun hr => by have := (hRD _ hr).2; omega, h5⟩
    · exact ⟨fun hr => by have := (hRD _ hr).1; omega, h2⟩
  · rcases hT k ht with h1 | ⟨h1, _⟩
    · exact h1
    · omega
set_option maxRecDepth 100000 in
set_option maxHeartbeats 4000000 in
theorem groups_any {w : World} {c : ConfV} {ts : List TaskV} (hT : TasksAt w c.ta ts) (hn : c.ta.n ≤ 9223372036854775807) : Calls Try.prog 21 #[c.val] w (GrpEnd w (grpL ts)) := by
  have hmf : ∀ (fn : Fn) (first cap : Array Value) (w : World), (Instr.makeFunc fn first cap).run Try.prog w = .ok (.func fn first cap) w := fun _ _ _ _ => rfl
  obtain ⟨q, hq⟩ : ∃ q, q = w.heap.size := ⟨_, rfl⟩
  obtain ⟨W4, hW4⟩ : ∃ W4, W4 = (w.alloc (.cells c.cells.toArray 27)).alloc (.cells #[.slice none 0 0] 42) := ⟨_, rfl⟩
  have hO4 : Only (fun _ => False) w W4 := by rw [hW4]; exact ((Only.refl _ w).alloc _).alloc _
  have hs4 : W4.heap.size = q + 2 := by rw [hW4, hq]; simp
  have k0 : W4.heap[q]? = some (.cells c.cells.toArray 27 (0, 0)) := by rw [hW4]; exact heap_kept_alloc (heap_new_at _ _ hq.symm) _
  have k1 : W4.heap[q + 1]? = some (.cells [Value.slice none 0 0].toArray 42 (0, 0)) := by rw [hW4]; exact heap_new_at _ _ (by simp [hq])
  have hbox := Lib.hid (fun W (ho : Only (fun k => k = q + 1) W4 W) => show W.heap[q]? = some (.cells c.cells.toArray 27 (0, 0)) ∧ TasksAt W c.ta ts ∧ Only (fun _ => False) w W from by
    have hO : Only (fun _ => False) w W := hO4.trans ho (fun x hx e => by omega)
    exact ⟨ho.heap k0 (by omega), hT.new hO, hO⟩)
  have hdw := Lib.hid (downward_any (hT.new hO4) hn)
  have d0 := row_cell k0 (i := 0) rfl
  have d1 := row_cell k0 (i := 1) rfl
  have d2 := row_cell k0 (i := 2) rfl
  have d3 := row_cell k0 (i := 3) rfl
  have d4 := row_cell k0 (i := 4) rfl
  have d5 := row_cell k0 (i := 5) rfl
  have d6 := row_cell k0 (i := 6) rfl
  have d7 := row_cell k0 (i := 7) rfl
  have d8 := row_cell k0 (i := 8) rfl
  have d9 := row_cell k0 (i := 9) rfl
  have hO4' := Lib.hid hO4
  have hs4' := Lib.hid hs4
  have hq' := Lib.hid hq
  have hn' := Lib.hid hn
  have hk1' := Lib.hid k1
  have hlt := Lib.hid (fun x (h : x ∈ ordL ts) => ordL_lt h)
  have hbd := Lib.hid (fun pre (h : pre <+: ordL ts) => groups_bd h)
  have hll := ordL_len ts
  obtain ⟨Z, hZ⟩ : ∃ Z, Z = GrpEnd w (grpL ts) := ⟨_, rfl⟩
  rw [← hZ]
  unfold grpL at hZ
  obtain ⟨L, hL⟩ : ∃ L, L = ordL ts := ⟨_, rfl⟩
  rw [← hL] at hdw hlt hll hbd hZ
  unfold ConfV.val at hdw ⊢
  unfold ConfV.cells at hW4 d0 d1 d2 d3 d4 d5 d6 d7 d8 d9
  have hW4' := Lib.hid hW4
  have hZ' := Lib.hid hZ
  clear hZ hT hn k0 k1 hO4 hs4 hW4 hL hq
  refine callsIn_wide (n := 3) |>.1 ?_
  refine callsIn_of_wp_marks Try.func21 rfl trivial ?_ rfl
  simp only [Try.ntmps21, List.size_toArray, List.length_cons, List.length_nil, Nat.reduceAdd, Nat.reduceSub, Array.replicate_succ, Array.replicate_zero, List.push_toArray, List.append_toArray, List.nil_append, List.cons_append]
  gi_wp2_with fail
  rw [← hq'.out]
  rw [← hW4'.out]
  refine ⟨trivial, (callsIn_wide.2 hdw.out).mono ?_⟩
  rintro e W5 ⟨Y, A, cap, h, rfl, hYb, hWin, hYge, hhge, hO5⟩
  obtain ⟨n, hnl⟩ : ∃ n, n = L.length := ⟨_, rfl⟩
  rw [← hnl] at hYb hWin hll
  have hit := Lib.hid (seq_iter (cap := cap) (A := A) (row_cell hYb (i := 0) rfl) hWin hnl.symm (by omega))
  have hRD : ∀ k, RDs Y h k → k < W5.heap.size ∧ q + 2 ≤ k := fun k hk => by
    have := hs4'.out
    rcases hk with rfl | hk
    · exact ⟨row_lt hYb, by omega⟩
    · exact ⟨hWin.lt k hk, by have := hhge k hk; omega⟩
  have hRD' := Lib.hid hRD
  have k15 := Lib.hid (hO5.heap hk1'.out (fun h => h))
  have hO5' := Lib.hid (hO5.mono (T := fun k => k = q + 1) (fun _ _ h => h.elim))
  have hsz5 := Lib.hid hO5.size
  obtain ⟨base, hbase⟩ : ∃ base, base = W5.heap.size := ⟨_, rfl⟩
  rw [← hbase] at hRD'
  have hbase' := Lib.hid hbase
  have hqb := Lib.hid (show q + 1 < base by have := hs4'.out; have := hsz5.out; omega)
  clear hYb hWin hYge hhge hRD hdw d0 d1 d2 d3 d4 d5 d6 d7 d8 d9 hO5 hbase
  gi_wp2
  refine wpIn_range rfl (enters_of Try.func76 (by kernel_rfl) rfl) hit.out (Only.refl _ W5) (fun k hk => by have := (hRD'.out k hk).1; have := hbase'.out; omega) (fun _ => rfl)
    (GI W4 base (q + 1) ts) (fun _ _ _ _ => False) GI.steady (fun _ => ⟨fun h _ => h, fun _ h => h⟩) ⟨⟨none, 0, none, [], fun _ => none, k15.out, GrpAt.nil _ _, fun b hb => (by cases hb), fun j b _ hb => (by cases hb)⟩, fun h => h, fun k hk => hk.elim, hO5'.out, Nat.le_of_eq hbase'.out⟩ ?round ?done ?stop
  case round =>
    intro l1 DD X pre x W6 hl1 hDD hXl hXD hl1' hDz hI hpre
    unfold encN
    gi_wp2
    refine ⟨(Only.refl _ _).alloc _, fun W7 hO7 hI7 => ?_⟩
    clear hI7
    obtain ⟨⟨p, gcap, ho, V, H, g1, g2, g3, g4⟩, g5, g6, g7, g8⟩ := hI
    have hold := Lib.hid (And.intro g2.o.lt (fun k b => g2.lt (j := k) (b := b)))
    have g8 : base ≤ W7.heap.size := by have := hO7.size; simp at this; omega
    have g6 : ∀ k, X k → W4.heap.size ≤ k ∧ k < W7.heap.size := fun k hk => ⟨(g6 k hk).1, by have := (g6 k hk).2; have := hO7.size; simp at this; omega⟩
    have g7 : Only (fun k => k = q + 1) W4 W7 := (g7.alloc _).trans hO7 (fun k hk e => by have := (g6 l1 hXl).1; omega)
    have g1 := hO7.heap (heap_kept_alloc g1 (.cells #[.int .i64 (x : Int)] 3)) (fun e => g5 (e ▸ hXl))
    have g2 : GrpAt W7 base p gcap ho V H (groupsOf ts pre) := (g2.new ((Only.refl _ _).alloc (.cells #[.int .i64 (x : Int)] 3))).kept hO7 (fun b hb e => g3 b hb (e ▸ hXl)) (fun k b hk hb e => g4 k b hk hb (e ▸ hXl))
    have hxL : x ∈ L := hpre.subset (by simp)
    obtain ⟨hxn, hx12⟩ := hlt.out x hxL
    obtain ⟨qx, hqx⟩ : ∃ qx, qx = W6.heap.size := ⟨_, rfl⟩
    have bx : W7.heap[qx]? = some (.cells [Value.int .i64 (x : Int)].toArray 3 (0, 0)) := hO7.heap (heap_new_at _ _ hqx.symm) (by omega)
    obtain ⟨b0, hT7, ho7⟩ := hbox.out W7 g7
    have hpl : pre <+: L := ⟨_, (by have := hpre.choose_spec; rw [List.append_assoc] at this; exact this)⟩
    obtain ⟨hg12, hgm⟩ := hbd.out pre hpl
    have hsn := groupsOf_snoc ts pre x
    obtain ⟨gs, hgs⟩ : ∃ gs, gs = groupsOf ts pre := ⟨_, rfl⟩
    obtain ⟨gs', hgs'⟩ : ∃ gs, gs = groupsOf ts (pre ++ [x]) := ⟨_, rfl⟩
    rw [← hgs] at g1 g2 g4 hg12 hgm hsn hold
    rw [← hgs'] at hsn
    have hgs'' := Lib.hid hgs'
    obtain ⟨gn, hgn⟩ : ∃ gn, gn = gs.length := ⟨_, rfl⟩
    rw [← hgn] at g1 hg12
    obtain ⟨W8, hW8⟩ : ∃ W8, W8 = W7.alloc (.cells #[Value.func (.func 45) #[] #[.pointer (some ⟨q, 0, none⟩), .pointer (some ⟨qx, 0, none⟩)]] 66) := ⟨_, rfl⟩
    obtain ⟨qm, hqm⟩ : ∃ qm, qm = W7.heap.size := ⟨_, rfl⟩
    have hO8 : Only (fun _ => False) W7 W8 := by rw [hW8]; exact (Only.refl _ _).alloc _
    have bm : W8.heap[qm]? = some (.cells [Value.func (.func 45) #[] #[.pointer (some ⟨q, 0, none⟩), .pointer (some ⟨qx, 0, none⟩)]].toArray 66 (0, 0)) := by rw [hW8]; exact heap_new_at _ _ hqm.symm
    have hfind := Lib.hid (idx41 (gs := gs) ((⟨hT7, b0, bx⟩ : Boxes W7 c ts q qx x).new hO8) hn'.out hxn bm (g2.new hO8) hgn.symm (by omega) (fun M hM => ⟨by have := (hgm M hM).1; omega, (hgm M hM).2⟩))
    have e1 := row_cell g1 (i := 0) rfl
    have el := row_lt g1
    have hqxs := row_lt bx
    have hg1 := Lib.hid g1
    have hg2 := Lib.hid g2
    have hg34 := Lib.hid (And.intro g3 (And.intro g4 (And.intro g5 (And.intro g6 (And.intro g7 g8)))))
    have hbx := Lib.hid bx
    have hO8' := Lib.hid hO8
    have hgm' := Lib.hid hgm
    have hsn' := Lib.hid hsn
    have hgn' := Lib.hid hgn
    have hW8' := Lib.hid hW8
    have hqm' := Lib.hid hqm
    have hxn' := Lib.hid hxn
    rw [← hqx]
    rw [← hqx] at hold
    clear hO7 g1 g2 g3 g4 g5 g6 g7 g8 bx b0 hT7 ho7 hpre hpl hxL hqx hxn hgs hgs' bm hO8 hW8 hqm hsn hgn hgm
    gi_wp2_with fail
    rw [← hqm'.out, ← hW8'.out]
    refine ⟨trivial, CallsIn.inRound l1 ((callsIn_wide.2 hfind.out).mono ?_)⟩
    rintro e W9 ⟨hO9, hcase⟩
    clear hfind e1 el hqxs
    have hO79 := hO8'.out.trans' hO9
    have g19 := hO79.heap hg1.out (fun h => h)
    have g29 := hg2.out.new hO79
    have hO79' := Lib.hid hO79
    have hg19 := Lib.hid g19
    have hg29 := Lib.hid g29
    have e1 := row_cell g19 (i := 0) rfl
    have el := row_lt g19
    have c3 := row_cell (hO79.heap hbx.out (fun h => h)) (i := 0) rfl
    have cl := row_lt (hO79.heap hbx.out (fun h => h))
    have fz := row_free g19 0
    clear g19 g29 hO79 hO9
    rcases hcase with ⟨rfl, hall⟩ | ⟨j, M, rfl, hj, hM, hk⟩
    · have hnew := Lib.hid (show gs' = gs ++ [[x]] from hsn'.out.trans (putG_all hall))
      clear hall
      gi_wp2_with (gi_at_builtin; refine wpListIn_append_win rfl _ _ 42 rfl 24 (Value.slice none 0 0) 1 24 Try.underlying42 info40 rfl (by decide) rfl (by have := (hg29.out.o.kept (((Only.refl (fun _ => False) W9).alloc (.cells #[.int .i64 (x : Int)] 3)).alloc (.cells #[.slice (some ⟨W9.heap.size, 0, none⟩) 1 1] 24)) (fun _ _ h => h)); rw [← hgn'.out] at this; exact this) _ 1 1 rfl [Value.slice (some ⟨W9.heap.size, 0, none⟩) 1 1] rfl (fun _ => ⟨_, rfl, row_one (heap_new_at _ _ (by simp))⟩) (by simp [Value.oneCell']) (by unfold maxLen; omega) (by omega) ?_; intro v4 w6 h4 hW6 hO6 hh6; obtain ⟨p4, c4, rfl, _, _⟩ := hW6.out.form; have hB4 := hO6.out.heap (heap_kept_alloc (heap_kept_alloc hg19.out _) _) (fun e => by have := hg29.out.ofresh _ e.symm; have := hqb.out; omega); have q0 := row_cell (i := 0) hB4 rfl; have q1 := row_free hB4 0; have hlt4 := row_lt hB4; have hB5 := Lib.hid (row_set hB4 0 (Value.slice p4 (gn + 1) c4)); clear hB4)
      have hG6 := GrpAt.add (x := x) (X := W9.heap.size) hg29.out (by have := hg34.out.2.2.2.2.2; have := hO79'.out.size; omega) (((Only.refl (fun _ => False) W9).alloc (.cells #[.int .i64 (x : Int)] 3)).alloc (.cells #[.slice (some ⟨W9.heap.size, 0, none⟩) 1 1] 24)) (heap_kept_alloc (heap_new_at _ _ rfl) _) (Nat.le_refl _) hO6.out hh6.out (by rw [← hgn'.out]; exact hW6.out)
      have hX7 := hg34.out
      have hset : Only (fun k => k = q + 1) w6 (w6.setCell ⟨q + 1, 0, none⟩ (.slice p4 (gn + 1) c4)) := (Only.refl (fun k => k = q + 1) w6).setCell (p := ⟨q + 1, 0, none⟩) (fun _ => rfl) _
      have hlen' : gs'.length = gn + 1 := by rw [hnew.out, List.length_append, List.length_singleton, hgn'.out]
      rw [← hnew.out] at hG6
      have hfro : ∀ b, h4 = some b → base ≤ b := hG6.ofresh
      have hnX : ∀ b, (base ≤ b ∧ W7.heap.size ≤ b) → ¬ X b := fun b hb hx => by have := (hX7.2.2.2.1 b hx).2; omega
      refine GI.close (q := q) (T := fun k => k = q + 1 ∨ some k = ho) hgs''.out hX7.2.2.1 hX7.2.2.2.1 hX7.2.2.2.2.1 hX7.2.2.2.2.2 hRD'.out (by have := hsz5.out; have := hbase'.out; omega) ?_ ?_ (by rw [hlen']; exact hB5.out) (hG6.kept hset (fun b hb e => by have := hfro b hb; have := hqb.out; omega) (fun j b hj hb e => by have := (hG6.fresh j b hj hb).1; have := hqb.out; omega)) ?_ ?_
      · have ho1 : Only (fun k => k = q + 1 ∨ some k = ho) W7 _ := ((hO79'.out.alloc (.cells #[.int .i64 (x : Int)] 3)).alloc (.cells #[.slice (some ⟨W9.heap.size, 0, none⟩) 1 1] 24)).mono (fun _ _ h => h.elim)
        exact (ho1.trans hO6.out (fun k _ e => Or.inr e)).trans hset (fun k _ e => Or.inl e)
      · rintro k (e | e)
        · exact Or.inl e
        · exact Or.inr ⟨hg29.out.ofresh k e.symm, hX7.1 k e.symm⟩
      · intro b hb
        rcases hh6.out with hh | ⟨g, hg, hge⟩
        · exact hX7.1 b (hh ▸ hb)
        · rw [hg] at hb
          cases hb
          exact fun hx => by have := (hX7.2.2.2.1 _ hx).2; have := hO79'.out.size; simp at hge; omega
      · intro k b hk hb
        rw [hnew.out, List.length_append, List.length_singleton] at hk
        by_cases hkn : k = gs.length
        · subst hkn
          rw [updH_same] at hb
          cases hb
          exact fun hx => by have := (hX7.2.2.2.1 _ hx).2; have := hO79'.out.size; omega
        · rw [updH_other _ hkn] at hb
          exact hX7.2.1 k b (by omega) hb
    · have hjn := (List.getElem?_eq_some_iff.1 hj).1
      have hput := Lib.hid (show gs' = gs.set j (M ++ [x]) from hsn'.out.trans (putG_at hj hM hk))
      obtain ⟨A', c', hV, hWj⟩ := hg29.out.row j M hj
      obtain ⟨go, off, cc, hho, hv, _, _, hgl, hc, hfz⟩ := hg29.out.o.at_ (by omega)
      simp only [Value.slice.injEq] at hv
      obtain ⟨rfl, -, rfl⟩ := hv
      have cj := hc j _ hV
      have fj := hfz (off + j)
      have hjn' : (j : Int) < gn := by have := hgn'.out; omega
      have hWj' := Lib.hid hWj
      have hj' := Lib.hid hj
      have hho' := Lib.hid hho
      have hjn'' := Lib.hid hjn
      clear hM hk hj hV hWj hc hfz hho hjn
      have hj0 : ¬ (j : Int) < 0 := by omega
      have hHne := Lib.hid (fun b (e : H j = some b) => show b ≠ q + 1 ∧ b ≠ qx ∧ b ≠ go from by
        have h1 := hg29.out.fresh j b hjn''.out e
        have h2 := hold.2 j b (by have := hjn''.out; omega) e
        have h3 := hqb.out
        exact ⟨by omega, by omega, fun e' => h1.2 (by rw [hho'.out, e'])⟩)
      have hne1 : q + 1 ≠ go := by have := hg29.out.ofresh go hho'.out; have := hqb.out; omega
      have hne2 : qx ≠ go := by have := hold.1 go hho'.out; omega
      have hM12 := Lib.hid (hgm'.out M (List.mem_of_getElem? hj'.out)).1
      have hO1 := Lib.hid (((Only.refl (fun _ => False) W9).alloc (.cells #[.int .i64 (x : Int)] 3)).drew)
      gi_wp2_with fail
      refine wpIn_mono (Q := fun e _ w' => e = .normal ∧ (Only (fun k => ¬ RDs Y h k ∧ ¬ X k) W7 w' ∧ GI W4 base (q + 1) ts X (pre ++ [x]) w')) ?_ ?_
      · refine wpIn_region_held (S := fun w' => w'.cell? ⟨q + 1, 0, none⟩ = some (.slice (some ⟨go, off, none⟩) gn gcap) ∧ w'.cell? ⟨qx, 0, none⟩ = some (.int .i64 (x : Int))) (wides_round l1) (by kernel_rfl) (by kernel_rfl) (fun ⟨_, _, h, _⟩ => by cases h) ⟨e1, c3⟩ (fun hHeld => ?_)
        refine wpAnyH_take (i := 0) (oi := { dst := some 21, op := Op.load 42 (Operand.tmp 3), type := 42, pos := "chain.go:56", after := #[], guard := none }) (v := ?v0) rfl (by kernel_rfl) (by kernel_rfl) (by kernel_rfl) (fun _ _ _ h => h) (Or.inl ⟨by rfl, ?hy0⟩) (by assumption) ?rest0
        case hy0 =>
          intro w hSw
          (try dsimp only at hSw)
          go_simp
          try with_reducible rfl
        try simp only [Act.put, List.setIfInBounds_toArray, List.set_cons_zero, List.set_cons_succ]
        refine wpAnyH_take (i := 1) (oi := { dst := some 22, op := Op.move (Operand.tmp 6), type := 3, pos := "chain.go:56", after := #[], guard := none }) (v := ?v1) rfl (by kernel_rfl) (by kernel_rfl) (by kernel_rfl) (fun _ _ _ h => h) (Or.inl ⟨by rfl, ?hy1⟩) (by assumption) ?rest1
        case hy1 =>
          intro w hSw
          (try dsimp only at hSw)
          go_simp
          try with_reducible rfl
        try simp only [Act.put, List.setIfInBounds_toArray, List.set_cons_zero, List.set_cons_succ]
        refine wpAnyH_take (i := 2) (oi := { dst := some 23, op := Op.load 42 (Operand.tmp 3), type := 42, pos := "chain.go:56", after := #[], guard := none }) (v := ?v2) rfl (by kernel_rfl) (by kernel_rfl) (by kernel_rfl) (fun _ _ _ h => h) (Or.inl ⟨by rfl, ?hy2⟩) (by assumption) ?rest2
        case hy2 =>
          intro w hSw
          (try dsimp only at hSw)
          go_simp
          try with_reducible rfl
        try simp only [Act.put, List.setIfInBounds_toArray, List.set_cons_zero, List.set_cons_succ]
        refine wpAnyH_take (i := 3) (oi := { dst := some 24, op := Op.move (Operand.tmp 6), type := 3, pos := "chain.go:56", after := #[], guard := none }) (v := ?v3) rfl (by kernel_rfl) (by kernel_rfl) (by kernel_rfl) (fun _ _ _ h => h) (Or.inl ⟨by rfl, ?hy3⟩) (by assumption) ?rest3
        case hy3 =>
          intro w hSw
          (try dsimp only at hSw)
          go_simp
          try with_reducible rfl
        try simp only [Act.put, List.setIfInBounds_toArray, List.set_cons_zero, List.set_cons_succ]
        refine wpAnyH_take (i := 4) (oi := { dst := some 25, op := Op.indexAddr 42 (Operand.tmp 23) (Operand.tmp 24), type := 0, pos := "chain.go:56", after := #[{ on := 2, ground := Ground.data }, { on := 3, ground := Ground.data }], guard := none }) (v := ?v4) rfl (by kernel_rfl) (by kernel_rfl) (by kernel_rfl) (fun _ _ _ h => h) (Or.inl ⟨by rfl, ?hy4⟩) (by assumption) ?rest4
        case hy4 =>
          intro w hSw
          (try dsimp only at hSw)
          go_simp
          try with_reducible rfl
        try simp only [Act.put, List.setIfInBounds_toArray, List.set_cons_zero, List.set_cons_succ]
        refine wpAnyH_take (i := 6) (oi := { dst := some 27, op := Op.load 3 (Operand.tmp 4), type := 3, pos := "chain.go:56", after := #[], guard := none }) (v := ?v6) rfl (by kernel_rfl) (by kernel_rfl) (by kernel_rfl) (fun _ _ _ h => h) (Or.inl ⟨by rfl, ?hy6⟩) (by assumption) ?rest6
        case hy6 =>
          intro w hSw
          (try dsimp only at hSw)
          go_simp
          try with_reducible rfl
        try simp only [Act.put, List.setIfInBounds_toArray, List.set_cons_zero, List.set_cons_succ]
        refine wpAnyH_ready (rs := [5, 7]) (by kernel_rfl) (by simp) ?_
        refine AllReadyH.cons rfl (fun K hK => ?_) (AllReadyH.cons rfl (fun K hK => ?_) AllReadyH.nil)
        · go_simp
          refine hK.out _ _ hHeld (fun hHeld => ?_)
          clear hK K
          refine wpAnyH_ready (rs := [7]) (by kernel_rfl) (by simp) ?_
          refine AllReadyH.cons rfl (fun K hK => ?_) AllReadyH.nil
          go_simp
          refine hK.out _ _ (by go_keep) (fun hHeld => ?_)
          clear hK K
          refine wpAnyH_ready (rs := [8]) (by kernel_rfl) (by simp) ?_
          refine AllReadyH.cons rfl (fun K hK => ?_) AllReadyH.nil
          refine step_append_win rfl (.tmp 26) (.tmp 28) 24 rfl 3 (Value.int .i64 0) 1 8 Try.underlying24 info3 rfl (by decide) (v := .slice A' M.length c') (h := H j) (by rfl) (hWj'.out.kept hO1.out (fun _ _ h => h)) _ 1 1 (by rfl) [.int .i64 (x : Int)] rfl (fun _ => ⟨_, rfl, row_one (show (W9.alloc (Obj.cells #[.int .i64 (x : Int)] 3)).drew.heap[W9.heap.size]? = _ from heap_new_at W9 _ rfl)⟩) (by simp [Value.oneCell']) (by unfold maxLen; have := hM12.out; omega) (by have := hM12.out; omega) ?_
          intro v6 w6 h6 hW6 hO6 hh6
          obtain ⟨p6, c6, rfl, _, _⟩ := hW6.out.form
          have S6 := And.intro (hO6.out.cell hHeld.1 (fun e => (hHne.out _ e.symm).1 rfl)) (hO6.out.cell hHeld.2 (fun e => (hHne.out _ e.symm).2.1 rfl))
          obtain ⟨go', off', cc', _, hv', _, _, hgl6, hc6, hfz6⟩ := ((hg29.out.o.kept hO1.out (fun _ _ h => h)).kept hO6.out (fun b hb e => (hHne.out b e.symm).2.2 (by rw [hho'.out] at hb; cases hb; rfl))).at_ (by have := hjn''.out; omega)
          simp only [Value.slice.injEq, Option.some.injEq, Addr.mk.injEq, and_true, true_and] at hv'
          obtain ⟨⟨rfl, rfl⟩, rfl⟩ := hv'
          obtain ⟨A2, c2, hV2, _⟩ := hg29.out.row j M hj'.out
          have cj6 := hc6 j _ hV2
          have fj6 := hfz6 (off + j)
          have hset : Only (fun k => k = go) w6 (w6.setCell ⟨go, off + j, none⟩ (.slice p6 (M.length + 1) c6)) := (Only.refl (fun k => k = go) w6).setCell (p := ⟨go, off + j, none⟩) (fun _ => rfl) _
          have hfin := Lib.hid (show Only (fun k => ¬ RDs Y h k ∧ ¬ X k) W7 (w6.setCell ⟨go, off + j, none⟩ (.slice p6 (M.length + 1) c6)) ∧ GI W4 base (q + 1) ts X (pre ++ [x]) (w6.setCell ⟨go, off + j, none⟩ (.slice p6 (M.length + 1) c6)) from by
            have hX7 := hg34.out
            have hb9 : base ≤ W9.heap.size := by have := hX7.2.2.2.2.2; have := hO79'.out.size; omega
            have hG6 := GrpAt.grow (x := x) hg29.out hb9 hj'.out hO1.out hO6.out hh6.out hW6.out
            rw [← hput.out] at hG6
            have hlen' : gs'.length = gn := by rw [hput.out, List.length_set, hgn'.out]
            refine GI.close (q := q) (T := fun k => some k = H j ∨ k = go) hgs''.out hX7.2.2.1 hX7.2.2.2.1 hX7.2.2.2.2.1 hX7.2.2.2.2.2 hRD'.out (by have := hsz5.out; have := hbase'.out; omega) ?_ ?_ ?_ hG6 hX7.1 ?_
            · have ho1 : Only (fun k => some k = H j ∨ k = go) W7 _ := (hO79'.out.trans' hO1.out).mono (fun _ _ h => h.elim)
              exact (ho1.trans hO6.out (fun k _ e => Or.inl e)).trans hset (fun k _ e => Or.inr e)
            · rintro k (e | e)
              · exact Or.inr ⟨(hg29.out.fresh j k hjn''.out e.symm).1, hX7.2.1 j k hjn''.out e.symm⟩
              · subst e
                exact Or.inr ⟨hg29.out.ofresh k hho'.out, hX7.1 k hho'.out⟩
            · rw [hlen']
              exact hset.heap (hO6.out.heap (hO1.out.heap hg19.out (fun h => h)) (fun e => (hHne.out _ e.symm).1 rfl)) hne1
            · intro k b hk hb
              by_cases hkj : k = j
              · subst hkj
                rw [updH_same] at hb
                rcases hh6.out with hh | ⟨g, hg, hge⟩
                · exact hX7.2.1 k b hjn''.out (hh ▸ hb)
                · rw [hg] at hb
                  cases hb
                  exact fun hx => by have := (hX7.2.2.2.1 _ hx).2; have := hO79'.out.size; have := hO1.out.size; omega
              · rw [updH_other _ hkj] at hb
                exact hX7.2.1 k b (by rw [hlen', hgn'.out] at hk; exact hk) hb)
          have hSet' := Lib.hid hset
          clear hc6 hfz6 hV2 hset hW6 hO6 hh6
          try go_simp
          refine hK.out _ _ S6 (fun hHeld => ?_)
          clear hK K
          refine wpAnyH_ready (rs := [9]) (by kernel_rfl) (by simp) ?_
          refine AllReadyH.cons rfl (fun K hK => ?_) AllReadyH.nil
          go_simp
          refine hK.out _ _ S6 (fun hHeld => ?_)
          clear hK K
          refine wpAnyH_ready (rs := [10]) (by kernel_rfl) (by simp) ?_
          refine AllReadyH.cons rfl (fun K hK => ?_) AllReadyH.nil
          go_simp
          refine hK.out _ _ ⟨hSet'.out.cell S6.1 hne1, hSet'.out.cell S6.2 hne2⟩ (fun hHeld => ?_)
          clear hK K
          exact wpAnyH_done (by kernel_rfl) ⟨rfl, hfin.out⟩ _
        · go_simp
          refine hK.out _ _ (by go_keep) (fun hHeld => ?_)
          clear hK K
          refine wpAnyH_ready (rs := [5]) (by kernel_rfl) (by simp) ?_
          refine AllReadyH.cons rfl (fun K hK => ?_) AllReadyH.nil
          go_simp
          refine hK.out _ _ (by go_keep) (fun hHeld => ?_)
          clear hK K
          refine wpAnyH_ready (rs := [8]) (by kernel_rfl) (by simp) ?_
          refine AllReadyH.cons rfl (fun K hK => ?_) AllReadyH.nil
          refine step_append_win rfl (.tmp 26) (.tmp 28) 24 rfl 3 (Value.int .i64 0) 1 8 Try.underlying24 info3 rfl (by decide) (v := .slice A' M.length c') (h := H j) (by rfl) (hWj'.out.kept hO1.out (fun _ _ h => h)) _ 1 1 (by rfl) [.int .i64 (x : Int)] rfl (fun _ => ⟨_, rfl, row_one (show (W9.alloc (Obj.cells #[.int .i64 (x : Int)] 3)).drew.heap[W9.heap.size]? = _ from heap_new_at W9 _ rfl)⟩) (by simp [Value.oneCell']) (by unfold maxLen; have := hM12.out; omega) (by have := hM12.out; omega) ?_
          intro v6 w6 h6 hW6 hO6 hh6
          obtain ⟨p6, c6, rfl, _, _⟩ := hW6.out.form
          have S6 := And.intro (hO6.out.cell hHeld.1 (fun e => (hHne.out _ e.symm).1 rfl)) (hO6.out.cell hHeld.2 (fun e => (hHne.out _ e.symm).2.1 rfl))
          obtain ⟨go', off', cc', _, hv', _, _, hgl6, hc6, hfz6⟩ := ((hg29.out.o.kept hO1.out (fun _ _ h => h)).kept hO6.out (fun b hb e => (hHne.out b e.symm).2.2 (by rw [hho'.out] at hb; cases hb; rfl))).at_ (by have := hjn''.out; omega)
          simp only [Value.slice.injEq, Option.some.injEq, Addr.mk.injEq, and_true, true_and] at hv'
          obtain ⟨⟨rfl, rfl⟩, rfl⟩ := hv'
          obtain ⟨A2, c2, hV2, _⟩ := hg29.out.row j M hj'.out
          have cj6 := hc6 j _ hV2
          have fj6 := hfz6 (off + j)
          have hset : Only (fun k => k = go) w6 (w6.setCell ⟨go, off + j, none⟩ (.slice p6 (M.length + 1) c6)) := (Only.refl (fun k => k = go) w6).setCell (p := ⟨go, off + j, none⟩) (fun _ => rfl) _
          have hfin := Lib.hid (show Only (fun k => ¬ RDs Y h k ∧ ¬ X k) W7 (w6.setCell ⟨go, off + j, none⟩ (.slice p6 (M.length + 1) c6)) ∧ GI W4 base (q + 1) ts X (pre ++ [x]) (w6.setCell ⟨go, off + j, none⟩ (.slice p6 (M.length + 1) c6)) from by
            have hX7 := hg34.out
            have hb9 : base ≤ W9.heap.size := by have := hX7.2.2.2.2.2; have := hO79'.out.size; omega
            have hG6 := GrpAt.grow (x := x) hg29.out hb9 hj'.out hO1.out hO6.out hh6.out hW6.out
            rw [← hput.out] at hG6
            have hlen' : gs'.length = gn := by rw [hput.out, List.length_set, hgn'.out]
            refine GI.close (q := q) (T := fun k => some k = H j ∨ k = go) hgs''.out hX7.2.2.1 hX7.2.2.2.1 hX7.2.2.2.2.1 hX7.2.2.2.2.2 hRD'.out (by have := hsz5.out; have := hbase'.out; omega) ?_ ?_ ?_ hG6 hX7.1 ?_
            · have ho1 : Only (fun k => some k = H j ∨ k = go) W7 _ := (hO79'.out.trans' hO1.out).mono (fun _ _ h => h.elim)
              exact (ho1.trans hO6.out (fun k _ e => Or.inl e)).trans hset (fun k _ e => Or.inr e)
            · rintro k (e | e)
              · exact Or.inr ⟨(hg29.out.fresh j k hjn''.out e.symm).1, hX7.2.1 j k hjn''.out e.symm⟩
              · subst e
                exact Or.inr ⟨hg29.out.ofresh k hho'.out, hX7.1 k hho'.out⟩
            · rw [hlen']
              exact hset.heap (hO6.out.heap (hO1.out.heap hg19.out (fun h => h)) (fun e => (hHne.out _ e.symm).1 rfl)) hne1
            · intro k b hk hb
              by_cases hkj : k = j
              · subst hkj
                rw [updH_same] at hb
                rcases hh6.out with hh | ⟨g, hg, hge⟩
                · exact hX7.2.1 k b hjn''.out (hh ▸ hb)
                · rw [hg] at hb
                  cases hb
                  exact fun hx => by have := (hX7.2.2.2.1 _ hx).2; have := hO79'.out.size; have := hO1.out.size; omega
              · rw [updH_other _ hkj] at hb
                exact hX7.2.1 k b (by rw [hlen', hgn'.out] at hk; exact hk) hb)
          have hSet' := Lib.hid hset
          clear hc6 hfz6 hV2 hset hW6 hO6 hh6
          try go_simp
          refine hK.out _ _ S6 (fun hHeld => ?_)
          clear hK K
          refine wpAnyH_ready (rs := [9]) (by kernel_rfl) (by simp) ?_
          refine AllReadyH.cons rfl (fun K hK => ?_) AllReadyH.nil
          go_simp
          refine hK.out _ _ S6 (fun hHeld => ?_)
          clear hK K
          refine wpAnyH_ready (rs := [10]) (by kernel_rfl) (by simp) ?_
          refine AllReadyH.cons rfl (fun K hK => ?_) AllReadyH.nil
          go_simp
          refine hK.out _ _ ⟨hSet'.out.cell S6.1 hne1, hSet'.out.cell S6.2 hne2⟩ (fun hHeld => ?_)
          clear hK K
          exact wpAnyH_done (by kernel_rfl) ⟨rfl, hfin.out⟩ _
      · rintro e a' w' ⟨rfl, hw'⟩
        have hend := Lib.hid hw'
        clear hw'
        gi_wp2
        exact hend.out
  case done =>
    intro DD X W6 hD hXD hI hK
    obtain ⟨⟨p, gcap, ho, V, H, g1, g2, g3, g4⟩, g5, g6, g7, g8⟩ := hI
    have c1 := row_cell g1 (i := 0) rfl
    have l1 := row_lt g1
    have ho6 := (hbox.out W6 g7).2.2
    have hfin := Lib.hid (show Z (.returned (.slice p (groupsOf ts L).length gcap)) (W6.putObj DD (.deferred none)) from by
      rw [hZ'.out]
      refine ⟨p, gcap, ho, V, H, rfl, (g2.kept (only_put _ _ _) (fun b hb e => g3 b hb (e ▸ hXD)) (fun j b hj hb e => g4 j b hj hb (e ▸ hXD))).base (by have := hqb.out; have := hq'.out; omega), ho6.lay (fun hd => by have := (g6 DD hXD).1; have := hs4'.out; have := hq'.out; omega) _⟩)
    obtain ⟨gs, hgs⟩ : ∃ gs, gs = groupsOf ts L := ⟨_, rfl⟩
    rw [← hgs] at hfin c1
    clear g1 g2 g3 g4 g5 g6 g7 g8 hgs
    gi_wp2
    refine ⟨by simp, .inl ⟨_, _, rfl, run_takeDeferred hK, ?_⟩⟩
    refine ⟨_, results_tmp rfl _ _ _, ?_⟩
    exact hfin.out
  case stop =>
    intro _ _ _ _ _ _ _ _ h
    exact h.elim
end Bch
end Go.Proofs.Ytdoimkmhincmmaa
