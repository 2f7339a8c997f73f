/- flags: the releases that come too soon; an iterator over another one. -/
import Derived.Test.YthippdgmbfaijaaMon4
namespace Go.Proofs.Ythippdgmbfaijaa
open Go Go.RowKit Go.Maps Go.Shelf
attribute [local go_sem] Oper.semAt_some

theorem roundWide {m m' : Nat} {P : Program} {l : Nat} {f : FuncId} {tmps : Array Value} {assign body : Code} {w : World} {R : Ending → World → Prop}
    (h : RoundIn Fence.wide m P l f tmps assign body w R) : RoundIn Fence.wide m' P l f tmps assign body w R := ⟨h.1, fun c cs _ => h.2 c cs (room_wide _)⟩

theorem roundIn2 {m m' : Nat} {P : Program} {l k : Nat} {f : FuncId} {tmps : Array Value} {assign body : Code} {w : World} {R : Ending → World → Prop}
    (h : RoundIn Fence.wide m P l f tmps assign body w R) : RoundIn (Fence.wide.inRound k) m' P l f tmps assign body w R := ⟨h.1, fun c cs _ => h.2 c cs (room_wide _)⟩

theorem followers_any (A : Option Addr) (n cap : Nat) (w : World) : Calls Try.prog 13 #[.slice A n cap] w fun e w' => e = .returned (.func (.func 19) #[] #[.pointer (some ⟨w.heap.size, 0, none⟩)]) ∧ w' = w.alloc (.cells #[.slice A n cap] 28) := by
  go_enter Try.func13, Try.ntmps13
  go_wp2
  go_ret
  exact ⟨rfl, rfl⟩

/-- A release that comes too soon: its flag. -/
def flagOf (ts : List TaskV) (x : RecV × Int) : Option (Int × Int) :=
  if hasF ts.length x.1.t = true then
    match ts[x.1.t.toNat]? with
    | some t => if x.2 < cl t.pe then some (x.1.at_, x.1.t) else none
    | none => none
  else none
def flagsL (ts : List TaskV) (l : List RecV) : List (Int × Int) := (folL l).filterMap (flagOf ts)
def encG (f : Int × Int) : Array Value := #[.agg #[.int .i64 f.1, .int .i64 f.2]]
def RD2 (Bl Bc : Nat) (A : Option Addr) (n : Nat) (T : Sl) (k : Nat) : Prop := (k = Bl ∨ inA A n k) ∨ (k = Bc ∨ inA T.A T.n k)

theorem TasksAt.kept' {S : Nat → Prop} {w w' : World} {x : Sl} {l : List TaskV} (h : TasksAt w x l) (ho : Only S w w') (hS : ∀ k, S k → ¬ inA x.A x.n k) : TasksAt w' x l :=
  ⟨h.len, h.cap, fun k t ht => by
    obtain ⟨b, off, hA, hb, hc⟩ := h.at_ k t ht
    have hn : ¬ S b := fun hs => hS b hs ⟨by have := (List.getElem?_eq_some_iff.1 ht).1; have := h.len; omega, b, off, hA, rfl⟩
    exact ⟨b, off, hA, Nat.lt_of_lt_of_le hb ho.size, ⟨ho.cell hc.c0 hn, ho.cell hc.c1 hn, ho.cell hc.c2 hn, ho.cell hc.c3 hn, ho.cell hc.c4 hn, ho.cell hc.c5 hn, ho.cell hc.c6 hn⟩⟩⟩

theorem TasksAt.lt {w : World} {x : Sl} {l : List TaskV} (h : TasksAt w x l) {k : Nat} (hk : inA x.A x.n k) : k < w.heap.size := by
  obtain ⟨h0, b, off, hA, rfl⟩ := hk
  rw [← h.len] at h0
  obtain ⟨b', off', hA', hb, -⟩ := h.at_ 0 l[0] (List.getElem?_eq_getElem h0)
  rw [hA] at hA'
  cases hA'
  exact hb

/-- Between two rounds: what the outer loop holds, and this call's own boxes. -/
def FI (J : (Nat → Prop) → List (Int × Int) → World → Prop) (f : RecV × Int → Option (Int × Int)) (R : Nat → Prop) (ly : Nat) (W : World) (X : Nat → Prop) (pre : List (RecV × Int)) (W' : World) : Prop :=
  ∃ Xo : Nat → Prop, J Xo (pre.filterMap f) W' ∧ (∀ k, X k → Xo k) ∧ (Xo W.heap.size ∧ Xo (W.heap.size + 1)) ∧ ¬ X W.heap.size ∧ (∀ k, X k → ¬ R k) ∧ W'.heap[W.heap.size]? = some (.cells #[.func (.yield ly) #[] #[]] 60 (0, 0)) ∧ Only (fun k => ¬ R k) W W'
theorem FI.steady {J : (Nat → Prop) → List (Int × Int) → World → Prop} {f : RecV × Int → Option (Int × Int)} {R : Nat → Prop} {ly : Nat} {W : World} (hJ : Steady J) (hR : ∀ k, R k → k < W.heap.size) : Steady (FI J f R ly W) := by
  refine ⟨fun {X pre A B} h ho => ?_, fun {X X' pre A} hX h => ?_⟩
  · obtain ⟨Xo, h1, h2, ⟨h3, h3'⟩, h4, h5, h6, h7⟩ := h
    have hlt := row_lt h6
    refine ⟨_, hJ.step h1 (ho.mono fun k _ hk => h2 k hk), fun k hk => Or.elim hk (fun h => .inl (h2 k h)) .inr, ⟨.inl h3, .inl h3'⟩, fun h => ?_, fun k hk hr => ?_, ho.heap h6 h4, h7.trans ho (fun k _ hk => h5 k hk)⟩
    · rcases h with h | h
      · exact h4 h
      · omega
    · rcases hk with hk | hk
      · exact h5 k hk hr
      · have := hR k hr
        have := h7.size
        omega
  · obtain ⟨Xo, h1, h2, h3, h4, h5, h6, h7⟩ := h
    exact ⟨Xo, h1, fun k hk => h2 k (hX k hk), h3, fun hk => h4 (hX _ hk), fun k hk => h5 k (hX k hk), h6, h7⟩

/-- The outer loop has said no more. -/
def FX (Jx : (Nat → Prop) → List (Int × Int) → World → Prop) (f : RecV × Int → Option (Int × Int)) (c : Code) (X : Nat → Prop) (pre : List (RecV × Int)) (W' : World) : Prop :=
  c = .ret ∧ ∃ Xo : Nat → Prop, Jx Xo (pre.filterMap f) W' ∧ ∀ k, X k → Xo k
theorem FX.steady {Jx : (Nat → Prop) → List (Int × Int) → World → Prop} {f : RecV × Int → Option (Int × Int)} (hJ : Steady Jx) (c : Code) : Steady (FX Jx f c) := by
  refine ⟨fun {X pre A B} h ho => ?_, fun {X X' pre A} hX h => ?_⟩
  · obtain ⟨h0, Xo, h1, h2⟩ := h
    exact ⟨h0, _, hJ.step h1 (ho.mono fun k _ hk => h2 k hk), fun k hk => Or.elim hk (fun h => .inl (h2 k h)) .inr⟩
  · obtain ⟨h0, Xo, h1, h2⟩ := h
    exact ⟨h0, Xo, h1, fun k hk => h2 k (hX k hk)⟩
set_option maxRecDepth 100000 in
set_option maxHeartbeats 2000000 in
theorem flags_iter {w0 : World} {Bl Bc n cap : Nat} {A : Option Addr} {l : List RecV} {c : ConfV} {ts : List TaskV} (hB : w0.cell? ⟨Bl, 0, none⟩ = some (.slice A n cap)) (hl : RecRow w0 A l) (hn : l.length = n) (hmax : n ≤ 1000000) (hfit : ∀ r ∈ l, fitR r)
    (hC : w0.heap[Bc]? = some (.cells c.cells.toArray 27 (0, 0))) (hT : TasksAt w0 c.ta ts) (hT9 : c.ta.n ≤ 9223372036854775807) :
    Iterates Try.prog 18 #[.pointer (some ⟨Bl, 0, none⟩), .pointer (some ⟨Bc, 0, none⟩)] encG (flagsL ts l) (RD2 Bl Bc A n c.ta) w0 := fun ly J Jx W hW hJ hJx hY h0 => by
  have cB := hW.cell hB (fun h => h (.inl (.inl rfl)))
  have hC' := Lib.hid (hW.heap hC (fun h => h (.inr (.inl rfl))))
  have hl' := Lib.hid (hl.kept hW (fun k h hk => h (.inl (.inr (hn ▸ hk)))))
  have hT' := Lib.hid (hT.kept' hW (fun k h hk => h (.inr (.inr hk))))
  have hJ' := Lib.hid hJ
  have hJx' := Lib.hid hJx
  have hn' := Lib.hid hn
  have hfit' := Lib.hid hfit
  have hlt0 : ∀ k, RD2 Bl Bc A n c.ta k → k < W.heap.size := fun k h => by
    rcases h with (rfl | h) | rfl | h
    · exact World.block_lt_of_cell? W _ cB
    · exact hl'.out.lt (hn ▸ h)
    · exact row_lt hC'.out
    · exact hT'.out.lt h
  have hBl := hlt0 _ (.inl (.inl rfl))
  clear hB hl hfit hC hT hW
  refine callsIn_wide (n := 3) |>.1 ?_
  refine callsIn_of_wp_marks Try.func18 rfl trivial ?_ rfl
  simp only [Try.ntmps18, List.size_toArray, List.length_cons, List.length_nil, Nat.reduceAdd, Nat.reduceSub, Array.replicate_succ, Array.replicate_zero, List.push_toArray, List.append_toArray, List.nil_append, List.cons_append]
  gi_wp2_with fail
  refine ⟨trivial, (callsIn_wide.2 (followers_any A n cap _)).mono ?_⟩
  rintro e w2 ⟨rfl, rfl⟩
  gi_wp2
  have hO2 : Only (fun _ => False) W ((W.alloc (.cells #[.func (.yield ly) #[] #[]] 60)).alloc (.cells #[.slice A n cap] 28)) := ((Only.refl _ W).alloc _).alloc _
  have hsz : ((W.alloc (.cells #[.func (.yield ly) #[] #[]] 60)).alloc (.cells #[.slice A n cap] 28)).heap.size = W.heap.size + 2 := by simp
  have hY0 : ((W.alloc (.cells #[.func (.yield ly) #[] #[]] 60)).alloc (.cells #[.slice A n cap] 28)).heap[W.heap.size]? = some (.cells #[.func (.yield ly) #[] #[]] 60 (0, 0)) := heap_kept_alloc (heap_new_at _ _ rfl) _
  have hY1 : ((W.alloc (.cells #[.func (.yield ly) #[] #[]] 60)).alloc (.cells #[.slice A n cap] 28)).heap[W.heap.size + 1]? = some (.cells #[.slice A n cap] 28 (0, 0)) := heap_new_at _ _ (by simp)
  generalize (W.alloc (.cells #[.func (.yield ly) #[] #[]] 60)).alloc (.cells #[.slice A n cap] 28) = W2 at hO2 hsz hY0 hY1 ⊢
  have hit := followers_iter (w0 := W2) (B := W.heap.size + 1) (n := n) (cap := cap) (A := A) (l := l) (row_cell (L := [.slice A n cap]) hY1 rfl) (hl'.out.new hO2) hn'.out hmax hfit'.out
  have hi0 := hJ'.out.step h0 hO2
  refine wpIn_range (gf := 19) (lb := #[.pointer (some ⟨W.heap.size + 1, 0, none⟩)]) rfl (enters_of Try.func19 (by kernel_rfl) rfl) hit (Only.refl _ W2) ?_ (fun _ => rfl)
    (FI J (flagOf ts) (RD2 Bl Bc A n c.ta) ly W) (FX Jx (flagOf ts)) (FI.steady hJ'.out hlt0) (FX.steady hJx'.out) ?_ ?round ?done ?stop
  · rintro k (rfl | hk)
    · omega
    · have := hlt0 k (.inl (.inr hk))
      omega
  · exact ⟨_, hi0, fun k hk => hk.elim, ⟨.inr ⟨Nat.le_refl _, by omega⟩, .inr ⟨by omega, by omega⟩⟩, fun h => h, fun k hk => hk.elim, hY0, hO2.mono (fun _ _ h => h.elim)⟩
  case round =>
    intro l1 D X pre x W3 hl1 hD hXl hXD hl1' hD' hI hpre
    obtain ⟨r, gap⟩ := x
    unfold encF RecV.val
    gi_wp2
    refine ⟨(Only.refl _ _).alloc _, fun W4 hO4 hI4 => ?_⟩
    have hb := Lib.hid (hO4.heap (heap_new_at W3 (.cells [Value.int .i64 r.at_, .int .i64 r.k, .int .i64 r.t, .int .i64 r.j, .int .i64 r.op, .int .i64 r.c, .int .i64 r.v].toArray 33) rfl) (by omega))
    clear hI hO4
    have hst := Lib.hid (FI.steady (f := flagOf ts) (ly := ly) hJ'.out hlt0)
    have hpre' := Lib.hid hpre
    have hXl' := Lib.hid (And.intro hXl hXD)
    -- what goes on to the next round without the outer one
    have hgo := Lib.hid (fun (W' : World) (ho : Only (fun _ => False) W4 W') (hf : flagOf ts (r, gap) = none) => show Only (fun k => ¬ RD (W.heap.size + 1) A n k ∧ ¬ X k) W4 W' ∧ FI J (flagOf ts) (RD2 Bl Bc A n c.ta) ly W X (pre ++ [(r, gap)]) W' from by
      refine ⟨ho.mono (fun _ _ h => h.elim), ?_⟩
      have h1 := hst.out.same hI4 (ho.mono (fun _ _ h => h.elim))
      unfold FI at h1 ⊢
      rw [List.filterMap_append]
      simpa [hf] using h1)
    obtain ⟨Xo, g1, g2, ⟨g3, g3'⟩, g4, g5, g6, g7⟩ := hI4
    have hx := Lib.hid (And.intro g1 (And.intro g2 (And.intro g3 (And.intro g3' (And.intro g4 (And.intro g5 g7))))))
    have hcfg := Lib.hid (g7.heap hC'.out (fun h => h (.inr (.inl rfl))))
    have hrow := Lib.hid (hT'.out.kept' g7 (fun k h hk => h (.inr (.inr hk))))
    have hy3 := Lib.hid g6
    have e0 := row_cell hb.out (i := 0) rfl
    have e2 := row_cell hb.out (i := 2) rfl
    have hltb := row_lt hb.out
    have d0 := row_cell hcfg.out (i := 0) rfl
    have d1 := row_cell hcfg.out (i := 1) rfl
    have d2 := row_cell hcfg.out (i := 2) rfl
    have d3 := row_cell hcfg.out (i := 3) rfl
    have d4 := row_cell hcfg.out (i := 4) rfl
    have d5 := row_cell hcfg.out (i := 5) rfl
    have d6 := row_cell hcfg.out (i := 6) rfl
    have d7 := row_cell hcfg.out (i := 7) rfl
    have d8 := row_cell hcfg.out (i := 8) rfl
    have d9 := row_cell hcfg.out (i := 9) rfl
    have hltc := row_lt hcfg.out
    clear g1 g2 g3 g3' g4 g5 g6 g7 hpre hXl hXD
    have hhas := Lib.hid (has_any c r.t W4)
    have hlen := hrow.out.len
    have hlen' := Lib.hid hlen
    clear hlen
    obtain ⟨s, wy, h, mi, ⟨mA, mn, mc⟩, g, ⟨cA, cn, cc⟩, ⟨eA, en, ec⟩, ⟨tA, tn, tc⟩, ⟨lA, ln, lc⟩⟩ := c
    unfold ConfV.val at hhas
    dsimp only at *
    obtain ⟨at_, kd, t, jo, op, co, v⟩ := r
    dsimp only at *
    obtain ⟨H, hH⟩ : ∃ H, H = hasF tn t := ⟨_, rfl⟩
    rw [← hH] at hhas
    have hH' := Lib.hid hH
    clear hH
    cases H with
    | false =>
      have hf := Lib.hid (show flagOf ts ((⟨at_, kd, t, jo, op, co, v⟩ : RecV), gap) = none by unfold flagOf; rw [hlen'.out, ← hH'.out]; simp)
      gi_wp2_with fail
      refine ⟨trivial, CallsIn.inRound l1 ((callsIn_wide.2 hhas.out).mono ?_)⟩
      rintro e W5 ⟨rfl, hO5⟩
      have hO5' := Lib.hid hO5
      clear hO5
      gi_wp2
      refine ⟨trivial, ?_⟩
      gi_wp2
      refine ⟨fun _ h => (by cases h), ?_⟩
      gi_wp2
      exact hgo.out _ hO5'.out hf.out
    | true =>
      obtain ⟨ht0, ht1⟩ : 0 ≤ t ∧ t < tn := of_decide_eq_true (show decide (0 ≤ t ∧ t < (tn : Int)) = true from hH'.out.symm)
      obtain ⟨m, rfl⟩ : ∃ m : Nat, t = m := ⟨t.toNat, by omega⟩
      obtain ⟨tk, htk⟩ : ∃ tk, ts[m]? = some tk := ⟨_, List.getElem?_eq_getElem (by have := hlen'.out; omega)⟩
      obtain ⟨b, off, hA, hbl, hcl⟩ := hrow.out.at_ m tk htk
      simp only at hA
      subst hA
      have c2 := hcl.c2
      have hfl := Lib.hid (show flagOf ts ((⟨at_, kd, (m : Int), jo, op, co, v⟩ : RecV), gap) = if gap < cl tk.pe then some (at_, (m : Int)) else none by unfold flagOf; dsimp only; rw [hlen'.out, ← hH'.out, if_pos rfl, Int.toNat_natCast, htk])
      clear htk hcl
      obtain ⟨P, th, pe, de, fr, fl, o⟩ := tk
      dsimp only at c2 hfl
      obtain ⟨cp, hcp⟩ : ∃ cp, cp = cl pe := ⟨_, rfl⟩
      rw [← hcp] at hfl
      have hcnt := Lib.hid (fun W => counted_any pe W)
      rw [← hcp] at hcnt
      clear hcp
      by_cases hs : gap < cp
      · rw [if_pos hs] at hfl
        gi_wp2_with fail
        refine ⟨trivial, CallsIn.inRound l1 ((callsIn_wide.2 hhas.out).mono ?_)⟩
        rintro e W5 ⟨rfl, hO5⟩
        have hO5' := Lib.hid hO5
        replace c2 := hO5.cell c2 (fun h => h)
        replace e0 := hO5.cell e0 (fun h => h)
        replace e2 := hO5.cell e2 (fun h => h)
        replace d8 := hO5.cell d8 (fun h => h)
        have hb5 := Nat.lt_of_lt_of_le hbl hO5.size
        have hy5 := row_cell (L := [Value.func (.yield ly) #[] #[]]) (i := 0) (hO5.heap hy3.out (fun h => h)) rfl
        clear hO5
        gi_wp2_with fail
        refine ⟨trivial, CallsIn.inRound l1 ((callsIn_wide.2 (hcnt.out _)).mono ?_)⟩
        rintro e W6 ⟨rfl, rfl⟩
        obtain ⟨q1, q2, q3, q4, q5, q6, q7⟩ := hx.out
        obtain ⟨fn, tmps, assign, body, hy, hRR⟩ := hY Xo (pre.filterMap (flagOf ts)) (at_, (m : Int)) W5 (hJ'.out.same q1 (hO5'.out.mono (fun _ _ h => h.elim))) (by
          have := hpre'.out.filterMap (flagOf ts)
          rw [List.filterMap_append] at this
          simpa [hfl.out, flagsL] using this)
        unfold encG at hy
        dsimp only at hy
        clear q1 q2 q3 q4 q5 q6 q7
        gi_wp2
        refine (roundIn2 (m' := 2) hRR).mono ?_
        rintro e W7 (⟨rfl, hJ7, hk7⟩ | ⟨rfl, hJ7, hk7⟩)
        · have hend := Lib.hid (And.intro hJ7 hk7)
          clear hJ7 hk7
          gi_wp2
          obtain ⟨q1, q2, q3, q4, q5, q6, q7⟩ := hx.out
          obtain ⟨k1, k2⟩ := hend.out
          have hne : ∀ k, (¬ RD2 Bl Bc A n ⟨some ⟨b, off, none⟩, tn, tc⟩ k ∧ ¬ Xo k) → ¬ RD (W.heap.size + 1) A n k ∧ ¬ X k := fun k hk => ⟨fun h => by
            rcases h with rfl | h
            · exact hk.2 q4
            · exact hk.1 (.inl (.inr h)), fun h => hk.2 (q2 k h)⟩
          refine ⟨(hO5'.out.mono (fun _ _ h => h.elim)).trans k2 (fun k _ hk => hne k hk), Xo, ?_, q2, ⟨q3, q4⟩, q5, q6, ?_, (q7.trans hO5'.out (fun _ _ h => h.elim)).trans k2 (fun k _ hk => hk.1)⟩
          · rw [List.filterMap_append]
            simpa [hfl.out] using k1
          · exact k2.heap (hO5'.out.heap hy3.out (fun h => h)) (fun h => h.2 q3)
        · have hend := Lib.hid (And.intro hJ7 hk7)
          clear hJ7 hk7
          gi_wp2
          obtain ⟨q1, q2, q3, q4, q5, q6, q7⟩ := hx.out
          obtain ⟨k1, k2⟩ := hend.out
          refine ⟨(hO5'.out.mono (fun _ _ h => h.elim)).trans k2 (fun k _ hk h => hk (q2 k h)), rfl, Xo, ?_, q2⟩
          rw [List.filterMap_append]
          simpa [hfl.out] using k1
      · rw [if_neg hs] at hfl
        gi_wp2_with fail
        refine ⟨trivial, CallsIn.inRound l1 ((callsIn_wide.2 hhas.out).mono ?_)⟩
        rintro e W5 ⟨rfl, hO5⟩
        have hO5' := Lib.hid hO5
        replace c2 := hO5.cell c2 (fun h => h)
        replace e0 := hO5.cell e0 (fun h => h)
        replace e2 := hO5.cell e2 (fun h => h)
        replace d8 := hO5.cell d8 (fun h => h)
        have hb5 := Nat.lt_of_lt_of_le hbl hO5.size
        clear hO5
        gi_wp2_with fail
        refine ⟨trivial, CallsIn.inRound l1 ((callsIn_wide.2 (hcnt.out _)).mono ?_)⟩
        rintro e W6 ⟨rfl, rfl⟩
        gi_wp2
        refine ⟨fun _ h => (by cases h), ?_⟩
        gi_wp2
        exact hgo.out _ hO5'.out hfl.out
  case done =>
    intro D X W5 hD hXD hI hK
    obtain ⟨Xo, g1, g2, g3, g4, g5, g6, g7⟩ := hI
    have hfin := Lib.hid (hJ'.out.same g1 ((only_put W5 D (.deferred none)).mono (fun k _ e => g2 k (e ▸ hXD))))
    clear g1 g2 g3 g4 g5 g6 g7
    gi_wp2
    refine ⟨by simp, .inl ⟨_, _, rfl, run_takeDeferred hK, ?_⟩⟩
    exact ⟨_, results_none rfl _ _ _, ⟨_, rfl⟩, .inl ⟨_, hfin.out⟩⟩
  case stop =>
    rintro D c' X pre W5 hD hXD hpre ⟨rfl, Xo, g1, g2⟩ hK
    have hfin := Lib.hid (hJx'.out.same g1 ((only_put W5 D (.deferred none)).mono (fun k _ e => g2 k (e ▸ hXD))))
    clear g1 g2
    gi_wp2
    refine ⟨by simp, .inl ⟨_, _, rfl, run_takeDeferred hK, ?_⟩⟩
    exact ⟨_, results_none rfl _ _ _, ⟨_, rfl⟩, .inr ⟨_, _, hpre.filterMap _, hfin.out⟩⟩
end Go.Proofs.Ythippdgmbfaijaa
