/- followers: the iterator. -/
import Derived.Test.YthippdgmbfaijaaMon3
namespace Go.Proofs.Ythippdgmbfaijaa
open Go Go.RowKit Go.Maps Go.Shelf
attribute [local go_sem] Oper.semAt_some

theorem keyed3 : Keyed Try.prog 3 := int_keyed Try.underlying3
/-- A map of ints. -/
def MapI (w : World) (bm n : Nat) (f : Int → Option Int) : Prop :=
  ∃ D : DataW Unit, w.ownsMap Try.prog 3 (plainElem Try.prog 3) bm n D ∧ (∀ t : Int, D.atKey (.int .i64 t) (.lit (.int .i64 0)) = .lit (.int .i64 ((f t).getD 0))) ∧ ∀ t : Int, Maps.has D (.int .i64 t) = (f t).isSome
theorem MapI.kept {A : Nat → Prop} {w w' : World} {bm n : Nat} {f : Int → Option Int} (h : MapI w bm n f) (ho : Only A w w') (hA : ¬ A bm) : MapI w' bm n f := by
  obtain ⟨D, ⟨es, clock, hb, hr⟩, h2, h3⟩ := h
  exact ⟨D, ⟨es, clock, ho.heap hb hA, hr⟩, h2, h3⟩
theorem isKeyI (x : Int) : WideAt.IsKeyLit (.int .i64 x) := by simp [WideAt.IsKeyLit]
theorem wfI {z : Int} (h1 : -9223372036854775808 ≤ z) (h2 : z ≤ 9223372036854775807) : (Lit.int .i64 z).wf = true := by
  have e1 : IntKind.i64.min = -9223372036854775808 := by decide
  have e2 : IntKind.i64.max = 9223372036854775807 := by decide
  simp [Lit.wf, e1, e2]
  omega
theorem MapI.put {w w' : World} {bm n : Nat} {f g : Int → Option Int} {D : DataW Unit} {t v : Int} (hD : w.ownsMap Try.prog 3 (plainElem Try.prog 3) bm n D) (h2 : ∀ t : Int, D.atKey (.int .i64 t) (.lit (.int .i64 0)) = .lit (.int .i64 ((f t).getD 0))) (h3 : ∀ t : Int, Maps.has D (.int .i64 t) = (f t).isSome)
    (ho : w'.ownsMap Try.prog 3 (plainElem Try.prog 3) bm (n + 1) (D.put (.int .i64 t) (.lit (.int .i64 v)))) (hg : g t = some v) (hg2 : ∀ x, x ≠ t → g x = f x) : MapI w' bm (n + 1) g := by
  have ht := hD.tidy keyed3
  refine ⟨_, ho, fun x => ?_, fun x => ?_⟩
  · by_cases hx : x = t
    · subst hx
      rw [atKey_put_same ht.isMap (isKeyI _), hg]
      rfl
    · rw [atKey_put_other (by intro e; cases e; exact hx rfl), hg2 x hx, h2]
  · by_cases hx : x = t
    · subst hx
      rw [has_put_same ht.isMap (isKeyI _), hg]
      rfl
    · rw [has_put_other (by intro e; cases e; exact hx rfl), hg2 x hx, h3]
def fitR (r : RecV) : Prop := -9223372036854775808 ≤ r.t ∧ r.t ≤ 9223372036854775807
def RD (B : Nat) (A : Option Addr) (n k : Nat) : Prop := k = B ∨ inA A n k

set_option maxRecDepth 100000 in
set_option maxHeartbeats 2000000 in
theorem followers_iter {w0 : World} {B n cap : Nat} {A : Option Addr} {l : List RecV} (hB : w0.cell? ⟨B, 0, none⟩ = some (.slice A n cap)) (hl : RecRow w0 A l) (hn : l.length = n) (hmax : n ≤ 1000000) (hfit : ∀ r ∈ l, fitR r) :
    Iterates Try.prog 19 #[.pointer (some ⟨B, 0, none⟩)] encF (folL l) (RD B A n) w0 := fun ly J Jx W hW hJ hJx hY h0 => by
  have cB := hW.cell hB (fun h => h (.inl rfl))
  have hl' := Lib.hid (hl.kept hW (fun k h hk => h (.inr (hn ▸ hk))))
  have hBl : B < W.heap.size := World.block_lt_of_cell? W _ cB
  have hBl' := Lib.hid hBl
  have hJ' := Lib.hid hJ
  have hJx' := Lib.hid hJx
  have hn' := Lib.hid hn
  have hfit' := Lib.hid hfit
  have hW' := Lib.hid hW
  have hmm := @run_makeMap Try.prog
  have h0' := Lib.hid (hJ.step h0 ((Only.refl (fun _ => False) W).alloc (.map #[] 0)))
  have hm0 : MapI (W.alloc (.map #[] 0)) W.heap.size 0 (fun t => lastAt l t 0) := ⟨.map [], World.ownsMap_made _ _ _ _, fun t => rfl, fun t => rfl⟩
  have hm0' := Lib.hid hm0
  clear hJ hJx hB hl hn hfit hW h0 hm0
  refine callsIn_wide (n := 4) |>.1 ?_
  refine callsIn_of_wp Try.func19 rfl trivial ?_ rfl
  simp only [Try.ntmps19, List.size_toArray, List.length_cons, List.length_nil, Nat.reduceAdd, Nat.reduceSub, Array.replicate_succ, Array.replicate_zero, List.push_toArray, List.append_toArray, List.nil_append, List.cons_append]
  gi_wp2
  gi_loopw [12] (fun i wr => ∃ (k : Nat) (X : Nat → Prop), k ≤ n ∧ i = .int .i64 k ∧ J X (folU l k) wr ∧ X W.heap.size ∧ MapI wr W.heap.size k (fun t => lastAt l t k) ∧ Only (fun k => ¬ RD B A n k) W wr) (fun i _ => n - (intOf i).toNat)
  case atStart => exact ⟨0, _, Nat.zero_le _, rfl, h0'.out, .inr ⟨Nat.le_refl _, by simp⟩, hm0'.out, (Only.refl _ W).alloc _⟩
  case round =>
    obtain ⟨k, X, hk, rfl, hj, hX, hm, hO⟩ := hrel
    obtain ⟨ws, hws⟩ : ∃ ws : World, ws = wr := ⟨_, rfl⟩
    subst hws
    have hjj := Lib.hid (And.intro hj hX)
    have hm' := Lib.hid hm
    have hsw := Lib.hid (show W.heap.size < ws.heap.size by obtain ⟨D, q, -⟩ := hm; exact q.lt)
    have hO' := Lib.hid hO
    clear hj hX hm hO
    by_cases hkn : k < n
    · have hkn' : (k : Int) < (n : Int) := by omega
      obtain ⟨r, hr⟩ : ∃ r, l[k]? = some r := ⟨_, List.getElem?_eq_getElem (by have := hn'.out; omega)⟩
      obtain ⟨b, off, hA, hb, c0, c1, c2, c3, c4, c5, c6⟩ := (hl'.out.kept hO'.out (fun k h hk => h (.inr (hn'.out ▸ hk)))) k r hr
      have hr' := Lib.hid hr
      have hA' := Lib.hid hA
      subst hA
      clear hr
      have hOa := Lib.hid ((Only.refl (fun _ => False) ws).alloc (.cells #[.int .i64 r.at_, .int .i64 r.k, .int .i64 r.t, .int .i64 r.j, .int .i64 r.op, .int .i64 r.c, .int .i64 r.v] 33))
      have hba := Lib.hid (heap_new_at ws (.cells [Value.int .i64 r.at_, .int .i64 r.k, .int .i64 r.t, .int .i64 r.j, .int .i64 r.op, .int .i64 r.c, .int .i64 r.v].toArray 33) rfl)
      gi_wp2_with fail
      refine ⟨trivial, (callsIn_wide.2 (isRel_any r _)).mono ?_⟩
      rintro e w1 ⟨rfl, hO1⟩
      have hO1' := Lib.hid (hOa.out.trans' hO1)
      have hb1 := Lib.hid (hO1.heap hba.out (fun h => h))
      clear hO1 hba hOa
      have hO2 := Lib.hid (hO'.out.trans hO1'.out (fun _ _ h => h.elim))
      have hj1 := Lib.hid (hJ'.out.same hjj.out.1 (hO1'.out.mono (fun _ _ h => h.elim)))
      have hm1 := Lib.hid (hm'.out.kept hO1'.out (fun h => h))
      have hX1 := Lib.hid hjj.out.2
      clear hO' hjj hm'
      obtain ⟨R, hR⟩ : ∃ R, R = isRel r := ⟨_, rfl⟩
      rw [← hR]
      have hR' := Lib.hid hR
      clear hR
      cases R with
      | false =>
        have hno : ¬ (isRel r = true) := by rw [← hR'.out]; simp
        have hf := Lib.hid (show folU l (k + 1) = folU l k from by rw [folU_succ, folAt, hr'.out]; simp [hno])
        have hlast := Lib.hid (show (fun t => lastAt l t (k + 1)) = fun t => lastAt l t k from funext fun t => lastAt_skip t hr'.out (fun h => hno h.1))
        clear hno
        gi_wp2
        go_roundw
        case rel =>
          refine ⟨k + 1, X, by omega, by go_num, by rw [hf.out]; exact hj1.out, hX1.out, ?_, hO2.out⟩
          rw [hlast.out]
          obtain ⟨D, q1, q2⟩ := hm1.out
          exact ⟨D, q1.mono (by omega), q2⟩
        case measure => simp [intOf]; omega
      | true =>
        have hyes : isRel r = true := hR'.out.symm
        have hfr := hfit'.out r (List.mem_of_getElem? hr'.out)
        obtain ⟨D, q1, q2, q3⟩ := hm1.out
        have hkey := keyOf_int_mk (P := Try.prog) Try.underlying3 (wfI hfr.1 hfr.2)
        have hcl := cl_bd r.at_
        have hput := Lib.hid (fun (w' : World) (ho : w'.ownsMap Try.prog 3 (plainElem Try.prog 3) W.heap.size (k + 1) (D.put (.int .i64 r.t) (.lit (.int .i64 (cl r.at_))))) => MapI.put (g := fun t => lastAt l t (k + 1)) q1 q2 q3 ho (lastAt_hit hr'.out ⟨hyes, rfl⟩) (fun x hx => lastAt_skip x hr'.out (fun h => hx h.2.symm)))
        have e0 := row_cell hb1.out (i := 0) rfl
        have e2 := row_cell hb1.out (i := 2) rfl
        have e1 := row_cell hb1.out (i := 1) rfl
        have e3 := row_cell hb1.out (i := 3) rfl
        have e4 := row_cell hb1.out (i := 4) rfl
        have e5 := row_cell hb1.out (i := 5) rfl
        have e6 := row_cell hb1.out (i := 6) rfl
        have hlt1 := row_lt hb1.out
        have hk3 := q3 r.t
        have hk2 := q2 r.t
        have q1' := Lib.hid q1
        clear q1 q2 q3
        obtain ⟨a, kd, t, jo, op, c, v⟩ := r
        dsimp only at *
        obtain ⟨ca, hca⟩ : ∃ ca, ca = cl a := ⟨_, rfl⟩
        have hca' := Lib.hid hca
        rw [← hca] at hput hcl
        gi_wp2_with fail
        refine ⟨trivial, (callsIn_wide.2 (counted_any a _)).mono ?_⟩
        rintro e w2 ⟨rfl, rfl⟩
        rw [← hca]
        clear hca
        have hfol := Lib.hid (show folU l (k + 1) = folU l k ++ ((lastAt l t k).map (fun z => ((⟨a, kd, t, jo, op, c, v⟩ : RecV), ca - z))).toList from by rw [folU_succ, folAt, hr'.out, hca'.out]; simp only; rw [if_pos hyes])
        clear hyes
        cases hla : lastAt l t k with
        | none =>
          rw [hla] at hk2 hk3 hfol
          clear hla
          gi_wp2_with (first
            | (gi_at_lookup; refine wpListIn_lookup_own_ok_int _ rfl _ _ 62 rfl 3 3 .i64 keyed3 Try.underlying62 Try.underlying3 (Try.zeroValue3 _) W.heap.size k D rfl q1'.out _ _ rfl hkey ?_; intro z hat hwz; rw [hk3]; clear hat hwz)
            | (gi_at_mapUpdate; refine wpListIn_mapUpdate_own _ rfl _ _ _ 62 rfl 3 3 keyed3 Try.underlying62 (plainElem Try.prog 3) W.heap.size k D rfl q1'.out (by unfold maxLen; omega) _ _ (.int .i64 t) rfl rfl hkey (.lit (.int .i64 ca)) [] (plainElem_int Try.underlying3 (wfI (by omega) (by omega))) ?_; intro w6 hown6 hg6; have hO6 : Only (fun x => some x = some W.heap.size) w1 w6 := (Only.refl _ w1).grown hg6 (fun x hx _ => hx.symm); have hmap := Lib.hid (hput.out w6 hown6); have hj6 := Lib.hid (hJ'.out.same hj1.out (hO6.mono (fun x _ h => by cases h; exact hX1.out))); have hOW := Lib.hid (hO2.out.trans hO6 (fun x hx h => by cases h; exact absurd hx (Nat.lt_irrefl _))); clear hown6 hg6 hO6))
          refine ⟨fun _ h => (by cases h), ?_⟩
          gi_wp2
          go_roundw
          case rel =>
            refine ⟨k + 1, X, by omega, by go_num, ?_, hX1.out, hmap.out, hOW.out⟩
            rw [hfol.out]
            simpa using hj6.out
          case measure => simp [intOf]; omega
        | some z0 =>
          have hz0 := lastAt_bd l t k hla
          rw [hla] at hk2 hk3 hfol
          clear hla
          have hpre := Lib.hid (show folU l k ++ [((⟨a, kd, t, jo, op, c, v⟩ : RecV), ca - z0)] <+: folL l from by
            have := folU_pre l (k := k + 1) (by have := hn'.out; omega)
            rw [hfol.out] at this
            simpa using this)
          have hne := Lib.hid (show ∀ x, ws.heap.size = x → ¬ (some x = some W.heap.size) from fun x hx e => by
            cases e
            have := hsw.out
            omega)
          gi_wp2_with (first
            | (gi_at_lookup; refine wpListIn_lookup_own_ok_int _ rfl _ _ 62 rfl 3 3 .i64 keyed3 Try.underlying62 Try.underlying3 (Try.zeroValue3 _) W.heap.size k D rfl q1'.out _ _ rfl hkey ?_; intro z hat hwz; rw [hk3]; obtain rfl : z = z0 := (by rw [hk2] at hat; simpa using hat.symm); clear hat hwz)
            | (gi_at_mapUpdate; refine wpListIn_mapUpdate_own _ rfl _ _ _ 62 rfl 3 3 keyed3 Try.underlying62 (plainElem Try.prog 3) W.heap.size k D rfl q1'.out (by unfold maxLen; omega) _ _ (.int .i64 t) rfl rfl hkey (.lit (.int .i64 ca)) [] (plainElem_int Try.underlying3 (wfI (by omega) (by omega))) ?_; intro w6 hown6 hg6; have hO6 : Only (fun x => some x = some W.heap.size) w1 w6 := (Only.refl _ w1).grown hg6 (fun x hx _ => hx.symm); have hmap := Lib.hid (hput.out w6 hown6); have hj6 := Lib.hid (hJ'.out.same hj1.out (hO6.mono (fun x _ h => by cases h; exact hX1.out))); have hOW := Lib.hid (hO2.out.trans hO6 (fun x hx h => by cases h; exact absurd hx (Nat.lt_irrefl _))); have e0 := hO6.cell e0 (hne.out _ rfl); have e1 := hO6.cell e1 (hne.out _ rfl); have e2 := hO6.cell e2 (hne.out _ rfl); have e3 := hO6.cell e3 (hne.out _ rfl); have e4 := hO6.cell e4 (hne.out _ rfl); have e5 := hO6.cell e5 (hne.out _ rfl); have e6 := hO6.cell e6 (hne.out _ rfl); obtain ⟨fn, tmps, assign, body, hy, hR⟩ := hY X (folU l k) ((⟨a, kd, t, jo, op, c, v⟩ : RecV), ca - z) w6 hj6.out hpre.out; unfold encF RecV.val at hy; dsimp only at hy; clear hown6 hg6 hO6))
          refine hR.mono ?_
          rintro e W7 (⟨rfl, hJ7, hk7⟩ | ⟨rfl, hJx7, -⟩)
          · have hend := Lib.hid (And.intro hJ7 hk7)
            clear hJ7 hk7
            gi_wp2
            go_roundw
            case rel =>
              refine ⟨k + 1, X, by omega, by go_num, ?_, hX1.out, hmap.out.kept hend.out.2 (fun h => h.2 hX1.out), hOW.out.trans hend.out.2 (fun x _ h => h.1)⟩
              rw [hfol.out]
              exact hend.out.1
            case measure => simp [intOf]; omega
          · have hend := Lib.hid hJx7
            clear hJx7
            gi_wp2
            refine bodyPost_ret (results_none rfl _ _ _) rfl ?_
            exact ⟨⟨_, rfl⟩, .inr ⟨X, _, hpre.out, hend.out⟩⟩
    · obtain rfl : k = n := by omega
      gi_wp2
      go_end0
      refine ⟨⟨_, rfl⟩, .inl ⟨X, ?_⟩⟩
      have := hjj.out.1
      rw [← hn'.out] at this
      exact this
end Go.Proofs.Ythippdgmbfaijaa
