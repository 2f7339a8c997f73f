/- CacheAges' walk. -/
import Derived.Test.YtbjpnjgkpkfngaaInv
import Derived.Maps.Own
import Derived.Maps.OwnSet
import Derived.Maps.Views
namespace Go.Proofs.Ytbjpnjgkpkfngaa
open Go Go.RowKit Go.Maps

theorem keyed5 : Keyed Try.prog 5 := int_keyed Try.underlying5
/-- A map of bytes: just those of ds are there. -/
structure MapAt (w : World) (bm n : Nat) (D : DataW Unit) (ds : List Nat) : Prop where
  owns : w.ownsMap Try.prog 5 (plainElem Try.prog 4) bm n D
  size : Maps.size D = ds.length
  has : ∀ x : Nat, x ≤ 255 → Maps.has D (.int .u8 x) = decide (x ∈ ds)
theorem MapAt.kept {A : Nat → Prop} {w w' : World} {bm n : Nat} {D : DataW Unit} {ds : List Nat} (h : MapAt w bm n D ds) (ho : Only A w w') (hA : ¬ A bm) : MapAt w' bm n D ds := by
  obtain ⟨⟨es, clock, hb, hr⟩, h2, h3⟩ := h
  exact ⟨⟨es, clock, ho.heap hb hA, hr⟩, h2, h3⟩
theorem MapAt.ne {w : World} {bm n r R M S W : Nat} {G : Nat → List Int} {D : DataW Unit} {ds : List Nat} (h : MapAt w bm n D ds) (hC : CacheAt w r R M S W G) : bm ≠ r ∧ bm ≠ R ∧ bm ≠ M := by
  obtain ⟨⟨es, clock, hb, hr⟩, h2, h3⟩ := h
  obtain ⟨L, hL, _⟩ := hC.room
  refine ⟨fun e => ?_, fun e => ?_, fun e => ?_⟩
  · rw [e, hC.root] at hb; simp at hb
  · rw [e, hC.rows] at hb; simp at hb
  · rw [e, hL] at hb; simp at hb
theorem wfB {x : Nat} (hx : x ≤ 255) : (Lit.int .u8 x).wf = true := by
  have h1 : IntKind.u8.min = 0 := by decide
  have h2 : IntKind.u8.max = 255 := by decide
  simp [Lit.wf, h1, h2]
  omega
theorem isKeyB (x : Int) : WideAt.IsKeyLit (.int .u8 x) := by simp [WideAt.IsKeyLit]
theorem map_step {w w' : World} {bm n : Nat} {D : DataW Unit} {ds : List Nat} (h : MapAt w bm n D ds) (b : Nat) (hb : b ≤ 255) (ho : w'.ownsMap Try.prog 5 (plainElem Try.prog 4) bm (n + 1) (D.put (.int .u8 b) (.lit (.bool true)))) :
    MapAt w' bm (n + 1) (D.put (.int .u8 b) (.lit (.bool true))) (addD ds b) := by
  have ht := h.owns.tidy keyed5
  refine ⟨ho, ?_, fun x hx => ?_⟩
  · rw [size_put ht, h.has b hb, h.size]
    unfold addD
    by_cases hd : b ∈ ds
    · rw [if_pos hd]
      simp [hd]
    · rw [if_neg hd]
      simp [hd]
  · by_cases hxb : x = b
    · subst hxb
      rw [has_put_same ht.isMap (isKeyB _)]
      unfold addD
      split <;> simp_all
    · rw [has_put_other (by intro e; cases e; exact hxb rfl), h.has x hx]
      unfold addD
      split
      · rfl
      · simp [hxb]

def InvIf (ag : Bool) (W : Nat) (b0 : Int) (g : List Int) (ds : List Nat) : Prop := ag = false → Inv W b0 g ds
structure RelA (w : World) (r R M S W bm blk : Nat) (k n : Nat) (D : DataW Unit) (ds : List Nat) (G : Nat → List Int) (ag : Bool) (wr : World) : Prop where
  c : CacheAt wr r R M S W G
  rows : Rows S W G
  inv : InvIf ag W blk (G (blk % S)) ds
  map : MapAt wr bm n D ds
  nk : n ≤ k
  only : Only (fun _ => False) w wr

theorem RelA.new {w : World} {r R M S W bm blk k n : Nat} {D : DataW Unit} {ds : List Nat} {G : Nat → List Int} {ag : Bool} {wr w' : World} (h : RelA w r R M S W bm blk k n D ds G ag wr) (ho : Only (fun _ => False) wr w') : RelA w r R M S W bm blk k n D ds G ag w' :=
  ⟨h.c.new ho, h.rows, h.inv, h.map.kept ho (fun h => h), h.nk, h.only.trans' ho⟩
theorem step_other {S W b s : Nat} {G : Nat → List Int} (h : b % S ≠ s) : stepG S W G b s = G s := by
  unfold stepG upd
  rw [if_neg (fun e => h e.symm)]
theorem step_same {S W b s : Nat} {G : Nat → List Int} (h : b % S = s) : stepG S W G b s = acc W (G s) b := by
  unfold stepG upd
  rw [if_pos h.symm, h]

set_option maxRecDepth 100000 in
set_option maxHeartbeats 2000000 in
theorem ages_walk {w : World} (a0 a1 blk : Nat) (h0 : a0 ≤ 255) (h1 : a1 ≤ 255) (hbk : blk ≤ 255) {A B : Option Addr} {n m c1 c2 : Nat} {ls ms : List Nat} (hl : ByteRow w A n ls) (hm : ByteRow w B m ms) :
    Calls Try.prog 3 #[.int .u8 a0, .int .u8 a1, .slice A n c1, .int .u8 blk, .slice B m c2] w (GrowB true w) := by
  have hl' := Lib.hid hl
  have hm' := Lib.hid hm
  have q0 := Lib.hid (fun W0 => fixed_any W0)
  obtain ⟨S, hS⟩ : ∃ S, S = 1 + a0 % 16 := ⟨_, rfl⟩
  obtain ⟨W, hW⟩ : ∃ W, W = 1 + a1 % 4 := ⟨_, rfl⟩
  have q1 := Lib.hid (fun W0 => new_any W0 S W (by omega) (by omega))
  have rS : 1 + (a0 : Int) % 16 = (S : Int) := by omega
  have rW : 1 + (a1 : Int) % 4 = (W : Int) := by omega
  have hS1 : 1 ≤ S := by omega
  have hW1 : 1 ≤ W := by omega
  have hW4 : W ≤ 4 := by omega
  have hS16 : S ≤ 16 := by omega
  clear hl hm hS hW
  by_cases hn : n ≤ 100
  · by_cases hmm : m ≤ 100
    · have hn' : ¬ (100 : Int) < (n : Int) := by omega
      have hmm' : ¬ (100 : Int) < (m : Int) := by omega
      go_enter Try.func3, Try.ntmps3
      go_wp2_with fail
      refine (q0.out _).mono ?_
      rintro e w1 ⟨rfl, hO1⟩
      have hO1' := Lib.hid hO1
      clear hO1
      go_wp2_with fail
      refine (q1.out _).mono ?_
      rintro e w2 ⟨r, R, M, rfl, g1, g2, g3, hC, hO2⟩
      have hO2' := Lib.hid (hO1'.out.trans' hO2)
      have hov := Lib.hid (show Over w.heap.size r R M from by have := hO1'.out.size; exact ⟨by omega, by omega, by omega⟩)
      have hC' := Lib.hid hC
      clear hC hO2 g1 g2 g3 hO1' q0 q1
      go_wp2
      go_loopw [45] (fun i wr => ∃ k : Nat, k ≤ n ∧ i = .int .i64 k ∧ Hid (Rel1 w r R M S W ls k wr)) (fun i _ => n - (intOf i).toNat)
      case atStart => exact ⟨0, Nat.zero_le _, rfl, Lib.hid ⟨hC'.out, hO2'.out⟩⟩
      case round =>
        clear hC' hO2'
        obtain ⟨k, hk, rfl, hR⟩ := hrel
        obtain ⟨ws, hws⟩ : ∃ ws : World, ws = wr := ⟨_, rfl⟩
        subst hws
        by_cases hkn : k < n
        · have hkn' : (k : Int) < (n : Int) := by omega
          obtain ⟨b, hb⟩ : ∃ b, ls[k]? = some b := ⟨_, List.getElem?_eq_getElem (by have := hl'.out.len; omega)⟩
          obtain ⟨bb, off, hA, hbb, c0⟩ := (hl'.out.new hR.out.2).row k b hb
          subst hA
          have hbt := hl'.out.top b (List.mem_of_getElem? hb)
          have qa := Lib.hid (access_any hR.out.1 b hbt)
          have hb' := Lib.hid hb
          clear hb
          go_wp2_with fail
          refine qa.out.mono ?_
          rintro e w3 ⟨rfl, hC, hO⟩
          have hE := Lib.hid (show Rel1 w r R M S W ls (k + 1) w3 from ⟨by rw [List.take_add_one, hb'.out]; simp only [Option.toList]; rw [runG_snoc]; exact hC, hov.out.only hR.out.2 hO⟩)
          clear hC hO
          go_wp2
          go_roundw
          case rel => exact ⟨k + 1, by omega, by go_num, hE⟩
          case measure => simp [intOf]; omega
        · obtain rfl : k = n := by omega
          have hG0 := Lib.hid (show Rows S W (runG S W (fun _ => []) (ls.take k)) from Rows.run _ (fun i _ => List.nodup_nil))
          have hlen := Lib.hid hR.out.1.len
          have qa := Lib.hid (access_any hR.out.1 blk hbk)
          go_wp2_with fail
          refine qa.out.mono ?_
          rintro e w3 ⟨rfl, hC, hO⟩
          have hst := Lib.hid (show ∀ bm, bm = w3.heap.size → RelA w r R M S W bm blk 0 0 (.map []) [] (stepG S W (runG S W (fun _ => []) (ls.take k)) blk) false (w3.alloc (.map #[] 0)) from fun bm hbm => by
            subst hbm
            refine ⟨hC.new ((Only.refl _ w3).alloc _), hG0.out.step blk, fun _ => ?_, ⟨World.ownsMap_made _ _ _ _, rfl, fun x _ => by simp [Maps.has]⟩, Nat.le_refl _, (hov.out.only hR.out.2 hO).alloc _⟩
            have hlt : blk % S < S := Nat.mod_lt _ (by omega)
            unfold stepG upd
            rw [if_pos rfl]
            exact Inv.start hW1 (hG0.out _ hlt) (hlen.out _ hlt))
          have hsz := Lib.hid (show w.heap.size ≤ w3.heap.size from (hov.out.only hR.out.2 hO).size)
          clear hC hO qa hG0 hlen
          have hmk := @run_makeMap Try.prog
          go_wp2
          obtain ⟨bm, hbm⟩ : ∃ bm, bm = w3.heap.size := ⟨_, rfl⟩
          have hst2 := Lib.hid (hst.out bm hbm)
          have hbw := Lib.hid (show w.heap.size ≤ bm from by have := hsz.out; omega)
          rw [← hbm]
          generalize World.alloc w3 _ = W4 at hst2 ⊢
          clear hst hbm hmk
          generalize stepG S W (runG S W (fun _ => []) (ls.take k)) blk = G4 at hst2
          go_loopw [17, 61] (fun g i wr => ∃ (k n : Nat) (D : DataW Unit) (ds : List Nat) (G : Nat → List Int) (ag : Bool), k ≤ m ∧ i = .int .i64 k ∧ g = .bool ag ∧ Hid (RelA w r R M S W bm blk k n D ds G ag wr)) (fun _ i _ => m - (intOf i).toNat)
          case atStart => exact ⟨0, 0, .map [], [], G4, false, Nat.zero_le _, rfl, rfl, hst2⟩
          case round =>
            clear hst2
            obtain ⟨k, nn, D, ds, G, ag, hk, rfl, rfl, hR⟩ := hrel
            obtain ⟨ws2, hws⟩ : ∃ ws : World, ws = wr := ⟨_, rfl⟩
            subst hws
            by_cases hkm : k < m
            · have hkm' : (k : Int) < (m : Int) := by omega
              obtain ⟨b, hb⟩ : ∃ b, ms[k]? = some b := ⟨_, List.getElem?_eq_getElem (by have := hm'.out.len; omega)⟩
              obtain ⟨bb, off, hA, hbb, c0⟩ := (hm'.out.new hR.out.only).row k b hb
              subst hA
              have hbt := hm'.out.top b (List.mem_of_getElem? hb)
              have qa := Lib.hid (access_any hR.out.c b hbt)
              have hne := Lib.hid (hR.out.map.ne hR.out.c)
              clear hb
              have hstep := Lib.hid (show ∀ w5, CacheAt w5 r R M S W (stepG S W G b) → Only (fun k => k = R ∨ k = M) ws2 w5 → (MapAt w5 bm nn D ds ∧ Only (fun _ => False) w w5) from fun w5 h5 ho5 =>
                ⟨hR.out.map.kept ho5 (fun e => by have := hne.out; rcases e with e | e <;> omega), hov.out.only hR.out.only ho5⟩)
              by_cases hbe : b = blk
              · have e1 : ((b : Int) == (blk : Int)) = true := by simp [hbe]
                have e2 : ((b : Int) != (blk : Int)) = false := by simp [hbe]
                clear hbe
                cases ag
                all_goals
                  go_wp2_with fail
                  refine qa.out.mono ?_
                  rintro e w5 ⟨rfl, hC5, hO5⟩
                  have hE := Lib.hid (show RelA w r R M S W bm blk (k + 1) nn D ds (stepG S W G b) true w5 from ⟨hC5, hR.out.rows.step b, (fun h => by cases h), (hstep.out w5 hC5 hO5).1, by have := hR.out.nk; omega, (hstep.out w5 hC5 hO5).2⟩)
                  have hex := wd_ex w5
                  clear hC5 hO5
                  go_wp2
                  refine wp_region_wd (by kernel_rfl) (by kernel_rfl) ?_
                  repeat (go_big_quiet_step (fail))
                  refine wpQuiet_nil ?_
                  rintro _ ⟨v, rfl⟩
                  have hE2 := Lib.hid (hE.out.new v.ok)
                  clear hex
                  go_wp2
                  go_roundw
                  case rel => exact ⟨k + 1, nn, D, ds, stepG S W G b, true, by omega, by go_num, rfl, hE2⟩
                  case measure => simp [intOf]; omega
              · have e1 : ((b : Int) == (blk : Int)) = false := by simpa using (show ¬ (b : Int) = blk by omega)
                have e2 : ((b : Int) != (blk : Int)) = true := by simpa using (show ¬ (b : Int) = blk by omega)
                by_cases hmod : b % S = blk % S
                · have e3 : ((b : Int) % (S : Int) == (blk : Int) % (S : Int)) = true := by
                    rw [beq_iff_eq]
                    omega
                  have hinv := Lib.hid (show InvIf ag W blk (stepG S W G b (blk % S)) (addD ds b) from fun h => by
                    have hi := hR.out.inv
                    unfold InvIf at hi
                    rw [step_same hmod]
                    exact (hi h).step hW1 hbe)
                  clear hbe hmod
                  cases ag
                  all_goals
                    go_wp2_with fail
                    refine qa.out.mono ?_
                    rintro e w5 ⟨rfl, hC5, hO5⟩
                    have hE := Lib.hid (And.intro hC5 (And.intro (hstep.out w5 hC5 hO5).1 (hstep.out w5 hC5 hO5).2))
                    have hex := wd_ex w5
                    clear hC5 hO5
                    go_wp2
                    refine wp_region_wd (by kernel_rfl) (by kernel_rfl) ?_
                    repeat (go_big_quiet_step (fail))
                    refine wpQuiet_nil ?_
                    rintro _ ⟨v, rfl⟩
                    have hown := Lib.hid (hE.out.2.1.kept v.ok (fun h => h))
                    have hnk := hR.out.nk
                    clear hex
                    go_wp2_with (at_mapUpdate; refine wpList_mapUpdate_own _ rfl _ _ _ 29 rfl 5 4 keyed5 Try.underlying29 (plainElem Try.prog 4) bm nn D rfl hown.out.owns (by unfold maxLen; omega) _ _ (.int .u8 b) rfl rfl (keyOf_int_mk Try.underlying5 (wfB hbt)) (.lit (.bool true)) [] (plainElem_bool Try.underlying4 true) ?_; intro w6 hown6 hg6)
                    have hO6 : Only (fun x => some x = some bm) v.W w6 := (Only.refl _ v.W).grown hg6 (fun x hx _ => hx.symm)
                    have hE2 := Lib.hid (show RelA w r R M S W bm blk (k + 1) (nn + 1) (D.put (.int .u8 b) (.lit (.bool true))) (addD ds b) (stepG S W G b) _ w6 from
                      ⟨(hE.out.1.new v.ok).kept hO6 (fun e => hne.out.1 (Option.some.inj e).symm) (fun e => hne.out.2.1 (Option.some.inj e).symm) (fun e => hne.out.2.2 (Option.some.inj e).symm), hR.out.rows.step b, hinv.out, map_step hown.out b hbt hown6, by omega, (hE.out.2.2.trans' v.ok).trans hO6 (fun x hx e => by have := hbw.out; have := Option.some.inj e; omega)⟩)
                    clear hown6 hg6 hO6
                    go_wp2
                    go_roundw
                    case rel => exact ⟨k + 1, nn + 1, D.put (.int .u8 b) (.lit (.bool true)), addD ds b, stepG S W G b, _, by omega, by go_num, rfl, hE2⟩
                    case measure => simp [intOf]; omega
                · have e3 : ((b : Int) % (S : Int) == (blk : Int) % (S : Int)) = false := by
                    rw [beq_eq_false_iff_ne]
                    omega
                  have hinv := Lib.hid (show InvIf ag W blk (stepG S W G b (blk % S)) ds from by
                    have hi := hR.out.inv
                    rw [step_other hmod]
                    exact hi)
                  clear hbe hmod
                  cases ag
                  all_goals
                    go_wp2_with fail
                    refine qa.out.mono ?_
                    rintro e w5 ⟨rfl, hC5, hO5⟩
                    have hE := Lib.hid (show RelA w r R M S W bm blk (k + 1) nn D ds (stepG S W G b) _ w5 from ⟨hC5, hR.out.rows.step b, hinv.out, (hstep.out w5 hC5 hO5).1, by have := hR.out.nk; omega, (hstep.out w5 hC5 hO5).2⟩)
                    have hex := wd_ex w5
                    clear hC5 hO5
                    go_wp2
                    refine wp_region_wd (by kernel_rfl) (by kernel_rfl) ?_
                    repeat (go_big_quiet_step (fail))
                    refine wpQuiet_nil ?_
                    rintro _ ⟨v, rfl⟩
                    have hE2 := Lib.hid (hE.out.new v.ok)
                    clear hex
                    go_wp2
                    go_roundw
                    case rel => exact ⟨k + 1, nn, D, ds, stepG S W G b, _, by omega, by go_num, rfl, hE2⟩
                    case measure => simp [intOf]; omega
            · obtain rfl : k = m := by omega
              cases ag with
              | true =>
                go_wp2
                go_ret
                exact ⟨rfl, hR.out.only⟩
              | false =>
                have hi := hR.out.inv
                unfold InvIf at hi
                have hhit := (hi rfl).hit
                clear hi
                have qa := Lib.hid (access_any hR.out.c blk hbk)
                have hne := Lib.hid (hR.out.map.ne hR.out.c)
                unfold AccEnd at qa
                rw [hhit] at qa
                have hml := Lib.hid (show ∀ w5, Only (fun k => k = R ∨ k = M) ws2 w5 → Sem.run Try.prog (Builtin.len_ #[29] 3 #[.map (some bm)]) w5 = .ok (.int .i64 (ds.length : Nat)) w5 from fun w5 ho => by
                  have h := hR.out.map.kept ho (fun e => by have := hne.out; rcases e with e | e <;> omega)
                  have := h.owns.len Try.underlying29 3
                  rw [h.size] at this
                  exact this)
                obtain ⟨d, hd⟩ : ∃ d, d = ds.length := ⟨_, rfl⟩
                rw [← hd] at qa hml
                clear hhit hd
                by_cases hdW : d < W
                · have hdW' : (d : Int) < (W : Int) := by omega
                  rw [decide_eq_true hdW] at qa
                  go_wp2_with fail
                  refine qa.out.mono ?_
                  rintro e w5 ⟨rfl, hC5, hO5⟩
                  have hlen := hml.out w5 hO5
                  have hO5' := Lib.hid (hov.out.only hR.out.only hO5)
                  clear hC5 hO5
                  go_wp2
                  go_ret
                  exact ⟨rfl, hO5'.out⟩
                · have hdW' : ¬ (d : Int) < (W : Int) := by omega
                  rw [decide_eq_false hdW] at qa
                  go_wp2_with fail
                  refine qa.out.mono ?_
                  rintro e w5 ⟨rfl, hC5, hO5⟩
                  have hlen := hml.out w5 hO5
                  have hO5' := Lib.hid (hov.out.only hR.out.only hO5)
                  clear hC5 hO5
                  go_wp2
                  go_ret
                  exact ⟨rfl, hO5'.out⟩
    · have hmm' : (100 : Int) < (m : Int) := by omega
      have hn' : ¬ (100 : Int) < (n : Int) := by omega
      go_enter Try.func3, Try.ntmps3
      go_wp2_with fail
      refine (q0.out _).mono ?_
      rintro e w1 ⟨rfl, hO1⟩
      have hO1' := Lib.hid hO1
      clear hO1
      go_wp2
      go_ret
      exact ⟨rfl, hO1'.out⟩
  · have hn' : (100 : Int) < (n : Int) := by omega
    go_enter Try.func3, Try.ntmps3
    go_wp2_with fail
    refine (q0.out _).mono ?_
    rintro e w1 ⟨rfl, hO1⟩
    have hO1' := Lib.hid hO1
    clear hO1
    go_wp2
    go_ret
    exact ⟨rfl, hO1'.out⟩
end Go.Proofs.Ytbjpnjgkpkfngaa
