/- chain: best. -/
import Derived.Test.YtdoimkmhincmmaaBcMpl
namespace Go.Proofs.Ytdoimkmhincmmaa
namespace Bch
open Go Go.RowKit Go.Maps Go.Shelf
attribute [local go_sem] Oper.semAt_some
theorem pick_snoc (H : Nat → Bool) (D : Nat → Int) (x : Nat) : ∀ (l : List Nat) (f : Option Nat), Chn.pick H D (l ++ [x]) f = (if H x = true ∧ Chn.dO D (Chn.pick H D l f) ≤ D x then some x else Chn.pick H D l f)
  | [], _ => rfl
  | _ :: l, _ => pick_snoc H D x l _
theorem pick_mem (H : Nat → Bool) (D : Nat → Int) : ∀ (l : List Nat) (f : Option Nat) (k : Nat), Chn.pick H D l f = some k → f = some k ∨ k ∈ l
  | [], _, k, h => .inl h
  | t :: l, _, k, h => by
    rcases pick_mem H D l _ k h with h1 | h1
    · split at h1
      · cases h1; exact .inr (by simp)
      · exact .inl h1
    · exact .inr (by simp [h1])
theorem ordL_lt {ts : List TaskV} {x : Nat} (h : x ∈ ordL ts) : x < ts.length ∧ ts.length ≤ 12 := by
  unfold ordL at h
  split at h
  · next hr => exact ⟨order_lt h, (of_decide_eq_true hr).1⟩
  · simp at h
theorem ordL_len (ts : List TaskV) : (ordL ts).length ≤ 12 := by
  unfold ordL
  split
  · next hr => rw [order_length]; exact (of_decide_eq_true hr).1
  · simp
theorem field0 (a b : Int) (w : World) : Sem.run Try.prog (Instr.field 62 (.agg #[.int .i64 a, .int .i64 b]) 0) w = .ok (.int .i64 a) w := by kernel_rfl
theorem field1 (a b : Int) (w : World) : Sem.run Try.prog (Instr.field 62 (.agg #[.int .i64 a, .int .i64 b]) 1) w = .ok (.int .i64 b) w := by kernel_rfl
/-- Between two rounds: who is picked so far, in its box. -/
def BI (w4 : World) (q3 : Nat) (H : Nat → Bool) (D : Nat → Int) (X : Nat → Prop) (pre : List Nat) (W : World) : Prop :=
  W.heap[q3]? = some (.cells [Value.int .i64 (optZ (Chn.pick H D pre none))].toArray 3 (0, 0)) ∧ ¬ X q3 ∧ (∀ k, X k → w4.heap.size ≤ k) ∧ Only (fun k => k = q3) w4 W
theorem BI.steady {w4 : World} {q3 : Nat} {H : Nat → Bool} {D : Nat → Int} : Steady (BI w4 q3 H D) := by
  refine ⟨fun {X pre A C} h ho => ?_, fun {X X' pre A} hX h => ?_⟩
  · obtain ⟨h1, h2, h3, h4⟩ := h
    have hl := row_lt h1
    have := h4.size
    refine ⟨ho.heap h1 h2, fun hx => ?_, fun k hk => ?_, h4.trans ho (fun x hx h => by have := h3 x h; omega)⟩
    · rcases hx with hx | hx
      · exact h2 hx
      · omega
    · rcases hk with hk | hk
      · exact h3 k hk
      · omega
  · obtain ⟨h1, h2, h3, h4⟩ := h
    exact ⟨h1, fun hx => h2 (hX _ hx), fun k hk => h3 k (hX k hk), h4⟩
set_option maxRecDepth 100000 in
set_option maxHeartbeats 4000000 in
theorem best_any {w : World} {c : ConfV} {ts : List TaskV} (hT : TasksAt w c.ta ts) (hn : c.ta.n ≤ 9223372036854775807) {b m : Nat} {g : Int → Int × Int} (hM : MapL w b m g) {hf : Nat} {hcap : Array Value} (eg : ∀ args w, (callFunc hf args).run Try.prog w = .ok (.enter hf args) w) {H : Nat → Bool}
    (hH : ∀ W, Only (fun _ => False) w W → ∀ i, i < ts.length → Calls Try.prog hf (#[.int .i64 (i : Int)] ++ hcap) W (GrowB (H i) W)) {D : Nat → Int} (hD : ∀ f : Option Nat, (g (optZ f)).1 = Chn.dO D f) :
    Calls Try.prog 59 #[c.val, .map (some b), .func (.func hf) #[] hcap] w (GrowI (optZ (Chn.pick H D (ordL ts) none)) w) := by
  obtain ⟨q, hq⟩ : ∃ q, q = w.heap.size := ⟨_, rfl⟩
  obtain ⟨W4, hW4⟩ : ∃ W4, W4 = (((w.alloc (.cells c.cells.toArray 27)).alloc (.cells #[.map (some b)] 58)).alloc (.cells #[.func (.func hf) #[] hcap] 66)).alloc (.cells #[.int .i64 (-1)] 3) := ⟨_, rfl⟩
  have hO4 : Only (fun _ => False) w W4 := by rw [hW4]; exact ((((Only.refl _ w).alloc _).alloc _).alloc _).alloc _
  have hs4 : W4.heap.size = q + 4 := by rw [hW4, hq]; simp
  have k0 : W4.heap[q]? = some (.cells c.cells.toArray 27 (0, 0)) := by rw [hW4]; exact heap_kept_alloc (heap_kept_alloc (heap_kept_alloc (heap_new_at _ _ hq.symm) _) _) _
  have k1 : W4.heap[q + 1]? = some (.cells [Value.map (some b)].toArray 58 (0, 0)) := by rw [hW4]; exact heap_kept_alloc (heap_kept_alloc (heap_new_at _ _ (by simp [hq])) _) _
  have k2 : W4.heap[q + 1 + 1]? = some (.cells [Value.func (.func hf) #[] hcap].toArray 66 (0, 0)) := by rw [hW4]; exact heap_kept_alloc (heap_new_at _ _ (by simp [hq])) _
  have k3 : W4.heap[q + 1 + 1 + 1]? = some (.cells [Value.int .i64 (-1)].toArray 3 (0, 0)) := by rw [hW4]; exact heap_new_at _ _ (by simp [hq])
  have hbl := hM.lt
  have hbox := Lib.hid (fun W (ho : Only (fun k => k = q + 1 + 1 + 1) W4 W) => show W.cell? ⟨q + 1, 0, none⟩ = some (.map (some b)) ∧ W.cell? ⟨q + 1 + 1, 0, none⟩ = some (.func (.func hf) #[] hcap) ∧ q + 1 + 1 < W.heap.size ∧ MapL W b m g ∧ Only (fun _ => False) w W from
    ⟨row_cell (ho.heap k1 (by omega)) (i := 0) rfl, row_cell (ho.heap k2 (by omega)) (i := 0) rfl, row_lt (ho.heap k2 (by omega)), (hM.kept hO4 (fun h => h)).kept ho (by omega), hO4.trans ho (fun x hx e => by omega)⟩)
  have hdw := Lib.hid (downward_any (hT.new hO4) hn)
  have d0 := row_cell k0 (i := 0) rfl
  have d1 := row_cell k0 (i := 1) rfl
  have d2 := row_cell k0 (i := 2) rfl
  have d3 := row_cell k0 (i := 3) rfl
  have d4 := row_cell k0 (i := 4) rfl
  have d5 := row_cell k0 (i := 5) rfl
  have d6 := row_cell k0 (i := 6) rfl
  have d7 := row_cell k0 (i := 7) rfl
  have d8 := row_cell k0 (i := 8) rfl
  have d9 := row_cell k0 (i := 9) rfl
  have hH' := Lib.hid hH
  have hD' := Lib.hid hD
  have hk3' := Lib.hid k3
  have hO4' := Lib.hid hO4
  have hs4' := Lib.hid hs4
  have hq' := Lib.hid hq
  have hlt := Lib.hid (fun x (h : x ∈ ordL ts) => ordL_lt h)
  have hll := ordL_len ts
  obtain ⟨L, hL⟩ : ∃ L, L = ordL ts := ⟨_, rfl⟩
  rw [← hL] at hdw hlt hll ⊢
  unfold ConfV.val at hdw ⊢
  unfold ConfV.cells at *
  have hW4' := Lib.hid hW4
  clear hT hn hM hH hD k0 k1 k2 k3 hO4 hs4 hW4 hL hq hbl
  obtain ⟨Z, hZ⟩ : ∃ Z, Z = GrowI (optZ (Chn.pick H D L none)) w := ⟨_, rfl⟩
  rw [← hZ]
  have hZ' := Lib.hid hZ
  clear hZ
  refine callsIn_wide (n := 3) |>.1 ?_
  refine callsIn_of_wp_marks Try.func59 rfl trivial ?_ rfl
  simp only [Try.ntmps59, List.size_toArray, List.length_cons, List.length_nil, Nat.reduceAdd, Nat.reduceSub, Array.replicate_succ, Array.replicate_zero, List.push_toArray, List.append_toArray, List.nil_append, List.cons_append]
  gi_wp2_with fail
  rw [← hq'.out]
  rw [← hW4'.out]
  refine ⟨trivial, (callsIn_wide.2 hdw.out).mono ?_⟩
  rintro e W5 ⟨Y, A, cap, h, rfl, hYb, hWin, hYge, hhge, hO5⟩
  obtain ⟨n, hn⟩ : ∃ n, n = L.length := ⟨_, rfl⟩
  rw [← hn] at hYb hWin hll
  have hit := Lib.hid (seq_iter (cap := cap) (A := A) (row_cell hYb (i := 0) rfl) hWin hn.symm (by omega))
  have hRD : ∀ k, RDs Y h k → k < W5.heap.size ∧ q + 4 ≤ k := fun k hk => by
    have := hs4'.out
    rcases hk with rfl | hk
    · exact ⟨row_lt hYb, by omega⟩
    · exact ⟨hWin.lt k hk, by have := hhge k hk; omega⟩
  have hRD' := Lib.hid hRD
  have k3 := hO5.heap hk3'.out (fun h => h)
  have hO5' := Lib.hid hO5
  have hsz5 := hO5.size
  clear hYb hWin hYge hhge hn hRD hdw d0 d1 d2 d3 d4 d5 d6 d7 d8 d9 hO5
  gi_wp2
  refine wpIn_range rfl (enters_of Try.func76 (by kernel_rfl) rfl) hit.out (Only.refl _ W5) (fun k hk => (hRD'.out k hk).1) (fun _ => rfl)
    (BI W4 (q + 1 + 1 + 1) H D) (fun _ _ _ _ => False) BI.steady (fun _ => ⟨fun h _ => h, fun _ h => h⟩) ⟨k3, fun h => h, fun k hk => hk.elim, hO5'.out.mono (fun _ _ h => h.elim)⟩ ?round ?done ?stop
  case round =>
    intro l1 DD X pre x W6 hl1 hDD hXl hXD hl1' hDz hI hpre
    unfold encN
    gi_wp2
    refine ⟨Only.refl _ _, fun W7 hO7 hI7 => ?_⟩
    obtain ⟨g1, g2, g3, g4⟩ := hI7
    have hxL : x ∈ L := (List.IsPrefix.subset hpre) (by simp)
    obtain ⟨hxn, hx12⟩ := hlt.out x hxL
    obtain ⟨b1, b2, b3, b4, b5⟩ := hbox.out W7 g4
    have hcall := Lib.hid (hH'.out W7 b5 x hxn)
    have hx := Lib.hid (And.intro g1 (And.intro g2 (And.intro g3 g4)))
    have hsn := pick_snoc H D x pre none
    have hfm := Lib.hid (fun k (hk : Chn.pick H D pre none = some k) => show k < ts.length from by
      rcases pick_mem H D pre none k hk with h | h
      · cases h
      · exact (hlt.out k ((List.IsPrefix.subset hpre) (by simp [h]))).1)
    obtain ⟨f, hf⟩ : ∃ f, f = Chn.pick H D pre none := ⟨_, rfl⟩
    rw [← hf] at hsn hfm hx
    have hf' := Lib.hid hf
    obtain ⟨B, hB⟩ : ∃ B, B = H x := ⟨_, rfl⟩
    rw [← hB] at hcall hsn
    have hsn' := Lib.hid hsn
    have hx12' := Lib.hid (And.intro hxn hx12)
    clear hI hO7 g1 g2 g3 g4 b4 b5 hf hB hsn hxL hpre hxn hx12
    gi_wp2_with fail
    refine ⟨trivial, CallsIn.inRound l1 ((callsIn_wide.2 hcall.out).mono ?_)⟩
    rintro e W8 ⟨rfl, ho8⟩
    obtain ⟨g1, g2, g3, g4⟩ := hx.out
    have hO8 := Lib.hid ho8
    have g18 := ho8.heap g1 (fun h => h)
    have g48 := g4.trans ho8 (fun _ _ h => h.elim)
    obtain ⟨b1, b2, b3, b4, b5⟩ := hbox.out W8 g48
    have hb4 := Lib.hid b4
    have hx8 := Lib.hid (And.intro g18 g48)
    have hRX := Lib.hid (show ¬ RDs Y h (q + 1 + 1 + 1) ∧ ¬ X (q + 1 + 1 + 1) from ⟨fun hr => by have := (hRD'.out _ hr).2; omega, g2⟩)
    have c3 := row_cell g18 (i := 0) rfl
    have f3 := row_free g18 0
    have l3 := row_lt g18
    have hXX := Lib.hid g3
    clear ho8 g1 g2 g3 g4 g18 g48 b4 b5
    have hdone := Lib.hid (fun (hp : Chn.pick H D (pre ++ [x]) none = f) => show roundEnd (RDs Y h) X l1 DD (BI W4 (q + 1 + 1 + 1) H D) (fun _ _ _ _ => False) (pre ++ [x]) W7 .normal ⟨#[], []⟩ W8 from
      ⟨hO8.out.mono (fun _ _ h => h.elim), by rw [hp]; exact hx8.out.1, hRX.out.2, hXX.out, hx8.out.2⟩)
    cases B
    · have hp : Chn.pick H D (pre ++ [x]) none = f := by rw [hsn'.out, if_neg (by simp)]
      have hd := Lib.hid (hdone.out hp)
      clear hp
      gi_wp2
      exact hd.out
    · have hxb : (x : Int) ≤ 12 := by have := hx12'.out; omega
      have lk1 := hb4.out.look (t := (x : Int)) (by omega) (by omega)
      have hfz : -1 ≤ optZ f ∧ optZ f ≤ 12 := by
        cases hff : f with
        | none => exact ⟨by decide, by decide⟩
        | some k =>
          have := hfm.out k hff
          have := hx12'.out
          show -1 ≤ (k : Int) ∧ (k : Int) ≤ 12
          omega
      have lk2 := hb4.out.look (t := optZ f) (by omega) (by omega)
      unfold linkV at lk1 lk2
      have e1 := hD'.out (some x)
      have e2 := hD'.out f
      obtain ⟨gx, hgx⟩ : ∃ gx, gx = g (x : Int) := ⟨_, rfl⟩
      obtain ⟨gf, hgf⟩ : ∃ gf, gf = g (optZ f) := ⟨_, rfl⟩
      rw [← hgx] at lk1
      rw [← hgf] at lk2 e2
      rw [show optZ (some x) = (x : Int) from rfl, ← hgx] at e1
      obtain ⟨zf, hzf⟩ : ∃ zf, zf = optZ f := ⟨_, rfl⟩
      rw [← hzf] at lk2 c3
      have he := Lib.hid (And.intro e1 e2)
      have hzf' := Lib.hid hzf
      clear hgx hgf hfz e1 e2 hzf
      obtain ⟨gx1, gx2⟩ := gx
      obtain ⟨gf1, gf2⟩ := gf
      dsimp only at lk1 lk2 he
      have fl0 := field0
      by_cases hge : gf1 ≤ gx1
      · have hp := Lib.hid (show Chn.pick H D (pre ++ [x]) none = some x by rw [hsn'.out, if_pos ⟨rfl, by rw [← he.out.2]; have := he.out.1; simp only [Chn.dO] at this; omega⟩])
        gi_wp2
        have ho9 : Only (fun k => k = q + 1 + 1 + 1) W8 (W8.setCell ⟨q + 1 + 1 + 1, 0, none⟩ (.int .i64 (x : Int))) := (Only.refl (fun k => k = q + 1 + 1 + 1) W8).setCell (p := ⟨q + 1 + 1 + 1, 0, none⟩) (fun _ => rfl) _
        refine ⟨(hO8.out.mono (fun _ _ h => h.elim)).trans ho9 (fun k _ e => by rw [e]; exact hRX.out), ?_, hRX.out.2, hXX.out, hx8.out.2.trans' ho9⟩
        rw [hp.out]
        exact row_set hx8.out.1 0 _
      · have hp : Chn.pick H D (pre ++ [x]) none = f := by
          rw [hsn'.out, if_neg]
          rintro ⟨-, h2⟩
          rw [← he.out.2] at h2
          have := he.out.1
          simp only [Chn.dO] at this
          omega
        have hd := Lib.hid (hdone.out hp)
        clear hp
        gi_wp2
        exact hd.out
  case done =>
    intro DD X W6 hD hXD hI hK
    obtain ⟨g1, g2, g3, g4⟩ := hI
    have c3 := row_cell g1 (i := 0) rfl
    have l3 := row_lt g1
    have hfin := Lib.hid (show Z (.returned (.int .i64 (optZ (Chn.pick H D L none)))) (W6.putObj DD (.deferred none)) from by
      rw [hZ'.out]
      refine ⟨rfl, (hO4'.out.trans g4 (fun x hx e => by have := hq'.out; omega)).lay (fun hd => by have := g3 DD hXD; have := hs4'.out; have := hq'.out; omega) _⟩)
    clear g1 g2 g3 g4
    gi_wp2
    refine ⟨by simp, .inl ⟨_, _, rfl, run_takeDeferred hK, ?_⟩⟩
    refine ⟨_, results_tmp rfl _ _ _, ?_⟩
    exact hfin.out
  case stop =>
    intro _ _ _ _ _ _ _ _ h
    exact h.elim
end Bch
end Go.Proofs.Ytdoimkmhincmmaa
