/- Merged: TailIn BcLnk BcChf BcBnd. -/
import Derived.Test.YtlbinlhaejhobaaGreatDoorPA
import Derived.RangeFuncCalls
import Derived.Deep.Quiet
import Derived.OrdersIn
import Derived.TacticsIn
import Derived.OrdersHeld
import Derived.Deep.RegionHeldLaw
import Derived.Test.YtlbinlhaejhobaaGreatDoorPM
/- The theorem of the text named Tail within a round of a loop over a function: the fence is the wide one, in a round. Speaks of no program. -/
namespace Go.Proofs.YtlbinlhaejhobaaGreatDoor
open Go

section
variable {P : Program} {ops : Array Oper} {md : Region.Mode} {C : World → Prop} {F : Fence} {m : Nat}

/-- A fence that keeps nothing out. -/
structure Wides (F : Fence) : Prop where
  fn : ∀ f, F.fn f
  depth : F.depth = none
  rows : ∀ {n : Nat} {P : Program} {row : String} {args : Array Value} {w : World} {R : Value → World → Prop}, Rows P row args w R → RowsIn F n P row args w R
  calls : ∀ {n : Nat} {P : Program} {f : FuncId} {args : Array Value} {w : World} {R : Ending → World → Prop}, Calls P f args w R → CallsIn F n P f args w R
theorem wides_wide : Wides Fence.wide := ⟨fun _ => trivial, rfl, fun h c cs _ => let ⟨v, w', r, s⟩ := h c cs; ⟨v, w', r, stepsIn_wide.2 s⟩, fun h => callsIn_wide.2 h⟩
theorem wides_round (r : Nat) : Wides (Fence.wide.inRound r) := ⟨fun _ => trivial, rfl, fun h c cs _ => let ⟨v, w', r, s⟩ := h c cs; ⟨v, w', r, (stepsIn_wide (P := _)).2 s⟩, fun h => CallsIn.inRound r (callsIn_wide.2 h)⟩

theorem Oper.wpIn_of_quiet' {o : Oper} {a : Act} {K : Act → Prop} {K' : Act → World → Prop} {Q' : Exit → Act → World → Prop} {w : World} (hF : Wides F) (hd : ∀ c, o.op ≠ .defer c) (hw : C w) (h : ∀ a w', C w' → K a → K' a w')
    (hh : o.quiet P a C K) : o.wpIn F m P a w K' Q' := by
  obtain ⟨v, h1, h2⟩ := hh
  have h3 := h1 w hw
  unfold Oper.quietAt at h3
  unfold Oper.wpIn
  refine ⟨fun f _ => hF.fn f, ?_⟩
  rw [Oper.semAt_eq _ _ _ hd]
  generalize (execOp a.eval o).run P w = r at *
  cases r with
  | ok n w' =>
    cases n <;> simp only [Oper.quietUpon] at h3 <;> simp only [Oper.uponIn]
    case value u =>
      obtain ⟨e1, e2⟩ := h3
      rw [e1, e2]
      exact h _ _ hw h2
    case skip =>
      obtain ⟨e1, e2⟩ := h3
      rw [e1, ← e2]
      exact h _ _ hw h2
    case enter f args =>
      obtain ⟨e1, hc⟩ := h3
      rw [e1]
      refine ⟨fun hs => (by rw [hF.depth] at hs; cases hs), ?_⟩
      refine (hF.calls hc).mono fun e w'' ⟨he, hw''⟩ => by subst he; exact h _ _ hw'' h2
  | halt x w' => simp only [Oper.quietUpon] at h3

theorem wpOpIn_of_qOp' {i : Nat} {a : Act} {K : Act → Prop} {K' : Act → World → Prop} {Q' : Exit → Act → World → Prop} {w : World} (hF : Wides F) (hd : ∀ (j : Nat) (o : Oper) c, ops[j]? = some o → o.op ≠ .defer c) (hC : C w) (h : ∀ a w', C w' → K a → K' a w') (hh : qOp P ops C i K a) :
    wpOpIn F m P ops Q' i K' a w := by
  unfold qOp at hh
  unfold wpOpIn
  split
  · rename_i ho; simp only [ho] at hh; exact h _ _ hC hh
  · rename_i o ho
    simp only [ho] at hh
    split
    · rename_i hw; simp only [hw, if_true] at hh; exact Oper.wpIn_of_quiet' hF (fun c => hd _ _ c ho) hC h hh
    · rename_i hw; simp only [hw] at hh; exact ⟨fun f _ => hF.fn f, h _ _ hC hh⟩

theorem wpAnyIn_of_headQ {n g : Nat} {L : Array Bool → Act → Prop} {Q' : Exit → Act → World → Prop} (hF : Wides F) (hd : ∀ (j : Nat) (o : Oper) c, ops[j]? = some o → o.op ≠ .defer c) (hL : ∀ listed a w, C w → L listed a → wpAnyIn F m P md ops Q' g listed a w) :
    ∀ (f : Nat) (listed : Array Bool) (a : Act) (w : World), C w → wpAnyQL P md ops C n L f listed a → wpAnyIn F m P md ops Q' (f + g) listed a w
  | 0, listed, a, w, hw, h => by rw [Nat.zero_add]; exact hL _ _ _ hw h
  | f + 1, listed, a, w, hw, h => by
    rw [show f + 1 + g = (f + g) + 1 by omega]
    exact ⟨fun h0 => absurd h0 h.1, fun i hi => wpOpIn_of_qOp' hF hd hw (fun a' w' hw' h' => wpAnyIn_of_headQ hF hd hL f _ a' w' hw' h') (h.2 i hi).2⟩

theorem wpAnyIn_of_seq {Q' : Exit → Act → World → Prop} : ∀ (l : List Oper) (k : Nat) (listed : Array Bool) (a : Act) (w : World), (∀ j, l[j]? = ops[k + j]?) →
    Region.seqB md ops l.length k listed = true → wpListIn F m P ops Q' l a w → wpAnyIn F m P md ops Q' l.length listed a w
  | [], _, _, _, _, _, hB, h => ⟨by simpa [Region.seqB] using hB, h⟩
  | o :: l, k, listed, a, w, hl, hB, h => by
    have h0 : ops[k]? = some o := by simpa using (hl 0).symm
    simp only [List.length_cons, Region.seqB, Bool.and_eq_true, decide_eq_true_eq] at hB
    refine ⟨fun h1 => (by rw [hB.1] at h1; cases h1), fun i hi => ?_⟩
    rw [hB.1] at hi
    have hik : i = k := by simpa using hi
    subst hik
    have hw : wpOpIn F m P ops Q' i (wpListIn F m P ops Q' l) a w := by unfold wpOpIn; simp only [h0]; exact h
    exact wpOpIn_mono (fun a' w' h' => wpAnyIn_of_seq l (i + 1) _ a' w' (fun j => by have := hl (j + 1); simpa [Nat.add_assoc, Nat.add_comm 1 j] using this) hB.2 h') hw

def noDefer (ops : Array Oper) : Bool := ops.all fun o => match o.op with | .defer _ => false | _ => true
theorem noDefer_spec {ops : Array Oper} (h : noDefer ops = true) (j : Nat) (o : Oper) (c) (ho : ops[j]? = some o) : o.op ≠ .defer c := by
  intro he
  have := Array.all_eq_true_iff_forall_mem.1 h o (Array.mem_of_getElem? ho)
  rw [he] at this
  cases this

theorem wpIn_region_quiet_tail {id : Nat} {Q : Exit → Act → World → Prop} {a : Act} {w : World} {l : List Oper} (hF : Wides F) (n : Nat) (hm : P.follows .mixedOrders = true) (hB : Region.lexTailB .any l.toArray n = true) (hdf : noDefer l.toArray = true)
    (hC : C { w with drawn := w.drawn + 1 })
    (h : wpQuiet P l.toArray C (fun a' => ∀ w', C w' → wpListIn F m P l.toArray Q (l.drop n) a' w') (l.take n) a) : (Code.region id l.toArray true).wpIn F m P Q a w := by
  simp only [Region.lexTailB, Bool.and_eq_true, decide_eq_true_eq] at hB
  obtain ⟨⟨⟨⟨hsel, hn⟩, hs⟩, hc⟩, hlex⟩ := hB
  have hn' : n < l.length := by simpa using hn
  have htl : (l.take n).length = n := by simp; omega
  have hdl : (l.drop n).length = l.toArray.size - n := by simp
  have inv0 : HeadInv .any l.toArray n (Array.replicate l.toArray.size false) :=
    ⟨by simp, fun j oj _ hl => (by rw [getD_replicate_false] at hl; cases hl), fun t _ ht => getD_in (by simpa using ht) (getD_replicate_false _ _)⟩
  have H := wpAnyQL_lex (md := .any) (g := l.toArray.size - n) hsel hs hc hn (l.take n) 0 _ a (fun j hj => by
    have hj' : j < n := by rw [htl] at hj; exact hj
    simp [hj']) (by simpa using htl) inv0 (by rw [htl]; exact hlex) h
  refine wpIn_region_any hm ?_
  have := wpAnyIn_of_headQ (m := m) (Q' := Q) (g := l.toArray.size - n) hF (noDefer_spec hdf) (fun listed a' w' hw' hL => by
    have := wpAnyIn_of_seq (F := F) (m := m) (md := .any) (Q' := Q) (l.drop n) n listed a' w' (fun j => by simp [List.getElem?_drop]) (by rw [hdl]; exact hL.1) (hL.2 w' hw')
    rwa [hdl] at this) _ _ _ _ hC H
  rw [htl, show n + (l.toArray.size - n) = l.toArray.size by omega] at this
  exact this

theorem wpIn_region_quiet_tail_lit {id : Nat} {Q : Exit → Act → World → Prop} {a : Act} {w : World} {l : List Oper} (hF : Wides F) (n : Nat) (hm : P.follows .mixedOrders = true) (hB : Region.lexTailB .any l.toArray n = true) (hdf : noDefer l.toArray = true)
    (h : wpQuiet P l.toArray (fun w' => ∃ n, w' = w.drewN n) (fun a' => ∀ w', (∃ n, w' = w.drewN n) → wpListIn F m P l.toArray Q (l.drop n) a' w') (l.take n) a) : (Code.region id l.toArray true).wpIn F m P Q a w :=
  wpIn_region_quiet_tail (C := fun w' => ∃ n, w' = w.drewN n) hF n hm hB hdf ⟨1, rfl⟩ h

theorem wpAnyIn_of_quiet' {Q : Act → Prop} {Q' : Exit → Act → World → Prop} (hF : Wides F) (hd : ∀ (j : Nat) (o : Oper) c, ops[j]? = some o → o.op ≠ .defer c) (hQ : ∀ a w, C w → Q a → Q' .normal a w) : ∀ (fuel : Nat) (listed : Array Bool) (a : Act) (w : World), C w →
    wpAnyQ P md ops C Q fuel listed a → wpAnyIn F m P md ops Q' fuel listed a w
  | 0, _, _, _, hw, h => ⟨h.1, hQ _ _ hw h.2⟩
  | fuel + 1, _, _, _, hw, h => ⟨fun h0 => hQ _ _ hw (h.1 h0), fun i hi => wpOpIn_of_qOp' hF hd hw (fun a' w' hw' => wpAnyIn_of_quiet' hF hd hQ fuel _ a' w' hw') (h.2 i hi)⟩
/-- A region whose operations are all quiet, in a class of worlds. -/
theorem wpIn_region_quiet' {id : Nat} {Q : Exit → Act → World → Prop} {a : Act} {w : World} (hF : Wides F) (hm : P.follows .mixedOrders = true) (hB : Region.lexB .any ops = true) (hdf : noDefer ops = true) (hC : C { w with drawn := w.drawn + 1 })
    (h : wpQuiet P ops C (fun a' => ∀ w', C w' → Q .normal a' w') ops.toList a) : (Code.region id ops true).wpIn F m P Q a w := by
  simp only [Region.lexB, Bool.and_eq_true] at hB
  refine wpIn_region_any hm (wpAnyIn_of_quiet' (Q := fun a' => ∀ w', C w' → Q .normal a' w') hF (noDefer_spec hdf) (fun _ w' hw' h => h w' hw') _ _ _ _ hC ?_)
  have := wpAnyQ_lex (C := C) (md := .any) hB.1 ops.toList 0 (Array.replicate ops.size false) a (by simp) (by simpa using hB.2) h
  simpa using this
theorem wpIn_region_wd {id : Nat} {Q : Exit → Act → World → Prop} {a : Act} {w : World} {l : List Oper} (hF : Wides F) (hm : P.follows .mixedOrders = true) (hB : Region.lexB .any l.toArray = true) (hdf : noDefer l.toArray = true)
    (h : wpQuiet P l.toArray (fun W => ∃ x : Wd w, W = x.W) (fun a' => ∀ w', (∃ x : Wd w, w' = x.W) → Q .normal a' w') l a) : (Code.region id l.toArray true).wpIn F m P Q a w :=
  wpIn_region_quiet' (C := fun W => ∃ x : Wd w, W = x.W) hF hm hB hdf ⟨⟨{ w with drawn := w.drawn + 1 }, (Only.refl _ w).drew1⟩, rfl⟩ h
theorem Oper.wpIn_of_wp {o : Oper} {a : Act} {w : World} {K : Act → World → Prop} {Q : Exit → Act → World → Prop} (hF : Wides F) (hd : ∀ c, o.op ≠ .defer c) (h : o.wp P a w K Q) : o.wpIn F m P a w K Q := by
  unfold Oper.wp at h
  unfold Oper.wpIn
  refine ⟨fun f _ => hF.fn f, ?_⟩
  rw [Oper.semAt_eq _ _ _ hd]
  generalize (execOp a.eval o).run P w = r at *
  cases r with
  | ok n w' =>
    cases n <;> simp only [Oper.upon] at h <;> simp only [Oper.uponIn] <;> first | exact h | skip
    case enter f args => exact ⟨fun hs => (by rw [hF.depth] at hs; cases hs), hF.calls h⟩
    case row row args => exact ⟨fun hs => (by rw [hF.depth] at hs; cases hs), hF.rows h⟩
  | halt x w' => cases x <;> simp only [Oper.upon] at h <;> simp only [Oper.uponIn] <;> exact h
theorem wpAnyIn_of_wpAny {Q : Exit → Act → World → Prop} (hF : Wides F) (hd : ∀ (j : Nat) (o : Oper) c, ops[j]? = some o → o.op ≠ .defer c) (hL : ¬ LetsOut Q) : ∀ (fuel : Nat) (listed : Array Bool) (a : Act) (w : World),
    wpAny P md ops Q fuel listed a w → wpAnyIn F m P md ops Q fuel listed a w
  | 0, _, _, _, h => h
  | fuel + 1, listed, a, w, h => ⟨h.1, fun i hi => by
    have h1 := h.2 i hi
    unfold wpOp at h1
    unfold wpOpIn
    cases ho : ops[i]? with
    | none =>
      simp only [ho] at h1
      exact wpAnyIn_of_wpAny hF hd hL fuel _ _ _ h1
    | some o =>
      simp only [ho] at h1
      by_cases hw : Region.wanted o (yielded ops a.tmps) = true
      · simp only [hw, if_true] at h1 ⊢
        rcases h1 with h1 | h1
        · exact Oper.wpIn_mono (fun a' w' => wpAnyIn_of_wpAny hF hd hL fuel _ a' w') (Oper.wpIn_of_wp hF (fun c => hd _ _ c ho) h1)
        · exact absurd h1.2 hL
      · simp only [hw] at h1 ⊢
        exact ⟨fun f _ => hF.fn f, wpAnyIn_of_wpAny hF hd hL fuel _ _ _ h1⟩⟩
/-- A region that draws its order, walked with what it reads held (the kit's wpAnyH). -/
theorem wpIn_region_held {id : Nat} {Q : Exit → Act → World → Prop} {a : Act} {w : World} {S : World → Prop} (hF : Wides F) (hm : P.follows .mixedOrders = true) (hdf : noDefer ops = true) (hL : ¬ LetsOut Q) (hS : S w.drew)
    (h : S w.drew → wpAnyH P .any ops Q S ops.size (Array.replicate ops.size false) a w.drew) : (Code.region id ops true).wpIn F m P Q a w :=
  wpIn_region_any hm (wpAnyIn_of_wpAny hF (noDefer_spec hdf) hL _ _ _ _ (wpAny_of_held _ _ _ _ (h hS)))
end
end Go.Proofs.YtlbinlhaejhobaaGreatDoor
/- chain: the links of the tasks. -/
namespace Go.Proofs.YtlbinlhaejhobaaGreatDoor
namespace Bch
open Go Go.RowKit Go.Maps Go.Shelf
attribute [local go_sem] Oper.semAt_some
theorem linksOf_snoc (P TH F : Nat → Int) (ord : List Nat) : ∀ (pre : List Nat) (x : Nat) (L : Chn.Lks), Chn.linksOf P TH F ord (pre ++ [x]) L = Chn.stepL P TH F ord (Chn.linksOf P TH F ord pre L) x
  | [], _, _ => rfl
  | _ :: pre, x, _ => linksOf_snoc P TH F ord pre x _
theorem dO_bd {D : Nat → Int} {B : Int} (h0 : 0 ≤ B) (h : ∀ k, 0 ≤ D k ∧ D k ≤ B) : ∀ f, 0 ≤ Chn.dO D f ∧ Chn.dO D f ≤ B
  | none => ⟨Int.le_refl _, h0⟩
  | some k => h k
theorem stepL_bd {P TH F : Nat → Int} {ord : List Nat} {L : Chn.Lks} {t : Nat} {B : Int} (h0 : 0 ≤ B) (h : ∀ k, 0 ≤ Chn.dOf L k ∧ Chn.dOf L k ≤ B) (hF : 0 ≤ F t ∧ F t ≤ 1048576) :
    ∀ k, 0 ≤ Chn.dOf (Chn.stepL P TH F ord L t) k ∧ Chn.dOf (Chn.stepL P TH F ord L t) k ≤ B + 1048576 := fun k => by
  by_cases hk : k = t
  · subst hk
    have e : Chn.dOf (Chn.stepL P TH F ord L k) k = F k + Chn.dO (Chn.dOf L) (Chn.pick (fun j => Chn.can P TH j k) (Chn.dOf L) ord none) := by
      unfold Chn.dOf
      rw [Chn.stepL_same]
      rfl
    have := dO_bd h0 h (Chn.pick (fun j => Chn.can P TH j k) (Chn.dOf L) ord none)
    rw [e]
    omega
  · have e : Chn.dOf (Chn.stepL P TH F ord L t) k = Chn.dOf L k := by
      unfold Chn.dOf
      rw [Chn.stepL_other hk]
    have := h k
    rw [e]
    omega
theorem linksOf_bd {P TH F : Nat → Int} {ord : List Nat} : ∀ (pre : List Nat) (L : Chn.Lks) (B : Int), 0 ≤ B → (∀ k, 0 ≤ Chn.dOf L k ∧ Chn.dOf L k ≤ B) → (∀ t ∈ pre, 0 ≤ F t ∧ F t ≤ 1048576) →
    ∀ k, 0 ≤ Chn.dOf (Chn.linksOf P TH F ord pre L) k ∧ Chn.dOf (Chn.linksOf P TH F ord pre L) k ≤ B + pre.length * 1048576
  | [], L, B, _, h, _, k => by
    have := h k
    show 0 ≤ Chn.dOf L k ∧ Chn.dOf L k ≤ B + ((0 : Nat) : Int) * 1048576
    omega
  | t :: pre, L, B, h0, h, hF, k => by
    have := linksOf_bd (P := P) (TH := TH) (F := F) (ord := ord) pre (Chn.stepL P TH F ord L t) (B + 1048576) (by omega) (stepL_bd h0 h (hF t (by simp))) (fun x hx => hF x (by simp [hx])) k
    rw [List.length_cons]
    unfold Chn.linksOf
    push_cast
    omega
theorem ordL_frm {ts : List TaskV} {x : Nat} (h : x ∈ ordL ts) : 0 ≤ frm ts x ∧ frm ts x ≤ 1048576 := by
  unfold ordL at h
  split at h
  · next hr => exact ((of_decide_eq_true hr).2 x (order_lt h)).1.2
  · simp at h
/-- The links of the tasks gone through so far. -/
def lksOf (ts : List TaskV) (pre : List Nat) : Chn.Lks := Chn.linksOf (prio ts) (thr ts) (frm ts) (ordL ts) pre Chn.noLks
def lks (ts : List TaskV) : Chn.Lks := lksOf ts (ordL ts)
theorem lksOf_bd {ts : List TaskV} {pre : List Nat} (h : pre <+: ordL ts) (k : Nat) : 0 ≤ Chn.dOf (lksOf ts pre) k ∧ Chn.dOf (lksOf ts pre) k ≤ 12582912 := by
  have h1 := linksOf_bd (P := prio ts) (TH := thr ts) (F := frm ts) (ord := ordL ts) pre Chn.noLks 0 (Int.le_refl _) (fun k => ⟨Int.le_refl _, Int.le_refl _⟩) (fun t ht => ordL_frm (h.subset ht)) k
  have h2 := ordL_len ts
  have h3 := h.length_le
  unfold lksOf
  omega
theorem cl50 {W : World} {c : ConfV} {ts : List TaskV} (hT : TasksAt W c.ta ts) (hn : c.ta.n ≤ 9223372036854775807) {qc qx : Nat} (hc : W.heap[qc]? = some (.cells c.cells.toArray 27 (0, 0))) {x : Nat} (hx : W.heap[qx]? = some (.cells [Value.int .i64 (x : Int)].toArray 3 (0, 0)))
    {i : Nat} (hi : i < ts.length) (hx' : x < ts.length) : Calls Tryz.prog 106 (#[.int .i64 (i : Int)] ++ #[.pointer (some ⟨qc, 0, none⟩), .pointer (some ⟨qx, 0, none⟩)]) W (GrowB (canB ts i x) W) := by
  have hz : canZ ts (i : Int) (x : Int) = canB ts i x := by
    unfold canZ inZ
    rw [decide_eq_true (by omega), decide_eq_true (by omega)]
    rfl
  have q := can_any hT hn (i : Int) (x : Int)
  rw [hz] at q
  have d0 := row_cell hc (i := 0) rfl
  have d1 := row_cell hc (i := 1) rfl
  have d2 := row_cell hc (i := 2) rfl
  have d3 := row_cell hc (i := 3) rfl
  have d4 := row_cell hc (i := 4) rfl
  have d5 := row_cell hc (i := 5) rfl
  have d6 := row_cell hc (i := 6) rfl
  have d7 := row_cell hc (i := 7) rfl
  have d8 := row_cell hc (i := 8) rfl
  have d9 := row_cell hc (i := 9) rfl
  have dx := row_cell hx (i := 0) rfl
  have l1 := row_lt hc
  have l2 := row_lt hx
  obtain ⟨V, hV⟩ : ∃ V, V = canB ts i x := ⟨_, rfl⟩
  rw [← hV] at q ⊢
  unfold ConfV.val at q
  have q' := Lib.hid q
  clear hz hV hT hn hc hx hi hx' q
  show Calls Tryz.prog 106 #[.int .i64 (i : Int), .pointer (some ⟨qc, 0, none⟩), .pointer (some ⟨qx, 0, none⟩)] W _
  go_enter Tryz.func106, Tryz.ntmps106
  go_wp2_with fail
  refine q'.out.mono ?_
  rintro e w' ⟨rfl, ho⟩
  have hv := Lib.hid ho
  clear ho
  go_wp2
  go_ret
  exact ⟨rfl, hv.out⟩
theorem cl51 (W : World) (i : Nat) : Calls Tryz.prog 108 (#[.int .i64 (i : Int)] ++ #[]) W (GrowB true W) := by
  show Calls Tryz.prog 108 #[.int .i64 (i : Int)] W _
  go_enter Tryz.func108, Tryz.ntmps108
  go_wp2
  go_ret
  exact ⟨rfl, Only.refl _ W⟩
def LnkEnd (w : World) (ts : List TaskV) (e : Ending) (w' : World) : Prop :=
  ∃ b, e = .returned (.tuple #[.map (some b), .int .i64 (optZ (Chn.pick (fun _ => true) (Chn.dOf (lks ts)) (ordL ts) none))]) ∧ MapL w' b 12 (lkG (lks ts)) ∧ Only (fun _ => False) w w'
/-- Between two rounds: the links so far. -/
def LI (w4 : World) (b : Nat) (ts : List TaskV) (X : Nat → Prop) (pre : List Nat) (W : World) : Prop :=
  MapL W b pre.length (lkG (lksOf ts pre)) ∧ ¬ X b ∧ (∀ k, X k → w4.heap.size ≤ k) ∧ Only (fun k => k = b) w4 W
theorem LI.steady {w4 : World} {b : Nat} {ts : List TaskV} : Steady (LI w4 b ts) := by
  refine ⟨fun {X pre A C} h ho => ?_, fun {X X' pre A} hX h => ?_⟩
  · obtain ⟨h1, h2, h3, h4⟩ := h
    have hl := h1.lt
    have := h4.size
    refine ⟨h1.kept ho h2, fun hx => ?_, fun k hk => ?_, h4.trans ho (fun x hx h => by have := h3 x h; omega)⟩
    · rcases hx with hx | hx
      · exact h2 hx
      · omega
    · rcases hk with hk | hk
      · exact h3 k hk
      · omega
  · obtain ⟨h1, h2, h3, h4⟩ := h
    exact ⟨h1, fun hx => h2 (hX _ hx), fun k hk => h3 k (hX k hk), h4⟩
set_option maxRecDepth 100000 in
set_option maxHeartbeats 4000000 in
theorem linked_any {w : World} {c : ConfV} {ts : List TaskV} (hT : TasksAt w c.ta ts) (hn : c.ta.n ≤ 9223372036854775807) : Calls Tryz.prog 75 #[c.val] w (LnkEnd w ts) := by
  have hmf : ∀ (fn : Fn) (first cap : Array Value) (w : World), (Instr.makeFunc fn first cap).run Tryz.prog w = .ok (.func fn first cap) w := fun _ _ _ _ => rfl
  have hmk := @run_makeMap Tryz.prog
  obtain ⟨q, hq⟩ : ∃ q, q = w.heap.size := ⟨_, rfl⟩
  obtain ⟨W4, hW4⟩ : ∃ W4, W4 = ((w.alloc (.cells c.cells.toArray 27)).alloc (.map #[] 0)).alloc (.cells #[.map (some (q + 1))] 96) := ⟨_, rfl⟩
  have hO4 : Only (fun _ => False) w W4 := by rw [hW4]; exact (((Only.refl _ w).alloc _).alloc _).alloc _
  have hs4 : W4.heap.size = q + 3 := by rw [hW4, hq]; simp
  have k0 : W4.heap[q]? = some (.cells c.cells.toArray 27 (0, 0)) := by rw [hW4]; exact heap_kept_alloc (heap_kept_alloc (heap_new_at _ _ hq.symm) _) _
  have k2 : W4.heap[q + 1 + 1]? = some (.cells [Value.map (some (q + 1))].toArray 96 (0, 0)) := by rw [hW4]; exact heap_new_at _ _ (by simp [hq])
  have hM0 : MapL W4 (q + 1) 0 (lkG (lksOf ts [])) := by
    rw [show lksOf ts [] = Chn.noLks from rfl, lkG_none, hW4]
    have := (MapL.made (w.alloc (.cells c.cells.toArray 27))).kept ((Only.refl (fun _ => False) _).alloc (.cells #[.map (some (q + 1))] 96)) (fun h => h)
    rw [show (w.alloc (Obj.cells c.cells.toArray 27)).heap.size = q + 1 by simp [hq]] at this
    exact this
  have hbox := Lib.hid (fun W (ho : Only (fun k => k = q + 1) W4 W) => show W.heap[q]? = some (.cells c.cells.toArray 27 (0, 0)) ∧ W.cell? ⟨q + 1 + 1, 0, none⟩ = some (.map (some (q + 1))) ∧ q + 1 + 1 < W.heap.size ∧ TasksAt W c.ta ts ∧ Only (fun _ => False) w W from by
    have hO : Only (fun _ => False) w W := hO4.trans ho (fun x hx e => by omega)
    exact ⟨ho.heap k0 (by omega), row_cell (ho.heap k2 (by omega)) (i := 0) rfl, row_lt (ho.heap k2 (by omega)), hT.new hO, hO⟩)
  have hdw := Lib.hid (downward_any (hT.new hO4) hn)
  have d0 := row_cell k0 (i := 0) rfl
  have d1 := row_cell k0 (i := 1) rfl
  have d2 := row_cell k0 (i := 2) rfl
  have d3 := row_cell k0 (i := 3) rfl
  have d4 := row_cell k0 (i := 4) rfl
  have d5 := row_cell k0 (i := 5) rfl
  have d6 := row_cell k0 (i := 6) rfl
  have d7 := row_cell k0 (i := 7) rfl
  have d8 := row_cell k0 (i := 8) rfl
  have d9 := row_cell k0 (i := 9) rfl
  have hM0' := Lib.hid hM0
  have hO4' := Lib.hid hO4
  have hs4' := Lib.hid hs4
  have hq' := Lib.hid hq
  have hn' := Lib.hid hn
  have hlen := Lib.hid hT.len
  have hlt := Lib.hid (fun x (h : x ∈ ordL ts) => And.intro (ordL_lt h) (ordL_frm h))
  have hbd := Lib.hid (fun pre (h : pre <+: ordL ts) => lksOf_bd h)
  have hsn := Lib.hid (fun pre x => show lksOf ts (pre ++ [x]) = Chn.stepL (prio ts) (thr ts) (frm ts) (ordL ts) (lksOf ts pre) x from linksOf_snoc _ _ _ _ pre x _)
  have hll := ordL_len ts
  have hLk : lks ts = lksOf ts (ordL ts) := rfl
  obtain ⟨Z, hZ⟩ : ∃ Z, Z = LnkEnd w ts := ⟨_, rfl⟩
  rw [← hZ]
  unfold LnkEnd at hZ
  rw [hLk] at hZ
  obtain ⟨L, hL⟩ : ∃ L, L = ordL ts := ⟨_, rfl⟩
  rw [← hL] at hdw hlt hll hbd hsn hZ
  unfold ConfV.val at hdw ⊢
  unfold ConfV.cells at hW4 d0 d1 d2 d3 d4 d5 d6 d7 d8 d9
  have hW4' := Lib.hid hW4
  have hL' := Lib.hid hL
  have hZ' := Lib.hid hZ
  clear hZ hT hn k0 k2 hM0 hO4 hs4 hW4 hL hq hLk
  refine callsIn_wide (n := 3) |>.1 ?_
  refine callsIn_of_wp_marks Tryz.func75 rfl trivial ?_ rfl
  simp only [Tryz.ntmps75, List.size_toArray, List.length_cons, List.length_nil, Nat.reduceAdd, Nat.reduceSub, Array.replicate_succ, Array.replicate_zero, List.push_toArray, List.append_toArray, List.nil_append, List.cons_append]
  gi_wp2_with fail
  rw [← hq'.out]
  rw [← hW4'.out]
  refine ⟨trivial, (callsIn_wide.2 hdw.out).mono ?_⟩
  rintro e W5 ⟨Y, A, cap, h, rfl, hYb, hWin, hYge, hhge, hO5⟩
  obtain ⟨n, hnl⟩ : ∃ n, n = L.length := ⟨_, rfl⟩
  rw [← hnl] at hYb hWin hll
  have hit := Lib.hid (seq_iter (cap := cap) (A := A) (row_cell hYb (i := 0) rfl) hWin hnl.symm (by omega))
  have hRD : ∀ k, RDs Y h k → k < W5.heap.size ∧ q + 3 ≤ k := fun k hk => by
    have := hs4'.out
    rcases hk with rfl | hk
    · exact ⟨row_lt hYb, by omega⟩
    · exact ⟨hWin.lt k hk, by have := hhge k hk; omega⟩
  have hRD' := Lib.hid hRD
  have hM5 := Lib.hid (hM0'.out.kept hO5 (fun h => h))
  have hO5' := Lib.hid (hO5.mono (T := fun k => k = q + 1) (fun _ _ h => h.elim))
  have hsz5 := hO5.size
  clear hYb hWin hYge hhge hRD hdw d0 d1 d2 d3 d4 d5 d6 d7 d8 d9 hO5
  gi_wp2
  refine wpIn_range rfl (enters_of Tryz.func181 (by kernel_rfl) rfl) hit.out (Only.refl _ W5) (fun k hk => (hRD'.out k hk).1) (fun _ => rfl)
    (LI W4 (q + 1) ts) (fun _ _ _ _ => False) LI.steady (fun _ => ⟨fun h _ => h, fun _ h => h⟩) ⟨hM5.out, fun h => h, fun k hk => hk.elim, hO5'.out⟩ ?round ?done ?stop
  case round =>
    intro l1 DD X pre x W6 hl1 hDD hXl hXD hl1' hDz hI hpre
    unfold encN
    gi_wp2
    refine ⟨(Only.refl _ _).alloc _, fun W7 hO7 hI7 => ?_⟩
    obtain ⟨g1, g2, g3, g4⟩ := hI7
    have hxL : x ∈ L := hpre.subset (by simp)
    obtain ⟨⟨hxn, hx12⟩, hxf⟩ := hlt.out x hxL
    obtain ⟨qx, hqx⟩ : ∃ qx, qx = W6.heap.size := ⟨_, rfl⟩
    have bx : W7.heap[qx]? = some (.cells [Value.int .i64 (x : Int)].toArray 3 (0, 0)) := hO7.heap (heap_new_at _ _ hqx.symm) (by omega)
    obtain ⟨b0, b2, b3, hT7, ho7⟩ := hbox.out W7 g4
    have hpl : pre <+: L := ⟨_, (by have := hpre.choose_spec; rw [List.append_assoc] at this; exact this)⟩
    have hLs := Lib.hid (show L = ordL ts from hL'.out)
    have hbest := best_any hT7 hn'.out g1 (hf := 106) (hcap := #[.pointer (some ⟨q, 0, none⟩), .pointer (some ⟨qx, 0, none⟩)]) (enters_of Tryz.func106 (by kernel_rfl) rfl) (H := fun k => canB ts k x)
      (fun W ho i hi => cl50 (hT7.new ho) hn'.out (ho.heap b0 (fun h => h)) (ho.heap bx (fun h => h)) hi hxn) (D := Chn.dOf (lksOf ts pre)) (lkG_depth _)
    rw [← hL'.out] at hbest
    obtain ⟨nx, hnx⟩ : ∃ nx, nx = Chn.pick (fun k => canB ts k x) (Chn.dOf (lksOf ts pre)) L none := ⟨_, rfl⟩
    rw [← hnx] at hbest
    have hzb : -1 ≤ optZ nx ∧ optZ nx ≤ 12 := by
      cases hff : nx with
      | none => exact ⟨by decide, by decide⟩
      | some k =>
        rw [hff] at hnx
        rcases pick_mem _ _ _ _ k hnx.symm with h | h
        · cases h
        · have := (hlt.out k h).1
          show -1 ≤ (k : Int) ∧ (k : Int) ≤ 12
          omega
    have hdb := dO_bd (by omega) (hbd.out pre hpl) nx
    have hst := hsn.out pre x
    have hst2 : lksOf ts (pre ++ [x]) x = some (frm ts x + Chn.dO (Chn.dOf (lksOf ts pre)) nx, nx) := by
      rw [hst, Chn.stepL_same, hnx, hL'.out]
      rfl
    have hst3 : ∀ k, k ≠ x → lksOf ts (pre ++ [x]) k = lksOf ts pre k := fun k hk => by rw [hst, Chn.stepL_other hk]
    have hup := Lib.hid (lkG_upd hst2 hst3)
    have hld := lkG_depth (lksOf ts pre) nx
    obtain ⟨z, hz⟩ : ∃ z, z = optZ nx := ⟨_, rfl⟩
    rw [← hz] at hzb hld hbest
    obtain ⟨y, hy⟩ : ∃ y, y = lkG (lksOf ts pre) z := ⟨_, rfl⟩
    have hlk : ∀ W, MapL W (q + 1) pre.length (lkG (lksOf ts pre)) → (Instr.lookup 96 (.map (some (q + 1))) (.int .i64 z) false).run Tryz.prog W = .ok (.agg #[.int .i64 y.1, .int .i64 y.2]) W := fun W hm => by
      rw [hm.look (by omega) (by omega), hy]
      rfl
    rw [← hy] at hld
    rw [← hld] at hdb hup
    rw [← hz] at hup
    obtain ⟨d, y2⟩ := y
    dsimp only at hlk hdb hup
    obtain ⟨t, ht⟩ : ∃ t, ts[x]? = some t := ⟨_, List.getElem?_eq_getElem hxn⟩
    rw [frm_at ht] at hxf hup
    have hput := Lib.hid (fun W (hm : MapL W (q + 1) pre.length (lkG (lksOf ts pre))) => show ∃ w', (Instr.mapUpdate 96 (.map (some (q + 1))) (.int .i64 (x : Int)) (.agg #[.int .i64 (t.fr + d), .int .i64 z])).run Tryz.prog W = .ok () w' ∧ MapL w' (q + 1) (pre ++ [x]).length (lkG (lksOf ts (pre ++ [x]))) ∧ Only (fun k => k = q + 1) W w' from by
      obtain ⟨w', h1, h2, h3⟩ := hm.put (t := (x : Int)) (by omega) (by omega) (by have := hpre.length_le; simp at this; have : (2 : Nat) ^ 40 < maxLen := by decide
                                                                                   omega) (t.fr + d, z)
      refine ⟨w', h1, ?_, h3⟩
      rw [List.length_append, List.length_singleton, ← hup.out]
      exact h2)
    have hlk' := Lib.hid hlk
    have hx := Lib.hid (And.intro g1 (And.intro g2 (And.intro g3 g4)))
    have hbest' := Lib.hid hbest
    have hbx := Lib.hid bx
    have ht' := Lib.hid ht
    have hxn' := Lib.hid hxn
    have e0 := row_cell b0 (i := 0) rfl
    have e1 := row_cell b0 (i := 1) rfl
    have e2 := row_cell b0 (i := 2) rfl
    have e3 := row_cell b0 (i := 3) rfl
    have e4 := row_cell b0 (i := 4) rfl
    have e5 := row_cell b0 (i := 5) rfl
    have e6 := row_cell b0 (i := 6) rfl
    have e7 := row_cell b0 (i := 7) rfl
    have e8 := row_cell b0 (i := 8) rfl
    have e9 := row_cell b0 (i := 9) rfl
    have l0 := row_lt b0
    unfold ConfV.val at hbest'
    rw [← hqx]
    clear hI hO7 g1 g2 g3 g4 hbest hlk hz hy hld hst hst2 hst3 hnx hT7 ho7 b0 hpre hpl hxL bx ht hqx hxn
    gi_wp2_with fail
    refine ⟨trivial, CallsIn.inRound l1 ((callsIn_wide.2 hbest'.out).mono ?_)⟩
    rintro e W8 ⟨rfl, ho8⟩
    obtain ⟨g1, g2, g3, g4⟩ := hx.out
    have hO8 := Lib.hid ho8
    have g18 := g1.kept ho8 (fun h => h)
    have g48 := g4.trans ho8 (fun _ _ h => h.elim)
    obtain ⟨b0, b2, b3, hT8, _⟩ := hbox.out W8 g48
    have hl8 := row_lt b0
    have f8 := row_cell b0 (i := 8) rfl
    have c3 := row_cell (ho8.heap hbx.out (fun h => h)) (i := 0) rfl
    obtain ⟨tb, toff, hA, htl, hC⟩ := hT8.at_ x t ht'.out
    have c4 := hC.c4
    have hlk8 : ∀ n, (Instr.lookup 96 (.map (some (q + 1))) (.int .i64 z) false).run Tryz.prog (W8.drewN n) = .ok (.agg #[.int .i64 d, .int .i64 y2]) (W8.drewN n) := fun n => hlk'.out _ (g18.kept ((Only.refl (fun _ => False) W8).drewN n) (fun h => h))
    have hg18 := Lib.hid g18
    have hg48 := Lib.hid g48
    have hRX := Lib.hid (show ¬ RDs Y h (q + 1) ∧ ¬ X (q + 1) from ⟨fun hr => by have := (hRD'.out _ hr).2; omega, g2⟩)
    have hXX := Lib.hid g3
    have hxi : (x : Int) < c.ta.n := by have := hxn'.out; have := hlen.out; omega
    have hwr : IntKind.i64.wrap (t.fr + d) = t.fr + d := IntWalk.i64_in _ (by omega)
    have fl0 := field0
    clear ho8 g1 g2 g3 g4 g18 g48 b0 hT8 hC
    rw [hA] at f8
    gi_wp2_with fail
    refine wpIn_region_quiet_tail_lit (wides_round l1) 15 (by kernel_rfl) (by kernel_rfl) (by kernel_rfl) ?_
    simp only [List.take_succ_cons, List.take_zero, List.drop_succ_cons, List.drop_zero]
    repeat (go_big_quiet_step (fail))
    refine wpQuiet_nil ?_
    rintro _ ⟨nq, rfl⟩
    have ho9 := (Only.refl (fun _ => False) W8).drewN nq
    obtain ⟨W9, hrun, hM9, hO9⟩ := hput.out _ (hg18.out.kept ho9 (fun h => h))
    have hM9' := Lib.hid hM9
    have hO9' := Lib.hid hO9
    have ho9' := Lib.hid ho9
    clear hM9 hO9 ho9 hlk8 c3 c4 f8 fl0 hwr
    gi_wp2
    refine ⟨?_, hM9'.out, hRX.out.2, hXX.out, (hg48.out.trans ho9'.out (fun _ _ h => h.elim)).trans' hO9'.out⟩
    exact ((hO8.out.trans ho9'.out (fun _ _ h => h.elim)).mono (fun _ _ h => h.elim)).trans hO9'.out (fun k _ e => by rw [e]; exact hRX.out)
  case done =>
    intro DD X W6 hD hXD hI hK
    obtain ⟨g1, g2, g3, g4⟩ := hI
    obtain ⟨b0, b2, b3, hT6, ho6⟩ := hbox.out W6 g4
    have hbest := fun v : Wd W6 => Calls.wd (x := v) (best_any (hT6.new v.ok) hn'.out (g1.kept v.ok (fun h => h)) (hf := 108) (hcap := #[]) (enters_of Tryz.func108 (by kernel_rfl) rfl) (H := fun _ => true)
      (fun W _ i _ => cl51 W i) (D := Chn.dOf (lksOf ts L)) (lkG_depth _))
    rw [← hL'.out] at hbest
    obtain ⟨z, hz⟩ : ∃ z, z = optZ (Chn.pick (fun _ => true) (Chn.dOf (lksOf ts L)) L none) := ⟨_, rfl⟩
    rw [← hz] at hbest
    unfold ConfV.val at hbest
    have hbest' := Lib.hid hbest
    have hz' := Lib.hid hz
    have p0 := wd_cell (row_cell b0 (i := 0) rfl)
    have p1 := wd_cell (row_cell b0 (i := 1) rfl)
    have p2 := wd_cell (row_cell b0 (i := 2) rfl)
    have p3 := wd_cell (row_cell b0 (i := 3) rfl)
    have p4 := wd_cell (row_cell b0 (i := 4) rfl)
    have p5 := wd_cell (row_cell b0 (i := 5) rfl)
    have p6 := wd_cell (row_cell b0 (i := 6) rfl)
    have p7 := wd_cell (row_cell b0 (i := 7) rfl)
    have p8 := wd_cell (row_cell b0 (i := 8) rfl)
    have p9 := wd_cell (row_cell b0 (i := 9) rfl)
    have pm := wd_cell b2
    have hex := wd_ex W6
    have hg1 := Lib.hid g1
    have ho6' := Lib.hid ho6
    have hK' := Lib.hid hK
    have hDX := Lib.hid (g3 DD hXD)
    have hdL := Lib.hid g2
    clear hbest hz g1 g2 g3 g4 b0 b2 hT6 ho6 hK
    gi_wp2_with fail
    refine wpIn_region_wd wides_wide (by kernel_rfl) (by kernel_rfl) (by kernel_rfl) ?_
    repeat (go_big_quiet_step (first | (go_at_call 105; with_reducible exact hbest'.out _)))
    refine wpQuiet_nil ?_
    rintro _ ⟨v, rfl⟩
    have hOv := Lib.hid v.ok
    gi_wp2
    refine ⟨by simp, .inl ⟨_, _, rfl, run_takeDeferred (hOv.out.heap hK'.out (fun h => h)), ?_⟩⟩
    refine ⟨_, results_tmp2 rfl _ _ _, ?_⟩
    have hlt2 := hg1.out.lt
    have h1 : MapL (v.W.putObj DD (.deferred none)) (q + 1) 12 (lkG (lksOf ts L)) := ((hg1.out.kept hOv.out (fun h => h)).kept (only_put _ _ _) (by have := hDX.out; have := hs4'.out; omega)).mono (by omega)
    have h2 : Only (fun _ => False) w (v.W.putObj DD (.deferred none)) := (ho6'.out.trans' hOv.out).lay (fun hd => by have := hDX.out; have := hs4'.out; have := hq'.out; omega) _
    rw [hZ'.out]
    refine ⟨q + 1, ?_, ?_, h2⟩
    · rw [← hz'.out]
      rfl
    · exact h1
  case stop =>
    intro _ _ _ _ _ _ _ _ h
    exact h.elim
end Bch
end Go.Proofs.YtlbinlhaejhobaaGreatDoor
/- chain: the deepest chain as the links tell it. -/
namespace Go.Proofs.YtlbinlhaejhobaaGreatDoor
namespace Bch
open Go Go.RowKit Go.Maps Go.Shelf
theorem order_has {p : Nat → Int} : ∀ {n y : Nat}, y < n → y ∈ orderUp p n
  | 0, y, h => by omega
  | n + 1, y, h => by
    unfold orderUp
    rw [ins_mem]
    by_cases hy : y = n
    · exact .inl hy
    · exact .inr (order_has (by omega))
theorem ins_nodup {p : Nat → Int} {x : Nat} : ∀ {l : List Nat}, l.Nodup → x ∉ l → (ins p x l).Nodup
  | [], _, _ => by simp [ins]
  | a :: l, h, hx => by
    rw [List.nodup_cons] at h
    unfold ins
    split
    · rw [List.nodup_cons, ins_mem]
      refine ⟨?_, ins_nodup h.2 (fun hh => hx (by simp [hh]))⟩
      rintro (rfl | hh)
      · exact hx (by simp)
      · exact h.1 hh
    · rw [List.nodup_cons, List.nodup_cons]
      exact ⟨hx, h⟩
theorem order_nodup (p : Nat → Int) : ∀ n, (orderUp p n).Nodup
  | 0 => List.nodup_nil
  | n + 1 => ins_nodup (order_nodup p n) (fun h => by have := order_lt h; omega)
/-- The links followed from a task on. -/
def Foll (L : Chn.Lks) : Option Nat → List Nat → Prop
  | none, c => c = []
  | some _, [] => False
  | some t, x :: c => x = t ∧ ∃ d f, L t = some (d, f) ∧ Foll L f c
theorem foll_of_good {F : Nat → Int} {L : Chn.Lks} {t : Nat} {c : List Nat} (h : Chn.Good F L t c) : Foll L (some t) c := by
  induction h with
  | last h hd => exact ⟨rfl, _, _, h, rfl⟩
  | link h hc hd ih => exact ⟨rfl, _, _, h, ih⟩
def firstO (ts : List TaskV) : Option Nat := Chn.pick (fun _ => true) (Chn.dOf (lks ts)) (ordL ts) none
theorem right_facts {ts : List TaskV} (h : rightB ts = true) : ts.length ≤ 12 ∧ (∀ i, i < ts.length → prio ts i ≤ thr ts i) ∧ (∀ i k, i < ts.length → k < ts.length → prio ts i = prio ts k → i = k) ∧ (∀ i, i < ts.length → 0 ≤ frm ts i ∧ frm ts i ≤ 1048576) := by
  obtain ⟨h1, h2⟩ := of_decide_eq_true h
  refine ⟨h1, fun i hi => (h2 i hi).1.1, fun i k hi hk e => ?_, fun i hi => (h2 i hi).1.2⟩
  rcases Nat.lt_trichotomy i k with h3 | h3 | h3
  · exact absurd e ((h2 k hk).2 i h3)
  · exact h3
  · exact absurd e.symm ((h2 i hi).2 k h3)
/-- What the deepest chain is. -/
def DeepOk (ts : List TaskV) (C : List Nat) : Prop :=
  Foll (lks ts) (firstO ts) C ∧ C.length ≤ 12 ∧ (∀ x ∈ C, x < ts.length) ∧ Chn.dO (Chn.dOf (lks ts)) (firstO ts) = Chn.depth (frm ts) C ∧ (rightB ts = false → C = []) ∧
  (rightB ts = true → (ts.length = 0 → C = []) ∧ (0 < ts.length → Chn.Chain ts.length (prio ts) (thr ts) C ∧ C ≠ [] ∧ ∀ r, r ≠ [] → Chn.Chain ts.length (prio ts) (thr ts) r → Chn.better (prio ts) (frm ts) r C = false))
theorem deep_ex (ts : List TaskV) : ∃ C, DeepOk ts C := by
  cases hr : rightB ts with
  | false =>
    have ho : ordL ts = [] := by rw [ordL, hr]; rfl
    have hf : firstO ts = none := by rw [firstO, ho]; rfl
    refine ⟨[], ?_, by simp, by simp, ?_, fun _ => rfl, fun h => absurd (hr.symm.trans h) (by simp)⟩
    · rw [hf]; rfl
    · rw [hf]; rfl
  | true =>
    obtain ⟨_, hTH, _, hF⟩ := right_facts hr
    have ho : ordL ts = orderUp (prio ts) ts.length := by rw [ordL, if_pos hr]
    have hd := Chn.deepest (n := ts.length) (P := prio ts) (TH := thr ts) (F := frm ts) (ord := ordL ts) hTH (fun i hi => (hF i hi).1) (by rw [ho]; exact order_sorted _ _) (fun i => by rw [ho]; exact ⟨order_lt, order_has⟩) (by rw [ho]; exact order_nodup _ _)
    by_cases h0 : ts.length = 0
    · have hf : firstO ts = none := hd.1 h0
      refine ⟨[], ?_, by simp, by simp, ?_, fun _ => rfl, fun _ => ⟨fun _ => rfl, fun h => by omega⟩⟩
      · rw [hf]; rfl
      · rw [hf]; rfl
    · obtain ⟨k, c, h1, h2, h3, h4, h5⟩ := hd.2 (by omega)
      have hf : firstO ts = some k := h1
      refine ⟨c, ?_, ?_, h3.lt, ?_, fun h => absurd (hr.symm.trans h) (by simp), fun _ => ⟨fun h => absurd h h0, fun _ => ⟨h3, h4, h5⟩⟩⟩
      · rw [hf]; exact foll_of_good h2
      · cases c with
        | nil => exact absurd rfl h4
        | cons a r =>
          have h6 := Chn.chain_len hTH h3
          have h7 := Chn.rank_le (P := prio ts) (h3.lt a (by simp))
          simp only [List.length_cons]
          omega
      · rw [hf]; exact h2.depth
noncomputable def deepL (ts : List TaskV) : List Nat := Classical.choose (deep_ex ts)
theorem deepL_ok (ts : List TaskV) : DeepOk ts (deepL ts) := Classical.choose_spec (deep_ex ts)
end Bch
end Go.Proofs.YtlbinlhaejhobaaGreatDoor
/- chain: how deep the deepest chain is; which one it is. -/
namespace Go.Proofs.YtlbinlhaejhobaaGreatDoor
namespace Bch
open Go Go.RowKit Go.Maps Go.Shelf
noncomputable def bndZ (ts : List TaskV) : Int := Chn.depth (frm ts) (deepL ts)
theorem foll_first {L : Chn.Lks} {f : Option Nat} {c : List Nat} (h : Foll L f c) (hc : ∀ x ∈ c, x < 12) : -1 ≤ optZ f ∧ optZ f ≤ 12 := by
  cases f with
  | none => exact ⟨by decide, by decide⟩
  | some t =>
    cases c with
    | nil => exact h.elim
    | cons x c =>
      obtain ⟨rfl, _⟩ := h
      have := hc x (by simp)
      show -1 ≤ (x : Int) ∧ (x : Int) ≤ 12
      omega
set_option maxRecDepth 100000 in
set_option maxHeartbeats 4000000 in
theorem bound_any {w : World} {c : ConfV} {ts : List TaskV} (hT : TasksAt w c.ta ts) (hn : c.ta.n ≤ 9223372036854775807) : Calls Tryz.prog 43 #[c.val] w (GrowI (bndZ ts) w) := by
  have hO := (Only.refl (fun _ => False) w).alloc (.cells c.cells.toArray 27)
  have hB := heap_new_at w (.cells c.cells.toArray 27) rfl
  have hlen := hT.len
  obtain ⟨W1, hW1⟩ : ∃ W1, W1 = w.alloc (.cells c.cells.toArray 27) := ⟨_, rfl⟩
  rw [← hW1] at hB hO
  have d0 := row_cell hB (i := 0) rfl
  have d1 := row_cell hB (i := 1) rfl
  have d2 := row_cell hB (i := 2) rfl
  have d3 := row_cell hB (i := 3) rfl
  have d4 := row_cell hB (i := 4) rfl
  have d5 := row_cell hB (i := 5) rfl
  have d6 := row_cell hB (i := 6) rfl
  have d7 := row_cell hB (i := 7) rfl
  have d8 := row_cell hB (i := 8) rfl
  have d9 := row_cell hB (i := 9) rfl
  have hlk := Lib.hid (linked_any (hT.new hO) hn)
  have hdp := deepL_ok ts
  have hdep := lkG_depth (lks ts) (firstO ts)
  rw [hdp.2.2.2.1] at hdep
  have hfz : -1 ≤ optZ (firstO ts) ∧ optZ (firstO ts) ≤ 12 := by
    refine foll_first hdp.1 (fun x hx => ?_)
    have h1 := hdp.2.2.1 x hx
    cases hr : rightB ts with
    | true => have := (right_facts hr).1; omega
    | false => rw [hdp.2.2.2.2.1 hr] at hx; simp at hx
  obtain ⟨V, hV⟩ : ∃ V, V = bndZ ts := ⟨_, rfl⟩
  have hdep' : (lkG (lks ts) (optZ (firstO ts))).1 = V := hdep.trans hV.symm
  rw [← hV]
  obtain ⟨Z, hZ⟩ : ∃ Z, Z = GrowI V w := ⟨_, rfl⟩
  rw [← hZ]
  have hZ' := Lib.hid hZ
  have hlook := Lib.hid (fun (W : World) (b : Nat) (hm : MapL W b 12 (lkG (lks ts))) => show ∃ y : Int, (Instr.lookup 96 (.map (some b)) (.int .i64 (optZ (firstO ts))) false).run Tryz.prog W = .ok (.agg #[.int .i64 V, .int .i64 y]) W from
    ⟨(lkG (lks ts) (optZ (firstO ts))).2, by rw [hm.look (by omega) (by omega), ← hdep']; rfl⟩)
  have hfo : optZ (Chn.pick (fun _ => true) (Chn.dOf (lks ts)) (ordL ts) none) = optZ (firstO ts) := rfl
  unfold LnkEnd at hlk
  rw [hfo] at hlk
  obtain ⟨z, hz⟩ : ∃ z, z = optZ (firstO ts) := ⟨_, rfl⟩
  rw [← hz] at hlk hlook
  unfold ConfV.val at hlk ⊢
  unfold ConfV.cells at hW1
  have hW1' := Lib.hid hW1
  have hO' := Lib.hid hO
  clear hT hB hO hW1 hZ hdp hdep hdep' hV hfz hfo hz
  go_enter Tryz.func43, Tryz.ntmps43
  go_wp2_with fail
  rw [← hW1'.out]
  refine hlk.out.mono ?_
  rintro e w2 ⟨b, rfl, hM, ho⟩
  obtain ⟨y, hy⟩ := hlook.out w2 b hM
  have hOw := Lib.hid (hO'.out.trans' ho)
  have fl0 := field0
  clear hM ho hlook hlk d0 d1 d2 d3 d4 d5 d6 d7 d8 d9
  go_wp2
  rw [hZ'.out]
  exact ⟨rfl, hOw.out⟩
/-- A row of numbers of the call's own. -/
def RowEnd (w : World) (C : List Nat) (e : Ending) (w' : World) : Prop :=
  ∃ (A : Option Addr) (cap : Nat) (h : Option Nat), e = .returned (.slice A C.length cap) ∧ Win w' 3 1 (.slice A C.length cap) h C.length (dat C) ∧ (∀ b, h = some b → w.heap.size ≤ b) ∧ Only (fun _ => False) w w'
end Bch
end Go.Proofs.YtlbinlhaejhobaaGreatDoor
