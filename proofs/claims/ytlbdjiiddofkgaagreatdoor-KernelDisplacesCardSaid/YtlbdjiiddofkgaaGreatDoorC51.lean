import Derived.SizedLaws
import Derived.Handed
import Derived.Lib.LaidTab
import Derived.Stop.Joined
import Derived.Deep.Slices
import Derived.ChangeSame
import Derived.Test.YtlbdjiiddofkgaaGreatDoorC50
import Derived.Test.YtlbdjiiddofkgaaGreatDoorChecked
import Derived.JoinedOf
import Derived.LaidMore
set_option maxRecDepth 100000
namespace Go.Proofs.YtlbdjiiddofkgaaGreatDoor
open Go
theorem zNV {P : Program} {w : World} : ∀ {l : List (String × DataW Unit)} {ps : List MemPlace}, DataW.LaidVars P w l ps -> ∀ n d, (n, d) ∈ l ->
  ∃ g t cs fuel p, P.globalNamed n = some g /\ (P.globals[g]?).map (·.type) = some t /\ w.var? P n = some cs /\ DataW.trod (fun _ => ()) P w 0 (fun _ => true) false fuel t cs.toList = some (d, p)
 | [], _, _, _, _, h => by cases h
 | (n', d') :: l, ps, h, n, d, hm => by
  obtain ⟨g, t, cs, fuel, p, q, h1, h2, h3, h4, h5, _⟩ := h
  rcases List.mem_cons.1 hm with e | e
  ·cases e
   exact ⟨g, t, cs, fuel, p, h1, h2, h3, h4⟩
  ·exact zNV h5 n d e
theorem zDM {H : Type} {enc : TypeId × Value -> H} {a : Assume} {C : Checked} {os : Os} {f : FuncId} {fn : Func} {s : ChangeSpec} {conds : List PathCond} {apart fresh handsOn again : Bool} {X : World -> Array Value -> Prop}
  (hX : ∀ (w w' : World) (args : Array Value), w.heap = w'.heap -> X w args -> X w' args)
  (own : ownKnob C.prog.godebug = none) (started : os.Started) (jBf : C.prog.inits.idxOf? f = none) (hfn : C.prog.funcs[f]? = some fn)
  (witness : ∃ (w : World) (tape : Tape) (i : Input), w.os = os /\ (w.forCall tape i).Shaped C.prog /\ i.vars = [] /\ Input.okWide C.prog (w.forCall tape i) .any w.heap.size f i /\
   ((s.pre enc C.prog fn conds apart (w.forCall tape i).memory i.args /\ X (w.forCall tape i).memory i.args) /\ sizedMet enc C.prog fn (OpenSpec.ofChange s) apart (w.forCall tape i).memory i.args) /\ a.holds C.prog (lone (Frame.enter C.prog f i.args .normal) [] (w.forCall tape i)))
  (contract : ∀ (W : World) (base : Nat) (args : Array Value) (ds gs : List (DataW H)) (before : List MemPlace),
   (∀ (j : Nat) t v, fn.params[j]? = some t -> args[j]? = some v -> Value.okWide C.prog W .any base t v) ->
   DataW.Whole enc C.prog fn.params.toList s.vars apart W args.toList ds gs before -> X W args -> W.ShapedOpen C.prog ->
   Calls C.prog f args W fun e W' => ∃ v, e = .returned v /\ s.post enc C.prog fn apart fresh handsOn again W args v W') :
  ReturnsInHanded a C os f .any (fun w args => (s.pre enc C.prog fn conds apart w args /\ X w args) /\ sizedMet enc C.prog fn (OpenSpec.ofChange s) apart w args) (s.post enc C.prog fn apart fresh handsOn again) := by
 refine returnsInHanded_of_calls own started jBf witness ?_
 intro w tape i _ hsh _ hok hpre _
 obtain ⟨_, _, _, fn', jHb, _, _, _, _, hval⟩ := hok
 obtain rfl : fn' = fn := Option.some.inj (jHb.symm.trans hfn)
 obtain ⟨⟨⟨ds, gs, before, hw, _⟩, hx⟩, _⟩ := hpre
 refine (contract (w.forCall tape i) w.heap.size i.args ds gs before hval (DataW.Whole.of_heap (w' := w.forCall tape i) (by rfl) hw) (hX _ _ _ (by rfl) hx) hsh).mono fun e W' ⟨v, he, hp⟩ => ?_
 subst he
 exact ChangeSpec.post_blind hp
end Go.Proofs.YtlbdjiiddofkgaaGreatDoor
namespace Go.Proofs.YtlbdjiiddofkgaaGreatDoor
open Go Go.RowKit Go.ChangeShapes Go.WideShapes Go.Deep
section
variable {H : Type} {enc : TypeId × Value -> H} {P : Program} {w : World} {base : Nat} {spare : Nat -> Bool} {held : Bool}
theorem zNW {t e : TypeId} {fs : Array Field} {fuel : Nat} {cs : List Value} {x : DataW H × List MemPlace} (ht : P.underlying t = some (.slice e)) (he : P.underlying e = some (.struct fs)) (ce : P.cellsOf e = fs.size)
  (xH : ∀ (i : Nat) (f : Field), fs[i]? = some f -> f.offset = i /\ P.cellsOf f.type = 1) (h : DataW.trod enc P w base spare held fuel t cs = some x) :
  cs = [.slice none 0 0] ∨ ∃ (a : Addr) (len cap m n : Nat), cs = [.slice (some a) len cap] /\ len <= m /\
   ∀ i, i < m -> ∀ (j : Nat) (f : Field), fs[j]? = some f -> ∃ v y, w.cell? (a.add (i * fs.size + j)) = some v /\ DataW.trod enc P w base spare held n f.type [v] = some y := by
 rcases open_slice ht h with h0 | ⟨a, len, cap, m, n, D, Pl, rfl, hb, hl, hm, hmm, rfl, hx⟩
 ·exact .inl h0.1
 ·refine .inr ⟨a, len, cap, m, n - 1, rfl, by rw [hmm]; split <;> omega, fun i hi j f hf => ?_⟩
  obtain ⟨cs', h1, h2⟩ := hx i hi
  rw [ce] at h1
  obtain ⟨_, hlen, hcell⟩ := World.cells?_some h1
  obtain ⟨xs, k, hk, _, _, hxl, hff⟩ := DataW.trod_struct he h2
  have hk' : k = n - 1 := by omega
  subst hk'
  have hj : j < fs.size := (Array.getElem?_eq_some_iff.1 hf).1
  obtain ⟨ho, hc⟩ := xH j f hf
  have g := hff j f hf
  rw [ho, hc] at g
  have hjc : j < cs'.length := by omega
  have zX : (cs'.drop j).take 1 = [cs'[j]] := by
   rw [List.drop_eq_getElem_cons hjc]
   rfl
  rw [zX] at g
  have hxj : j < xs.length := by omega
  rw [List.getElem?_eq_getElem hxj] at g
  have hcj := hcell j hj
  rw [add_add, List.getElem?_eq_getElem hjc] at hcj
  exact ⟨cs'[j], xs[j], by simpa using hcj, g⟩
end
theorem zCZ {H : Type} {enc : TypeId × Value -> H} {P : Program} {w : World} {base : Nat} {spare : Nat -> Bool} {held : Bool} {t e : TypeId} {fs : Array Field} {fuel : Nat} {A : Option Addr} {len cap : Nat} {x : DataW H × List MemPlace}
  (ht : P.underlying t = some (.slice e)) (he : P.underlying e = some (.struct fs)) (ce : P.cellsOf e = fs.size) (h0 : 0 < fs.size)
  (xH : ∀ (i : Nat) (f : Field), fs[i]? = some f -> f.offset = i /\ P.cellsOf f.type = 1 /\ P.underlying f.type = some (.int .i64)) (h : DataW.trod enc P w base spare held fuel t [.slice A len cap] = some x) :
  len <= cap /\ ∃ z : Nat -> Nat -> Int, ∀ i, i < len -> ∃ b off, A = some ⟨b, off, none⟩ /\ b < w.heap.size /\ ∀ j, j < fs.size -> w.cell? ⟨b, off + (i * fs.size + j), none⟩ = some (.int .i64 (z i j)) /\ (Lit.int .i64 (z i j)).wf = true := by
 have xI : len <= cap := by
  rcases open_slice ht h with h0 | ⟨a, len', cap', m, n, D, Pl, hcs, hb, hl, hm, hmm, _, hx⟩
  ·have := h0.1
   simp at this
   omega
  ·simp at hcs
   omega
 refine ⟨xI, ?_⟩
 rcases zNW ht he ce (fun i f hi => ⟨(xH i f hi).1, (xH i f hi).2.1⟩) h with hcs | ⟨a, l, c, m, n, hcs, hlm, hall⟩
 ·simp at hcs
  exact ⟨fun _ _ => 0, fun i hi => by omega⟩
 ·simp at hcs
  obtain ⟨rfl, rfl, rfl⟩ := hcs
  have each : ∀ i j, i < len -> j < fs.size -> ∃ z : Int, w.cell? (a.add (i * fs.size + j)) = some (.int .i64 z) /\ (Lit.int .i64 z).wf = true := by
   intro i j hi hj
   obtain ⟨v, y, h1, h2⟩ := hall i (by omega) j fs[j] (Array.getElem?_eq_getElem hj)
   obtain ⟨z, hz, _, hw⟩ := DataW.trod_int (xH j fs[j] (Array.getElem?_eq_getElem hj)).2.2 h2
   simp only [List.cons.injEq, and_true] at hz
   subst hz
   exact ⟨z, h1, hw⟩
  refine ⟨fun i j => if hi : i < len /\ j < fs.size then Classical.choose (each i j hi.1 hi.2) else 0, fun i hi => ?_⟩
  have hx : a = ⟨a.block, a.off, none⟩ := by
   obtain ⟨z, hz, _⟩ := each 0 0 (by omega) h0
   have h1 := zEF hz
   cases a with
   | mk b o s =>
    unfold Addr.add at h1
    simp at h1
    subst h1
    rfl
  have hb : a.block < w.heap.size := by
   obtain ⟨z, hz, _⟩ := each i 0 hi h0
   have := World.block_lt_of_cell? w _ hz
   rwa [add_block] at this
  refine ⟨a.block, a.off, congrArg some hx, hb, fun j hj => ?_⟩
  have hc := Classical.choose_spec (each i j hi hj)
  simp only [hi, hj, and_self, dif_pos]
  refine ⟨?_, hc.2⟩
  generalize Classical.choose (each i j hi hj) = z at hc ⊢
  have h1 := hc.1
  rw [hx, Addr.add_lit] at h1
  exact h1
end Go.Proofs.YtlbdjiiddofkgaaGreatDoor
namespace Go.Proofs.YtlbdjiiddofkgaaGreatDoor
namespace Krn
open Go Go.RowKit Go.Maps Ring Band
theorem c3e : Tryz.prog.cellsOf 3 = 1 := by kernel_rfl
theorem jHc : Tryz.prog.cellsOf 40 = 5 := by kernel_rfl
theorem zPY : ∃ fs : Array Field, Tryz.prog.underlying 40 = some (.struct fs) /\ fs.size = 5 /\ ∀ (i : Nat) (f : Field), fs[i]? = some f -> f.offset = i /\ Tryz.prog.cellsOf f.type = 1 /\ Tryz.prog.underlying f.type = some (.int .i64) := by
 refine ⟨_, Tryz.underlying40, rfl, fun i f hi => ?_⟩
 match i with
 | 0 => cases hi; exact ⟨rfl, c3e, Tryz.underlying3⟩
 | 1 => cases hi; exact ⟨rfl, c3e, Tryz.underlying3⟩
 | 2 => cases hi; exact ⟨rfl, c3e, Tryz.underlying3⟩
 | 3 => cases hi; exact ⟨rfl, c3e, Tryz.underlying3⟩
 | 4 => cases hi; exact ⟨rfl, c3e, Tryz.underlying3⟩
 | i + 5 => simp at hi
theorem evs_in {H : Type} {enc : TypeId × Value -> H} {w : World} {A : Option Addr} {len cap : Nat} {d : DataW H} {ps : List MemPlace} (h : DataW.Trod enc Tryz.prog w 0 (fun _ => true) true 28 (.slice A len cap) d ps) : ∃ l : List Pil.Ev, EvsAt w A l /\ l.length = len := by
 obtain ⟨fuel, hf⟩ := h
 obtain ⟨fs, he, hsz, hfs⟩ := zPY
 obtain ⟨hc, z, hz⟩ := zCZ Tryz.underlying28 he (by rw [jHc, hsz]) (by omega) hfs hf
 rw [hsz] at hz
 refine ⟨(List.range len).map (fun i => ⟨z i 0, z i 1, z i 2, z i 3, z i 4⟩), fun k y hy => ?_, by simp⟩
 have hk := (List.getElem?_eq_some_iff.1 hy).1
 simp at hk
 rw [List.getElem?_map, List.getElem?_range hk] at hy
 simp only [Option.map_some, Option.some.injEq] at hy
 subst hy
 obtain ⟨b, off, hA, hb, hcell⟩ := hz k hk
 exact ⟨b, off, hA, hb, (hcell 0 (by omega)).1, (hcell 1 (by omega)).1, (hcell 2 (by omega)).1, (hcell 3 (by omega)).1, (hcell 4 (by omega)).1⟩
theorem u16_in {a : Int} (h : (Lit.int .u16 a).wf = true) : ∃ u : Nat, a = (u : Int) /\ u <= 65535 := by
 simp [Lit.wf] at h
 have h1 : IntKind.u16.min = 0 := by decide
 have h2 : IntKind.u16.max = 65535 := by decide
 rw [h1, h2] at h
 exact ⟨a.toNat, by omega, by omega⟩
theorem displaces18 (c : jD) (A : Option Addr) (n cap : Nat) (a : Int) (w : World) (hw : Words w) (hc : ∃ d pl, ConfIn w c d pl) (hl : ∃ l : List Pil.Ev, EvsAt w A l /\ l.length = n) (ha : (Lit.int .u16 a).wf = true) :
  Calls Tryz.prog 4 #[c.val, .slice A n cap, .int .u16 a] w fun e w' => e = .returned (.bool true) /\ Below w.heap.size w w' := by
 obtain ⟨d, pl, hC⟩ := hc
 obtain ⟨l, h1, h2⟩ := hl
 obtain ⟨u, rfl, hu⟩ := u16_in ha
 exact (zGX hw hC h1 h2 hu).mono fun e w' ⟨he, ho⟩ => ⟨he, ho.below (Nat.le_refl _) (fun _ h => h.elim)⟩
end Krn
end Go.Proofs.YtlbdjiiddofkgaaGreatDoor
namespace Go.Proofs.YtlbdjiiddofkgaaGreatDoor.kernelDisplaces
open Go Go.ChangeShapes Go.WideShapes
set_option maxRecDepth 100000
theorem zAZ {a b : Bool} (h : a = true) (g : b = true) : (a && b) = true := by rw [h, g]; rfl
theorem jHd : (Rows.kernelDisplacesRow.wf (OpenSpec.ofChange Rows.kernelDisplacesSpec)) = true := by kernel_rfl
theorem jHe : (laidOutB Tryz.pinned.checked.prog) = true := by kernel_rfl
theorem jHf : (mapsRowed Tryz.pinned.checked.prog) = true := by kernel_rfl
theorem jHg : (Tryz.f4.params.all (Tryz.pinned.checked.prog.readableRec ·)) = true := by kernel_rfl
theorem jHh : (namedTie Tryz.pinned.checked.prog Rows.kernelDisplacesRow.named Rows.kernelDisplacesSpec.vars) = true := by kernel_rfl
theorem jHi : ((Rows.kernelDisplacesRow.stops == [])) = true := by kernel_rfl
theorem jHj : ((Tryz.pinned.checked.prog.stops == [])) = true := by kernel_rfl
theorem jHk : ((Rows.kernelDisplacesRow.knobs == [])) = true := by kernel_rfl
theorem jHl : ((Tryz.pinned.checked.prog.stopKnobs == [])) = true := by kernel_rfl
theorem jHm : ((Rows.kernelDisplacesRow.inPlace == Tryz.pinned.checked.prog.inPlace 4)) = true := by kernel_rfl
theorem jHn : ((Rows.kernelDisplacesRow.unfollowed == Tryz.pinned.checked.prog.unfollowed 4)) = true := by kernel_rfl
theorem jHo : ((Rows.kernelDisplacesRow.recurses == Tryz.pinned.checked.prog.recurses 4)) = true := by kernel_rfl
theorem jHp : ((Rows.kernelDisplacesRow.named == Tryz.pinned.checked.prog.varsNamed 4)) = true := by kernel_rfl
theorem jHq : ((Rows.kernelDisplacesRow.maps == (Tryz.f4.params.toList ++ Rows.kernelDisplacesSpec.plain.varTypes Tryz.pinned.checked.prog).any (Tryz.pinned.checked.prog.mapsRec ·))) = true := by kernel_rfl
theorem jHr : ((Rows.kernelDisplacesRow.ifaces == (Tryz.f4.params.toList ++ Rows.kernelDisplacesSpec.plain.varTypes Tryz.pinned.checked.prog).any (Tryz.pinned.checked.prog.ifacesRec ·))) = true := by kernel_rfl
theorem jHs : ((Rows.kernelDisplacesRow.mapsOut == Tryz.pinned.checked.prog.mapsAmong Tryz.f4.resultTypes.toList)) = true := by kernel_rfl
theorem jHt : ((Rows.kernelDisplacesRow.loops == (Tryz.f4.params.toList ++ Rows.kernelDisplacesSpec.plain.varTypes Tryz.pinned.checked.prog).any (Tryz.pinned.checked.prog.loopsFrom ·))) = true := by kernel_rfl
theorem jHu : ((Rows.kernelDisplacesRow.wideKeys == (Tryz.f4.params.toList ++ Rows.kernelDisplacesSpec.plain.varTypes Tryz.pinned.checked.prog ++ Tryz.f4.resultTypes.toList).any (Tryz.pinned.checked.prog.wideKeysFrom ·))) = true := by kernel_rfl
theorem jHv : (Rows.kernelDisplacesSpec.vars.all (Tryz.pinned.checked.prog.varReadable ·)) = true := by kernel_rfl
theorem jHw : (Tryz.f4.resultTypes.all (fun t => Tryz.pinned.checked.prog.readableRec t && decide (t < Tryz.pinned.checked.prog.types.size))) = true := by kernel_rfl
theorem jHx : ((Rows.kernelDisplacesRow.ifacesOut == Tryz.f4.resultTypes.toList.any (Tryz.pinned.checked.prog.ifacesRec ·))) = true := by kernel_rfl
theorem jHy : ((Rows.kernelDisplacesRow.loopsOut == Tryz.f4.resultTypes.toList.any (Tryz.pinned.checked.prog.loopsFrom ·))) = true := by kernel_rfl
theorem jHz : ((Rows.kernelDisplacesRow.plainKeys == Tryz.pinned.checked.prog.plainKeys)) = true := by kernel_rfl
theorem jH0 : (Rows.kernelDisplacesRow.shortTexts.isNone) = true := by kernel_rfl
theorem jH1 : (Tryz.pinned.checked.prog.stopsHeard) = true := by kernel_rfl
theorem jH2 : (Tryz.pinned.checked.prog.mayEnter) = true := by kernel_rfl
theorem jH3 : ((Rows.kernelDisplacesRow.lifted == Tryz.pinned.checked.prog.liftsFinal)) = true := by kernel_rfl
theorem jH4 : ((Tryz.pinned.checked.prog.make == some Rows.kernelDisplacesRow.make)) = true := by kernel_rfl
theorem jH5 : ((Rows.kernelDisplacesRow.kinds == (if Rows.kernelDisplacesRow.domain.isEmpty then [] else Tryz.f4.params.toList.map fun t => match Tryz.pinned.checked.prog.underlying t with | some (.int k) => some k | _ => none))) = true := by kernel_rfl
theorem jH6 : ((Rows.kernelDisplacesRow.pinned == Rows.kernelDisplacesRow.pinnedBy)) = true := by kernel_rfl
theorem jH7 : ((Rows.kernelDisplacesRow.veiled == (Tryz.f4.params.toList ++ Rows.kernelDisplacesSpec.plain.varTypes Tryz.pinned.checked.prog ++ Tryz.f4.resultTypes.toList).any (Tryz.pinned.checked.prog.veiledRec ·))) = true := by kernel_rfl
theorem jH8 : (Rows.kernelDisplacesRow.veiledFits Tryz.pinned.checked.prog Tryz.f4.params.toList (Tryz.f4.params.toList ++ Rows.kernelDisplacesSpec.plain.varTypes Tryz.pinned.checked.prog ++ Tryz.f4.resultTypes.toList)) = true := by kernel_rfl
theorem closed : joinedFacts Tryz.pinned.checked.prog 4 Tryz.f4 Rows.kernelDisplacesSpec Rows.kernelDisplacesRow = true := (zAZ (zAZ (zAZ (zAZ (zAZ (zAZ (zAZ (zAZ (zAZ (zAZ (zAZ (zAZ (zAZ (zAZ (zAZ (zAZ (zAZ (zAZ (zAZ (zAZ (zAZ (zAZ (zAZ (zAZ (zAZ (zAZ (zAZ (zAZ (zAZ (zAZ (zAZ jHd jHe) jHf) jHg) jHh) jHi) jHj) jHk) jHl) jHm) jHn) jHo) jHp) jHq) jHr) jHs) jHt) jHu) jHv) jHw) jHx) jHy) jHz) jH0) jH1) jH2) jH3) jH4) jH5) jH6) jH7) jH8)
end Go.Proofs.YtlbdjiiddofkgaaGreatDoor.kernelDisplaces
namespace Go.Proofs.YtlbdjiiddofkgaaGreatDoor
open Go Go.RowKit
theorem c3 : Tryz.prog.cellsOf 3 = 1 := by kernel_rfl
theorem c24 : Tryz.prog.cellsOf 24 = 1 := by kernel_rfl
theorem c25 : Tryz.prog.cellsOf 25 = 1 := by kernel_rfl
theorem c43 : Tryz.prog.cellsOf 61 = 1 := by kernel_rfl
theorem c23 : Tryz.prog.cellsOf 23 = 4 := by kernel_rfl
theorem c27 : Tryz.prog.cellsOf 27 = 10 := by kernel_rfl
theorem c45 : Tryz.prog.cellsOf 63 = 7 := by kernel_rfl
theorem c69 : Tryz.prog.cellsOf 94 = 3 := by kernel_rfl
section
open Go.ChangeShapes Go.WideShapes Go.Deep
variable {H : Type} {enc : TypeId × Value -> H} {w : World} {n : Nat} {u : Value} {y : DataW H × List MemPlace}
theorem zGY (h : DataW.trod enc Tryz.prog w 0 (fun _ => true) true n 24 [u] = some y) : ∃ (x : Sl) (l : List Int), u = .slice x.A x.n x.cap /\ IntsAt w x l := by
 rcases open_ints Tryz.underlying24 Tryz.underlying3 (by kernel_rfl) h with ⟨hcs, _⟩ | ⟨a, l, c, zs, hcs, _, hl, hm, hz, _, hcell, hwz⟩
 ·simp at hcs
  exact ⟨⟨none, 0, 0⟩, [], hcs, rfl, Nat.le_refl _, fun k z hz => by simp at hz⟩
 ·simp at hcs
  have hr := zLC (len := l) hcell hwz (by simp at hz; omega)
  refine ⟨⟨some a, l, c⟩, (List.range l).map (fun j => zs.getD j 0), hcs, by simp, hl, fun k z hz => ?_⟩
  have hk := (List.getElem?_eq_some_iff.1 hz).1
  simp at hk
  rw [List.getElem?_map, List.getElem?_range hk] at hz
  simp only [Option.map_some, Option.some.injEq] at hz
  obtain ⟨b, off, hA, hc, hb⟩ := (hr k hk).1
  exact ⟨b, off, hA, hb, by rw [hc, <- hz]⟩
theorem zPZ : ∃ fs : Array Field, Tryz.prog.underlying 94 = some (.struct fs) /\ fs.size = 3 /\ ∀ (i : Nat) (f : Field), fs[i]? = some f -> f.offset = i /\ Tryz.prog.cellsOf f.type = 1 /\ Tryz.prog.underlying f.type = some (.int .i64) := by
 refine ⟨_, Tryz.underlying94, rfl, fun i f hi => ?_⟩
 match i with
 | 0 => cases hi; exact ⟨rfl, by kernel_rfl, Tryz.underlying3⟩
 | 1 => cases hi; exact ⟨rfl, by kernel_rfl, Tryz.underlying3⟩
 | 2 => cases hi; exact ⟨rfl, by kernel_rfl, Tryz.underlying3⟩
 | i + 3 => simp at hi
theorem zTV (h : DataW.trod enc Tryz.prog w 0 (fun _ => true) true n 61 [u] = some y) : ∃ (x : Sl) (l : List Opn), u = .slice x.A x.n x.cap /\ OpnRow w x.A l /\ l.length = x.n /\ x.n <= x.cap := by
 obtain ⟨x, hx⟩ : ∃ x : Sl, u = .slice x.A x.n x.cap := by
  rcases open_slice Tryz.underlying61 h with h0 | ⟨a, len, cap, m, n', D, Pl, hcs, _⟩
  ·have := h0.1
   simp at this
   exact ⟨⟨none, 0, 0⟩, this⟩
  ·simp at hcs
   exact ⟨⟨some a, len, cap⟩, hcs⟩
 subst hx
 obtain ⟨A, len, cap⟩ := x
 obtain ⟨fs, he, hsz, hfs⟩ := zPZ
 obtain ⟨hc, z, hz⟩ := zCZ Tryz.underlying61 he (by rw [c69, hsz]) (by omega) hfs h
 rw [hsz] at hz
 refine ⟨⟨A, len, cap⟩, (List.range len).map (fun i => ⟨z i 0, z i 1, z i 2⟩), rfl, fun k y hy => ?_, by simp, hc⟩
 have hk := (List.getElem?_eq_some_iff.1 hy).1
 simp at hk
 rw [List.getElem?_map, List.getElem?_range hk] at hy
 simp only [Option.map_some, Option.some.injEq] at hy
 subst hy
 obtain ⟨b, off, hA, hb, hcell⟩ := hz k hk
 exact ⟨b, off, hA, hb, by have := (hcell 0 (by omega)).1; rwa [<- Nat.add_assoc] at this, by have := (hcell 1 (by omega)).1; rwa [<- Nat.add_assoc] at this, by have := (hcell 2 (by omega)).1; rwa [<- Nat.add_assoc] at this⟩
theorem zCK {t : TypeId} {k : IntKind} {vs : List Value} (ht : Tryz.prog.underlying t = some (.int k)) (h : DataW.trod enc Tryz.prog w 0 (fun _ => true) true n t vs = some y) : ∃ z : Int, vs = [.int k z] := by
 obtain ⟨z, hz, _⟩ := DataW.trod_int ht h
 exact ⟨z, hz⟩
theorem zFO {α : Type} {l : List α} {k : Nat} {v : α} (h : (l.drop k).take 1 = [v]) : l[k]? = some v := by
 have := congrArg (·[0]?) h
 simpa [List.getElem?_take, List.getElem?_drop] using this
theorem zSK {vs : List Value} (hl : vs.length = 7) (h : DataW.trod enc Tryz.prog w 0 (fun _ => true) true n 63 vs = some y) : ∃ (t : jA) (l : List Opn), vs = t.cells /\ OpnRow w t.o.A l /\ l.length = t.o.n /\ t.o.n <= t.o.cap := by
 obtain ⟨xs, m, _, _, _, hxl, hf⟩ := DataW.trod_struct Tryz.underlying63 h
 have hxs : xs.length = 7 := hxl
 have f0 : DataW.trod enc Tryz.prog w 0 (fun _ => true) true m 3 ((vs.drop 0).take (Tryz.prog.cellsOf 3)) = some (xs[0]'(by omega)) := (hf 0 _ rfl).trans (List.getElem?_eq_getElem (by omega))
 have f1 : DataW.trod enc Tryz.prog w 0 (fun _ => true) true m 3 ((vs.drop 1).take (Tryz.prog.cellsOf 3)) = some (xs[1]'(by omega)) := (hf 1 _ rfl).trans (List.getElem?_eq_getElem (by omega))
 have f2 : DataW.trod enc Tryz.prog w 0 (fun _ => true) true m 3 ((vs.drop 2).take (Tryz.prog.cellsOf 3)) = some (xs[2]'(by omega)) := (hf 2 _ rfl).trans (List.getElem?_eq_getElem (by omega))
 have f3 : DataW.trod enc Tryz.prog w 0 (fun _ => true) true m 3 ((vs.drop 3).take (Tryz.prog.cellsOf 3)) = some (xs[3]'(by omega)) := (hf 3 _ rfl).trans (List.getElem?_eq_getElem (by omega))
 have f4 : DataW.trod enc Tryz.prog w 0 (fun _ => true) true m 3 ((vs.drop 4).take (Tryz.prog.cellsOf 3)) = some (xs[4]'(by omega)) := (hf 4 _ rfl).trans (List.getElem?_eq_getElem (by omega))
 have f5 : DataW.trod enc Tryz.prog w 0 (fun _ => true) true m 3 ((vs.drop 5).take (Tryz.prog.cellsOf 3)) = some (xs[5]'(by omega)) := (hf 5 _ rfl).trans (List.getElem?_eq_getElem (by omega))
 have f6 : DataW.trod enc Tryz.prog w 0 (fun _ => true) true m 61 ((vs.drop 6).take (Tryz.prog.cellsOf 61)) = some (xs[6]'(by omega)) := (hf 6 _ rfl).trans (List.getElem?_eq_getElem (by omega))
 obtain ⟨z0, e0⟩ := zCK Tryz.underlying3 f0
 obtain ⟨z1, e1⟩ := zCK Tryz.underlying3 f1
 obtain ⟨z2, e2⟩ := zCK Tryz.underlying3 f2
 obtain ⟨z3, e3⟩ := zCK Tryz.underlying3 f3
 obtain ⟨z4, e4⟩ := zCK Tryz.underlying3 f4
 obtain ⟨z5, e5⟩ := zCK Tryz.underlying3 f5
 rw [c3] at e0 e1 e2 e3 e4 e5
 replace e0 := zFO e0
 replace e1 := zFO e1
 replace e2 := zFO e2
 replace e3 := zFO e3
 replace e4 := zFO e4
 replace e5 := zFO e5
 rw [c43] at f6
 clear f0 f1 f2 f3 f4 f5 hf
 match vs, hl with
 | [v0, v1, v2, v3, v4, v5, v6], _ =>
  obtain ⟨x, l, rfl, g1, g2, g3⟩ := zTV f6
  cases e0; cases e1; cases e2; cases e3; cases e4; cases e5
  exact ⟨⟨z0, z1, z2, z3, z4, z5, x⟩, l, rfl, g1, g2, g3⟩
theorem zP0 (h : DataW.trod enc Tryz.prog w 0 (fun _ => true) true n 25 [u] = some y) : ∃ (x : Sl) (pl : Tks), u = .slice x.A x.n x.cap /\ TasksAt w x pl.ts /\ (∀ (i : Nat) t l, pl[i]? = some (t, l) -> OpnRow w t.o.A l /\ l.length = t.o.n /\ t.o.n <= t.o.cap) /\ x.n <= 9223372036854775807 := by
 rcases open_slice Tryz.underlying25 h with h0 | ⟨a, len, cap, m, n', D, Pl, hcs, hb, hl, hm, hmm, _, hx⟩
 ·have := h0.1
  simp at this
  exact ⟨⟨none, 0, 0⟩, [], this, ⟨rfl, Nat.le_refl _, fun k t ht => by simp [Tks.ts] at ht⟩, fun i t l hi => by simp at hi, Nat.zero_le _⟩
 ·simp at hcs
  have hlm : len <= m := by rw [hmm]; split <;> omega
  have each : ∀ i, i < len -> ∃ (t : jA) (l : List Opn), (∀ j v, t.cells[j]? = some v -> w.cell? (a.add (i * 7 + j)) = some v) /\ OpnRow w t.o.A l /\ l.length = t.o.n /\ t.o.n <= t.o.cap := fun i hi => by
   obtain ⟨cs', h1, h2⟩ := hx i (by omega)
   rw [c45] at h1
   obtain ⟨_, hlen, hcell⟩ := World.cells?_some h1
   obtain ⟨t, l, rfl, g1, g2, g3⟩ := zSK hlen h2
   refine ⟨t, l, fun j v hv => ?_, g1, g2, g3⟩
   have hj : j < 7 := by have := (List.getElem?_eq_some_iff.1 hv).1; simpa [jA.cells] using this
   have := hcell j hj
   rw [add_add, hv] at this
   exact this
  have ha : 0 < len -> a = ⟨a.block, a.off, none⟩ := fun h0 => by
   obtain ⟨t, l, h1, _⟩ := each 0 h0
   have h2 := zEF (h1 0 _ rfl)
   cases a with
   | mk b o s =>
    unfold Addr.add at h2
    simp at h2
    subst h2
    rfl
  refine ⟨⟨some a, len, cap⟩, (List.range len).map (fun i => if hi : i < len then (Classical.choose (each i hi), Classical.choose (Classical.choose_spec (each i hi))) else (⟨0, 0, 0, 0, 0, 0, ⟨none, 0, 0⟩⟩, [])), hcs, ⟨by simp [Tks.ts], hl, fun k t ht => ?_⟩, fun i t l hi => ?_, by unfold maxLen at hm; show len <= _; omega⟩
  ·have hk := (List.getElem?_eq_some_iff.1 ht).1
   simp [Tks.ts] at hk
   unfold Tks.ts at ht
   rw [List.getElem?_map, List.getElem?_map, List.getElem?_range hk] at ht
   simp only [Option.map_some, Option.some.injEq, dif_pos hk] at ht
   have hc := (Classical.choose_spec (Classical.choose_spec (each k hk))).1
   rw [ht] at hc
   have e := ha (by omega)
   have hc' : ∀ j v, t.cells[j]? = some v -> w.cell? ⟨a.block, a.off + (k * 7 + j), none⟩ = some v := fun j v hv => by
    have := hc j v hv
    rw [e, Addr.add_lit] at this
    exact this
   have hadd : ∀ j, a.off + k * 7 + j = a.off + (k * 7 + j) := fun j => by omega
   have hblk := World.block_lt_of_cell? w _ (hc' 0 _ rfl)
   exact ⟨a.block, a.off, congrArg some e, hblk, hc' 0 _ rfl, by rw [hadd]; exact hc' 1 _ rfl, by rw [hadd]; exact hc' 2 _ rfl, by rw [hadd]; exact hc' 3 _ rfl, by rw [hadd]; exact hc' 4 _ rfl, by rw [hadd]; exact hc' 5 _ rfl, by rw [hadd]; exact hc' 6 _ rfl⟩
  ·have hk := (List.getElem?_eq_some_iff.1 hi).1
   simp at hk
   rw [List.getElem?_map, List.getElem?_range hk] at hi
   simp only [Option.map_some, Option.some.injEq, dif_pos hk, Prod.mk.injEq] at hi
   have hc := (Classical.choose_spec (Classical.choose_spec (each i hk))).2
   rw [hi.2, hi.1] at hc
   exact hc
theorem zSL {r : Reach} {b0 : Nat} {v : Value} {d : DataW H} {p : List MemPlace} (hv : Value.okWide Tryz.prog w r b0 27 v) (h : DataW.Trod enc Tryz.prog w 0 (fun _ => true) true 27 v d p) : ∃ (c : jD) (dd : jL) (pl : Tks), v = c.val /\ ConfIn w c dd pl := by
 obtain ⟨cs, rfl, hsz⟩ := okWide_struct Tryz.underlying27 hv
 rw [c27] at hsz
 obtain ⟨fuel, hf⟩ := h
 obtain ⟨xs, n, _, _, _, hxl, hg⟩ := DataW.trod_struct Tryz.underlying27 hf
 rw [show (Value.cells (.agg cs)).toList = cs.toList from rfl] at hg
 have hxs : xs.length = 7 := hxl
 have f0 : DataW.trod enc Tryz.prog w 0 (fun _ => true) true n 23 ((cs.toList.drop 0).take (Tryz.prog.cellsOf 23)) = some (xs[0]'(by omega)) := (hg 0 _ rfl).trans (List.getElem?_eq_getElem (by omega))
 have f1 : DataW.trod enc Tryz.prog w 0 (fun _ => true) true n 24 ((cs.toList.drop 4).take (Tryz.prog.cellsOf 24)) = some (xs[1]'(by omega)) := (hg 1 _ rfl).trans (List.getElem?_eq_getElem (by omega))
 have f2 : DataW.trod enc Tryz.prog w 0 (fun _ => true) true n 3 ((cs.toList.drop 5).take (Tryz.prog.cellsOf 3)) = some (xs[2]'(by omega)) := (hg 2 _ rfl).trans (List.getElem?_eq_getElem (by omega))
 have f3 : DataW.trod enc Tryz.prog w 0 (fun _ => true) true n 24 ((cs.toList.drop 6).take (Tryz.prog.cellsOf 24)) = some (xs[3]'(by omega)) := (hg 3 _ rfl).trans (List.getElem?_eq_getElem (by omega))
 have f4 : DataW.trod enc Tryz.prog w 0 (fun _ => true) true n 24 ((cs.toList.drop 7).take (Tryz.prog.cellsOf 24)) = some (xs[4]'(by omega)) := (hg 4 _ rfl).trans (List.getElem?_eq_getElem (by omega))
 have f5 : DataW.trod enc Tryz.prog w 0 (fun _ => true) true n 25 ((cs.toList.drop 8).take (Tryz.prog.cellsOf 25)) = some (xs[5]'(by omega)) := (hg 5 _ rfl).trans (List.getElem?_eq_getElem (by omega))
 have f6 : DataW.trod enc Tryz.prog w 0 (fun _ => true) true n 24 ((cs.toList.drop 9).take (Tryz.prog.cellsOf 24)) = some (xs[6]'(by omega)) := (hg 6 _ rfl).trans (List.getElem?_eq_getElem (by omega))
 obtain ⟨ys, m, _, _, _, hyl, hm⟩ := DataW.trod_struct Tryz.underlying23 f0
 have hys : ys.length = 4 := hyl
 have m0 : DataW.trod enc Tryz.prog w 0 (fun _ => true) true m 3 ((((cs.toList.drop 0).take (Tryz.prog.cellsOf 23)).drop 0).take (Tryz.prog.cellsOf 3)) = some (ys[0]'(by omega)) := (hm 0 _ rfl).trans (List.getElem?_eq_getElem (by omega))
 have m1 : DataW.trod enc Tryz.prog w 0 (fun _ => true) true m 3 ((((cs.toList.drop 0).take (Tryz.prog.cellsOf 23)).drop 1).take (Tryz.prog.cellsOf 3)) = some (ys[1]'(by omega)) := (hm 1 _ rfl).trans (List.getElem?_eq_getElem (by omega))
 have m2 : DataW.trod enc Tryz.prog w 0 (fun _ => true) true m 3 ((((cs.toList.drop 0).take (Tryz.prog.cellsOf 23)).drop 2).take (Tryz.prog.cellsOf 3)) = some (ys[2]'(by omega)) := (hm 2 _ rfl).trans (List.getElem?_eq_getElem (by omega))
 have m3 : DataW.trod enc Tryz.prog w 0 (fun _ => true) true m 3 ((((cs.toList.drop 0).take (Tryz.prog.cellsOf 23)).drop 3).take (Tryz.prog.cellsOf 3)) = some (ys[3]'(by omega)) := (hm 3 _ rfl).trans (List.getElem?_eq_getElem (by omega))
 obtain ⟨z0, e0⟩ := zCK Tryz.underlying3 m0
 obtain ⟨z1, e1⟩ := zCK Tryz.underlying3 m1
 obtain ⟨z2, e2⟩ := zCK Tryz.underlying3 m2
 obtain ⟨z3, e3⟩ := zCK Tryz.underlying3 m3
 obtain ⟨z5, e5⟩ := zCK Tryz.underlying3 f2
 rw [c3] at e0 e1 e2 e3 e5
 rw [c23] at e0 e1 e2 e3
 rw [c24] at f1 f3 f4 f6
 rw [c25] at f5
 have hl : cs.toList.length = 10 := by simpa using hsz
 have hcs : Value.agg cs = .agg cs.toList.toArray := by simp
 rw [hcs]
 clear f0 hg hm m0 m1 m2 m3 hf hv hcs hsz
 generalize cs.toList = L at *
 match L, hl with
 | [v0, v1, v2, v3, v4, v5, v6, v7, v8, v9], _ =>
  obtain ⟨x1, l1, rfl, g1⟩ := zGY f1
  obtain ⟨x3, l3, rfl, g3⟩ := zGY f3
  obtain ⟨x4, l4, rfl, g4⟩ := zGY f4
  obtain ⟨x6, l6, rfl, g6⟩ := zGY f6
  obtain ⟨x5, pl, rfl, g5, g7, g8⟩ := zP0 f5
  simp at e0 e1 e2 e3 e5
  subst e0 e1 e2 e3 e5
  exact ⟨⟨z0, z1, z2, z3, x1, z5, x3, x4, x5, x6⟩, ⟨l1, l3, l4, l6⟩, pl, rfl, g1, g3, g4, g6, g5, g7, g8⟩
end
def wK : List (String × DataW Unit) := [("signalbox/prog.words", Rows.laid_signalbox_prog_words)]
theorem zTW : Tryz.prog.globalNamed "signalbox/prog.words" = some 2 := by kernel_rfl
theorem zTX : (Tryz.prog.globals[2]?).map (·.type) = some 386 := by kernel_rfl
theorem jH9 : Tryz.prog.cellsOf 386 = 32 := by kernel_rfl
theorem jIa : Tryz.prog.cellsOf 385 = 2 := by kernel_rfl
theorem c9w : Tryz.prog.cellsOf 9 = 1 := by kernel_rfl
theorem c3w : Tryz.prog.cellsOf 3 = 1 := by kernel_rfl
def wname (k : Nat) : List UInt8 := (wC.getD k ⟨#[]⟩).data.toList
def yG (k : Nat) : DataW Unit := .agg [.lit (.string (wname k)), .lit (.int .i64 (vS.getD k 0))]
theorem zLB : (Rows.laid_signalbox_prog_words : DataW Unit) = .agg ((List.range 16).map yG) := by rfl
theorem zP1 {W : World} (h : laidMet Tryz.prog wK W) : Words W := by
 obtain ⟨ps, h1, _⟩ := h
 obtain ⟨g, t, cs, fuel, p, hg, ht, jE3, hd⟩ := zNV h1 "signalbox/prog.words" Rows.laid_signalbox_prog_words (by unfold wK; simp)
 obtain rfl := Option.some.inj (zTW.symm.trans hg)
 obtain rfl := Option.some.inj (zTX.symm.trans ht)
 obtain ⟨xs, m, _, hx, hlen, hxl, hall⟩ := DataW.trod_array Tryz.underlying386 hd
 rw [jH9] at hlen
 rw [jIa] at hall
 rw [zLB] at hx
 have hxs : xs.map (·.1) = (List.range 16).map yG := by
  have := congrArg Prod.fst hx
  simpa using this.symm
 intro k s n hs hn
 have hk : k < 16 := (List.getElem?_eq_some_iff.1 hs).1
 have hk' := hall k hk
 obtain ⟨x, hxk⟩ : ∃ x, xs[k]? = some x := ⟨_, List.getElem?_eq_getElem (by omega)⟩
 have hx1 : x.1 = yG k := by
  have := congrArg (·[k]?) hxs
  simp only [List.getElem?_map, hxk, List.getElem?_range hk, Option.map_some, Option.some.injEq] at this
  exact this
 rw [hxk] at hk'
 obtain ⟨ys, m2, _, hy, _, hyl, hfs⟩ := DataW.trod_struct Tryz.underlying385 hk'
 have hyd : ys.map (·.1) = [.lit (.string (wname k)), .lit (.int .i64 (vS.getD k 0))] := by
  have := congrArg Prod.fst hy
  rw [hx1] at this
  simpa [yG] using this.symm
 have f0 := hfs 0 _ rfl
 have f1 := hfs 1 _ rfl
 have hsn : s = wC.getD k ⟨#[]⟩ /\ n = vS.getD k 0 := by
  refine ⟨?_, ?_⟩
  ·rw [List.getD_eq_getElem?_getD, hs]; rfl
  ·rw [List.getD_eq_getElem?_getD, hn]; rfl
 match ys, hyd with
 | [y0, y1], hyd =>
  simp only [List.map_cons, List.map_nil, List.cons.injEq, and_true] at hyd
  obtain ⟨hy0, hy1⟩ := hyd
  obtain ⟨s', hc0, hd0, _⟩ := DataW.trod_string Tryz.underlying9 f0
  obtain ⟨n', hc1, hd1, _⟩ := DataW.trod_int Tryz.underlying3 f1
  have e0 : cs.toList[k * 2]? = some (.string s') := by
   have := congrArg (·[0]?) hc0
   simpa [c9w, List.getElem?_take, List.getElem?_drop] using this
  have e1 : cs.toList[k * 2 + 1]? = some (.int .i64 n') := by
   have := congrArg (·[0]?) hc1
   simpa [c3w, List.getElem?_take, List.getElem?_drop] using this
  have g0 := World.var?_cell hg jE3 (k * 2)
  have g1 := World.var?_cell hg jE3 (k * 2 + 1)
  rw [<- Array.getElem?_toList] at g0 g1
  rw [e0] at g0
  rw [e1] at g1
  have h0 : s' = s := by
   rw [hd0] at hy0
   simp only [DataW.lit.injEq, Lit.string.injEq] at hy0
   rw [hsn.1]
   exact Go.WideShapes.bytes_inj hy0
  have h1 : n' = n := by
   rw [hd1] at hy1
   simp only [DataW.lit.injEq, Lit.int.injEq, true_and] at hy1
   rw [hsn.2]
   exact hy1
  rw [<- h0, <- h1]
  exact ⟨g0, g1⟩
theorem zP2 {W : World} (h : laidMetH Tryz.prog wK W) : Words W := by
 rw [MakeChecks.laidMetH_plain _ _ _ (by kernel_rfl)] at h
 exact zP1 h
