import Derived.Lib.SliceRun
import Derived.Test.YtkggimgechhjnaaGreatDoorC33
namespace Go.Proofs.YtkggimgechhjnaaGreatDoor
namespace Krn
open Go Go.RowKit Go.Maps Ring Band
theorem zEY (w : World) (a : Addr) (k cap : Nat) (q : Option Addr) (c2 : Nat) (hk : k <= cap) (ty : TypeId) : (Builtin.append_ #[120, 120] ty #[.slice (some a) k cap, .slice q 0 c2]).run Tryz.prog w = .ok (.slice (some a) k cap) w := by
 have hi : ∃ i, Tryz.prog.info? 141 = some i /\ i.size = 1 := by
  have : (Tryz.prog.info? 141).map (·.size) = some 1 := by kernel_rfl
  obtain ⟨i, hi, hz⟩ := Option.map_eq_some_iff.1 this
  exact ⟨i, hi, hz⟩
 obtain ⟨i, hi, hs⟩ := hi
 cases q <;> simp [Builtin.append_, run_underlying (P := Tryz.prog) Tryz.underlying120, sizeOf, typeInfo, hi, Builtin.lenOf, Builtin.firstCells, hk, storeCells, loadCells, loadCellsFrom]
theorem zRW : ∀ w, (zeroValue 141).run Tryz.prog w = .ok (.pointer none) w := fun w => by kernel_rfl
set_option maxRecDepth 100000 in
theorem zIU {w : World} {g off cap k n : Nat} {xs : List Value} (hW : Win w 141 1 (.slice (some ⟨g, off, none⟩) n cap) (some g) n xs) (hn : n = k + 1) (_hb : cap <= maxLen) : Calls Tryz.prog 168 #[.slice (some ⟨g, off, none⟩) n cap, .int .i64 k, .int .i64 n] w (fun e w' => e = .returned (.slice (some ⟨g, off, none⟩) k cap) /\ Win w' 141 1 (.slice (some ⟨g, off, none⟩) k cap) (some g) k (xs.take k) /\ Only (fun x => x = g) w w') := by
 obtain ⟨g', off', cap', e1, e2, h3, h4, h5, h6, h7⟩ := hW.at_ (by omega)
 cases e1
 cases e2
 have hap := Lib.hid (fun W q c2 ty => zEY W ⟨g, off, none⟩ k cap q c2 (by omega) ty)
 have hkn : ((k : Int) == (n : Int)) = false := by simp; omega
 have hkn2 : (k : Int) <= (n : Int) := by omega
 have hnc : (n : Int) <= (cap : Int) := by omega
 have hkl : k < n := by omega
 unfold maxLen at _hb
 have hWk := Lib.hid hW
 have hn' := Lib.hid hn
 have hnk : n - k = 1 := by omega
 have hcl := Lib.hid (fun nq ty (c2 : Nat) => Lib.run_clear_slice (P := Tryz.prog) (w.drewN nq) 120 141 ty (.pointer none) Tryz.underlying120 zRW rfl rfl g (off + k) 1 c2 (by omega) (fun j hj => by
  obtain rfl : j = 0 := by omega
  have hxl := hW.1
  have := h6 k (xs[k]'(by omega)) (List.getElem?_eq_getElem _)
  show (w.cell? ⟨g, off + k + 0, none⟩).isSome = true
  rw [Nat.add_zero, this]
  rfl) (fun j _ => h7 _))
 clear hW h6 hn
 go_enter Tryz.func168, Tryz.ntmps168
 go_upto_region 5 with fail
 refine zAD 6 (by kernel_rfl) (by kernel_rfl) ?_
 simp only [List.take_succ_cons, List.take_zero, List.drop_succ_cons, List.drop_zero]
 repeat (go_big_quiet_step (fail))
 refine wpQuiet_nil ?_
 rintro _ ⟨nq, rfl⟩
 obtain ⟨Q, hQ⟩ : ∃ Q, Q = (if cap = n then some (⟨g, off, none⟩ : Addr) else some ⟨g, off + n, none⟩) := ⟨_, rfl⟩
 rw [<- hQ]
 clear hQ hap
 have hcl1 := fun ty c2 => hcl.out nq ty c2
 simp only [List.replicate_succ, List.replicate_zero] at hcl1
 have hfin := Lib.hid (show Win ((w.drewN nq).setCells g (off + k) [.pointer none]) 141 1 (.slice (some ⟨g, off, none⟩) k cap) (some g) k (xs.take k) /\ Only (fun x => x = g) w ((w.drewN nq).setCells g (off + k) [.pointer none]) from by
  have hWd := hWk.out.kept ((Only.refl (fun _ => False) w).drewN nq) (fun _ _ h => h)
  have h1 := zEB hWd (by omega) (k := k) (by omega) (.pointer none)
  have h2 := h1.take (k := k) (by omega)
  rw [Nat.mul_one, List.take_set_of_le (Nat.le_refl _)] at h2
  exact ⟨h2, ((Only.refl (fun x => x = g) w).drewN nq).setCell (p := ⟨g, off + k, none⟩) (fun _ => rfl) _⟩)
 rcases Q with _ | q
 all_goals
  go_wp2
  go_ret
  exact ⟨rfl, hfin.out⟩
section
variable {w w' : World} {c : KC} {m : KM} {s : KS}
theorem zMU {js : List Bm} (k : Nat) : (rowC bmV js).take k = rowC bmV (js.take k) := by
 induction js generalizing k with
 | nil => simp [rowC]
 | cons x js ih =>
  cases k with
  | zero => simp [rowC]
  | succ k =>
   rw [show rowC bmV (x :: js) = ptr x.b :: rowC bmV js from rfl, List.take_succ_cons, ih, List.take_succ_cons]
   rfl
theorem KAt.jslice (h : KAt w c m s) {n : Nat} (hn : s.jobs.length = n + 1) : ∃ g off cap, m.oj = some g /\ m.vj = .slice (some ⟨g, off, none⟩) (n + 1) cap /\ n + 1 <= cap /\ cap <= maxLen /\ g ≠ m.k /\ Win w 141 1 (.slice (some ⟨g, off, none⟩) (n + 1) cap) (some g) (n + 1) (rowC bmV m.js) := by
 have hW : Win w 141 1 m.vj m.oj s.jobs.length (rowC bmV m.js) := (h.p 11).1
 rw [hn] at hW
 obtain ⟨g, off, cap, h1, h2, h3, h4, -⟩ := hW.at_ (by omega)
 rw [h1, h2] at hW
 exact ⟨g, off, cap, h1, h2, h3, h4, fun e => h.ap 11 0 (by decide) g (.inl h1) e, hW⟩
theorem KAt.popped (h : KAt w c m s) {n : Nat} (hn : s.jobs.length = n + 1) {b : Bm} (hb : m.js[n]? = some b) {g off cap : Nat} (hg : m.oj = some g) {w1 : World} (hW : Win w1 141 1 (.slice (some ⟨g, off, none⟩) n cap) (some g) n ((rowC bmV m.js).take n)) (ho : Only (fun x => x = g) w w1) :
  ∃ m', KT w c m (w1.setCell ⟨m.k, 14, none⟩ (.slice (some ⟨g, off, none⟩) n cap)) m' { s with jobs := s.jobs.take n } /\ m'.k = m.k /\ m'.js = m.js.take n /\ ∀ k, b.fp k -> ¬ kfp c m' k := by
 obtain ⟨hW0, hJ, hap⟩ := h.p 11
 have hjl := hJ.1
 refine ⟨{ m with vj := .slice (some ⟨g, off, none⟩) n cap, oj := some g, js := m.js.take n }, h.jobr (js := m.js.take n) (xs := s.jobs.take n) (Only.refl _ w) ⟨?_, ⟨?_, fun i b' x hb' hx => ?_, fun i j a d ha hd hij => ?_⟩, fun i x hx k hk => ?_⟩ (ho.mono (fun x _ e => .inl (e ▸ hg))) (fun k hk => ?_), rfl, rfl, fun k hk hkk => ?_⟩
 ·rw [zMU] at hW
  show Win _ 141 1 _ _ (s.jobs.take n).length (rowC bmV (m.js.take n))
  rw [List.length_take, hn, Nat.min_eq_left (by omega)]
  exact hW
 ·rw [List.length_take, List.length_take, hjl]
 ·by_cases hi : i < n
  ·rw [List.getElem?_take_of_lt hi] at hb' hx
   exact (hJ.2.1 i b' x hb' hx).kept ho (fun k hk e => hap i b' hb' k hk (by rw [hg, e]))
  ·rw [List.getElem?_take, if_neg hi] at hb'
   cases hb'
 ·by_cases hi : i < n
  ·by_cases hj : j < n
   ·rw [List.getElem?_take_of_lt hi] at ha
    rw [List.getElem?_take_of_lt hj] at hd
    exact hJ.2.2 i j a d ha hd hij
   ·rw [List.getElem?_take, if_neg hj] at hd; cases hd
  ·rw [List.getElem?_take, if_neg hi] at ha; cases ha
 ·by_cases hi : i < n
  ·have hx' : m.js[i]? = some x := by
    have := hx
    simp only at this
    rwa [List.getElem?_take_of_lt hi] at this
   have := hap i x hx' k hk
   rw [hg] at this
   exact this
  ·have hx' := hx
   simp only at hx'
   rw [List.getElem?_take, if_neg hi] at hx'
   cases hx'
 ·rcases hk with hk | ⟨x, hx, hk⟩
  ·exact .inl (.inl (hg.trans hk))
  ·exact .inl (.inr ⟨x, List.mem_of_mem_take hx, hk⟩)
 ·obtain ⟨i, hi⟩ := hkk
  have hb11 : foot c m 11 k := .inr ⟨b, List.mem_of_getElem? hb, hk⟩
  by_cases h11 : i = 11
  ·subst h11
   rcases hi with hi | ⟨x, hx, hi⟩
   ·exact hap n b hb k hk (hg.trans hi)
   ·obtain ⟨j, hj⟩ := List.mem_iff_getElem?.1 hx
    have hjn : j < n := by
     have := (List.getElem?_eq_some_iff.1 hj).1
     have e := List.length_take (l := m.js) (i := n)
     simp only at this
     omega
    have hj' : m.js[j]? = some x := by
     have := hj
     simp only at this
     rwa [List.getElem?_take_of_lt hjn] at this
    exact hJ.2.2 j n x b hj' hb (by omega) k hi hk
  ·refine h.ap i 11 h11 k ?_ hb11
   match i, h11, hi with
   | 0, _, hi | 1, _, hi | 2, _, hi | 3, _, hi | 4, _, hi | 5, _, hi | 6, _, hi | 7, _, hi | 8, _, hi | 9, _, hi | 10, _, hi | 12, _, hi | 13, _, hi | 14, _, hi | 15, _, hi => exact hi
   | 11, h, _ => exact absurd rfl h
   | _ + 16, _, hi => exact hi.elim
end
def endA (s : KS) (p : Nat) : KS := { s with lkh := Lck.offH s.lkh (Lck.mine s.lkh s.lkd p), lkd := Lck.offD s.lkd (Lck.mine s.lkh s.lkd p) }
def endB (s : KS) (p : Nat) (fs : List Fr) : KS := { endA s p with fs := fs }
def endC (s : KS) (p : Nat) (fs : List Fr) (n : Nat) : KS := { endB s p fs with jobs := s.jobs.take n }
def endD (s : KS) (p : Nat) (fs : List Fr) (n : Nat) (e : Et) (fa : Bool) : KS := { endC s p fs n with ents := s.ents.set p { e with en := s.now, fa := fa } }
def endF (s : KS) (p : Nat) (fs : List Fr) (n : Nat) (e : Et) (fa : Bool) : KS := recF (endD s p fs n e fa) e.ta e.jb (if fa = true then ⟨0, 7, 0, 0, 0, 11, 0⟩ else ⟨0, 6, 0, 0, 0, 0, 0⟩)
section
variable {w w' : World} {c : KC} {m : KM} {s : KS}
set_option maxRecDepth 100000 in
set_option maxHeartbeats 2000000 in
theorem zRX (h : KAt w c m s) {n : Nat} {b : Bm} {x : Bj} {e : Et} {fs : List Fr} {fr : Fr} (hn : s.jobs.length = n + 1) (hb : m.js[n]? = some b) (hx : s.jobs[n]? = some x) (he : s.ents[x.p]? = some e) (hfs : s.fs = fs ++ [fr]) (hfr : fr.who = x.p) (hfl : fs.length <= 1000) (hnl : c.nl <= 4096) (hnn : n <= 1000) (htr : s.tr.length <= 1000000000) :
  Calls Tryz.prog 109 #[ptr m.k, ptr b.b] w (fun e' w' => e' = .returned (.tuple #[]) /\ ∃ m', KT w c m w' m' (endF s x.p fs n e x.j.fault) /\ m'.k = m.k /\ m'.js = m.js.take n) := by
 obtain ⟨h1, h2, h3⟩ := h.begun hb hx
 have hfp : ∀ k, b.fp k -> foot c m 11 k := fun k hk => h.begunFoot hb hk
 have c3 := zAA h.root (i := 3) rfl
 have c9 := zAA h.root (i := 15) rfl
 have b1 := zAA h1 (i := 1) rfl
 have hlt := (h.lt 0 m.k rfl).1
 have hbl := zAG h1
 have hfree := Lib.hid (fun nq => Lck.free_any ((show Lck.LkAt w m.b4 m.g4 c.nl c.ceil s.lkh s.lkd from h.p 4).new ((Only.refl _ w).drewN nq)) hnl x.p)
 have hA := Lib.hid (fun nq w1 (hL : Lck.LkAt w1 m.b4 m.g4 c.nl c.ceil (Lck.offH s.lkh (Lck.mine s.lkh s.lkd x.p)) (Lck.offD s.lkd (Lck.mine s.lkh s.lkd x.p))) (hO : Only (fun k => k = m.g4) (w.drewN nq) w1) => show KT w c m w1 m (endA s x.p) /\ w1.heap[b.b]? = w.heap[b.b]? from by
  have hK := (h.new ((Only.refl (fun _ => False) w).drewN nq)).lck_ hL (hO.mono (fun _ _ hk => .inr hk))
  exact ⟨(h.ktNew ((Only.refl (fun _ => False) w).drewN nq)).trans hK, hO.block b.b (by exact hbl) (fun e => h.ap 11 4 (by decide) b.b (hfp _ (.inl rfl)) (.inr e))⟩)
 have h' := Lib.hid (And.intro h (And.intro h1 (And.intro h2 (And.intro hb (And.intro he (And.intro hn (And.intro hfs (And.intro hfr hx))))))))
 obtain ⟨Z, hZ⟩ : ∃ Z : World -> Prop, Z = fun w' => ∃ m', KT w c m w' m' (endF s x.p fs n e x.j.fault) /\ m'.k = m.k /\ m'.js = m.js.take n := ⟨_, rfl⟩
 have hZ' := Lib.hid hZ
 show Calls Tryz.prog 109 #[ptr m.k, ptr b.b] w (fun e' w' => e' = .returned (.tuple #[]) /\ (fun w' => ∃ m', KT w c m w' m' (endF s x.p fs n e x.j.fault) /\ m'.k = m.k /\ m'.js = m.js.take n) w')
 rw [<- hZ]
 unfold ptr at *
 clear h h1 h2 h3 hfp hb hx he hn hfs hfr hZ
 go_enter Tryz.func109, Tryz.ntmps109
 go_upto_region 0 with fail
 refine zAD 9 (by kernel_rfl) (by kernel_rfl) ?_
 simp only [List.take_succ_cons, List.take_zero, List.drop_succ_cons, List.drop_zero]
 repeat (go_big_quiet_step (fail))
 refine wpQuiet_nil ?_
 rintro _ ⟨nq, rfl⟩
 go_wp2_with fail
 refine (hfree.out nq).mono ?_
 rintro e1 w1 ⟨rfl, hL, hO⟩
 obtain ⟨hK1, hbb1⟩ := hA.out nq w1 hL hO
 obtain ⟨h, h1, h2, hb, he, hn, hfs, hfr, hx⟩ := h'.out
 have h11 := hbb1.trans h1
 have c15' := zAA hK1.1.root (i := 15) rfl
 have b1' := zAA h11 (i := 1) rfl
 have hlt1 := (hK1.1.lt 0 m.k rfl).1
 have hbl1 := zAG h11
 have hSt : StAt w1 m.b10 m.o10 s.pk (fs ++ [fr]) := hfs ▸ (show StAt w1 m.b10 m.o10 s.pk s.fs from hK1.1.p 12)
 have hpop := Lib.hid (fun nq => hfr ▸ zS1 (hSt.new ((Only.refl (fun _ => False) w1).drewN nq)) hfl)
 have hB := Lib.hid (fun nq w2 (hS : StAt w2 m.b10 m.o10 s.pk fs) (hO2 : Only (fun k => k = m.b10) (w1.drewN nq) w2) => show KT w c m w2 m (endB s x.p fs) /\ w2.heap[b.b]? = w1.heap[b.b]? from by
  have hK := (hK1.1.new ((Only.refl (fun _ => False) w1).drewN nq)).stk_ (o10 := m.o10) hS (hO2.mono (fun _ _ hk => .inl hk)) (fun _ hk => .inl hk)
  exact ⟨(hK1.new ((Only.refl (fun _ => False) w1).drewN nq)).trans hK, hO2.block b.b (by exact hbl1) (fun e => hK1.1.ap 11 12 (by decide) b.b (hK1.1.begunFoot hb (.inl rfl)) (.inl e))⟩)
 have hx1 := Lib.hid (And.intro hK1 h11)
 clear hfree hA c3 c9 b1 hlt hbl hL hO hK1 hbb1 h h1 h2 hb he hn hfs hfr hx h11 hSt
 go_upto_region 1 with fail
 refine zAD 8 (by kernel_rfl) (by kernel_rfl) ?_
 simp only [List.take_succ_cons, List.take_zero, List.drop_succ_cons, List.drop_zero]
 repeat (go_big_quiet_step (fail))
 refine wpQuiet_nil ?_
 rintro _ ⟨nq2, rfl⟩
 go_wp2_with fail
 refine (hpop.out nq2).mono ?_
 rintro e2 w2 ⟨rfl, hS2, hO2⟩
 obtain ⟨hK2, hbb2⟩ := hB.out nq2 w2 hS2 hO2
 obtain ⟨hK1, h11⟩ := hx1.out
 obtain ⟨h, h1, h2, hb, he, hn, hfs, hfr, hx⟩ := h'.out
 have h21 := hbb2.trans h11
 obtain ⟨g, off, cap, hgo, hvj, hnc, hcm, hgk, hWj⟩ := hK2.1.jslice (n := n) hn
 obtain ⟨N, hN⟩ : ∃ N, N = n + 1 := ⟨_, rfl⟩
 have c14 := zAA hK2.1.root (i := 14) rfl
 change w2.cell? ⟨m.k, 14, none⟩ = some m.vj at c14
 rw [hvj, <- hN] at c14
 rw [<- hN] at hWj hnc
 have b1'' := zAA h21 (i := 1) rfl
 have hlt2 := (hK2.1.lt 0 m.k rfl).1
 have hbl2 := zAG h21
 have hwr : IntKind.i64.wrap ((N : Int) - 1) = (n : Int) := by rw [IntWalk.i64_in _ (by omega)]; omega
 have hdel := Lib.hid (fun W0 (h0 : Only (fun _ => False) w2 W0) => zIU (hWj.kept h0 (fun _ _ h => h)) hN hcm)
 have hC := Lib.hid (fun W0 w3 (h0 : Only (fun _ => False) w2 W0) (hW3 : Win w3 141 1 (.slice (some ⟨g, off, none⟩) n cap) (some g) n ((rowC bmV m.js).take n)) (hO3 : Only (fun x => x = g) W0 w3) => show (w3.cell? ⟨m.k, 14, none⟩ = some (.slice (some ⟨g, off, none⟩) N cap) /\ w3.frozen? ⟨m.k, 14, none⟩ = false /\ m.k < w3.heap.size) /\ ∃ m3, KT w c m (w3.setCell ⟨m.k, 14, none⟩ (.slice (some ⟨g, off, none⟩) n cap)) m3 (endC s x.p fs n) /\ m3.k = m.k /\ m3.js = m.js.take n /\ (∀ k, b.fp k -> ¬ kfp c m3 k) /\ BjAt (w3.setCell ⟨m.k, 14, none⟩ (.slice (some ⟨g, off, none⟩) n cap)) b x from by
  have hr3 := hO3.heap (h0.heap hK2.1.root (fun h => h)) (fun e => hgk e.symm)
  refine ⟨⟨(hO3.cell (h0.cell c14 (fun h => h)) (fun e => hgk e.symm)), zAC hr3 14, zAG hr3⟩, ?_⟩
  obtain ⟨m3, k3, e3, f3, g3⟩ := (hK2.1.new h0).popped (n := n) hn hb hgo hW3 hO3
  refine ⟨m3, (hK2.new h0).trans k3, e3, f3, g3, ?_⟩
  have hO4 : Only (fun k => k = m.k) w3 (w3.setCell ⟨m.k, 14, none⟩ (.slice (some ⟨g, off, none⟩) n cap)) := (Only.refl (fun k => k = m.k) w3).setCell (p := ⟨m.k, 14, none⟩) (fun _ => rfl) _
  have hd := ((hK2.1.begun hb hx).kept h0 (fun _ _ h => h)).kept hO3 (fun k hk e => (hK2.1.p 11).2.2 n b hb k hk (by rw [e]; exact hgo))
  exact hd.kept hO4 (fun k hk e => hK2.1.ap 11 0 (by decide) k (hK2.1.begunFoot hb hk) e))
 have hpre := Lib.hid (And.intro hb (And.intro he hx))
 clear hpop hB c15' b1' hlt1 hbl1 hS2 hO2 hK2 hbb2 hK1 h11 h h1 h2 hb he hn hfs hfr hx h21 hvj hgo hgk hWj hx1
 clear h'
 have hN' := Lib.hid hN
 clear hN
 have hcap2 := hcm
 unfold maxLen at hcap2
 go_upto_region 2 with fail
 go_region_law (first
  | (refine zCB rfl Tryz.func168 (by kernel_rfl) rfl _ _ rfl [.slice (some ⟨g, off, none⟩) N cap, .int .i64 n, .int .i64 N] rfl (hdel.out _ (by repeat (first | with_reducible exact Only.refl _ _ | with_reducible apply Only.drew))) ?_; rintro e3 w3 ⟨rfl, hW3, hO3⟩; obtain ⟨⟨d1, d2, d3⟩, hkx⟩ := hC.out _ w3 (by repeat (first | with_reducible exact Only.refl _ _ | with_reducible apply Only.drew)) hW3 hO3; have hkx' := Lib.hid hkx; clear hkx hW3 hO3; refine ⟨_, rfl, ?_⟩))
 all_goals
  obtain ⟨m3, k3, e3, f3, g3, hbj⟩ := hkx'.out
  obtain ⟨hb, he, hx⟩ := hpre.out
  obtain ⟨W, hW⟩ : ∃ W, W = w3.setCell ⟨m.k, 14, none⟩ (.slice (some ⟨g, off, none⟩) n cap) := ⟨_, rfl⟩
  rw [<- hW] at k3 hbj
  simp only [<- hW]
  clear hW d1 d2 d3 hkx' hdel hC c14 b1'' hlt2 hbl2 hwr hcm hnc
  obtain ⟨ge, offe, cape, ne, hoe, hve, hnee, hpe, hge, hgek, c17, hc, hf⟩ := k3.1.entry (s := endC s x.p fs n) he
  have q19 : W.cell? ⟨m.k, 19, none⟩ = some (.int .i64 s.now) := e3 ▸ zAA k3.1.root (i := 19) rfl
  rw [e3] at c17 hgek
  have q0 := zAA hbj.1 (i := 0) rfl
  have q1 := zAA hbj.1 (i := 1) rfl
  have qbl := zAG hbj.1
  have qlt : m.k < W.heap.size := e3 ▸ (k3.1.lt 0 m3.k rfl).1
  have hk3 := Lib.hid (And.intro k3 (And.intro e3 (And.intro f3 (And.intro g3 (And.intro hbj (And.intro hve (And.intro hc hf)))))))
  clear k3 e3 f3 g3 hbj hb he hx hve hc hf hoe hnee
  unfold ptr at q0
  go_upto_region 3 with fail
  go_quiet (fail)
  obtain ⟨V, hV⟩ : ∃ V, V = W.drewN nq := ⟨_, rfl⟩
  have hVO : Only (fun _ => False) W V := hV ▸ (Only.refl _ W).drewN nq
  obtain ⟨k3, e3, f3, g3, hbj, hve, hc, hf⟩ := hk3.out
  have hgb : ∀ k, b.fp k -> k ≠ ge := fun k hk ee => g3 k hk ⟨14, by
   obtain ⟨g', off', cap', u1, u2, -⟩ := zBI zFG (show Win W 146 13 m3.ve m3.oe s.ents.length (rowC Et.cells s.ents) from k3.1.p 14) (i := x.p) (x := e) hpre.out.2.1
   rw [hve] at u2
   simp only [Value.slice.injEq, Option.some.injEq, Addr.mk.injEq, and_true] at u2
   rw [ee, u2.1.1]
   exact u1⟩
  have hS := Lib.hid (fun W' W'' (hP : W'.cell? ⟨m.k, 19, none⟩ = some (.int .i64 s.now) /\ W'.cell? ⟨b.b, 0, none⟩ = some (.pointer (some ⟨b.jb, 0, none⟩)) /\ JbAt W' b.jb b.jo x.j) (ho : Only (fun k => k = ge) W' W'') => show W''.cell? ⟨m.k, 19, none⟩ = some (.int .i64 s.now) /\ W''.cell? ⟨b.b, 0, none⟩ = some (.pointer (some ⟨b.jb, 0, none⟩)) /\ JbAt W'' b.jb b.jo x.j from
   ⟨ho.cell hP.1 (fun e => hgek e.symm), ho.cell hP.2.1 (fun e => hgb _ (.inl rfl) e), hP.2.2.kept ho (fun k hk e => hgb k (.inr hk) e)⟩)
  have hP0 : V.cell? ⟨m.k, 19, none⟩ = some (.int .i64 s.now) /\ V.cell? ⟨b.b, 0, none⟩ = some (.pointer (some ⟨b.jb, 0, none⟩)) /\ JbAt V b.jb b.jo x.j := ⟨hVO.cell q19 (fun h => h), hVO.cell q0 (fun h => h), hbj.2.1.new hVO⟩
  have hP0' := Lib.hid hP0
  have v4 := hVO.cell (hc 4 _ rfl) (fun h => h)
  have v5 := hVO.cell (hc 5 _ rfl) (fun h => h)
  have hfV : ∀ k, V.frozen? ⟨ge, k, none⟩ = false := fun k => by rw [hV]; exact hf k
  have w4 := hfV (offe + x.p * 13 + 4)
  have w5 := hfV (offe + x.p * 13 + 5)
  have vlg := Nat.lt_of_lt_of_le hge hVO.size
  have vlk := Nat.lt_of_lt_of_le qlt hVO.size
  have vlb := Nat.lt_of_lt_of_le qbl hVO.size
  have hV' := Lib.hid (And.intro hV hVO)
  rw [<- hV]
  clear hV hVO k3 e3 f3 g3 hbj hve hc hf hgb c17 q19 q0 q1 qbl qlt hfV
  go_upto_region 4 with fail
  go_region_held3 (fun W' => W'.cell? ⟨m.k, 19, none⟩ = some (.int .i64 s.now) /\ W'.cell? ⟨b.b, 0, none⟩ = some (.pointer (some ⟨b.jb, 0, none⟩)) /\ JbAt W' b.jb b.jo x.j)
   (exact hS.out _ _ hP0 (by repeat (first | with_reducible exact Only.refl _ _ | refine Only.setCell (S := fun k => k = ge) ?_ (p := ⟨ge, _, none⟩) (fun _ => (Eq.refl ge : ge = ge)) _ | with_reducible apply Only.drew)))
   (first | (go_at_call 169; (with_reducible refine (zKK (hS.out _ _ hP0 (by repeat (first | with_reducible exact Only.refl _ _ | with_reducible apply Only.drew))).2.2).mono ?_); rintro _ w6 ⟨rfl, rfl⟩))
  all_goals
   obtain ⟨hVe, hVO⟩ := hV'.out
   obtain ⟨k3, e3, f3, g3, hbj, hve, hc, hf⟩ := hk3.out
   obtain ⟨hb, he, hx⟩ := hpre.out
   obtain ⟨U, hU⟩ : ∃ U, U = ((V.setCell ⟨ge, offe + x.p * 13 + 4, none⟩ (.int .i64 s.now)).setCell ⟨ge, offe + x.p * 13 + 5, none⟩ (.bool x.j.fault)).drew := ⟨_, rfl⟩
   have kU : KT w c m U m3 (endD s x.p fs n e x.j.fault) := by
    have k4 := (k3.new hVO).trans ((k3.new hVO).1.entSet (s := endC s x.p fs n) (p := x.p) (x := e) (y := { e with en := s.now }) (j := 4) (u := .int .i64 s.now) he (by decide) rfl hve)
    have hx4 : (s.ents.set x.p { e with en := s.now })[x.p]? = some { e with en := s.now } := List.getElem?_set_self (List.getElem?_eq_some_iff.1 he).1
    have k5 := k4.trans (k4.1.entSet (p := x.p) (x := { e with en := s.now }) (y := { e with en := s.now, fa := x.j.fault }) (j := 5) (u := .bool x.j.fault) hx4 (by decide) rfl hve)
    have k6 := k5.new ((Only.refl (fun _ => False) _).drew)
    rw [hU]
    have hss : (s.ents.set x.p { e with en := s.now }).set x.p { e with en := s.now, fa := x.j.fault } = s.ents.set x.p { e with en := s.now, fa := x.j.fault } := List.set_set _
    unfold endD
    rw [<- hss]
    exact k6
   have hUO : Only (fun k => k = ge) W U := by
    rw [hU]
    exact (((hVO.mono (T := fun k => k = ge) (fun _ _ h => h.elim)).setCell (p := ⟨ge, offe + x.p * 13 + 4, none⟩) (fun _ => (Eq.refl ge : ge = ge)) _).setCell (p := ⟨ge, offe + x.p * 13 + 5, none⟩) (fun _ => (Eq.refl ge : ge = ge)) _).drew
   have hgb : b.b ≠ ge := fun ee => g3 _ (.inl rfl) (by
    obtain ⟨g', off', cap', u1, u2, -⟩ := zBI zFG (show Win W 146 13 m3.ve m3.oe s.ents.length (rowC Et.cells s.ents) from k3.1.p 14) (i := x.p) (x := e) he
    rw [hve] at u2
    simp only [Value.slice.injEq, Option.some.injEq, Addr.mk.injEq, and_true] at u2
    rw [ee, u2.1.1]
    exact ⟨14, u1⟩)
   have hbU := hUO.heap hbj.1 hgb
   have q1 := zAA hbU (i := 1) rfl
   have qbl := zAG hbU
   have z5 : U.cell? ⟨ge, offe + x.p * 13 + 5, none⟩ = some (.bool x.j.fault) := by
    obtain ⟨g', off', cap', n', u1, u2, -, -, -, -, -, uc, -⟩ := kU.1.entry (p := x.p) (x := { e with en := s.now, fa := x.j.fault }) (show (s.ents.set x.p _)[x.p]? = _ from List.getElem?_set_self (List.getElem?_eq_some_iff.1 he).1)
    rw [hve] at u2
    simp only [Value.slice.injEq, Option.some.injEq, Addr.mk.injEq, and_true] at u2
    have := uc 5 _ rfl
    rw [<- u2.1.1, <- u2.1.2] at this
    exact this
   have hUlt := Nat.lt_of_lt_of_le vlg (hU ▸ (show V.heap.size <= _ from by simp [World.setCell, World.drew]) : V.heap.size <= U.heap.size)
   simp only [<- hU]
   have qlU : m.k < U.heap.size := e3 ▸ (kU.1.lt 0 m3.k rfl).1
   have htell := Lib.hid (fun W9 (h9 : Only (fun _ => False) U W9) r => zDH (kU.1.new h9) htr (p := x.p) (x := { e with en := s.now, fa := x.j.fault }) (show (s.ents.set x.p _)[x.p]? = _ from List.getElem?_set_self (List.getElem?_eq_some_iff.1 he).1) r)
   have hfin := Lib.hid (fun W9 w9 (h9 : Only (fun _ => False) U W9) (hF : endF s x.p fs n e x.j.fault = recF (endD s x.p fs n e x.j.fault) e.ta e.jb (if x.j.fault = true then ⟨0, 7, 0, 0, 0, 11, 0⟩ else ⟨0, 6, 0, 0, 0, 0, 0⟩)) (hk : KNow W9 c m3 (recF (endD s x.p fs n e x.j.fault) e.ta e.jb (if x.j.fault = true then ⟨0, 7, 0, 0, 0, 11, 0⟩ else ⟨0, 6, 0, 0, 0, 0, 0⟩)) w9) => show Z w9 from by
    rw [hZ'.out]
    obtain ⟨m9, k9, e9, f9⟩ := hk
    exact ⟨m9, hF ▸ (kU.new h9).trans k9, e9.trans e3, f9.trans f3⟩)
   unfold ptr Rc.val KEnd at htell
   rw [e3] at htell
   clear hUO hgb hbU kU hU k3 e3 f3 g3 hbj hve hc hf hb he hx hVe hVO hP0 hS hP0' v4 v5 w4 w5 vlg vlk vlb hV' hk3
   obtain ⟨FA, hFA⟩ : ∃ FA, FA = x.j.fault := ⟨_, rfl⟩
   rw [<- hFA] at z5 hfin htell
   have hFA' := Lib.hid hFA
   clear hFA
   cases FA
   ·skip
    have htl := Lib.hid (fun W9 h9 => htell.out W9 h9 ⟨0, 6, 0, 0, 0, 0, 0⟩)
    clear htell
    go_upto_region 8 with fail
    obtain ⟨X, hX⟩ : ∃ X, X = U.heap.size := ⟨_, rfl⟩
    obtain ⟨U2, hU2⟩ : ∃ U2, U2 = U.alloc (.cells #[.int .i64 0, .int .i64 6, .int .i64 0, .int .i64 0, .int .i64 0, .int .i64 0, .int .i64 0] 60) := ⟨_, rfl⟩
    have hXr : U2.heap[X]? = some (.cells [Value.int .i64 0, .int .i64 6, .int .i64 0, .int .i64 0, .int .i64 0, .int .i64 0, .int .i64 0].toArray 60 (0, 0)) := by rw [hU2]; exact zAB _ _ hX.symm
    have hO2 : Only (fun _ => False) U U2 := by rw [hU2]; exact (Only.refl _ U).alloc _
    rw [<- hU2, <- hX]
    have x0 := zAA hXr (i := 0) rfl
    have x1 := zAA hXr (i := 1) rfl
    have x2 := zAA hXr (i := 2) rfl
    have x3 := zAA hXr (i := 3) rfl
    have x4 := zAA hXr (i := 4) rfl
    have x5 := zAA hXr (i := 5) rfl
    have x6 := zAA hXr (i := 6) rfl
    have xl := zAG hXr
    have q1' := hO2.cell q1 (fun h => h)
    have qbl' := Nat.lt_of_lt_of_le qbl hO2.size
    have hO2' := Lib.hid hO2
    clear hU2 hX hXr hO2 q1 qbl z5
    refine zAD 6 (by kernel_rfl) (by kernel_rfl) ?_
    simp only [List.take_succ_cons, List.take_zero, List.drop_succ_cons, List.drop_zero]
    repeat (go_big_quiet_step (fail))
    refine wpQuiet_nil ?_
    rintro _ ⟨nq9, rfl⟩
    go_wp2_with fail
    refine (htl.out _ (hO2'.out.drewN nq9)).mono ?_
    rintro e9 w9 ⟨rfl, hk9⟩
    have hz := hfin.out _ w9 (hO2'.out.drewN nq9) rfl hk9
    go_wp2
    go_end0
    exact ⟨rfl, hz⟩
   ·skip
    have htl := Lib.hid (fun W9 h9 => htell.out W9 h9 ⟨0, 7, 0, 0, 0, 11, 0⟩)
    clear htell
    go_upto_region 8 with fail
    obtain ⟨X, hX⟩ : ∃ X, X = U.heap.size := ⟨_, rfl⟩
    obtain ⟨U2, hU2⟩ : ∃ U2, U2 = U.alloc (.cells #[.int .i64 0, .int .i64 7, .int .i64 0, .int .i64 0, .int .i64 0, .int .i64 11, .int .i64 0] 60) := ⟨_, rfl⟩
    have hXr : U2.heap[X]? = some (.cells [Value.int .i64 0, .int .i64 7, .int .i64 0, .int .i64 0, .int .i64 0, .int .i64 11, .int .i64 0].toArray 60 (0, 0)) := by rw [hU2]; exact zAB _ _ hX.symm
    have hO2 : Only (fun _ => False) U U2 := by rw [hU2]; exact (Only.refl _ U).alloc _
    rw [<- hU2, <- hX]
    have x0 := zAA hXr (i := 0) rfl
    have x1 := zAA hXr (i := 1) rfl
    have x2 := zAA hXr (i := 2) rfl
    have x3 := zAA hXr (i := 3) rfl
    have x4 := zAA hXr (i := 4) rfl
    have x5 := zAA hXr (i := 5) rfl
    have x6 := zAA hXr (i := 6) rfl
    have xl := zAG hXr
    have q1' := hO2.cell q1 (fun h => h)
    have qbl' := Nat.lt_of_lt_of_le qbl hO2.size
    have hO2' := Lib.hid hO2
    clear hU2 hX hXr hO2 q1 qbl z5
    refine zAD 6 (by kernel_rfl) (by kernel_rfl) ?_
    simp only [List.take_succ_cons, List.take_zero, List.drop_succ_cons, List.drop_zero]
    repeat (go_big_quiet_step (fail))
    refine wpQuiet_nil ?_
    rintro _ ⟨nq9, rfl⟩
    go_wp2_with fail
    refine (htl.out _ (hO2'.out.drewN nq9)).mono ?_
    rintro e9 w9 ⟨rfl, hk9⟩
    have hz := hfin.out _ w9 (hO2'.out.drewN nq9) rfl hk9
    go_wp2
    go_end0
    exact ⟨rfl, hz⟩
end
end Krn
end Go.Proofs.YtkggimgechhjnaaGreatDoor
