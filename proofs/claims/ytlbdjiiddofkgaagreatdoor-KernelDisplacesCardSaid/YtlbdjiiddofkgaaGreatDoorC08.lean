import Derived.Test.YtlbdjiiddofkgaaGreatDoorC07
namespace Go.Proofs.YtlbdjiiddofkgaaGreatDoor
namespace Pil
open Go Go.RowKit
def EvCells (w : World) (g off : Nat) (x : Ev) : Prop :=
 w.cell? ⟨g, off, none⟩ = some (.int .i64 x.t) /\ w.cell? ⟨g, off + 1, none⟩ = some (.int .i64 x.k) /\ w.cell? ⟨g, off + 2, none⟩ = some (.int .i64 x.a) /\ w.cell? ⟨g, off + 3, none⟩ = some (.int .i64 x.b) /\ w.cell? ⟨g, off + 4, none⟩ = some (.int .i64 x.c)
def EvRow (w : World) (A : Option Addr) (l : List Ev) : Prop :=
 ∀ k x, l[k]? = some x -> ∃ b off, A = some ⟨b, off, none⟩ /\ b < w.heap.size /\ EvCells w b (off + k * 5) x
theorem EvRow.only {S : Nat -> Prop} {w w' : World} {A : Option Addr} {l : List Ev} (h : EvRow w A l) (ho : Only S w w') (hS : ∀ k, S k -> w.heap.size <= k) : EvRow w' A l := fun k x hx => by
 obtain ⟨b, off, rfl, hb, h0, h1, h2, h3, h4⟩ := h k x hx
 have hn : ¬ S b := fun hs => by have := hS b hs; omega
 exact ⟨b, off, rfl, Nat.lt_of_lt_of_le hb ho.size, ho.cell h0 hn, ho.cell h1 hn, ho.cell h2 hn, ho.cell h3 hn, ho.cell h4 hn⟩
theorem EvRow.at_ {w : World} {A : Option Addr} {l : List Ev} (h : EvRow w A l) (hn : 0 < l.length) : ∃ b off, A = some ⟨b, off, none⟩ /\ b < w.heap.size /\ ∀ k x, l[k]? = some x -> EvCells w b (off + k * 5) x := by
 obtain ⟨b, off, rfl, hb, _⟩ := h 0 _ (List.getElem?_eq_getElem hn)
 refine ⟨b, off, rfl, hb, fun k x hx => ?_⟩
 obtain ⟨b', off', e, _, hc⟩ := h k x hx
 cases e
 exact hc
def ents : Nat -> List Ev -> List En
 | _, [] => []
 | n, x :: l => ⟨x, n⟩ :: ents (n + 1) l
theorem zC1 (n : Nat) (l : List Ev) : (ents n l).length = l.length := by
 induction l generalizing n with
 | nil => rfl
 | cons x l ih => simp [ents, ih]
theorem zLQ (n : Nat) (l : List Ev) (x : Ev) : ents n (l ++ [x]) = ents n l ++ [⟨x, n + l.length⟩] := by
 induction l generalizing n with
 | nil => rfl
 | cons y l ih => simp only [List.cons_append, ents, ih, List.length_cons]; congr 4; omega
theorem take_snoc {α : Type} {m : List α} {j : Nat} {x : α} (h : m[j]? = some x) : m.take (j + 1) = m.take j ++ [x] := by
 rw [List.take_add_one, h]
 rfl
def FillRel (w : World) (r : Nat) (l : List Ev) (k : Nat) (w' : World) : Prop :=
 ∃ o, AgAt w' r o k (ents 0 (l.take k)) /\ (∀ g, o = some g -> w.heap.size <= g) /\ Only (fun k => k = r) w w'
def FillEnd (w : World) (r : Nat) (l : List Ev) (e : Ending) (w' : World) : Prop := e = .returned (.tuple #[]) /\ FillRel w r l l.length w'
set_option maxHeartbeats 400000 in
theorem zN8 {w : World} {r cap : Nat} {A : Option Addr} {l : List Ev} (h : AgAt w r none 0 []) (hl : EvRow w A l) (hlr : 0 < l.length -> ∀ b off, A = some ⟨b, off, none⟩ -> b ≠ r) (hn : l.length <= 500) : Calls Tryz.prog 96 #[.pointer (some ⟨r, 0, none⟩), .iface 28 (.slice A l.length cap)] w (FillEnd w r l) := by
 have t2 := ta2
 have t3 := ta3
 have hs := zh (show FillRel w r l 0 w from ⟨none, h, (fun g hg => by cases hg), Only.refl _ _⟩)
 have hrow := zh hl
 have jFb := zh hlr
 obtain ⟨n, hn'⟩ : ∃ n, n = l.length := ⟨_, rfl⟩
 have hE := zh hn'
 rw [<- hn'] at hn ⊢
 clear h hl hlr hn'
 go_enter Tryz.func96, Tryz.ntmps96
 go_wp2_with fail
 go_loopw [20] (fun v wr => ∃ k : Nat, v = .int .i64 k /\ k <= n /\ FillRel w r l k wr) (fun v _ => n - (intOf v).toNat)
 case atStart => exact ⟨0, rfl, Nat.zero_le _, hs.out⟩
 case round =>
  obtain ⟨k, rfl, hk, hrel⟩ := hrel
  obtain ⟨ws, hws⟩ : ∃ ws : World, ws = wr := ⟨_, rfl⟩
  subst hws
  by_cases hkn : k < n
  ·have vR : (k : Int) < (n : Int) := by omega
   obtain ⟨x, hx⟩ : ∃ x, l[k]? = some x := ⟨l[k]'(by have := hE.out; omega), List.getElem?_eq_getElem _⟩
   obtain ⟨b, off, hA, hb, hc⟩ := hrow.out.at_ (by have := hE.out; omega)
   have hbr := jFb.out (by have := hE.out; omega) b off hA
   subst hA
   obtain ⟨c0, c1, c2, c3, c4⟩ := hc k x hx
   have hO : Only (fun k => k = r) w ws := by obtain ⟨_, _, _, hO⟩ := hrel; exact hO
   have d0 := hO.cell c0 hbr
   have d1 := hO.cell c1 hbr
   have d2 := hO.cell c2 hbr
   have d3 := hO.cell c3 hbr
   have d4 := hO.cell c4 hbr
   have xJ := zh (fun o (hA : AgAt ws r o k (ents 0 (l.take k))) W (hW : Only (fun _ => False) ws W) => zLL (hA.new hW) (by rw [zC1, List.length_take]; omega) (by omega) x)
   obtain ⟨o, hAg, hog⟩ := hrel
   have hl1 := zh (fun W (hW : Only (fun _ => False) ws W) => xJ.out o hAg W hW)
   have hst := zh (show ∀ W e W', Only (fun _ => False) ws W -> LayEnd W r o k (ents 0 (l.take k)) ⟨x, k⟩ e W' -> FillRel w r l (k + 1) W' from fun W e W' hW hL => by
    obtain ⟨he, o', h1, h2, h3⟩ := hL.old hW
    have hO' := hog.2
    have hkl := (List.getElem?_eq_some_iff.1 hx).1
    have hlt : (l.take k).length = k := by rw [List.length_take]; omega
    refine ⟨o', ?_, ?_, hO'.trans h3 (fun y hy hfp => ?_)⟩
    ·rw [take_snoc hx, zLQ, hlt, Nat.zero_add]
     exact h1
    ·rintro g rfl
     rcases h2 with h2 | ⟨g', hg, hge⟩
     ·exact hog.1 g h2.symm
     ·cases hg
      exact Nat.le_trans hO'.size hge
    ·rcases hfp with hfp | hfp
     ·exact hfp
     ·have := hog.1 y hfp; omega)
   unfold Ev.val at hl1
   clear c0 c1 c2 c3 c4 hc hx hO xJ hAg hog
   go_wp2_with fail
   refine (hl1.out _ ((Only.refl _ ws).alloc _)).mono ?_
   rintro e W hL
   have hR := zh (hst.out _ _ _ ((Only.refl _ ws).alloc _) hL)
   obtain ⟨rfl, -⟩ := hL
   go_wp2
   go_roundw
   case rel => exact ⟨k + 1, by go_num, by omega, hR.out⟩
   case measure => simp [intOf]; omega
  ·have vR : ¬ (k : Int) < (n : Int) := by omega
   have hrel' := zh hrel
   clear hrel
   go_wp2
   go_end0
   refine ⟨rfl, ?_⟩
   have e : l.length = k := by have := hE.out; omega
   rw [e]
   exact hrel'.out
def InitEnd (w : World) (r : Nat) (o : Option Nat) (T : Nat) (es : List En) (e : Ending) (w' : World) : Prop := e = .returned (.tuple #[]) /\ Heaped w r o T es 0 es.length w'
set_option maxHeartbeats 400000 in
theorem zN9 {w : World} {r T : Nat} {o : Option Nat} {es : List En} (h : AgAt w r o T es) (hn : es.length <= 1000) : Calls Tryz.prog 97 #[.iface 197 (.pointer (some ⟨r, 0, none⟩))] w (InitEnd w r o T es) := by
 have ml := mLen
 have hlen := len_any h
 obtain ⟨n, hn'⟩ : ∃ n, n = es.length := ⟨_, rfl⟩
 have hs := zh (show Heaped w r o T es (n / 2) n w from ⟨es, h, List.Perm.refl _, fun k h1 h2 h3 => by omega, fun _ _ => rfl, Only.refl _ _⟩)
 have hE := zh hn'
 rw [<- hn'] at hlen hn
 have hlen' := zh hlen
 clear hlen h hn'
 go_enter Tryz.func97, Tryz.ntmps97
 go_wp2_with fail
 refine hlen'.out.mono ?_
 rintro e W1 ⟨rfl, rfl⟩
 go_wp2
 go_loopw [3] (fun v wr => ∃ m : Nat, v = .int .i64 ((m : Int) - 1) /\ m <= n /\ Heaped w r o T es m n wr) (fun v _ => (intOf v + 1).toNat)
 case atStart => exact ⟨n / 2, congrArg (Value.int .i64) (by omega), by omega, hs.out⟩
 case round =>
  obtain ⟨m, rfl, hm, hrel⟩ := hrel
  obtain ⟨ws, hws⟩ : ∃ ws : World, ws = wr := ⟨_, rfl⟩
  subst hws
  cases m with
  | zero =>
   have hF := zh hrel
   have hz : ((0 : Nat) : Int) - 1 = -1 := rfl
   rw [hz]
   clear hrel
   go_wp2
   go_end0
   exact ⟨rfl, by rw [<- hE.out]; exact hF.out⟩
  | succ i =>
   have hz : ((i + 1 : Nat) : Int) - 1 = (i : Int) := by omega
   rw [hz]
   clear hz
   obtain ⟨es1, hA, hp, hf, ho, hO⟩ := hrel
   have hd := zh (zJM hA i n (by rw [hp.length_eq, <- hE.out]; exact Nat.le_refl _) hn (by omega) hf)
   have hst := zh (show ∀ W, Heaped ws r o T es1 i n W -> Heaped w r o T es i n W from fun W hW => by
    obtain ⟨es2, h1, h2, h3, h4, h5⟩ := hW
    exact ⟨es2, h1, h2.trans hp, h3, fun k hk => (h4 k hk).trans (ho k hk), hO.trans' h5⟩)
   clear hA hp hf ho hO
   go_wp2_with fail
   refine hd.out.mono ?_
   rintro e W ⟨⟨b, rfl⟩, hW⟩
   have hW' := zh (hst.out W hW)
   clear hW
   go_wp2
   go_roundw
   case rel => exact ⟨i, rfl, by omega, hW'.out⟩
   case measure => simp [intOf]
def Ag (w : World) (r : Nat) (o : Option Nat) (T : Nat) (rs : List En) : Prop :=
 ∃ es, AgAt w r o T es /\ HeapFrom es 0 es.length /\ List.Perm es rs /\ rs.Pairwise (fun x y => x.n < y.n) /\ (∀ x ∈ rs, x.n < T) /\ rs.length <= T
def IsFirst (rs : List En) (k : Nat) (x : En) : Prop := rs[k]? = some x /\ ∀ j y, rs[j]? = some y -> x.e.t <= y.e.t /\ (j < k -> x.e.t < y.e.t)
theorem Ag.kept {S : Nat -> Prop} {w w' : World} {r T : Nat} {o : Option Nat} {rs : List En} (h : Ag w r o T rs) (ho : Only S w w') (hS : ∀ k, fp r o k -> ¬ S k) : Ag w' r o T rs := by
 obtain ⟨es, h1, h2⟩ := h
 exact ⟨es, h1.kept ho hS, h2⟩
theorem Ag.new {w w' : World} {r T : Nat} {o : Option Nat} {rs : List En} (h : Ag w r o T rs) (ho : Only (fun _ => False) w w') : Ag w' r o T rs := h.kept ho (fun _ _ h => h)
theorem Ag.lt {w : World} {r T : Nat} {o : Option Nat} {rs : List En} (h : Ag w r o T rs) : ∀ k, fp r o k -> k < w.heap.size := by
 obtain ⟨es, h1, _⟩ := h
 exact h1.lt
theorem Ag.len {w : World} {r T : Nat} {o : Option Nat} {rs : List En} (h : Ag w r o T rs) : rs.length <= T := by
 obtain ⟨es, _, _, _, _, _, h⟩ := h
 exact h
theorem zP3 (n : Nat) (l : List Ev) : (ents n l).Pairwise (fun x y => x.n < y.n) /\ ∀ x ∈ ents n l, n <= x.n /\ x.n < n + l.length := by
 induction l generalizing n with
 | nil => exact ⟨List.Pairwise.nil, fun x hx => by cases hx⟩
 | cons y l ih =>
  obtain ⟨h1, h2⟩ := ih (n + 1)
  refine ⟨List.pairwise_cons.2 ⟨fun x hx => ?_, h1⟩, fun x hx => ?_⟩
  ·have := h2 x hx
   show n < x.n
   omega
  ·simp only [ents, List.mem_cons] at hx
   rcases hx with rfl | hx
   ·simp
   ·have := h2 x hx
    simp only [List.length_cons]
    omega
theorem zKI {es rs : List En} {x : En} (hp : List.Perm es rs) (hs : rs.Pairwise (fun x y => x.n < y.n)) (hx : es[0]? = some x) (hh : HeapFrom es 0 es.length) : ∃ k, IsFirst rs k x := by
 have hm : x ∈ rs := hp.subset (List.mem_of_getElem? hx)
 obtain ⟨k, hk⟩ := List.mem_iff_getElem?.1 hm
 refine ⟨k, hk, fun j y hy => ?_⟩
 have hy' : y ∈ es := hp.symm.subset (List.mem_of_getElem? hy)
 obtain ⟨i, hi⟩ := List.mem_iff_getElem?.1 hy'
 have hle := zN5 hh (Nat.le_refl _) i (List.getElem?_eq_some_iff.1 hi).1 _ _ hx hi
 unfold le at hle
 refine ⟨by omega, fun hjk => ?_⟩
 have hj := (List.getElem?_eq_some_iff.1 hy).1
 have hk' := (List.getElem?_eq_some_iff.1 hk).1
 have := List.pairwise_iff_getElem.1 hs j k hj hk' hjk
 rw [(List.getElem?_eq_some_iff.1 hy).2, (List.getElem?_eq_some_iff.1 hk).2] at this
 omega
theorem zKJ {es rs : List En} {x : En} {k : Nat} (hp : List.Perm (es ++ [x]) rs) (hk : rs[k]? = some x) : List.Perm es (rs.eraseIdx k) := by
 obtain ⟨h1, h2⟩ := List.getElem?_eq_some_iff.1 hk
 have h3 : rs = rs.take k ++ x :: rs.drop (k + 1) := by rw [<- h2, <- List.drop_eq_getElem_cons h1, List.take_append_drop]
 have h5 : List.Perm rs (x :: (rs.take k ++ rs.drop (k + 1))) := by
  refine List.Perm.trans (List.Perm.of_eq h3) ?_
  exact List.perm_middle
 have h4 : List.Perm (x :: es) (x :: (rs.take k ++ rs.drop (k + 1))) := ((List.perm_append_comm (l₁ := [x]) (l₂ := es)).trans hp).trans h5
 rw [List.eraseIdx_eq_take_drop_succ]
 exact (List.perm_cons x).1 h4
theorem alen_any {w : World} {r T : Nat} {o : Option Nat} {rs : List En} (h : Ag w r o T rs) : Calls Tryz.prog 52 #[.pointer (some ⟨r, 0, none⟩)] w fun e w' => e = .returned (.int .i64 rs.length) /\ w = w' := by
 obtain ⟨es, hA, _, hp, _⟩ := h
 have hl := len_any hA
 rw [hp.length_eq] at hl
 obtain ⟨n, hn⟩ : ∃ n, n = rs.length := ⟨_, rfl⟩
 rw [<- hn] at hl ⊢
 have hl' := zh hl
 clear hl hA hp hn
 go_enter Tryz.func52, Tryz.ntmps52
 go_wp2_with fail
 refine hl'.out.mono ?_
 rintro e w' ⟨rfl, rfl⟩
 go_wp2
 go_ret
 exact ⟨rfl, rfl⟩
theorem zLR {w : World} {r T : Nat} {o : Option Nat} (h : Ag w r o T []) : Calls Tryz.prog 149 #[.pointer (some ⟨r, 0, none⟩)] w fun e w' => e = .returned (.tuple #[.int .i64 0, .bool false]) /\ w = w' := by
 have hl := zh (alen_any h)
 clear h
 go_enter Tryz.func149, Tryz.ntmps149
 go_wp2_with (go_at_call 52; refine hl.out.mono ?_; rintro e w' ⟨rfl, rfl⟩)
 go_ret2
 exact ⟨rfl, rfl⟩
theorem Ag.head {w : World} {r T : Nat} {o : Option Nat} {rs : List En} (h : Ag w r o T rs) (hr : 0 < rs.length) : ∃ k x es, IsFirst rs k x /\ AgAt w r o T es /\ HeapFrom es 0 es.length /\ List.Perm es rs /\ es[0]? = some x := by
 obtain ⟨es, hA, hh, hp, hs, _⟩ := h
 have h0 : 0 < es.length := by rw [hp.length_eq]; exact hr
 obtain ⟨k, hk⟩ := zKI hp hs (List.getElem?_eq_getElem h0) hh
 exact ⟨k, _, es, hk, hA, hh, hp, List.getElem?_eq_getElem h0⟩
theorem zBT {rs : List En} {k l : Nat} {x y : En} (h : IsFirst rs k x) (g : IsFirst rs l y) : k = l /\ x = y := by
 have h1 := h.2 l y g.1
 have h2 := g.2 k x h.1
 have : k = l := by
  rcases Nat.lt_trichotomy k l with hlt | rfl | hlt
  ·have := h2.2 hlt; omega
  ·rfl
  ·have := h1.2 hlt; omega
 subst this
 have e := h.1
 rw [g.1] at e
 cases e
 exact ⟨rfl, rfl⟩
theorem zLS {w : World} {r T : Nat} {o : Option Nat} {rs : List En} (h : Ag w r o T rs) {k : Nat} {x : En} (hx : IsFirst rs k x) : Calls Tryz.prog 149 #[.pointer (some ⟨r, 0, none⟩)] w fun e w' => e = .returned (.tuple #[.int .i64 x.e.t, .bool true]) /\ w = w' := by
 have hl := alen_any h
 have hr : 0 < rs.length := by have := (List.getElem?_eq_some_iff.1 hx.1).1; omega
 obtain ⟨k', x', es, hx', hA, hh, hp, h0⟩ := h.head hr
 obtain ⟨rfl, rfl⟩ := zBT hx hx'
 obtain ⟨p, cap, h1, h2, c0, c1, f0, f1, h3⟩ := hA.cells
 obtain ⟨g, off, cap', ho, hv, h4, h5, h6, h7, h8⟩ := zG8 h3 (by rw [hp.length_eq]; exact hr)
 cases hv
 obtain ⟨a0, -⟩ := h7 0 x h0
 rw [Nat.zero_mul, Nat.add_zero] at a0
 rw [hp.length_eq] at c0
 obtain ⟨n, hn⟩ : ∃ n, n = rs.length := ⟨_, rfl⟩
 rw [<- hn] at hl c0 hr
 have hl' := zh hl
 have hn0 : ((n : Int) == 0) = false := by simp; omega
 have hn1 : (0 : Int) < (n : Int) := by omega
 clear hl hx hx' hA hh hp h0 h1 h2 h3 h4 h5 h7 h8 hn h c1 f0 f1 ho
 go_enter Tryz.func149, Tryz.ntmps149
 go_wp2_with (go_at_call 52; refine hl'.out.mono ?_; rintro e w' ⟨rfl, rfl⟩)
 go_ret2
 exact ⟨rfl, rfl⟩
def APopEnd (w : World) (r : Nat) (o : Option Nat) (T : Nat) (rs : List En) (k : Nat) (x : En) (e : Ending) (w' : World) : Prop :=
 e = .returned x.e.val /\ Ag w' r o T (rs.eraseIdx k) /\ Only (fp r o) w w'
set_option maxHeartbeats 400000 in
theorem zOA {w : World} {r T : Nat} {o : Option Nat} {rs : List En} (h : Ag w r o T rs) (hT : rs.length <= 900) {k : Nat} {x : En} (hx : IsFirst rs k x) : Calls Tryz.prog 150 #[.pointer (some ⟨r, 0, none⟩)] w (APopEnd w r o T rs k x) := by
 have hr : 0 < rs.length := by have := (List.getElem?_eq_some_iff.1 hx.1).1; omega
 have hlt := h.len
 obtain ⟨k', x', es, hx', hA, hh, hp, h0⟩ := h.head hr
 obtain ⟨rfl, rfl⟩ := zBT hx hx'
 obtain ⟨-, -, -, -, hs, hb, -⟩ := h
 have xK := zh (fun (W : World) (hW : Only (fun _ => False) w W) => zN7 (hA.new hW) hh (by rw [hp.length_eq]; omega) x h0)
 have hE := zh (show ∀ W W', Only (fun _ => False) w W -> HPopEnd W r o T es x (.returned (.iface 40 x.e.val)) W' -> Ag W' r o T (rs.eraseIdx k) /\ Only (fp r o) w W' from fun W W' hW hP => by
  obtain ⟨-, es', q1, q2, q3, q4⟩ := hP
  have hpe := zKJ (q2.trans hp) hx.1
  have jAg := List.eraseIdx_sublist rs k
  exact ⟨⟨es', q1, q3, hpe, hs.sublist jAg, fun y hy => hb y (jAg.subset hy), Nat.le_trans jAg.length_le hlt⟩, (hW.mono (fun _ _ h => h.elim)).trans' q4⟩)
 have t4 := ta4
 have hlt2 := zh hA.lt
 clear hx hx' hA hh hp h0 hr hs hb hlt
 unfold Ev.val at *
 go_enter Tryz.func150, Tryz.ntmps150
 go_wp2_with fail
 refine (xK.out _ ((Only.refl _ w).alloc _)).mono ?_
 rintro e W hP
 have he := hP.1
 subst he
 have hR := zh (hE.out _ _ ((Only.refl _ w).alloc _) hP)
 obtain ⟨B, hB⟩ : ∃ B, B = w.heap.size := ⟨_, rfl⟩
 have hblk : W.heap[B]? = some (.cells [.int .i64 0, .int .i64 0, .int .i64 0, .int .i64 0, .int .i64 0].toArray 40 (0, 0)) := by
  obtain ⟨-, es', q1, q2, q3, q4⟩ := hP
  refine q4.heap (zAB _ _ hB.symm) (fun hf => ?_)
  have := hlt2.out B hf
  omega
 rw [<- hB]
 have c0 := zAA hblk (i := 0) rfl
 have c1 := zAA hblk (i := 1) rfl
 have c2 := zAA hblk (i := 2) rfl
 have c3 := zAA hblk (i := 3) rfl
 have c4 := zAA hblk (i := 4) rfl
 have f0 := zAC hblk 0
 have f1 := zAC hblk 1
 have f2 := zAC hblk 2
 have f3 := zAC hblk 3
 have f4 := zAC hblk 4
 have hB' := zh hB
 clear hP hblk hB
 rw [show x.e.val = .agg #[.int .i64 x.e.t, .int .i64 x.e.k, .int .i64 x.e.a, .int .i64 x.e.b, .int .i64 x.e.c] from rfl]
 go_wp2
 refine bodyPost_ret (v := .agg #[.int .i64 x.e.t, .int .i64 x.e.k, .int .i64 x.e.a, .int .i64 x.e.b, .int .i64 x.e.c]) (by simp [results, Tryz.results150, go_sem, c0, c1, c2, c3, c4]) rfl ⟨rfl, ?_⟩
 have hO : Only (fun k => k = B) W (((((W.setCell ⟨B, 0, none⟩ (.int .i64 x.e.t)).setCell ⟨B, 1, none⟩ (.int .i64 x.e.k)).setCell ⟨B, 2, none⟩ (.int .i64 x.e.a)).setCell ⟨B, 3, none⟩ (.int .i64 x.e.b)).setCell ⟨B, 4, none⟩ (.int .i64 x.e.c)) :=
  (((((Only.refl (fun k => k = B) W).setCell (p := ⟨B, 0, none⟩) (fun _ => rfl) _).setCell (p := ⟨B, 1, none⟩) (fun _ => rfl) _).setCell (p := ⟨B, 2, none⟩) (fun _ => rfl) _).setCell (p := ⟨B, 3, none⟩) (fun _ => rfl) _).setCell (p := ⟨B, 4, none⟩) (fun _ => rfl) _
 have hBw := hB'.out
 exact ⟨hR.out.1.kept hO (fun k hk e => by have := hlt2.out k hk; omega), hR.out.2.trans hO (fun k hk e => by omega)⟩
def PutEnd (w : World) (r : Nat) (o : Option Nat) (T : Nat) (rs : List En) (x : Ev) (e : Ending) (w' : World) : Prop :=
 e = .returned (.tuple #[]) /\ ∃ o', Ag w' r o' (T + 1) (rs ++ [⟨x, T⟩]) /\ (o' = o ∨ ∃ g, o' = some g /\ w.heap.size <= g) /\ Only (fp r o) w w'
set_option maxHeartbeats 400000 in
theorem put_any {w : World} {r T : Nat} {o : Option Nat} {rs : List En} (h : Ag w r o T rs) (hT : T <= 1000000) (hL : rs.length <= 900) (x : Ev) : Calls Tryz.prog 53 #[.pointer (some ⟨r, 0, none⟩), x.val] w (PutEnd w r o T rs x) := by
 obtain ⟨es, hA, hh, hp, hs, hb, hl⟩ := h
 have hpu := zh (fun (W : World) (hW : Only (fun _ => False) w W) => zLM (hA.new hW) hh (by rw [hp.length_eq]; omega) hT x)
 have hE := zh (show ∀ W e W', Only (fun _ => False) w W -> HPushEnd W r o T es x e W' -> PutEnd w r o T rs x e W' from fun W e W' hW hP => by
  obtain ⟨he, o', es', q1, q2, q3, q4, q5⟩ := hP
  refine ⟨he, o', ⟨es', q1, q3, q2.trans (hp.append_right _), ?_, ?_, ?_⟩, ?_, (hW.mono (fun _ _ h => h.elim)).trans' q5⟩
  ·refine List.pairwise_append.2 ⟨hs, List.pairwise_singleton _ _, fun a ha b hb' => ?_⟩
   obtain rfl : b = ⟨x, T⟩ := by simpa using hb'
   exact hb a ha
  ·intro y hy
   rcases List.mem_append.1 hy with hy | hy
   ·have := hb y hy; omega
   ·obtain rfl : y = ⟨x, T⟩ := by simpa using hy
    show T < T + 1
    omega
  ·simp; omega
  ·rcases q4 with q4 | ⟨g, hg, hge⟩
   ·exact .inl q4
   ·exact .inr ⟨g, hg, Nat.le_trans hW.size hge⟩)
 clear hA hh hp hs hb hl
 unfold Ev.val at *
 go_enter Tryz.func53, Tryz.ntmps53
 go_wp2
 refine zAD 6 (by kernel_rfl) (by kernel_rfl) ?_
 simp only [List.take_succ_cons, List.take_zero, List.drop_succ_cons, List.drop_zero]
 repeat (go_big_quiet_step (fail))
 refine wpQuiet_nil ?_
 rintro _ ⟨nq, rfl⟩
 go_wp2_with fail
 refine (hpu.out _ (((Only.refl _ w).alloc _).drewN nq)).mono ?_
 rintro e W hP
 have hR := zh (hE.out _ _ _ (((Only.refl _ w).alloc _).drewN nq) hP)
 obtain ⟨rfl, -⟩ := hP
 go_wp2
 go_end0
 exact hR.out
def NewEnd (w : World) (l : List Ev) (e : Ending) (w' : World) : Prop :=
 e = .returned (.pointer (some ⟨w.heap.size, 0, none⟩)) /\ ∃ o, Ag w' w.heap.size o l.length (ents 0 l) /\ (∀ g, o = some g -> w.heap.size <= g) /\ Only (fun _ => False) w w'
set_option maxHeartbeats 400000 in
theorem new_any {w : World} {A : Option Addr} {cap : Nat} {l : List Ev} (hl : EvRow w A l) (hn : l.length <= 500) : Calls Tryz.prog 47 #[.slice A l.length cap] w (NewEnd w l) := by
 obtain ⟨r, hr⟩ : ∃ r, r = w.heap.size := ⟨_, rfl⟩
 have jAh := fun (W : World) (hW : AgAt W r none 0 []) (hO : Only (fun _ => False) w W) => zN8 (cap := cap) hW (hl.only hO (fun _ h => h.elim)) (fun h0 b off e => by
  obtain ⟨b', off', e', hlt, _⟩ := hl.at_ h0
  rw [e] at e'
  cases e'
  omega) hn
 have h0 : ∀ W : World, W = w.alloc (.cells #[.slice none 0 0, .int .u64 0] 194) -> AgAt W r none 0 [] := by
  rintro _ rfl
  exact ⟨_, zAB _ _ hr.symm, Win.nil _ _ _, fun k hk => by cases hk⟩
 have yK := zh (jAh _ (h0 _ rfl) ((Only.refl _ w).alloc _))
 obtain ⟨n, hn'⟩ : ∃ n, n = l.length := ⟨_, rfl⟩
 have hE := zh (And.intro hn' hr)
 rw [<- hn'] at yK ⊢
 clear jAh h0 hl hn' hr
 go_enter Tryz.func47, Tryz.ntmps47
 go_wp2_with fail
 rw [<- hE.out.2]
 refine yK.out.mono ?_
 rintro e W ⟨rfl, o, hAg, hog, hO⟩
 have hlr := zC1 0 (l.take l.length)
 rw [List.take_length] at hAg hlr
 have hin := zh (zN9 hAg (by omega))
 have hO' := zh (And.intro hog hO)
 clear hAg hog hO hlr
 go_wp2_with fail
 refine hin.out.mono ?_
 rintro e W' ⟨rfl, es', q1, q2, q3, q4, q5⟩
 have hF := zh (And.intro q1 (And.intro q2 (And.intro q3 q5)))
 clear q1 q2 q3 q4 q5
 go_wp2
 go_ret
 obtain ⟨q1, q2, q3, q5⟩ := hF.out
 obtain ⟨hog, hO⟩ := hO'.out
 have hr := hE.out.2
 unfold NewEnd
 rw [<- hE.out.2]
 have hs : w.heap.size < (w.alloc (.cells #[.slice none 0 0, .int .u64 0] 194)).heap.size := by simp
 refine ⟨rfl, o, ⟨es', q1, by rw [q2.length_eq]; exact q3, q2, (zP3 0 l).1, fun x hx => by have := ((zP3 0 l).2 x hx).2; omega, by rw [zC1]; exact Nat.le_refl _⟩, fun g hg => by have := hog g hg; omega, ?_⟩
 refine (((Only.refl (fun _ => False) w).alloc _).trans hO (fun k hk e => by omega)).trans q5 (fun k hk e => by have := hog k e; omega)
def Takes (at_ : Int) : List En -> List Ev -> List En -> Prop
 | rs, [], rs' => rs = rs'
 | rs, e :: out, rs' => ∃ k x, IsFirst rs k x /\ x.e = e /\ x.e.t <= at_ /\ Takes at_ (rs.eraseIdx k) out rs'
theorem Takes.snoc {at_ : Int} {rs rs1 : List En} {out : List Ev} {k : Nat} {x : En} (h : Takes at_ rs out rs1) (hx : IsFirst rs1 k x) (hle : x.e.t <= at_) : Takes at_ rs (out ++ [x.e]) (rs1.eraseIdx k) := by
 induction out generalizing rs with
 | nil =>
  obtain rfl : rs = rs1 := h
  exact ⟨k, x, hx, rfl, hle, rfl⟩
 | cons e out ih =>
  obtain ⟨k', x', h1, h2, h3, h4⟩ := h
  exact ⟨k', x', h1, h2, h3, ih h4⟩
theorem Takes.len {at_ : Int} {rs rs1 : List En} {out : List Ev} (h : Takes at_ rs out rs1) : rs.length = out.length + rs1.length := by
 induction out generalizing rs with
 | nil =>
  obtain rfl : rs = rs1 := h
  simp
 | cons e out ih =>
  obtain ⟨k', x', h1, h2, h3, h4⟩ := h
  have h5 := ih h4
  have hk := (List.getElem?_eq_some_iff.1 h1.1).1
  rw [List.length_eraseIdx, if_pos hk] at h5
  simp only [List.length_cons]
  omega
def NextV (rs : List En) (v : Int) (b : Bool) : Prop := (rs = [] /\ v = 0 /\ b = false) ∨ ∃ k x, IsFirst rs k x /\ v = x.e.t /\ b = true
def NextEnd (w : World) (rs : List En) (e : Ending) (w' : World) : Prop := ∃ v b, e = .returned (.tuple #[.int .i64 v, .bool b]) /\ NextV rs v b /\ w = w'
theorem next_any {w : World} {r T : Nat} {o : Option Nat} {rs : List En} (h : Ag w r o T rs) : Calls Tryz.prog 149 #[.pointer (some ⟨r, 0, none⟩)] w (NextEnd w rs) := by
 by_cases hr : 0 < rs.length
 ·obtain ⟨k, x, es, hx, _⟩ := h.head hr
  exact (zLS h hx).mono fun e w' ⟨he, hw⟩ => ⟨_, _, he, .inr ⟨k, x, hx, rfl, rfl⟩, hw⟩
 ·obtain rfl : rs = [] := List.eq_nil_of_length_eq_zero (by omega)
  exact (zLR h).mono fun e w' ⟨he, hw⟩ => ⟨_, _, he, .inl ⟨rfl, rfl, rfl⟩, hw⟩
def TakeRel (w : World) (r : Nat) (o : Option Nat) (T : Nat) (rs : List En) (at_ : Int) (n : Nat) (l v b : Value) (w' : World) : Prop :=
 ∃ out rs' p cap h y c, l = .slice p out.length cap /\ v = .int .i64 y /\ b = .bool c /\ NextV rs' y c /\ rs'.length = n /\ Takes at_ rs out rs' /\ Win w' 40 5 (.slice p out.length cap) h out.length (evCells out) /\ (∀ k, h = some k -> w.heap.size <= k) /\ Ag w' r o T rs' /\ Only (fp r o) w w'
def TakeEnd (w : World) (r : Nat) (o : Option Nat) (T : Nat) (rs : List En) (at_ : Int) (e : Ending) (w' : World) : Prop :=
 ∃ out rs' p cap h, e = .returned (.slice p out.length cap) /\ Takes at_ rs out rs' /\ (∀ k x, IsFirst rs' k x -> at_ < x.e.t) /\ Win w' 40 5 (.slice p out.length cap) h out.length (evCells out) /\ (∀ k, h = some k -> w.heap.size <= k) /\ Ag w' r o T rs' /\ Only (fp r o) w w'
set_option maxHeartbeats 800000 in
theorem take_any {w : World} {r T : Nat} {o : Option Nat} {rs : List En} (h : Ag w r o T rs) (hT : rs.length <= 900) (at_ : Int) : Calls Tryz.prog 100 #[.pointer (some ⟨r, 0, none⟩), .int .i64 at_] w (TakeEnd w r o T rs at_) := by
 have hnx := zh (next_any h)
 have hlt := zh h.lt
 have hlen := hT
 have h' := zh h
 clear h
 go_enter Tryz.func100, Tryz.ntmps100
 go_wp2_with fail
 refine hnx.out.mono ?_
 rintro e w1 ⟨y0, c0, rfl, hv0, rfl⟩
 have jFc := zh hv0
 clear hv0
 go_wp2
 go_loopg [5, 6, 7] rs.length (fun n l v b wr => TakeRel w r o T rs at_ n l v b wr)
 case atStart => exact ⟨[], rs, none, 0, none, y0, c0, rfl, rfl, rfl, jFc.out, rfl, rfl, Win.nil _ _ _, (fun k hk => by cases hk), h'.out, Only.refl _ _⟩
 case round =>
  obtain ⟨out, rs', p, cap, hb, y, c, rfl, rfl, rfl, hv, hn, ht, hW, hf, hA, hO⟩ := hrel
  obtain ⟨ws, hws⟩ : ∃ ws : World, ws = wr := ⟨_, rfl⟩
  subst hws
  obtain ⟨m, hm⟩ : ∃ m, m = out.length := ⟨_, rfl⟩
  have hml := ht.len
  by_cases hgo : c = true /\ y <= at_
  ·obtain ⟨rfl, hle⟩ := hgo
   obtain ⟨k, x, hx, hy⟩ : ∃ k x, IsFirst rs' k x /\ y = x.e.t := by
    rcases hv with ⟨_, _, hc⟩ | ⟨k, x, hx, hy, _⟩
    ·cases hc
    ·exact ⟨k, x, hx, hy⟩
   have xK := zh (zOA hA (by have := ht.len; omega) hx)
   have hkl := (List.getElem?_eq_some_iff.1 hx.1).1
   have hst := zh (And.intro hn (And.intro (ht.snoc hx (hy ▸ hle)) (And.intro hW (And.intro hf (And.intro hO (And.intro hm hkl))))))
   have hAl := zh hA.lt
   rw [<- hm]
   rw [<- hm] at hml
   clear hv hn ht hW hf hA hO hm hx hy hkl
   go_wp2_with fail
   refine xK.out.mono ?_
   rintro e W ⟨rfl, hA1, hO1⟩
   have jIh := zh (fun W' (hW' : Only (fun _ => False) W W') => hA1.new hW')
   have hR := zh (And.intro hA1 hO1)
   rw [show x.e.val = .agg #[.int .i64 x.e.t, .int .i64 x.e.k, .int .i64 x.e.a, .int .i64 x.e.b, .int .i64 x.e.c] from rfl]
   have xM := zh (show ∀ W', Only (fun _ => False) W W' -> Win W' 40 5 (.slice p m cap) hb m (evCells out) from fun W' hW' => by
    obtain ⟨_, _, hWw, hff, _, hmm, _⟩ := hst.out
    rw [hmm]
    exact (hWw.kept hO1 (fun k hk hfp => by have := hff k hk; have := hlt.out k hfp; omega)).kept hW' (fun _ _ h => h))
   clear hA1 hO1
   go_wp2_with (at_builtin; refine zAP rfl _ _ 28 rfl 40 zev 5 40 Tryz.underlying28 zSQ rfl (by decide) rfl (xM.out _ ((Only.refl _ W).alloc _)) _ 1 1 rfl (Ev.cells x.e) rfl (fun _ => ⟨_, rfl, zB0 (zAB _ _ rfl)⟩) (zTZ _) (by unfold maxLen; omega) (by omega) ?_; intro v4 w4 h4 hW4 hO4 hh4; obtain ⟨p4, c4, rfl, _, _⟩ := hW4.out.form)
   have hAn := zh (show Ag w4 r o T (rs'.eraseIdx k) /\ Only (fp r o) w w4 /\ ∀ k, h4 = some k -> w.heap.size <= k from by
    obtain ⟨_, _, hWw, hff, hO, hmm, _⟩ := hst.out
    obtain ⟨hA1, hO1⟩ := hR.out
    have hsz := hO.size
    have yH := hO1.size
    refine ⟨(hA1.new ((Only.refl _ W).alloc _)).kept hO4.out (fun k hk e => by have := hff k e.symm; have := hlt.out k hk; omega), ((hO.trans' hO1).alloc _).trans hO4.out (fun k hk e => by have := hff k e.symm; omega), ?_⟩
    rintro k rfl
    rcases hh4.out with hh | ⟨g, hg, hge⟩
    ·exact hff k hh.symm
    ·cases hg
     rw [zAS] at hge
     omega)
   have jFd := zh (next_any hAn.out.1)
   go_wp2_with fail
   refine jFd.out.mono ?_
   rintro e w5 ⟨y5, c5, rfl, hv5, rfl⟩
   have jFe := zh hv5
   clear hv5
   go_wp2
   go_roundg (rs'.eraseIdx k).length
   case measure =>
    obtain ⟨hn, _, _, _, _, _, hkl⟩ := hst.out
    rw [List.length_eraseIdx, if_pos hkl]
    omega
   case rel =>
    obtain ⟨hn, ht, hWw, hff, hO, hmm, hkl⟩ := hst.out
    have e1 : m + 1 = (out ++ [x.e]).length := by rw [List.length_append, <- hmm]; rfl
    have e2 : evCells out ++ x.e.cells = evCells (out ++ [x.e]) := by rw [zFA, zIF]
    have hWf := hW4.out
    rw [e1, e2] at hWf
    rw [e1]
    exact ⟨out ++ [x.e], rs'.eraseIdx k, p4, c4, h4, y5, c5, rfl, rfl, rfl, jFe.out, rfl, ht, hWf, hAn.out.2.2, hAn.out.1, hAn.out.2.1⟩
  ·have zE : ∀ k x, IsFirst rs' k x -> at_ < x.e.t := fun k x hx => by
    rcases hv with ⟨rfl, _, _⟩ | ⟨k', x', hx', rfl, rfl⟩
    ·cases hx.1
    ·obtain ⟨rfl, rfl⟩ := zBT hx hx'
     simp at hgo
     exact hgo
   have hE := zh (show TakeEnd w r o T rs at_ (.returned (.slice p out.length cap)) ws from ⟨out, rs', p, cap, hb, rfl, ht, zE, hW, hf, hA, hO⟩)
   cases c with
   | false =>
    clear hv hn ht hW hf hA hO hm zE hml hgo
    go_wp2
    go_ret
    exact hE.out
   | true =>
    have hle : ¬ y <= at_ := fun h => hgo ⟨rfl, h⟩
    clear hv hn ht hW hf hA hO hm zE hml hgo
    go_wp2
    go_ret
    exact hE.out
end Pil
end Go.Proofs.YtlbdjiiddofkgaaGreatDoor
namespace Go.Proofs.YtlbdjiiddofkgaaGreatDoor
open Go Go.RowKit
theorem zF5 {P : Program} (w : World) (dT sT ty elem : TypeId) (sz n : Nat) (hu : P.underlying dT = some (.slice elem)) (hs : (P.info? elem).map (·.size) = some sz) (hz : 0 < sz) (dp sp : Option Addr) (vV vX sLen wG : Nat) (hn : n = Nat.min sLen vV)
  (g off : Nat) (cur : List Value) (t : TypeId) (hg : w.heap[g]? = some (.cells cur.toArray t (0, 0))) (cs : List Value) (hl : cs.length = n * sz)
  (kV : 0 < n -> dp = some ⟨g, off, none⟩ /\ ∃ ad, sp = some ad /\ ∀ j v, cs[j]? = some v -> w.cell? (ad.add j) = some v)
  (wL : off + cs.length <= cur.length) (h1 : ∀ v ∈ cs, v.oneCell' = true) :
  ∃ w', Sem.run P (Builtin.copy_ #[dT, sT] ty #[.slice dp vV vX, .slice sp sLen wG]) w = .ok (goInt n) w' /\ w'.heap[g]? = some (.cells (splice cur off cs).toArray t (0, 0)) /\ Only (fun k => k = g) w w' := by
 obtain ⟨i, hi, rfl⟩ := Option.map_eq_some_iff.1 hs
 by_cases h0 : n = 0
 ·subst h0
  obtain rfl : cs = [] := List.eq_nil_of_length_eq_zero (by simpa using hl)
  have hlc : ∀ (x : Addr), (loadCells x 0).run P w = .ok #[] w := fun x => by simpa using run_loadCells_list (P := P) w x [] (by simp)
  refine ⟨w, ?_, by simpa [splice] using hg, Only.refl _ w⟩
  cases dp <;> cases sp <;> simp [Builtin.copy_, run_underlying hu, Builtin.lenOf, Builtin.firstCells, sizeOf, typeInfo, hi, <- hn, storeCells, hlc]
 ·obtain ⟨rfl, ad, rfl, vK⟩ := kV (by omega)
  have hld := run_loadCells_list (P := P) w ad cs vK
  rw [hl] at hld
  have hst := run_storeCells_at P g off t cs 0 cur.toArray w hg (by simpa using wL) h1
  refine ⟨w.setRow g (splice cur off cs).toArray, ?_, by simpa using setRow_heap w g _ _ t _ hg, (Only.refl (fun k => k = g) w).setRow (fun _ => rfl) _⟩
  simp only [Nat.add_zero] at hst
  simp [Builtin.copy_, run_underlying hu, Builtin.lenOf, Builtin.firstCells, sizeOf, typeInfo, hi, <- hn, hld, hst, splice]
theorem zBK {P : Program} {w : World} {ops : Array Oper} {rest : List Oper} {o : Oper} {a : Act} {Q : Exit -> Act -> World -> Prop} (hgd : o.guard = none) (d s : Operand) (dT sT : TypeId)
  (ho : o.op = .call { callee := .builtin .copy, args := #[d, s], argTypes := #[dT, sT] }) (elem : TypeId) (sz n : Nat) (hu : P.underlying dT = some (.slice elem)) (hsz : (P.info? elem).map (·.size) = some sz) (hz : 0 < sz)
  (dp sp : Option Addr) (vV vX sLen wG : Nat) (hd : a.eval d = .slice dp vV vX) (hs : a.eval s = .slice sp sLen wG) (hn : n = Nat.min sLen vV)
  (g off : Nat) (cur : List Value) (t : TypeId) (hg : w.heap[g]? = some (.cells cur.toArray t (0, 0))) (cs : List Value) (hl : cs.length = n * sz)
  (kV : 0 < n -> dp = some ⟨g, off, none⟩ /\ ∃ ad, sp = some ad /\ ∀ j v, cs[j]? = some v -> w.cell? (ad.add j) = some v)
  (wL : off + cs.length <= cur.length) (h1 : ∀ v ∈ cs, v.oneCell' = true)
  (h : ∀ w', Hid (w'.heap[g]? = some (.cells (splice cur off cs).toArray t (0, 0))) -> Only (fun k => k = g) w w' -> wpList P ops Q rest (a.put o.dst (goInt n)) w') :
  wpList P ops Q (o :: rest) a w := by
 refine wpList_plain hgd fun K hK => ?_
 obtain ⟨w', hrun, h2, h3⟩ := zF5 (P := P) w dT sT o.type elem sz n hu hsz hz dp sp vV vX sLen wG hn g off cur t hg cs hl kV wL h1
 unfold Oper.wp
 simp [execOp, ho, resolve, invoke, builtin, hd, hs, hrun, Result.andThen]
 exact hK _ _ (h w' h2 h3)
theorem zBD {P : Program} {w : World} {ops : Array Oper} {rest : List Oper} {o : Oper} {a : Act} {Q : Exit -> Act -> World -> Prop} (hgd : o.guard = none) (d s : Operand) (dT sT : TypeId)
  (ho : o.op = .call { callee := .builtin .copy, args := #[d, s], argTypes := #[dT, sT] }) (elem : TypeId) (sz : Nat) (hu : P.underlying dT = some (.slice elem)) (hsz : (P.info? elem).map (·.size) = some sz)
  (dp sp : Option Addr) (vV vX sLen wG : Nat) (hd : a.eval d = .slice dp vV vX) (hs : a.eval s = .slice sp sLen wG) (hn : Nat.min sLen vV = 0)
  (h : wpList P ops Q rest (a.put o.dst (goInt 0)) w) : wpList P ops Q (o :: rest) a w := by
 refine wpList_plain hgd fun K hK => ?_
 obtain ⟨i, hi, -⟩ := Option.map_eq_some_iff.1 hsz
 have hlc : ∀ (x : Addr), (loadCells x 0).run P w = .ok #[] w := fun x => by simpa using run_loadCells_list (P := P) w x [] (by simp)
 have hrun : Sem.run P (Builtin.copy_ #[dT, sT] o.type #[.slice dp vV vX, .slice sp sLen wG]) w = .ok (goInt 0) w := by
  cases dp <;> cases sp <;> simp [Builtin.copy_, run_underlying hu, Builtin.lenOf, Builtin.firstCells, sizeOf, typeInfo, hi, hn, storeCells, hlc]
 unfold Oper.wp
 simp [execOp, ho, resolve, invoke, builtin, hd, hs, hrun, Result.andThen]
 exact hK _ _ h
