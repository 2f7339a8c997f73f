import Derived.Test.YtlbdjiiddofkgaaGreatDoorC05
set_option maxRecDepth 100000
namespace Go.Proofs.YtlbdjiiddofkgaaGreatDoor
namespace Lck
open Lin Go Go.RowKit
def lev (base : Int) (z : Nat -> Int) (p : Nat -> Bool) : Nat -> Int
 | 0 => base
 | k + 1 => if p k = true then max (lev base z p k) (z k) else lev base z p k
theorem zQH {base : Int} {z : Nat -> Int} {p : Nat -> Bool} {k : Nat} (h : p k = true) : lev base z p (k + 1) = max (lev base z p k) (z k) := if_pos h
theorem zSO {base : Int} {z : Nat -> Int} {p : Nat -> Bool} {k : Nat} (h : p k = false) : lev base z p (k + 1) = lev base z p k := if_neg (by rw [h]; decide)
theorem level_any {w : World} {b g n : Nat} {z h : Nat -> Int} {d : Nat -> Bool} (H : LkAt w b g n z h d) (hn : n <= 4096) (who base : Int) : Calls Tryz.prog 121 #[.pointer (some ⟨b, 0, none⟩), .int .i64 who, .int .i64 base] w fun e w' => e = .returned (.int .i64 (lev base z (mine h d who) n)) /\ w = w' := by
 have hl := zh (len_any H.cell)
 have H' := zh H
 have c0 := H.cell
 obtain ⟨p, hp⟩ : ∃ p, p = mine h d who := ⟨_, rfl⟩
 rw [<- hp]
 have hp' := zh hp
 clear H hp
 obtain ⟨R, hR⟩ : ∃ R, R = lev base z p n := ⟨_, rfl⟩
 rw [<- hR]
 have hR' := zh hR
 clear hR
 go_enter Tryz.func121, Tryz.ntmps121
 go_wp2_with (go_at_call 178; refine hl.out.mono ?_; rintro e w' ⟨rfl, rfl⟩)
 go_loopw [12, 7] (fun i v wr => ∃ k : Nat, k <= n /\ i = .int .i64 k /\ v = .int .i64 (lev base z p k) /\ w = wr) (fun i _ _ => n - (intOf i).toNat)
 case atStart => exact ⟨0, Nat.zero_le _, rfl, rfl, rfl⟩
 case round =>
  obtain ⟨k, hk, rfl, rfl, rfl⟩ := hrel
  by_cases hkn : k < n
  ·have vR : (k : Int) < (n : Int) := by omega
   have hb := zh (zCN H'.out hkn who)
   rw [<- hp'.out] at hb
   obtain ⟨c1, _, _, _, _⟩ := H'.out.cells hkn
   obtain ⟨t, ht⟩ : ∃ t, t = p k := ⟨_, rfl⟩
   rw [<- ht] at hb
   obtain ⟨v, hv⟩ : ∃ v, v = lev base z p k := ⟨_, rfl⟩
   rw [<- hv]
   have ht' := zh ht
   have hv' := zh hv
   obtain ⟨x, hx⟩ : ∃ x, x = z k := ⟨_, rfl⟩
   rw [<- hx] at c1
   have hx' := zh hx
   clear ht hv hx
   cases t with
   | true =>
    have hs := zQH (base := base) (z := z) ht'.out.symm
    rw [<- hv'.out, <- hx'.out] at hs
    by_cases hvx : x <= v
    ·have hs' := zh (show lev base z p (k + 1) = v by omega)
     clear hs
     go_wp2_with (go_at_call 179; refine hb.out.mono ?_; rintro e w' ⟨rfl, hw⟩; subst hw)
     all_goals
      go_roundw
      case rel => exact ⟨k + 1, by omega, by go_num, by rw [hs'.out], trivial⟩
      case measure => simp [intOf]; omega
    ·have hs' := zh (show lev base z p (k + 1) = x by omega)
     clear hs
     go_wp2_with (go_at_call 179; refine hb.out.mono ?_; rintro e w' ⟨rfl, hw⟩; subst hw)
     all_goals
      go_roundw
      case rel => exact ⟨k + 1, by omega, by go_num, by rw [hs'.out], trivial⟩
      case measure => simp [intOf]; omega
   | false =>
    have hs' := zh (show lev base z p (k + 1) = v by rw [hv'.out]; exact zSO ht'.out.symm)
    go_wp2_with (go_at_call 179; refine hb.out.mono ?_; rintro e w' ⟨rfl, hw⟩; subst hw)
    go_roundw
    case rel => exact ⟨k + 1, by omega, by go_num, by rw [hs'.out], trivial⟩
    case measure => simp [intOf]; omega
  ·obtain rfl : k = n := by omega
   go_wp2
   go_ret
   exact ⟨by rw [hR'.out]; rfl, rfl⟩
def frH (h : Nat -> Int) (l : List Nat) : Nat -> Int := fun j => if j ∈ l then 0 else h j
def frD (d : Nat -> Bool) (l : List Nat) : Nat -> Bool := fun j => if j ∈ l then false else d j
theorem zN3 (h : Nat -> Int) (l : List Nat) (i : Nat) : upd (frH h l) i 0 = frH h (l ++ [i]) := by
 funext j
 unfold frH
 by_cases hj : j = i
 ·subst hj
  rw [upd_self, if_pos (by simp)]
 ·rw [upd_ne _ _ hj]
  by_cases hl : j ∈ l
  ·rw [if_pos hl, if_pos (by simp [hl])]
  ·rw [if_neg hl, if_neg (by simp [hl, hj])]
theorem zN4 (d : Nat -> Bool) (l : List Nat) (i : Nat) : upd (frD d l) i false = frD d (l ++ [i]) := by
 funext j
 unfold frD
 by_cases hj : j = i
 ·subst hj
  rw [upd_self, if_pos (by simp)]
 ·rw [upd_ne _ _ hj]
  by_cases hl : j ∈ l
  ·rw [if_pos hl, if_pos (by simp [hl])]
  ·rw [if_neg hl, if_neg (by simp [hl, hj])]
def offH (h : Nat -> Int) (p : Nat -> Bool) : Nat -> Int := fun j => if p j = true then 0 else h j
def offD (d : Nat -> Bool) (p : Nat -> Bool) : Nat -> Bool := fun j => if p j = true then false else d j
def FreeEnd (w : World) (b g n : Nat) (z h : Nat -> Int) (d : Nat -> Bool) (p : Nat -> Bool) (e : Ending) (w' : World) : Prop :=
 e = .returned (.int .i64 ((pick p n).length : Int)) /\ LkAt w' b g n z (offH h p) (offD d p) /\ Only (fun k => k = g) w w'
def Fre (w : World) (b g n : Nat) (z h : Nat -> Int) (d : Nat -> Bool) (l : List Nat) (m : Nat) (v : Value) (h' : Option Nat) (k : Nat) (wr : World) : Prop :=
 LkAt wr b g n z (frH h (l.take k)) (frD d (l.take k)) /\ Win wr 3 1 v h' m (jAf l) /\ (∀ q, h' = some q -> q ≠ g) /\ Only (fun k => k = g) w wr
theorem free_any {w : World} {b g n : Nat} {z h : Nat -> Int} {d : Nat -> Bool} (H : LkAt w b g n z h d) (hn : n <= 4096) (who : Int) : Calls Tryz.prog 166 #[.pointer (some ⟨b, 0, none⟩), .int .i64 who] w (FreeEnd w b g n z h d (mine h d who)) := by
 have hh := zh (zN2 H hn who)
 have H' := zh H
 obtain ⟨p, hp⟩ : ∃ p, p = mine h d who := ⟨_, rfl⟩
 rw [<- hp] at hh ⊢
 clear H hp
 go_enter Tryz.func166, Tryz.ntmps166
 go_wp2_with fail
 refine hh.out.mono ?_
 rintro e w1 ⟨v, h', rfl, hW, hf, hO⟩
 obtain ⟨l, hl⟩ : ∃ l, l = pick p n := ⟨_, rfl⟩
 rw [<- hl] at hW
 have hmem : ∀ i, i ∈ l -> i < n := fun i hi => by
  rw [hl] at hi
  exact (zDB.1 hi).1
 have hlen : l.length <= n := by rw [hl]; exact zJK p n
 obtain ⟨m, hm⟩ : ∃ m, m = l.length := ⟨_, rfl⟩
 rw [<- hm] at hW
 obtain ⟨A, cap, rfl, hq1, hq2⟩ := hW.form
 have hP : Fre w b g n z h d l m (.slice A m cap) h' 0 w1 := by
  have e1 : LkAt w1 b g n z (frH h (l.take 0)) (frD d (l.take 0)) := (H'.out.new hO).congr fun i _ => ⟨rfl, by simp [frH], by simp [frD]⟩
  refine ⟨e1, hW, fun q hq => ?_, hO.mono (fun _ _ h => h.elim)⟩
  have := hf q hq
  have := H'.out.lt.2
  omega
 have hP' := zh hP
 have hl' := zh hl
 have hm' := zh hm
 have jB2 := zh hmem
 have hlen' : m <= 4096 := by omega
 clear hP hW hf hO hh hl hm hmem hlen
 go_wp2
 go_loopw [13] (fun i wr => ∃ k : Nat, k <= m /\ i = .int .i64 k /\ Fre w b g n z h d l m (.slice A m cap) h' k wr) (fun i _ => m - (intOf i).toNat)
 case atStart => exact ⟨0, Nat.zero_le _, rfl, hP'.out⟩
 case round =>
  clear hP'
  obtain ⟨k, hk, rfl, hF⟩ := hrel
  obtain ⟨ws, hws⟩ : ∃ ws : World, ws = wr := ⟨_, rfl⟩
  subst hws
  have hF' := zh hF
  by_cases hkm : k < m
  ·have jIe : (k : Int) < (m : Int) := by omega
   obtain ⟨f1, f2, f3, f4⟩ := hF
   have hkl : k < l.length := by rw [<- hm'.out]; exact hkm
   obtain ⟨i, hi⟩ : ∃ i, i = l[k] := ⟨_, rfl⟩
   have hin : i < n := jB2.out i (by rw [hi]; exact List.getElem_mem _)
   have jDh : (i : Int) < n := by omega
   have hlk : l[k]? = some i := by rw [hi]; exact List.getElem?_eq_getElem hkl
   obtain ⟨q, off, cap', _, e, _, _, hql, hcell, _⟩ := f2.at_ (by omega)
   simp only [Value.slice.injEq, true_and] at e
   obtain ⟨rfl, rfl⟩ := e
   have cq : ws.cell? ⟨q, off + k, none⟩ = some (.int .i64 (i : Int)) := hcell k _ (by unfold jAf; rw [List.getElem?_map, hlk]; rfl)
   have c0 := f1.cell
   have hfr := zh (zJJ f1 hin)
   rw [zN3, zN4, show l.take k ++ [i] = l.take (k + 1) from by rw [List.take_add_one, hlk]; rfl] at hfr
   have hnx := zh (show ∀ w2, LkAt w2 b g n z (frH h (l.take (k + 1))) (frD d (l.take (k + 1))) -> Only (fun k => k = g) ws w2 -> Fre w b g n z h d l m (.slice (some ⟨q, off, none⟩) m cap) h' (k + 1) w2 from
    fun w2 a o => ⟨a, f2.kept o f3, f3, f4.trans' o⟩)
   clear f1 f2 f3 f4 hcell hlk hi hkl hF'
   go_wp2_with (go_at_call 232; refine hfr.out.mono ?_; rintro e w2 ⟨rfl, a2, o2⟩; have hn2 := zh (hnx.out _ a2 o2); clear a2 o2)
   go_roundw
   case rel => exact ⟨k + 1, by omega, by go_num, hn2.out⟩
   case measure => simp [intOf]; omega
  ·obtain rfl : k = m := by omega
   have hE : FreeEnd w b g n z h d p (.returned (.int .i64 (k : Int))) ws := by
    obtain ⟨f1, f2, f3, f4⟩ := hF
    have hk2 : l.take k = l := List.take_of_length_le (by rw [hm'.out]; exact Nat.le_refl _)
    rw [hk2] at f1
    refine ⟨by rw [hm'.out, hl'.out], f1.congr fun i hi => ⟨rfl, ?_, ?_⟩, f4⟩
    ·unfold frH offH
     by_cases hp : p i = true
     ·rw [if_pos hp, if_pos (by rw [hl'.out]; exact zDB.2 ⟨hi, hp⟩)]
     ·rw [if_neg hp, if_neg (by rw [hl'.out]; exact fun hm => hp (zDB.1 hm).2)]
    ·unfold frD offD
     by_cases hp : p i = true
     ·rw [if_pos hp, if_pos (by rw [hl'.out]; exact zDB.2 ⟨hi, hp⟩)]
     ·rw [if_neg hp, if_neg (by rw [hl'.out]; exact fun hm => hp (zDB.1 hm).2)]
   have hE' := zh hE
   clear hF hF' hE
   go_wp2
   go_ret
   exact hE'.out
end Lck
end Go.Proofs.YtlbdjiiddofkgaaGreatDoor
namespace Go.Proofs.YtlbdjiiddofkgaaGreatDoor
namespace Pil
open Go Go.RowKit
structure Ev where
 t : Int
 k : Int
 a : Int
 b : Int
 c : Int
structure En where
 e : Ev
 n : Nat
def Ev.cells (e : Ev) : List Value := [.int .i64 e.t, .int .i64 e.k, .int .i64 e.a, .int .i64 e.b, .int .i64 e.c]
def Ev.val (e : Ev) : Value := .agg #[.int .i64 e.t, .int .i64 e.k, .int .i64 e.a, .int .i64 e.b, .int .i64 e.c]
def En.cells (x : En) : List Value := [.int .i64 x.e.t, .int .i64 x.e.k, .int .i64 x.e.a, .int .i64 x.e.b, .int .i64 x.e.c, .int .u64 x.n]
def jJ (l : List En) : List Value := l.flatMap En.cells
def evCells (l : List Ev) : List Value := l.flatMap Ev.cells
theorem zA9 (l : List En) : (jJ l).length = l.length * 6 := by
 induction l with
 | nil => rfl
 | cons x l ih => simp only [jJ, List.flatMap_cons, List.length_append, List.length_cons] at ih ⊢; rw [ih]; simp [En.cells]; omega
theorem zCO (l : List En) (i : Nat) (x : En) (h : l[i]? = some x) (j : Nat) (hj : j < 6) : (jJ l)[i * 6 + j]? = x.cells[j]? := by
 induction l generalizing i with
 | nil => cases h
 | cons y l ih =>
  cases i with
  | zero =>
   cases h
   simp only [jJ, List.flatMap_cons]
   rw [List.getElem?_append_left (by simp [En.cells]; omega)]
   simp
  | succ i =>
   simp only [jJ, List.flatMap_cons]
   rw [List.getElem?_append_right (by simp [En.cells]; omega)]
   have := ih i (by simpa using h)
   rw [<- this]
   congr 1
   simp [En.cells]
   omega
def AgAt (w : World) (r : Nat) (o : Option Nat) (T : Nat) (es : List En) : Prop :=
 ∃ v, w.heap[r]? = some (.cells #[v, .int .u64 T] 194 (0, 0)) /\ Win w 310 6 v o es.length (jJ es) /\ ∀ k, o = some k -> k ≠ r
def fp (r : Nat) (o : Option Nat) (k : Nat) : Prop := k = r ∨ o = some k
theorem AgAt.lt {w : World} {r T : Nat} {o : Option Nat} {es : List En} (h : AgAt w r o T es) : ∀ k, fp r o k -> k < w.heap.size := by
 obtain ⟨v, h1, h2, h3⟩ := h
 rintro k (rfl | hk)
 ·exact zAG h1
 ·exact h2.lt k hk
theorem AgAt.kept {S : Nat -> Prop} {w w' : World} {r T : Nat} {o : Option Nat} {es : List En} (h : AgAt w r o T es) (ho : Only S w w') (hS : ∀ k, fp r o k -> ¬ S k) : AgAt w' r o T es := by
 obtain ⟨v, h1, h2, h3⟩ := h
 exact ⟨v, ho.heap h1 (hS r (.inl rfl)), h2.kept ho (fun k hk => hS k (.inr hk)), h3⟩
theorem AgAt.new {w w' : World} {r T : Nat} {o : Option Nat} {es : List En} (h : AgAt w r o T es) (ho : Only (fun _ => False) w w') : AgAt w' r o T es := h.kept ho (fun _ _ h => h)
theorem AgAt.cells {w : World} {r T : Nat} {o : Option Nat} {es : List En} (h : AgAt w r o T es) : ∃ p cap, es.length <= cap /\ cap <= maxLen /\ w.cell? ⟨r, 0, none⟩ = some (.slice p es.length cap) /\ w.cell? ⟨r, 1, none⟩ = some (.int .u64 T) /\ w.frozen? ⟨r, 0, none⟩ = false /\ w.frozen? ⟨r, 1, none⟩ = false /\ Win w 310 6 (.slice p es.length cap) o es.length (jJ es) := by
 obtain ⟨v, h1, h2, h3⟩ := h
 obtain ⟨p, cap, rfl, h4, h5⟩ := h2.form
 exact ⟨p, cap, h4, h5, zAA (L := [_, _]) h1 rfl, zAA (L := [_, _]) h1 rfl, zAC (L := [_, _]) h1 0, zAC (L := [_, _]) h1 1, h2⟩
def EnCells (w : World) (g off : Nat) (x : En) : Prop :=
 w.cell? ⟨g, off, none⟩ = some (.int .i64 x.e.t) /\ w.cell? ⟨g, off + 1, none⟩ = some (.int .i64 x.e.k) /\ w.cell? ⟨g, off + 2, none⟩ = some (.int .i64 x.e.a) /\ w.cell? ⟨g, off + 3, none⟩ = some (.int .i64 x.e.b) /\ w.cell? ⟨g, off + 4, none⟩ = some (.int .i64 x.e.c) /\ w.cell? ⟨g, off + 5, none⟩ = some (.int .u64 x.n)
theorem zG8 {w : World} {v : Value} {o : Option Nat} {n : Nat} {es : List En} (h : Win w 310 6 v o n (jJ es)) (hn : 0 < n) : ∃ g off cap, o = some g /\ v = .slice (some ⟨g, off, none⟩) n cap /\ n <= cap /\ cap <= maxLen /\ g < w.heap.size /\ (∀ i x, es[i]? = some x -> EnCells w g (off + i * 6) x) /\ ∀ i, w.frozen? ⟨g, i, none⟩ = false := by
 obtain ⟨g, off, cap, h1, h2, h3, h4, h5, h6, h7⟩ := h.at_ hn
 refine ⟨g, off, cap, h1, h2, h3, h4, h5, fun i x hx => ?_, h7⟩
 have q : ∀ j u, j < 6 -> x.cells[j]? = some u -> w.cell? ⟨g, off + i * 6 + j, none⟩ = some u := fun j u hj hu => by
  have := h6 (i * 6 + j) u ((zCO es i x hx j hj).trans hu)
  rwa [<- Nat.add_assoc] at this
 exact ⟨q 0 _ (by omega) rfl, q 1 _ (by omega) rfl, q 2 _ (by omega) rfl, q 3 _ (by omega) rfl, q 4 _ (by omega) rfl, q 5 _ (by omega) rfl⟩
theorem len_any {w : World} {r T : Nat} {o : Option Nat} {es : List En} (h : AgAt w r o T es) : Calls Tryz.prog 98 #[.pointer (some ⟨r, 0, none⟩)] w fun e w' => e = .returned (.int .i64 es.length) /\ w = w' := by
 obtain ⟨p, cap, h1, h2, c0, c1, f0, f1, h3⟩ := h.cells
 clear h1 h2 h h3
 go_enter Tryz.func98, Tryz.ntmps98
 go_wp2
 go_ret
 exact ⟨rfl, rfl⟩
def ltB (x y : En) : Bool := if x.e.t = y.e.t then decide (x.n < y.n) else decide (x.e.t < y.e.t)
def LessEnd (w : World) (x y : En) (e : Ending) (w' : World) : Prop := e = .returned (.bool (ltB x y)) /\ Only (fun _ => False) w w'
set_option maxHeartbeats 400000 in
theorem zDC {w : World} {r T : Nat} {o : Option Nat} {es : List En} (h : AgAt w r o T es) (i j : Nat) (x y : En) (hx : es[i]? = some x) (hy : es[j]? = some y) : Calls Tryz.prog 355 #[.pointer (some ⟨r, 0, none⟩), .int .i64 i, .int .i64 j] w (LessEnd w x y) := by
 obtain ⟨p, cap, h1, h2, c0, c1, f0, f1, h3⟩ := h.cells
 obtain ⟨hi, -⟩ := List.getElem?_eq_some_iff.1 hx
 obtain ⟨hj, -⟩ := List.getElem?_eq_some_iff.1 hy
 obtain ⟨g, off, cap', ho, hv, h4, h5, h6, h7, h8⟩ := zG8 h3 (by omega)
 cases hv
 obtain ⟨a0, a1, a2, a3, a4, a5⟩ := h7 i x hx
 obtain ⟨b0, b1, b2, b3, b4, b5⟩ := h7 j y hy
 obtain ⟨n, hn⟩ : ∃ n, n = es.length := ⟨_, rfl⟩
 rw [<- hn] at c0 hi hj
 have hr : r < w.heap.size := h.lt r (.inl rfl)
 have hi' : (i : Int) < (n : Int) := by omega
 have hj' : (j : Int) < (n : Int) := by omega
 clear h7 h8 h3 h hn hx hy h1 h2 h4 h5 f0 f1 c1 ho
 go_enter Tryz.func355, Tryz.ntmps355
 go_wp2
 go_region
 all_goals
  by_cases ht : x.e.t = y.e.t
  ·have q1 : (x.e.t == y.e.t) = true := by simpa using ht
   have q2 : (x.e.t != y.e.t) = false := by simpa using ht
   have q3 := zh (show decide (x.n < y.n) = ltB x y by unfold ltB; rw [if_pos ht])
   clear ht
   go_wp2
   go_ret
   exact ⟨congrArg (fun b => Ending.returned (.bool b)) q3.out, (((Only.refl _ w).alloc _).alloc _).drew⟩
  ·have q1 : (x.e.t == y.e.t) = false := by simpa using ht
   have q2 : (x.e.t != y.e.t) = true := by simpa using ht
   have q3 := zh (show decide (x.e.t < y.e.t) = ltB x y by unfold ltB; rw [if_neg ht])
   clear ht
   go_wp2
   go_ret
   exact ⟨congrArg (fun b => Ending.returned (.bool b)) q3.out, (((Only.refl _ w).alloc _).alloc _).drew⟩
theorem zIC (l : List En) (i : Nat) (y : En) (hi : i < l.length) : jJ (l.set i y) = jK (jJ l) (i * 6) y.cells := by
 apply List.ext_getElem?
 intro k
 have e1 : (jJ (l.set i y)).length = l.length * 6 := by rw [zA9, List.length_set]
 have e2 := zA9 l
 by_cases hk : k < l.length * 6
 ·have hk6 : k = k / 6 * 6 + k % 6 := by omega
  have hm : k % 6 < 6 := Nat.mod_lt _ (by omega)
  have hq : k / 6 < l.length := by omega
  have hc : y.cells.length = 6 := rfl
  by_cases hki : k / 6 = i
  ·have h1 : (l.set i y)[k / 6]? = some y := by rw [hki]; exact List.getElem?_set_self hi
   have h2 := zCO _ _ _ h1 (k % 6) hm
   rw [<- hk6] at h2
   rw [h2, show k = i * 6 + k % 6 by omega, zBC _ _ _ _ (by omega) (by omega)]
   congr 1
   omega
  ·have h1 : (l.set i y)[k / 6]? = some l[k / 6] := by rw [List.getElem?_set_ne (by omega)]; exact List.getElem?_eq_getElem hq
   have h2 := zCO _ _ _ h1 (k % 6) hm
   have h3 := zCO l _ _ (List.getElem?_eq_getElem hq) (k % 6) hm
   rw [<- hk6] at h2 h3
   rw [h2, zA1 _ _ _ _ (by omega), h3]
 ·rw [List.getElem?_eq_none (by omega), List.getElem?_eq_none (by rw [zAY]; omega)]
theorem zE9 {L xs news : List Value} {off a m : Nat} (hx : (L.drop off).take m = xs) (hm : a + news.length <= m) (hL : off + m <= L.length) : ((jK L (off + a) news).drop off).take m = jK xs a news := by
 apply List.ext_getElem?
 intro i
 rw [List.getElem?_take]
 have hxl : xs.length = m := by rw [<- hx, List.length_take, List.length_drop]; omega
 by_cases hi : i < m
 ·rw [if_pos hi, List.getElem?_drop]
  by_cases ha : a <= i /\ i < a + news.length
  ·have e1 := zBC news (off + a) L (i - a) (by omega) (by omega)
   have e2 := zBC news a xs (i - a) (by omega) (by omega)
   rw [show off + a + (i - a) = off + i by omega] at e1
   rw [show a + (i - a) = i by omega] at e2
   rw [e1, e2]
  ·rw [zA1 _ _ _ _ (by omega), zA1 _ _ _ _ (by omega), <- hx, List.getElem?_take, if_pos hi, List.getElem?_drop]
 ·rw [if_neg hi, List.getElem?_eq_none (by rw [zAY]; omega)]
theorem zQI {w : World} {g off n cap : Nat} {o : Option Nat} {es : List En} (h : Win w 310 6 (.slice (some ⟨g, off, none⟩) n cap) o n (jJ es)) (i : Nat) (y : En) (hi : i < es.length) :
  Win (w.setCells g (off + i * 6) y.cells) 310 6 (.slice (some ⟨g, off, none⟩) n cap) o n (jJ (es.set i y)) := by
 obtain ⟨hl, p, cap', hv, h1, h2, h3⟩ := h
 cases hv
 rw [zA9] at hl
 refine ⟨by rw [zA9, List.length_set]; exact hl, _, _, rfl, h1, h2, ?_⟩
 rcases h3 with h3 | ⟨g', off', L, hg, hp, hh, h4, h5⟩
 ·omega
 ·cases hp
  refine .inr ⟨g, off, _, hg, rfl, zA2 _ _ _ _ hh, by rw [zAY]; exact h4, ?_⟩
  have hn : n * 6 <= cap * 6 := Nat.mul_le_mul_right _ h1
  rw [zIC es i y hi]
  exact zE9 h5 (by show i * 6 + 6 <= _; omega) (by omega)
theorem zJL {w : World} {r T g off n cap : Nat} {o : Option Nat} {es : List En} (h : AgAt w r o T es) (c0 : w.cell? ⟨r, 0, none⟩ = some (.slice (some ⟨g, off, none⟩) n cap)) (ho : o = some g) (i : Nat) (y : En) (hi : i < es.length) :
  AgAt (w.setCells g (off + i * 6) y.cells) r o T (es.set i y) /\ Only (fun k => o = some k) w (w.setCells g (off + i * 6) y.cells) := by
 obtain ⟨v, h1, h2, h3⟩ := h
 have hv : v = .slice (some ⟨g, off, none⟩) n cap := by
  have := zAA (L := [v, .int .u64 T]) h1 (i := 0) (v := v) rfl
  rw [this] at c0
  exact Option.some.inj c0
 subst hv
 have hO := zA3 (g := g) y.cells (off + i * 6) w
 obtain ⟨_, _, _, hv, _⟩ := id h2
 cases hv
 refine ⟨⟨_, hO.heap h1 (fun e => h3 g ho e.symm), ?_, h3⟩, hO.mono (fun x _ e => by rw [ho, e])⟩
 rw [List.length_set]
 exact zQI h2 i y hi
def SwapEnd (w : World) (r : Nat) (o : Option Nat) (T : Nat) (es : List En) (e : Ending) (w' : World) : Prop := e = .returned (.tuple #[]) /\ AgAt w' r o T es /\ Only (fun k => o = some k) w w'
set_option maxHeartbeats 800000 in
theorem zDD {w : World} {r T : Nat} {o : Option Nat} {es : List En} (h : AgAt w r o T es) (i j : Nat) (x y : En) (hx : es[i]? = some x) (hy : es[j]? = some y) (hij : i ≠ j) : Calls Tryz.prog 357 #[.pointer (some ⟨r, 0, none⟩), .int .i64 i, .int .i64 j] w (SwapEnd w r o T ((es.set i y).set j x)) := by
 obtain ⟨p, cap, h1, h2, c0, c1, f0, f1, h3⟩ := h.cells
 obtain ⟨hi, -⟩ := List.getElem?_eq_some_iff.1 hx
 obtain ⟨hj, -⟩ := List.getElem?_eq_some_iff.1 hy
 obtain ⟨g, off, cap', ho, hv, h4, h5, h6, h7, h8⟩ := zG8 h3 (by omega)
 cases hv
 obtain ⟨a0, a1, a2, a3, a4, a5⟩ := h7 i x hx
 obtain ⟨b0, b1, b2, b3, b4, b5⟩ := h7 j y hy
 have hE1 := zJL h c0 ho i y hi
 have c0' : (w.setCells g (off + i * 6) (En.cells y)).cell? ⟨r, 0, none⟩ = some (.slice (some ⟨g, off, none⟩) es.length cap) := hE1.2.cell c0 (fun e => by
  obtain ⟨_, _, _, h3⟩ := h
  exact h3 r e rfl)
 have hE2 := zJL hE1.1 c0' ho j x (by rw [List.length_set]; omega)
 have hE := zh (And.intro hE2.1 (hE1.2.trans' hE2.2))
 clear hE1 hE2 c0'
 obtain ⟨n, hn⟩ : ∃ n, n = es.length := ⟨_, rfl⟩
 rw [<- hn] at c0 hi hj
 have hr : r < w.heap.size := h.lt r (.inl rfl)
 have hi' : (i : Int) < (n : Int) := by omega
 have hj' : (j : Int) < (n : Int) := by omega
 have hrg : r ≠ g := by obtain ⟨_, _, _, h3⟩ := h; exact fun e => h3 g ho e.symm
 have hgr : g ≠ r := fun e => hrg e.symm
 have ki0 := h8 (off + i * 6)
 have ki1 := h8 (off + i * 6 + 1)
 have ki2 := h8 (off + i * 6 + 2)
 have ki3 := h8 (off + i * 6 + 3)
 have ki4 := h8 (off + i * 6 + 4)
 have ki5 := h8 (off + i * 6 + 5)
 have kj0 := h8 (off + j * 6)
 have kj1 := h8 (off + j * 6 + 1)
 have kj2 := h8 (off + j * 6 + 2)
 have kj3 := h8 (off + j * 6 + 3)
 have kj4 := h8 (off + j * 6 + 4)
 have kj5 := h8 (off + j * 6 + 5)
 have hd : off + i * 6 ≠ off + j * 6 := by omega
 have hd' : off + j * 6 ≠ off + i * 6 := by omega
 clear h7 h3 h hn hx hy h1 h2 h4 h5 f0 f1 c1 ho h8
 go_enter Tryz.func357, Tryz.ntmps357
 go_region
 all_goals
  go_wp2
  go_end0
  exact ⟨rfl, hE.out.1.new (Only.refl _ _).drew, hE.out.2.drew⟩
set_option maxHeartbeats 800000 in
theorem zLF {w : World} {r T : Nat} {o : Option Nat} {es : List En} (h : AgAt w r o T es) (i : Nat) (x : En) (hx : es[i]? = some x) : Calls Tryz.prog 357 #[.pointer (some ⟨r, 0, none⟩), .int .i64 i, .int .i64 i] w (SwapEnd w r o T ((es.set i x).set i x)) := by
 obtain ⟨p, cap, h1, h2, c0, c1, f0, f1, h3⟩ := h.cells
 obtain ⟨hi, -⟩ := List.getElem?_eq_some_iff.1 hx
 obtain ⟨g, off, cap', ho, hv, h4, h5, h6, h7, h8⟩ := zG8 h3 (by omega)
 cases hv
 obtain ⟨a0, a1, a2, a3, a4, a5⟩ := h7 i x hx
 have hE1 := zJL h c0 ho i x hi
 have c0' : (w.setCells g (off + i * 6) (En.cells x)).cell? ⟨r, 0, none⟩ = some (.slice (some ⟨g, off, none⟩) es.length cap) := hE1.2.cell c0 (fun e => by
  obtain ⟨_, _, _, h3⟩ := h
  exact h3 r e rfl)
 have hE2 := zJL hE1.1 c0' ho i x (by rw [List.length_set]; omega)
 have hE := zh (And.intro hE2.1 (hE1.2.trans' hE2.2))
 clear hE1 hE2 c0'
 obtain ⟨n, hn⟩ : ∃ n, n = es.length := ⟨_, rfl⟩
 rw [<- hn] at c0 hi
 have hr : r < w.heap.size := h.lt r (.inl rfl)
 have hi' : (i : Int) < (n : Int) := by omega
 have hrg : r ≠ g := by obtain ⟨_, _, _, h3⟩ := h; exact fun e => h3 g ho e.symm
 have hgr : g ≠ r := fun e => hrg e.symm
 have ki0 := h8 (off + i * 6)
 have ki1 := h8 (off + i * 6 + 1)
 have ki2 := h8 (off + i * 6 + 2)
 have ki3 := h8 (off + i * 6 + 3)
 have ki4 := h8 (off + i * 6 + 4)
 have ki5 := h8 (off + i * 6 + 5)
 clear h7 h3 h hn hx h1 h2 h4 h5 f0 f1 c1 ho h8
 go_enter Tryz.func357, Tryz.ntmps357
 go_region
 all_goals
  go_wp2
  go_end0
  exact ⟨rfl, hE.out.1.new (Only.refl _ _).drew, hE.out.2.drew⟩
end Pil
end Go.Proofs.YtlbdjiiddofkgaaGreatDoor
namespace Go.Proofs.YtlbdjiiddofkgaaGreatDoor
namespace Pil
def le (x y : En) : Prop := x.e.t < y.e.t ∨ (x.e.t = y.e.t /\ x.n <= y.n)
theorem zQJ {x y : En} (h : ltB x y = true) : le x y := by
 unfold ltB at h
 unfold le
 split at h
 ·have := of_decide_eq_true h; omega
 ·have := of_decide_eq_true h; omega
theorem zLG {x y : En} (h : ltB x y = false) : le y x := by
 unfold ltB at h
 unfold le
 split at h
 ·have := of_decide_eq_false h; omega
 ·have := of_decide_eq_false h; omega
theorem le_trans {x y z : En} (h : le x y) (k : le y z) : le x z := by
 unfold le at *
 omega
theorem le_refl (x : En) : le x x := by
 unfold le
 omega
def Ok (es : List En) (p k : Nat) : Prop := ∀ x y, es[p]? = some x -> es[k]? = some y -> le x y
def HeapFrom (es : List En) (i0 n : Nat) : Prop := ∀ k, 0 < k -> k < n -> i0 <= (k - 1) / 2 -> Ok es ((k - 1) / 2) k
def UpInv (es : List En) (n j : Nat) : Prop :=
 (∀ k, 0 < k -> k < n -> k ≠ j -> Ok es ((k - 1) / 2) k) /\ ∀ k, 0 < k -> k < n -> (k - 1) / 2 = j -> 0 < j -> Ok es ((j - 1) / 2) k
def DownInv (es : List En) (i0 n i : Nat) : Prop :=
 (∀ k, 0 < k -> k < n -> i0 <= (k - 1) / 2 -> (k - 1) / 2 ≠ i -> Ok es ((k - 1) / 2) k) /\ ∀ k, 0 < k -> k < n -> (k - 1) / 2 = i -> 0 < i -> i0 <= (i - 1) / 2 -> Ok es ((i - 1) / 2) k
def sw (es : List En) (i j : Nat) (x y : En) : List En := (es.set i y).set j x
theorem zG9 (es : List En) (i j : Nat) (x y : En) : (sw es i j x y).length = es.length := by simp [sw]
theorem zHA {es : List En} {i j : Nat} (hi : i < es.length) (hj : j < es.length) (x y : En) (k : Nat) : (sw es i j x y)[k]? = if k = j then some x else if k = i then some y else es[k]? := by
 unfold sw
 rw [List.getElem?_set]
 by_cases h1 : j = k
 ·rw [if_pos h1, if_pos h1.symm, if_pos (by simpa using hj)]
 ·rw [if_neg h1, if_neg (fun e => h1 e.symm), List.getElem?_set]
  by_cases h2 : i = k
  ·rw [if_pos h2, if_pos h2.symm, if_pos hi]
  ·rw [if_neg h2, if_neg (fun e => h2 e.symm)]
theorem zID {es : List En} {i j : Nat} {x y : En} (hx : es[i]? = some x) (hy : es[j]? = some y) : List.Perm (sw es i j x y) es := by
 obtain ⟨hi, rfl⟩ := List.getElem?_eq_some_iff.1 hx
 obtain ⟨hj, rfl⟩ := List.getElem?_eq_some_iff.1 hy
 exact List.set_set_perm hi hj
theorem zLH {es : List En} {n j : Nat} (h : UpInv es n j) (hj : j = 0 ∨ Ok es ((j - 1) / 2) j) : HeapFrom es 0 n := by
 intro k h1 h2 _
 by_cases hk : k = j
 ·subst hk
  rcases hj with hj | hj
  ·omega
  ·exact hj
 ·exact h.1 k h1 h2 hk
theorem zQK {es : List En} {n i j : Nat} {x y : En} (h : UpInv es n j) (hn : n <= es.length) (hj0 : 0 < j) (hjn : j < n) (hij : i = (j - 1) / 2) (hx : es[i]? = some x) (hlt : ltB y x = true) : UpInv (sw es i j x y) n i := by
 have hyx := zQJ hlt
 have hi : i < es.length := by omega
 have hj : j < es.length := by omega
 refine ⟨fun k h1 h2 h3 a b ha hb => ?_, fun k h1 h2 h3 h4 a b ha hb => ?_⟩
 ·rw [zHA hi hj] at ha hb
  by_cases hk : k = j
  ·rw [if_pos hk] at hb
   rw [if_neg (by omega), if_pos (by omega)] at ha
   cases ha; cases hb; exact hyx
  ·rw [if_neg hk, if_neg h3] at hb
   by_cases hp : (k - 1) / 2 = j
   ·rw [if_pos hp] at ha
    cases ha
    exact h.2 k h1 h2 hp hj0 _ _ (hij ▸ hx) hb
   ·rw [if_neg hp] at ha
    by_cases hpi : (k - 1) / 2 = i
    ·rw [if_pos hpi] at ha
     cases ha
     exact le_trans hyx (h.1 k h1 h2 hk _ _ (hpi ▸ hx) hb)
    ·rw [if_neg hpi] at ha
     exact h.1 k h1 h2 hk _ _ ha hb
 ·rw [zHA hi hj] at ha hb
  rw [if_neg (by omega), if_neg (by omega)] at ha
  have hpp := h.1 i h4 (by omega) (by omega)
  by_cases hk : k = j
  ·rw [if_pos hk] at hb
   cases hb
   exact hpp _ _ ha hx
  ·rw [if_neg hk, if_neg (by omega)] at hb
   exact le_trans (hpp _ _ ha hx) (h.1 k h1 h2 hk _ _ (h3 ▸ hx) hb)
theorem zKF {es : List En} {i0 n : Nat} (h : HeapFrom es (i0 + 1) n) : DownInv es i0 n i0 :=
 ⟨fun k h1 h2 h3 h4 => h k h1 h2 (by omega), fun k h1 h2 h3 h4 h5 => by omega⟩
theorem zLI {es : List En} {i0 n i : Nat} (h : DownInv es i0 n i) (hn : n <= 2 * i + 1) : HeapFrom es i0 n :=
 fun k h1 h2 h3 => h.1 k h1 h2 h3 (by omega)
def Kid (es : List En) (n i j : Nat) : Prop := 0 < j /\ j < n /\ (j - 1) / 2 = i /\ ∀ k, 0 < k -> k < n -> (k - 1) / 2 = i -> Ok es j k
theorem zLJ {es : List En} {i0 n i j : Nat} (h : DownInv es i0 n i) (hk : Kid es n i j) (hj : Ok es i j) (hn : n <= es.length) : HeapFrom es i0 n := by
 intro k h1 h2 h3
 by_cases hp : (k - 1) / 2 = i
 ·intro a b ha hb
  rw [hp] at ha
  obtain ⟨k0, k1, k2, k3⟩ := hk
  have hz : es[j]? = some (es[j]'(by omega)) := List.getElem?_eq_getElem _
  exact le_trans (hj _ _ ha hz) (k3 k h1 h2 hp _ _ hz hb)
 ·exact h.1 k h1 h2 h3 hp
theorem zLK {es : List En} {i0 n i j : Nat} {x y : En} (h : DownInv es i0 n i) (hk : Kid es n i j) (hn : n <= es.length) (hi0 : i0 <= i) (hx : es[i]? = some x) (hy : es[j]? = some y) (hlt : ltB y x = true) : DownInv (sw es i j x y) i0 n j := by
 have hyx := zQJ hlt
 obtain ⟨k0, k1, k2, k3⟩ := hk
 have hi : i < es.length := by omega
 have hj : j < es.length := by omega
 refine ⟨fun k h1 h2 h3 h4 a b ha hb => ?_, fun k h1 h2 h3 h4 h5 a b ha hb => ?_⟩
 ·rw [zHA hi hj] at ha hb
  rw [if_neg h4] at ha
  by_cases hp : (k - 1) / 2 = i
  ·rw [if_pos hp] at ha
   cases ha
   by_cases hkj : k = j
   ·rw [if_pos hkj] at hb
    cases hb; exact hyx
   ·rw [if_neg hkj, if_neg (by omega)] at hb
    exact k3 k h1 h2 hp _ _ hy hb
  ·rw [if_neg hp] at ha
   rw [if_neg (fun e => hp (by rw [e, k2]))] at hb
   by_cases hki : k = i
   ·rw [if_pos hki] at hb
    cases hb
    subst hki
    exact h.2 j k0 k1 k2 h1 h3 _ _ ha hy
   ·rw [if_neg hki] at hb
    exact h.1 k h1 h2 h3 hp _ _ ha hb
 ·rw [zHA hi hj] at ha hb
  rw [if_neg (by omega), if_pos k2] at ha
  rw [if_neg (by omega), if_neg (by omega)] at hb
  cases ha
  exact h.1 k h1 h2 (by omega) (by omega) _ _ (h3 ▸ hy) hb
theorem zN5 {es : List En} {n : Nat} (h : HeapFrom es 0 n) (hn : n <= es.length) : ∀ k, k < n -> Ok es 0 k := by
 intro k
 induction k using Nat.strongRecOn with
 | _ k ih =>
  intro hk a b ha hb
  by_cases h0 : k = 0
  ·subst h0
   rw [ha] at hb
   cases hb
   exact le_refl _
  ·have hz : es[(k - 1) / 2]? = some (es[(k - 1) / 2]'(by omega)) := List.getElem?_eq_getElem _
   exact le_trans (ih ((k - 1) / 2) (by omega) (by omega) _ _ ha hz) (h k (by omega) hk (by omega) _ _ hz hb)
