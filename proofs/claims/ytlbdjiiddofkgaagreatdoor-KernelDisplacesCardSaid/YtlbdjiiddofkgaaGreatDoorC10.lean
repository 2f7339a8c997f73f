import Derived.Test.YtlbdjiiddofkgaaGreatDoorC09
import Derived.Deep.Cut
namespace Go.Proofs.YtlbdjiiddofkgaaGreatDoor.Ring
open Go.RowKit
def PutEnd (w : World) (r : Nat) (o : Option Nat) (room : Nat) (q : List Jb) (x : Jb) (e : Ending) (w' : World) : Prop :=
 e = .returned (.int .i64 0) /\ ∃ o', RingAt w' r o' room (q ++ [x]) /\ (o' = o ∨ ∃ g, o' = some g /\ w.heap.size <= g) /\ Only (fp r o) w w'
theorem put_full {w : World} {r : Nat} {o : Option Nat} {room : Nat} {q : List Jb} (hR : RingAt w r o room q) (hfull : q.length = room) (x : Jb) :
  Calls Tryz.prog 254 #[.pointer (some ⟨r, 0, none⟩), x.val] w fun e w' => e = .returned (.int .i64 7) /\ Only (fun _ => False) w w' := by
 obtain ⟨first, L, c0, c1, c2, c3, f0, f1, f2, f3, h1, h2, h3⟩ := (hR.new ((Only.refl (fun _ => False) w).alloc (.cells x.cells.toArray 178))).cells
 rw [hfull] at c2
 have hr := hR.lt r (.inl rfl)
 obtain ⟨W0, hW0⟩ : ∃ W0, W0 = w.alloc (.cells x.cells.toArray 178) := ⟨_, rfl⟩
 have ho : Only (fun _ => False) w W0 := by rw [hW0]; exact (Only.refl _ w).alloc _
 have hW : w.alloc (.cells #[.int .i64 x.t, .int .i64 x.n, .int .i64 x.r] 178) = W0 := hW0.symm
 rw [<- hW0] at c2 c3
 have ho' := zh ho
 unfold Jb.val
 clear h1 h2 h3 hR c0 c1 f0 f1 f2 f3 hW0 ho
 go_enter Tryz.func254, Tryz.ntmps254
 go_wp2
 go_quiet (fail)
 go_wp2
 go_ret
 exact ⟨rfl, ho'.out.drewN _⟩
theorem zEE {w : World} {r g room first n k : Nat} {q : List Jb} {L : List Jb} (x : Jb) (hn : n = L.length) (hk : k = q.length) (hlt : k < n)
  (hr : w.heap[r]? = some (.cells #[.slice (some ⟨g, 0, none⟩) n n, .int .i64 first, .int .i64 k, .int .i64 room] 244 (0, 0))) (hgr : g ≠ r) (hg : w.heap[g]? = some (.cells (jB L).toArray 178 (0, 0))) (h3 : Laid L first room q) :
  RingAt ((w.setCells g ((first + k) % n * 3) x.cells).setCell ⟨r, 2, none⟩ (.int .i64 ((k : Int) + 1))) r (some g) room (q ++ [x]) := by
 subst hn
 subst hk
 have hj : (first + q.length) % L.length < L.length := Nat.mod_lt _ (by omega)
 have h1 : (w.setCells g ((first + q.length) % L.length * 3) x.cells).heap[r]? = _ := (zA3 x.cells _ w).heap hr (fun e => hgr e.symm)
 have h2 := heap_setCell_same _ r 2 _ 244 (.int .i64 ((q.length : Int) + 1)) h1
 have hg2 := zA2 x.cells ((first + q.length) % L.length * 3) w _ hg
 rw [<- zEH _ _ _ hj] at hg2
 refine ⟨first, L.set ((first + q.length) % L.length) x, ?_, (fun h => by cases h), ?_, ?_⟩
 ·rw [h2]
  simp [sv]
 ·rintro g' hg'
  cases hg'
  refine ⟨hgr, ?_, by simp; omega⟩
  rw [Below.heap_setCell _ _ _ _ (by exact hgr), hg2]
 ·have hf : first < L.length := by
   rcases h3.place with h | ⟨rfl, _⟩
   ·exact h
   ·simp at hlt
  refine ⟨by simp; omega, by simpa using h3.fits, h3.most, .inl (by simpa using hf), fun i hi => ?_⟩
  simp only [List.length_set]
  rw [List.getElem?_set]
  by_cases hiq : i = q.length
  ·subst hiq
   rw [if_pos rfl, if_pos (Nat.mod_lt _ (by omega))]
   simp
  ·have hi' : i < q.length := by simp at hi; omega
   rw [if_neg ?_, h3.at_ i hi', List.getElem?_append_left hi']
   intro he
   have e1 : (first + q.length) % L.length = if first + q.length < L.length then first + q.length else first + q.length - L.length := by
    split
    ·rw [Nat.mod_eq_of_lt (by omega)]
    ·rw [Nat.mod_eq_sub_mod (by omega), Nat.mod_eq_of_lt (by omega)]
   have e2 : (first + i) % L.length = if first + i < L.length then first + i else first + i - L.length := by
    split
    ·rw [Nat.mod_eq_of_lt (by omega)]
    ·rw [Nat.mod_eq_sub_mod (by omega), Nat.mod_eq_of_lt (by omega)]
   rw [e1, e2] at he
   split at he <;> split at he <;> omega
theorem zEI {w : World} {g : Nat} {L : List Jb} (hg : w.heap[g]? = some (.cells (jB L).toArray 178 (0, 0))) {j : Nat} (hj : j < L.length) :
  ∃ y : Jb, w.cell? ⟨g, j * 3, none⟩ = some (.int .i64 y.t) /\ w.cell? ⟨g, j * 3 + 1, none⟩ = some (.int .i64 y.n) /\ w.cell? ⟨g, j * 3 + 2, none⟩ = some (.int .i64 y.r) /\ w.frozen? ⟨g, j * 3, none⟩ = false /\ w.frozen? ⟨g, j * 3 + 1, none⟩ = false /\ w.frozen? ⟨g, j * 3 + 2, none⟩ = false := by
 have hx := List.getElem?_eq_getElem hj
 have hc := fun i (hi : i < 3) u (hu : (L[j]).cells[i]? = some u) => zAA hg ((zBN L j _ hx i hi).trans hu)
 exact ⟨L[j], hc 0 (by decide) _ rfl, hc 1 (by decide) _ rfl, hc 2 (by decide) _ rfl, zAC hg _, zAC hg _, zAC hg _⟩
set_option maxHeartbeats 800000 in
theorem zFU {w : World} {r g room n : Nat} {q : List Jb} (hR : RingAt w r (some g) room q) (hc : w.cell? ⟨r, 0, none⟩ = some (.slice (some ⟨g, 0, none⟩) n n)) (hlt : q.length < n) (x : Jb) :
  Calls Tryz.prog 254 #[.pointer (some ⟨r, 0, none⟩), x.val] w (PutEnd w r (some g) room q x) := by
 obtain ⟨W0, hW0⟩ : ∃ W0, W0 = w.alloc (.cells x.cells.toArray 178) := ⟨_, rfl⟩
 have hW : w.alloc (.cells #[.int .i64 x.t, .int .i64 x.n, .int .i64 x.r] 178) = W0 := hW0.symm
 have ho : Only (fun _ => False) w W0 := by rw [hW0]; exact (Only.refl _ w).alloc _
 have wJ : W0.heap[w.heap.size]? = some (.cells x.cells.toArray 178 (0, 0)) := by rw [hW0]; exact zAB _ _ rfl
 obtain ⟨B, hB⟩ : ∃ B, B = w.heap.size := ⟨_, rfl⟩
 rw [<- hB] at wJ
 have b0 := zAA wJ (i := 0) rfl
 have b1 := zAA wJ (i := 1) rfl
 have b2 := zAA wJ (i := 2) rfl
 have hBr : B ≠ r := by have := hR.lt r (.inl rfl); omega
 have hBg : B ≠ g := by have := hR.lt g (.inr rfl); omega
 obtain ⟨first, L, hr, h1, h2, h3⟩ := hR.new ho
 have hc := ho.cell hc id
 obtain ⟨hgr, hg, kV⟩ := h2 g rfl
 have hm := h3.most
 have vL := h3.fits
 have hn : n = L.length := by
  have e : W0.cell? ⟨r, 0, none⟩ = some (sv (some g) L.length) := by simp [World.cell?, hr]
  rw [hc] at e
  simpa [sv] using e
 obtain ⟨k, hk⟩ : ∃ k, k = q.length := ⟨_, rfl⟩
 simp only [sv] at hr
 rw [<- hn, <- hk] at hr
 rw [<- hk] at hlt
 rw [<- hn] at vL
 have hf : first < n := by
  rcases h3.place with h | ⟨rfl, _⟩
  ·rw [hn]; exact h
  ·simp at kV
 have c1 : W0.cell? ⟨r, 1, none⟩ = some (.int .i64 first) := by simp [World.cell?, hr]
 have c2 : W0.cell? ⟨r, 2, none⟩ = some (.int .i64 k) := by simp [World.cell?, hr]
 have c3 : W0.cell? ⟨r, 3, none⟩ = some (.int .i64 room) := by simp [World.cell?, hr]
 have f2 : W0.frozen? ⟨r, 2, none⟩ = false := by simp [World.frozen?, hr]
 have hj : (first + k) % n < n := Nat.mod_lt _ (by omega)
 obtain ⟨j, hj'⟩ : ∃ j, j = (first + k) % n := ⟨_, rfl⟩
 obtain ⟨y, u0, u1, u2, g0, g1, g2⟩ := zEI hg (j := j) (by omega)
 have kN : ∀ W : World, W.heap = W0.heap -> Calls Tryz.prog 295 #[.pointer (some ⟨r, 0, none⟩), .int .i64 k] W fun e w' => e = .returned (.int .i64 (j : Int)) /\ ∃ m, w' = W.drewN m := by
  intro W hW
  rw [hj']
  exact zBZ ((cell_of_heap hW _).trans hc) ((cell_of_heap hW _).trans c1) (by omega) (by omega) hf (by omega)
 rw [<- hj'] at hj
 have hjn : (j : Int) < (n : Int) := by omega
 have hkr : ¬ (room : Int) <= (k : Int) := by omega
 have hkn : ((k : Int) == (n : Int)) = false := by simp; omega
 have hwr : IntKind.i64.wrap ((k : Int) + 1) = (k : Int) + 1 := IntWalk.i64_in _ (by omega)
 have hend := zEE x hn hk hlt (w := W0) hr hgr hg h3
 rw [<- hj'] at hend
 have kO := zh hend
 have kH := zh kN
 have hrg : ¬ r = g := fun e => hgr e.symm
 have hn' := zh hn
 have hk' := zh hk
 have jB0 := zh hj'
 have ho' := zh ho
 have hB' := zh hB
 have hrl : r < W0.heap.size := zAG hr
 have hgl : g < W0.heap.size := zAG hg
 have hbl : B < W0.heap.size := zAG wJ
 clear hr h1 h2 h3 hg hend kN hn hk hj' ho wJ hW0 hB hR
 unfold Jb.val
 go_enter Tryz.func254, Tryz.ntmps254
 go_wp2
 rw [<- hB'.out]
 go_quiet (fail)
 go_wp2
 go_quiet (fail)
 go_wp2
 refine zAD 12 (by kernel_rfl) (by kernel_rfl) ?_
 simp only [List.take_succ_cons, List.take_zero, List.drop_succ_cons, List.drop_zero]
 repeat (go_big_quiet_step ((go_at_call 295; exact zAL (kH.out _ rfl))))
 refine wpQuiet_nil ?_
 rintro _ ⟨nq3, rfl⟩
 go_wp2
 go_ret
 refine ⟨rfl, some g, kO.out, .inl rfl, ?_⟩
 exact (((((ho'.out.mono (T := fp r (some g)) (fun _ _ h => h.elim)).drewN _).setCell (p := ⟨g, j * 3, none⟩) (fun _ => .inr rfl) _).setCell (p := ⟨g, j * 3 + 1, none⟩) (fun _ => .inr rfl) _).setCell (p := ⟨g, j * 3 + 2, none⟩) (fun _ => .inr rfl) _).setCell (p := ⟨r, 2, none⟩) (fun _ => .inl rfl) _
theorem RingAt.same {w w' : World} {r : Nat} {o : Option Nat} {room : Nat} {q : List Jb} (h : RingAt w r o room q) (e : w'.heap = w.heap) : RingAt w' r o room q := by
 unfold RingAt at *
 rw [e]
 exact h
theorem zH6 {w : World} {r : Nat} {o : Option Nat} {room : Nat} {q : List Jb} (h : RingAt w r o room q) : ∃ n, w.cell? ⟨r, 0, none⟩ = some (sv o n) /\ q.length <= n /\ n <= room := by
 obtain ⟨first, L, hr, h1, h2, h3⟩ := h
 exact ⟨L.length, by simp [World.cell?, hr], h3.le, h3.fits⟩
theorem zFV {w : World} {r room : Nat} {o : Option Nat} {q : List Jb} (hR : RingAt w r o room q) (hc : w.cell? ⟨r, 0, none⟩ = some (sv o q.length)) (hlt : q.length < room) :
  Calls Tryz.prog 294 #[.pointer (some ⟨r, 0, none⟩)] w (Grown w r room q) := by
 cases o with
 | none => exact zED hR hlt
 | some g => exact zEC hR hc hlt
set_option maxHeartbeats 800000 in
theorem zC9 {w : World} {r room : Nat} {o : Option Nat} {q : List Jb} (hR : RingAt w r o room q) (hc : w.cell? ⟨r, 0, none⟩ = some (sv o q.length)) (hlt : q.length < room) (x : Jb) :
  Calls Tryz.prog 254 #[.pointer (some ⟨r, 0, none⟩), x.val] w (PutEnd w r o room q x) := by
 obtain ⟨W0, hW0⟩ : ∃ W0, W0 = w.alloc (.cells x.cells.toArray 178) := ⟨_, rfl⟩
 have hW : w.alloc (.cells #[.int .i64 x.t, .int .i64 x.n, .int .i64 x.r] 178) = W0 := hW0.symm
 have ho : Only (fun _ => False) w W0 := by rw [hW0]; exact (Only.refl _ w).alloc _
 have wJ : W0.heap[w.heap.size]? = some (.cells x.cells.toArray 178 (0, 0)) := by rw [hW0]; exact zAB _ _ rfl
 obtain ⟨B, hB⟩ : ∃ B, B = w.heap.size := ⟨_, rfl⟩
 rw [<- hB] at wJ
 have hBr : B ≠ r := by have := hR.lt r (.inl rfl); omega
 have jDi : W0.heap.size = B + 1 := by rw [hW0, hB]; simp
 have hR0 := hR.new ho
 have hc := ho.cell hc id
 obtain ⟨first, L, hr, h1, h2, h3⟩ := id hR0
 have hm := h3.most
 obtain ⟨k, hk⟩ : ∃ k, k = q.length := ⟨_, rfl⟩
 rw [<- hk] at hr hlt hc
 have c2 : W0.cell? ⟨r, 2, none⟩ = some (.int .i64 k) := by simp [World.cell?, hr]
 have c3 : W0.cell? ⟨r, 3, none⟩ = some (.int .i64 room) := by simp [World.cell?, hr]
 have hlen : ∃ a, sv o k = .slice a k k := by
  cases o with
  | none =>
   have : k = 0 := by have := h3.le; rw [h1 rfl] at this; have e : ([] : List Jb).length = 0 := rfl; omega
   subst this
   exact ⟨none, rfl⟩
  | some g => exact ⟨some ⟨g, 0, none⟩, rfl⟩
 obtain ⟨a, ha⟩ := hlen
 rw [ha] at hc
 have hkr : ¬ (room : Int) <= (k : Int) := by omega
 have hkk : ((k : Int) == (k : Int)) = true := by simp
 have hwr : IntKind.i64.wrap ((k : Int) + 1) = (k : Int) + 1 := IntWalk.i64_in _ (by omega)
 have hgrow : ∀ W : World, W.heap = W0.heap -> Calls Tryz.prog 294 #[.pointer (some ⟨r, 0, none⟩)] W (Grown W r room q) := fun W hW =>
  zFV (hR0.same hW) ((cell_of_heap hW _).trans (by rw [hc, <- ha, hk])) (by omega)
 have hgrow' := zh hgrow
 have hk' := zh hk
 have xP := zh wJ
 have ho' := zh ho
 have hB' := zh hB
 have hsz' := zh jDi
 have jB4 := zh (zAG hr)
 clear hr h1 h2 h3 hk hR hR0 ha hgrow wJ ho hW0 hB jDi
 unfold Jb.val
 go_enter Tryz.func254, Tryz.ntmps254
 go_wp2
 rw [<- hB'.out]
 go_quiet (fail)
 go_wp2
 go_quiet (fail)
 go_wp2_with fail
 refine (hgrow'.out (W0.drewN _) rfl).mono ?_
 rintro e W ⟨rfl, ⟨first, L, hr, h1, h2, h3⟩, ⟨n, jAe, hc0⟩, hoW⟩
 obtain ⟨g, hg0⟩ : ∃ g, g = W0.heap.size := ⟨_, rfl⟩
 change W.heap[r]? = some (.cells #[sv (some W0.heap.size) L.length, _, _, _] 244 (0, 0)) at hr
 change W.cell? _ = some (.slice (some ⟨W0.heap.size, 0, none⟩) n n) at hc0
 obtain ⟨hgr, hg, kV⟩ := h2 _ rfl
 change W0.heap.size ≠ r at hgr
 change W.heap[W0.heap.size]? = _ at hg
 rw [<- hg0] at hr hc0 hgr hg
 have vL := h3.fits
 have hn : n = L.length := by
  have e : W.cell? ⟨r, 0, none⟩ = some (sv (some g) L.length) := by simp [World.cell?, hr]
  rw [hc0] at e
  simpa [sv] using e
 simp only [sv] at hr
 rw [<- hn, <- hk'.out] at hr
 rw [<- hk'.out] at jAe
 rw [<- hn] at vL
 have hf : first < n := by
  rcases h3.place with h | ⟨rfl, _⟩
  ·rw [hn]; exact h
  ·simp at kV
 have wV : W.heap[B]? = some (.cells x.cells.toArray 178 (0, 0)) := hoW.heap (a := W0.drewN _) xP.out hBr
 have b0 := zAA wV (i := 0) rfl
 have b1 := zAA wV (i := 1) rfl
 have b2 := zAA wV (i := 2) rfl
 have hBg : B ≠ g := by have := hsz'.out; omega
 have c1 : W.cell? ⟨r, 1, none⟩ = some (.int .i64 first) := by simp [World.cell?, hr]
 have c2' : W.cell? ⟨r, 2, none⟩ = some (.int .i64 k) := by simp [World.cell?, hr]
 have f2 : W.frozen? ⟨r, 2, none⟩ = false := by simp [World.frozen?, hr]
 have hj : (first + k) % n < n := Nat.mod_lt _ (by omega)
 obtain ⟨j, hj'⟩ : ∃ j, j = (first + k) % n := ⟨_, rfl⟩
 obtain ⟨y, u0, u1, u2, g0, g1, g2⟩ := zEI hg (j := j) (by omega)
 have kN : ∀ W' : World, W'.heap = W.heap -> Calls Tryz.prog 295 #[.pointer (some ⟨r, 0, none⟩), .int .i64 k] W' fun e w' => e = .returned (.int .i64 (j : Int)) /\ ∃ m, w' = W'.drewN m := by
  intro W' hW
  rw [hj']
  exact zBZ ((cell_of_heap hW _).trans hc0) ((cell_of_heap hW _).trans c1) (by omega) (by omega) hf (by omega)
 rw [<- hj'] at hj
 have hjn : (j : Int) < (n : Int) := by omega
 have hend := zEE x hn hk'.out jAe (w := W) hr hgr hg h3
 rw [<- hj'] at hend
 have kO := zh hend
 have kH := zh kN
 have hrg : ¬ r = g := fun e => hgr e.symm
 have hn' := zh hn
 have jB0 := zh hj'
 have zC := zh hoW
 have jBg := zh hg0
 have hrl : r < W.heap.size := zAG hr
 have hgl : g < W.heap.size := zAG hg
 have hbl : B < W.heap.size := zAG wV
 clear hr h1 h2 h3 hg hend kN hn hj' hoW hg0 c2 c3 hc wV
 go_wp2
 refine zAD 12 (by kernel_rfl) (by kernel_rfl) ?_
 simp only [List.take_succ_cons, List.take_zero, List.drop_succ_cons, List.drop_zero]
 repeat (go_big_quiet_step ((go_at_call 295; exact Calls.quiet_of (kH.out _ rfl))))
 refine wpQuiet_nil ?_
 rintro _ ⟨nq3, rfl⟩
 go_wp2
 go_ret
 have hs := hsz'.out
 have hb := hB'.out
 have hg2 := jBg.out
 refine ⟨rfl, some g, kO.out, .inr ⟨g, rfl, by omega⟩, ?_⟩
 have jB1 : Only (fp r o) w W := ((ho'.out.mono (T := fp r o) (fun _ _ h => h.elim)).drewN _).trans zC.out (fun x hx e => .inl e)
 exact ((((jB1.drewN _).setCell (p := ⟨g, j * 3, none⟩) (fun h => absurd h (by show ¬ g < _; omega)) _).setCell (p := ⟨g, j * 3 + 1, none⟩) (fun h => absurd h (by show ¬ g < _; omega)) _).setCell (p := ⟨g, j * 3 + 2, none⟩) (fun h => absurd h (by show ¬ g < _; omega)) _).setCell (p := ⟨r, 2, none⟩) (fun _ => .inl rfl) _
theorem put_any {w : World} {r room : Nat} {o : Option Nat} {q : List Jb} (hR : RingAt w r o room q) (hlt : q.length < room) (x : Jb) :
  Calls Tryz.prog 254 #[.pointer (some ⟨r, 0, none⟩), x.val] w (PutEnd w r o room q x) := by
 obtain ⟨n, hc, hle, hroom⟩ := zH6 hR
 by_cases h : q.length = n
 ·rw [<- h] at hc
  exact zC9 hR hc hlt x
 ·cases o with
  | none =>
   obtain ⟨first, L, hr, h1, h2, h3⟩ := hR
   have : q.length = 0 := by have := h3.le; rw [h1 rfl] at this; simpa using this
   exact zC9 ⟨first, L, hr, h1, h2, h3⟩ (by rw [this]; simp [World.cell?, hr, sv]) hlt x
  | some g => exact zFU hR hc (by omega) x
def TakeEnd (w : World) (r : Nat) (o : Option Nat) (room : Nat) (q : List Jb) (x : Jb) (e : Ending) (w' : World) : Prop :=
 e = .returned (.tuple #[x.val, .int .i64 0]) /\ RingAt w' r o room q /\ Only (fp r o) w w'
set_option maxHeartbeats 1600000 in
theorem zFW {w : World} {r g room first n k j : Nat} {x : Jb} {q : List Jb} {L : List Jb} (z : Jb) (hn : n = L.length) (hk : k = (x :: q).length) (hj : j = (first + 1) % n)
  (hr : w.heap[r]? = some (.cells #[.slice (some ⟨g, 0, none⟩) n n, .int .i64 first, .int .i64 k, .int .i64 room] 244 (0, 0))) (hgr : g ≠ r) (hg : w.heap[g]? = some (.cells (jB L).toArray 178 (0, 0))) (h3 : Laid L first room (x :: q)) :
  RingAt (((w.setCells g (first * 3) z.cells).setCell ⟨r, 1, none⟩ (.int .i64 j)).setCell ⟨r, 2, none⟩ (.int .i64 ((k : Int) - 1))) r (some g) room q := by
 subst hn
 subst hk
 have hle := h3.le
 have kV : 0 < L.length := Nat.lt_of_lt_of_le (by simp) hle
 have hf : first < L.length := by
  rcases h3.place with h | ⟨rfl, _⟩
  ·exact h
  ·simp at kV
 have h1 : (w.setCells g (first * 3) z.cells).heap[r]? = _ := (zA3 z.cells _ w).heap hr (fun e => hgr e.symm)
 have h2 := heap_setCell_same _ r 1 _ 244 (.int .i64 j) h1
 have h3' := heap_setCell_same _ r 2 _ 244 (.int .i64 (((x :: q).length : Int) - 1)) h2
 have hg2 := zA2 z.cells (first * 3) w _ hg
 rw [<- zEH _ _ _ hf] at hg2
 refine ⟨j, L.set first z, ?_, (fun h => by cases h), ?_, ?_⟩
 ·rw [h3']
  simp [sv]
 ·rintro g' hg'
  cases hg'
  refine ⟨hgr, ?_, by simp; omega⟩
  rw [Below.heap_setCell _ _ _ _ (by exact hgr), Below.heap_setCell _ _ _ _ (by exact hgr), hg2]
 ·subst hj
  have hlq : q.length + 1 <= L.length := hle
  refine ⟨by rw [List.length_set]; omega, by rw [List.length_set]; exact h3.fits, h3.most, .inl (by rw [List.length_set]; exact Nat.mod_lt _ kV), fun i hi => ?_⟩
  simp only [List.length_set]
  rw [List.getElem?_set]
  have hi' : i + 1 < L.length := by omega
  have e : ((first + 1) % L.length + i) % L.length = (first + (i + 1)) % L.length := by rw [Nat.mod_add_mod]; congr 1; omega
  rw [e, if_neg ?_, h3.at_ (i + 1) (by rw [List.length_cons]; omega)]
  ·rw [List.getElem?_cons_succ]
  ·have e2 : (first + (i + 1)) % L.length = if first + (i + 1) < L.length then first + (i + 1) else first + (i + 1) - L.length := by
    split
    ·rw [Nat.mod_eq_of_lt (by omega)]
    ·rw [Nat.mod_eq_sub_mod (by omega), Nat.mod_eq_of_lt (by omega)]
   rw [e2]
   split <;> omega
set_option maxHeartbeats 1600000 in
theorem take_some {w : World} {r room : Nat} {o : Option Nat} {x : Jb} {q : List Jb} (hR : RingAt w r o room (x :: q)) :
  Calls Tryz.prog 258 #[.pointer (some ⟨r, 0, none⟩)] w (TakeEnd w r o room q x) := by
 obtain ⟨g, rfl⟩ : ∃ g, o = some g := by
  obtain ⟨g, _, _, h, _⟩ := hR.slot
  exact ⟨g, h⟩
 have hrl := hR.lt r (.inl rfl)
 have hgl := hR.lt g (.inr rfl)
 obtain ⟨B, hB⟩ : ∃ B, B = w.heap.size := ⟨_, rfl⟩
 have hB' := zh hB
 have hR' := zh hR
 have jW := zh (fun W (hW : Only (fun _ => False) w W) => first_some (hR.new hW))
 have hne := zh (show (B ≠ r /\ B ≠ g /\ B + 1 ≠ r /\ B + 1 ≠ g) /\ ∀ k, fp r (some g) k -> k < B from ⟨by omega, fun k hk => by have := hR.lt k hk; omega⟩)
 clear hR hB hrl hgl
 unfold TakeEnd
 go_enter Tryz.func258, Tryz.ntmps258
 go_wp2_with fail
 refine (jW.out _ (((Only.refl _ w).alloc _).alloc _)).mono ?_
 rintro e W2 ⟨rfl, ho2⟩
 have jDj : Only (fun _ => False) w W2 := (((Only.refl (fun _ => False) w).alloc _).alloc _).trans' ho2
 have hb0 : W2.heap[B]? = some (.cells zjb.cells.toArray 178 (0, 0)) := ho2.heap (zAF (zAB w (.cells zjb.cells.toArray 178) hB'.out.symm) _) id
 have hb1 : W2.heap[B + 1]? = some (.cells zjb.cells.toArray 178 (0, 0)) := ho2.heap (zAB _ (.cells zjb.cells.toArray 178) (by rw [hB'.out]; simp)) id
 have jDk : B + 2 <= W2.heap.size := by
  have := ho2.size
  have e := hB'.out
  simp at this
  omega
 obtain ⟨W3, hW3⟩ : ∃ W3, W3 = W2.alloc (.cells x.cells.toArray 178) := ⟨_, rfl⟩
 have hW : W2.alloc (.cells #[.int .i64 x.t, .int .i64 x.n, .int .i64 x.r] 178) = W3 := hW3.symm
 have ho3 : Only (fun _ => False) W2 W3 := by rw [hW3]; exact (Only.refl _ _).alloc _
 obtain ⟨B2, hB2⟩ : ∃ B2, B2 = W2.heap.size := ⟨_, rfl⟩
 have hb2 : W3.heap[B2]? = some (.cells x.cells.toArray 178 (0, 0)) := by rw [hW3]; exact zAB _ _ hB2.symm
 have jB5 := ho3.heap hb0 id
 have zG := ho3.heap hb1 id
 have jB6 := jDj.trans' ho3
 obtain ⟨first, L, hr, h1, h2, h3⟩ := hR'.out.new jB6
 obtain ⟨hgr, hg, kV⟩ := h2 g rfl
 have hm := h3.most
 have vL := h3.fits
 obtain ⟨n, hn⟩ : ∃ n, n = L.length := ⟨_, rfl⟩
 obtain ⟨k, hk⟩ : ∃ k, k = (x :: q).length := ⟨_, rfl⟩
 simp only [sv] at hr
 rw [<- hn, <- hk] at hr
 rw [<- hn] at vL kV
 have hk0 : 0 < k := by rw [hk]; simp
 have hkn : k <= n := by rw [hk, hn]; exact h3.le
 have hf : first < n := by
  rcases h3.place with h | ⟨rfl, _⟩
  ·rw [hn]; exact h
  ·simp at hn; omega
 have c0 : W3.cell? ⟨r, 0, none⟩ = some (.slice (some ⟨g, 0, none⟩) n n) := by simp [World.cell?, hr]
 have c1 : W3.cell? ⟨r, 1, none⟩ = some (.int .i64 first) := by simp [World.cell?, hr]
 have c2 : W3.cell? ⟨r, 2, none⟩ = some (.int .i64 k) := by simp [World.cell?, hr]
 have f1 : W3.frozen? ⟨r, 1, none⟩ = false := by simp [World.frozen?, hr]
 have f2 : W3.frozen? ⟨r, 2, none⟩ = false := by simp [World.frozen?, hr]
 obtain ⟨y, u0, u1, u2, g0, g1, g2⟩ := zEI hg (j := first) (by omega)
 have a0 := zAA zG (i := 0) rfl
 have a1 := zAA zG (i := 1) rfl
 have a2 := zAA zG (i := 2) rfl
 simp only [zjb] at a0 a1 a2
 have hrg : ¬ r = g := fun e => hgr e.symm
 have hfn : (first : Int) < (n : Int) := by omega
 have hwr : IntKind.i64.wrap ((k : Int) - 1) = (k : Int) - 1 := IntWalk.i64_in _ (by omega)
 obtain ⟨j, hj⟩ : ∃ j, j = (first + 1) % n := ⟨_, rfl⟩
 have kN : ∀ W : World, W.cell? ⟨r, 0, none⟩ = some (.slice (some ⟨g, 0, none⟩) n n) -> W.cell? ⟨r, 1, none⟩ = some (.int .i64 first) -> Calls Tryz.prog 295 #[.pointer (some ⟨r, 0, none⟩), .int .i64 1] W fun e w' => e = .returned (.int .i64 (j : Int)) /\ ∃ m, w' = W.drewN m := by
  intro W h0 h1
  rw [hj]
  exact zBZ h0 h1 (i := 1) (by omega) (by omega) hf (by omega)
 have hend := zFW zjb hn hk hj (w := W3) hr hgr hg h3
 have kO := zh hend
 have kH := zh kN
 have hE := zh (And.intro jB5 (And.intro hb2 (And.intro jB6 (And.intro jDk hB2))))
 have hn' := zh hn
 have hk' := zh hk
 have hj' := zh hj
 have hrl : r < W3.heap.size := zAG hr
 have hgl : g < W3.heap.size := zAG hg
 have hbl : B < W3.heap.size := zAG jB5
 have jB7 : B + 1 < W3.heap.size := zAG zG
 have jDl : B2 < W3.heap.size := zAG hb2
 clear hr h1 h2 h3 hg hend kN hn hk hj hb0 hb1 jB5 zG hb2 ho2 jDj ho3 jB6 jDk hW3
 rw [<- hB'.out]
 unfold Jb.val
 go_wp2
 rw [<- hB2]
 clear hB2
 have hcl := zh hW
 clear hW
 refine zAD 10 (by kernel_rfl) (by kernel_rfl) ?_
 simp only [List.take_succ_cons, List.take_zero, List.drop_succ_cons, List.drop_zero]
 repeat (go_big_quiet_step (fail))
 refine wpQuiet_nil ?_
 rintro _ ⟨nq3, rfl⟩
 go_upto_region 8 with (go_at_call 295; refine (kH.out _ (by simp [*, go_sem]) (by simp [*, go_sem])).mono ?_; rintro e _ ⟨rfl, m2, rfl⟩)
 have hR5 := kO.out
 have ho5 : Only (fp r (some g)) W3 _ := (((((((Only.refl (fp r (some g)) W3).drewN nq3).setCell (p := ⟨g, first * 3, none⟩) (fun _ => .inr rfl) (.int .i64 0)).setCell (p := ⟨g, first * 3 + 1, none⟩) (fun _ => .inr rfl) (.int .i64 0)).setCell (p := ⟨g, first * 3 + 2, none⟩) (fun _ => .inr rfl) (.int .i64 0)).drewN m2).setCell (p := ⟨r, 1, none⟩) (fun _ => .inl rfl) (.int .i64 j)).setCell (p := ⟨r, 2, none⟩) (fun _ => .inl rfl) (.int .i64 ((k : Int) - 1))
 generalize hW5 : World.setCell _ _ _ = W5 at ho5 ⊢
 have hR5 : RingAt W5 r (some g) room q := by rw [<- hW5]; exact kO.out
 obtain ⟨e0, e2, e30, esz, eB2⟩ := hE.out
 obtain ⟨⟨n1, n2, n3, n4⟩, n5⟩ := hne.out
 have e0' := ho5.heap e0 (fun hf => by rcases hf with rfl | hf; exact n1 rfl; exact n2 (Option.some.inj hf))
 have e2' := ho5.heap e2 (fun hf => by have := n5 B2 hf; omega)
 have d0 := zAA e0' (i := 0) rfl
 have d1 := zAA e0' (i := 1) rfl
 have d2 := zAA e0' (i := 2) rfl
 have p0 := zAA e2' (i := 0) rfl
 have p1 := zAA e2' (i := 1) rfl
 have p2 := zAA e2' (i := 2) rfl
 have q0 := zAC e0' 0
 have q1 := zAC e0' 1
 have q2 := zAC e0' 2
 have l0 := zAG e0'
 have l2 := zAG e2'
 have jE := zh (show RingAt (((W5.setCell ⟨B, 0, none⟩ (.int .i64 x.t)).setCell ⟨B, 1, none⟩ (.int .i64 x.n)).setCell ⟨B, 2, none⟩ (.int .i64 x.r)) r (some g) room q /\ Only (fp r (some g)) w (((W5.setCell ⟨B, 0, none⟩ (.int .i64 x.t)).setCell ⟨B, 1, none⟩ (.int .i64 x.n)).setCell ⟨B, 2, none⟩ (.int .i64 x.r)) from by
  have hO : Only (fun y => y = B) W5 (((W5.setCell ⟨B, 0, none⟩ (.int .i64 x.t)).setCell ⟨B, 1, none⟩ (.int .i64 x.n)).setCell ⟨B, 2, none⟩ (.int .i64 x.r)) := (((Only.refl (fun y => y = B) W5).setCell (p := ⟨B, 0, none⟩) (fun _ => rfl) _).setCell (p := ⟨B, 1, none⟩) (fun _ => rfl) _).setCell (p := ⟨B, 2, none⟩) (fun _ => rfl) _
  refine ⟨hR5.kept hO (fun k hk e => by have := n5 k hk; omega), ((e30.mono (T := fp r (some g)) (fun _ _ h => h.elim)).trans' ho5).trans hO (fun y hy e => ?_)⟩
  have := hB'.out
  omega)
 clear hW5 hR5 ho5 e0 e2 e0' e2' e30 esz eB2 kO kH hE hcl n5 c0 c1 c2 f1 f2 a0 a1 a2 u0 u1 u2 g0 g1 g2
 go_wp2
 exact bodyPost_ret (v := .tuple #[.agg #[.int .i64 x.t, .int .i64 x.n, .int .i64 x.r], .int .i64 0]) (by simp [results, Tryz.results258, go_sem, d0, d1, d2]) rfl ⟨rfl, jE.out⟩
