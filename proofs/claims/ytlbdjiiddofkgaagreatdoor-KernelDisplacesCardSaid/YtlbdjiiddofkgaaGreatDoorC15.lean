import Derived.Test.YtlbdjiiddofkgaaGreatDoorC14
set_option maxRecDepth 100000
namespace Go.Proofs.YtlbdjiiddofkgaaGreatDoor
open Go Go.RowKit
structure TaskCells (w : World) (b off : Nat) (t : jA) : Prop where
 c0 : w.cell? ⟨b, off, none⟩ = some (.int .i64 t.p)
 c1 : w.cell? ⟨b, off + 1, none⟩ = some (.int .i64 t.th)
 c2 : w.cell? ⟨b, off + 2, none⟩ = some (.int .i64 t.pe)
 c3 : w.cell? ⟨b, off + 3, none⟩ = some (.int .i64 t.de)
 c4 : w.cell? ⟨b, off + 4, none⟩ = some (.int .i64 t.fr)
 c5 : w.cell? ⟨b, off + 5, none⟩ = some (.int .i64 t.fl)
 c6 : w.cell? ⟨b, off + 6, none⟩ = some (.slice t.o.A t.o.n t.o.cap)
theorem TaskCells.new {w w' : World} {b off : Nat} {t : jA} (h : TaskCells w b off t) (ho : Only (fun _ => False) w w') : TaskCells w' b off t :=
 ⟨ho.cell h.c0 id, ho.cell h.c1 id, ho.cell h.c2 id, ho.cell h.c3 id, ho.cell h.c4 id, ho.cell h.c5 id, ho.cell h.c6 id⟩
structure TasksAt (w : World) (x : Sl) (l : List jA) : Prop where
 len : l.length = x.n
 cap : x.n <= x.cap
 at_ : ∀ (k : Nat) t, l[k]? = some t -> ∃ b off, x.A = some ⟨b, off, none⟩ /\ b < w.heap.size /\ TaskCells w b (off + k * 7) t
theorem TasksAt.new {w w' : World} {x : Sl} {l : List jA} (h : TasksAt w x l) (ho : Only (fun _ => False) w w') : TasksAt w' x l :=
 ⟨h.len, h.cap, fun k t ht => by
  obtain ⟨b, off, hA, hb, hc⟩ := h.at_ k t ht
  exact ⟨b, off, hA, Nat.lt_of_lt_of_le hb ho.size, hc.new ho⟩⟩
theorem TasksAt.take {w : World} {x : Sl} {l : List jA} (h : TasksAt w x l) {i : Nat} (hi : i <= x.n) : TasksAt w ⟨x.A, i, x.cap⟩ (l.take i) :=
 ⟨by rw [List.length_take, h.len]; exact Nat.min_eq_left hi, Nat.le_trans hi h.cap, fun k t ht => by
  by_cases hk : k < i
  ·rw [List.getElem?_take_of_lt hk] at ht
   exact h.at_ k t ht
  ·rw [List.getElem?_take] at ht
   simp [hk] at ht⟩
def IdxEnd (v : Bool) (w : World) (e : Ending) (w' : World) : Prop :=
 ∃ z : Int, e = .returned (.int .i64 z) /\ (0 <= z ↔ v = true) /\ -1 <= z /\ z <= 1000000 /\ Only (fun _ => False) w w'
theorem zHE {W : World} {p : Nat} {pr : Int} (t : jA) (hc : W.cell? ⟨p, 0, none⟩ = some (.int .i64 pr)) (hp : p < W.heap.size) : Calls Tryz.prog 252 #[t.val, .pointer (some ⟨p, 0, none⟩)] W (GrowB (decide (t.p = pr)) W) := by
 rw [show t.val = .agg #[.int .i64 t.p, .int .i64 t.th, .int .i64 t.pe, .int .i64 t.de, .int .i64 t.fr, .int .i64 t.fl, .slice t.o.A t.o.n t.o.cap] from rfl]
 obtain ⟨v, hv⟩ : ∃ v, v = decide (t.p = pr) := ⟨_, rfl⟩
 rw [<- hv]
 have hv' := zh hv
 clear hv
 obtain ⟨p1, th, pe, de, fr, fl, ⟨oA, on, oc⟩⟩ := t
 simp only at *
 by_cases h : p1 = pr
 ·have hz := zh (show true = v by rw [hv'.out]; simp [h])
  go_enter Tryz.func252, Tryz.ntmps252
  go_wp2
  go_ret
  exact zAO (by first | exact hz.out | (rw [<- hz.out]; first | done | simp [h])) ((Only.refl _ W).alloc _)
 ·have hz := zh (show false = v by rw [hv'.out]; simp [h])
  go_enter Tryz.func252, Tryz.ntmps252
  go_wp2
  go_ret
  exact zAO (by first | exact hz.out | (rw [<- hz.out]; first | done | simp [h])) ((Only.refl _ W).alloc _)
theorem zGC {α : Type} {l : List α} {f : α -> Bool} (h : ∀ (k : Nat) t, l[k]? = some t -> f t = false) : l.any f = false := by
 rw [List.any_eq_false]
 intro t ht
 obtain ⟨k, hk⟩ := List.getElem?_of_mem ht
 simp [h k t hk]
theorem zGD {α : Type} {l : List α} {f : α -> Bool} {k : Nat} {t : α} (hk : l[k]? = some t) (h : f t = true) : l.any f = true :=
 List.any_eq_true.2 ⟨t, List.mem_of_getElem? hk, h⟩
theorem zIL {w : World} {x : Sl} {l : List jA} (hT : TasksAt w x l) (h9 : x.n <= 1000000) {p : Nat} {pr : Int} (hc : w.cell? ⟨p, 0, none⟩ = some (.int .i64 pr)) (hp : p < w.heap.size) :
  Calls Tryz.prog 293 #[.slice x.A x.n x.cap, .func (.func 252) #[] #[.pointer (some ⟨p, 0, none⟩)]] w (IdxEnd (l.any fun t => decide (t.p = pr)) w) := by
 have q := zh (fun (W : World) (hW : Only (fun _ => False) w W) (t : jA) => zHE (pr := pr) t (hW.cell hc id) (Nat.lt_of_lt_of_le hp hW.size))
 obtain ⟨A, n, cap⟩ := x
 have hl' := zh hT
 have hlen := hT.len
 simp only at *
 have hlen' := zh hlen
 clear hT hlen hc hp
 go_enter Tryz.func293, Tryz.ntmps293
 go_wp2
 go_loopw [8] (fun i wr => ∃ k : Nat, k <= n /\ i = .int .i64 k /\ (∀ (j : Nat) t, j < k -> l[j]? = some t -> decide (t.p = pr) = false) /\ Only (fun _ => False) w wr) (fun i _ => n - (intOf i).toNat)
 case atStart => exact ⟨0, Nat.zero_le _, rfl, (fun j z hj => by omega), Only.refl _ w⟩
 case round =>
  obtain ⟨k, hk, rfl, hall, hO⟩ := hrel
  have jT := zh hall
  have hO' := zh hO
  clear hall hO
  by_cases hkn : k < n
  ·have vR : (k : Int) < (n : Int) := by omega
   obtain ⟨t, ht⟩ : ∃ t, l[k]? = some t := ⟨_, List.getElem?_eq_getElem (by have := hlen'.out; omega)⟩
   obtain ⟨b, off, hA, hb, hC⟩ := hl'.out.at_ k t ht
   simp only at hA
   subst hA
   obtain ⟨c0, c1, c2, c3, c4, c5, c6⟩ := hC.new hO'.out
   clear hC
   have ht' := zh ht
   clear ht
   have hq := q.out _ hO'.out t
   rw [show t.val = .agg #[.int .i64 t.p, .int .i64 t.th, .int .i64 t.pe, .int .i64 t.de, .int .i64 t.fr, .int .i64 t.fl, .slice t.o.A t.o.n t.o.cap] from rfl] at hq
   obtain ⟨v, hv⟩ : ∃ v, v = decide (t.p = pr) := ⟨_, rfl⟩
   rw [<- hv] at hq
   have hv' := zh hv
   clear hv
   have hq' := zh hq
   clear hq
   obtain ⟨p1, th, pe, de, fr, fl, ⟨oA, on, oc⟩⟩ := t
   simp only at *
   go_wp2_with fail
   refine (hq'.out).mono ?_
   rintro e w1 ⟨rfl, hO1⟩
   have hO2 := zh (hO'.out.trans' hO1)
   clear hO1
   clear hq'
   cases hvc : v
   rotate_left
   ·rw [hvc] at hv'
    subst hvc
    have hz := zh (zGD (l := l) (f := fun t => decide (t.p = pr)) ht'.out (by simp only; exact hv'.out.symm))
    go_wp2
    go_ret
    exact ⟨_, rfl, by rw [hz.out]; simp, by omega, by omega, hO2.out⟩
   ·rw [hvc] at hv'
    subst hvc
    have hnx := zh (show ∀ (j : Nat) y, j < k + 1 -> l[j]? = some y -> decide (y.p = pr) = false from fun j y hj hy => by
      by_cases hjk : j < k
      ·exact jT.out j y hjk hy
      ·obtain rfl : j = k := by omega
       rw [ht'.out] at hy
       cases hy
       exact hv'.out.symm)
    go_wp2
    go_roundw
    case rel => exact ⟨k + 1, by omega, by go_num, hnx.out, hO2.out⟩
    case measure => simp [intOf]; omega
  ·obtain rfl : k = n := by omega
   have hz := zh (zGC (l := l) (f := fun t => decide (t.p = pr)) (fun j z hz => jT.out j z (by have := (List.getElem?_eq_some_iff.1 hz).1; have := hlen'.out; omega) hz))
   go_wp2
   go_ret
   exact ⟨_, rfl, by rw [hz.out]; simp, by omega, by omega, hO'.out⟩
theorem zFB {w : World} {x : Sl} {l : List jA} (hT : TasksAt w x l) (h9 : x.n <= 1000000) {p : Nat} {pr : Int} (hc : w.cell? ⟨p, 0, none⟩ = some (.int .i64 pr)) (hp : p < w.heap.size) :
  Calls Tryz.prog 251 #[.slice x.A x.n x.cap, .func (.func 252) #[] #[.pointer (some ⟨p, 0, none⟩)]] w (GrowB (l.any fun t => decide (t.p = pr)) w) := by
 have q := zh (zIL hT h9 hc hp)
 obtain ⟨v, hv⟩ : ∃ v, v = (l.any fun t => decide (t.p = pr)) := ⟨_, rfl⟩
 rw [<- hv] at q ⊢
 obtain ⟨A, n, cap⟩ := x
 simp only at *
 clear hT hc hp hv
 go_enter Tryz.func251, Tryz.ntmps251
 go_wp2_with fail
 refine (q.out).mono ?_
 rintro e w1 ⟨z, rfl, hz, h1, h2, hO⟩
 have hz' := zh hz
 have hO' := zh hO
 clear hz hO q
 by_cases h0 : 0 <= z
 ·have hv := zh (hz'.out.1 h0)
  go_wp2
  go_ret
  exact zAO (by first | exact hv.out.symm | (rw [hv.out]; simp [h0])) hO'.out
 ·have hv := zh (show v = false by have := fun h => h0 (hz'.out.2 h); simpa using this)
  go_wp2
  go_ret
  exact zAO (by rw [hv.out]; first | rfl | simp [h0]) hO'.out
theorem zLY {w : World} {x : Sl} {l : List jA} (hT : TasksAt w x l) (h9 : x.n <= 1000000) (pr : Int) :
  Calls Tryz.prog 204 #[.slice x.A x.n x.cap, .int .i64 pr] w (GrowB (l.any fun t => decide (t.p = pr)) w) := by
 have hmf : ∀ (fn : Fn) (first cap : Array Value) (w : World), (Instr.makeFunc fn first cap).run Tryz.prog w = .ok (.func fn first cap) w := fun _ _ _ _ => rfl
 have hO := (Only.refl (fun _ => False) w).alloc (.cells [.int .i64 pr].toArray 3)
 have hB := zAB w (.cells [.int .i64 pr].toArray 3) rfl
 have q := zh (zFB (hT.new hO) h9 (zAA hB (i := 0) rfl) (zAG hB))
 obtain ⟨v, hv⟩ : ∃ v, v = (l.any fun t => decide (t.p = pr)) := ⟨_, rfl⟩
 rw [<- hv] at q ⊢
 obtain ⟨A, n, cap⟩ := x
 simp only at *
 have hO' := zh hO
 clear hT hv hB hO
 go_enter Tryz.func204, Tryz.ntmps204
 go_wp2_with fail
 refine (q.out).mono ?_
 rintro e w1 ⟨rfl, hO1⟩
 have hO2 := zh (hO'.out.trans' hO1)
 clear hO1 q hO'
 go_wp2
 go_ret
 exact zAO rfl hO2.out
