import Derived.Test.YtlbdjiiddofkgaaGreatDoorC13
set_option maxRecDepth 100000
namespace Go.Proofs.YtlbdjiiddofkgaaGreatDoor
open Go Go.RowKit
structure Sl where
 A : Option Addr
 n : Nat
 cap : Nat
def Sl.val (x : Sl) : Value := .slice x.A x.n x.cap
structure jA where
 p : Int
 th : Int
 pe : Int
 de : Int
 fr : Int
 fl : Int
 o : Sl
def jA.cells (t : jA) : List Value := [.int .i64 t.p, .int .i64 t.th, .int .i64 t.pe, .int .i64 t.de, .int .i64 t.fr, .int .i64 t.fl, .slice t.o.A t.o.n t.o.cap]
def jA.val (t : jA) : Value := .agg #[.int .i64 t.p, .int .i64 t.th, .int .i64 t.pe, .int .i64 t.de, .int .i64 t.fr, .int .i64 t.fl, .slice t.o.A t.o.n t.o.cap]
structure jD where
 s : Int
 wy : Int
 h : Int
 mi : Int
 mb : Sl
 g : Int
 cn : Sl
 ce : Sl
 ta : Sl
 li : Sl
def jD.cells (c : jD) : List Value := [.int .i64 c.s, .int .i64 c.wy, .int .i64 c.h, .int .i64 c.mi, .slice c.mb.A c.mb.n c.mb.cap, .int .i64 c.g, .slice c.cn.A c.cn.n c.cn.cap, .slice c.ce.A c.ce.n c.ce.cap, .slice c.ta.A c.ta.n c.ta.cap, .slice c.li.A c.li.n c.li.cap]
def jD.val (c : jD) : Value := .agg #[.int .i64 c.s, .int .i64 c.wy, .int .i64 c.h, .int .i64 c.mi, .slice c.mb.A c.mb.n c.mb.cap, .int .i64 c.g, .slice c.cn.A c.cn.n c.cn.cap, .slice c.ce.A c.ce.n c.ce.cap, .slice c.ta.A c.ta.n c.ta.cap, .slice c.li.A c.li.n c.li.cap]
structure IntsAt (w : World) (x : Sl) (l : List Int) : Prop where
 len : l.length = x.n
 cap : x.n <= x.cap
 at_ : ∀ (k : Nat) z, l[k]? = some z -> ∃ b off, x.A = some ⟨b, off, none⟩ /\ b < w.heap.size /\ w.cell? ⟨b, off + k, none⟩ = some (.int .i64 z)
theorem IntsAt.new {w w' : World} {x : Sl} {l : List Int} (h : IntsAt w x l) (ho : Only (fun _ => False) w w') : IntsAt w' x l :=
 ⟨h.len, h.cap, fun k z hz => by
  obtain ⟨b, off, hA, hb, hc⟩ := h.at_ k z hz
  exact ⟨b, off, hA, Nat.lt_of_lt_of_le hb ho.size, ho.cell hc id⟩⟩
def allIn (lo hi : Int) (l : List Int) : Bool := l.all (inB lo hi)
theorem zEK {lo hi : Int} {l : List Int} {k : Nat} {z : Int} (h : l[k]? = some z) (hz : inB lo hi z = false) : allIn lo hi l = false := by
 unfold allIn
 rw [List.all_eq_false]
 exact ⟨z, List.mem_of_getElem? h, by simp [hz]⟩
theorem zHC {lo hi : Int} {l : List Int} (h : ∀ (k : Nat) z, l[k]? = some z -> inB lo hi z = true) : allIn lo hi l = true := by
 unfold allIn
 rw [List.all_eq_true]
 intro z hz
 obtain ⟨k, hk⟩ := List.getElem?_of_mem hz
 exact h k z hk
theorem zSW {lo hi z : Int} (h : z < lo) : inB lo hi z = false := by unfold inB; simp; omega
theorem zSX {lo hi z : Int} (h : hi < z) : inB lo hi z = false := by unfold inB; simp; omega
theorem zSY {lo hi z : Int} (h1 : ¬ z < lo) (h2 : ¬ hi < z) : inB lo hi z = true := by unfold inB; simp; omega
theorem zBW {w : World} {x : Sl} {l : List Int} (hl : IntsAt w x l) (h9 : x.n <= 1000000) (lo hi : Int) : Calls Tryz.prog 199 #[.int .i64 lo, .int .i64 hi, .slice x.A x.n x.cap] w (RetB (allIn lo hi l) w) := by
 obtain ⟨A, n, cap⟩ := x
 have hl' := zh hl
 have hlen := hl.len
 simp only at *
 have hlen' := zh hlen
 clear hl hlen
 go_enter Tryz.func199, Tryz.ntmps199
 go_wp2
 go_loopw [11] (fun i wr => ∃ k : Nat, k <= n /\ i = .int .i64 k /\ (∀ (j : Nat) z, j < k -> l[j]? = some z -> inB lo hi z = true) /\ w = wr) (fun i _ => n - (intOf i).toNat)
 case atStart => exact ⟨0, Nat.zero_le _, rfl, (fun j z hj => by omega), rfl⟩
 case round =>
  obtain ⟨k, hk, rfl, hall, rfl⟩ := hrel
  have jT := zh hall
  clear hall
  by_cases hkn : k < n
  ·have vR : (k : Int) < (n : Int) := by omega
   obtain ⟨z, hz⟩ : ∃ z, l[k]? = some z := ⟨_, List.getElem?_eq_getElem (by have := hlen'.out; omega)⟩
   obtain ⟨b, off, hA, hb, c0⟩ := hl'.out.at_ k z hz
   simp only at hA
   subst hA
   have hz' := zh hz
   clear hz
   by_cases h1 : z < lo
   ·have hv := zh (zEK hz'.out (zSW h1 (hi := hi)))
    go_wp2
    go_ret
    exact ⟨zAJ hv.out.symm, rfl⟩
   ·by_cases h2 : hi < z
    ·have hv := zh (zEK hz'.out (zSX h2 (lo := lo)))
     go_wp2
     go_ret
     exact ⟨zAJ hv.out.symm, rfl⟩
    ·have hnx := zh (show ∀ (j : Nat) y, j < k + 1 -> l[j]? = some y -> inB lo hi y = true from fun j y hj hy => by
      by_cases hjk : j < k
      ·exact jT.out j y hjk hy
      ·obtain rfl : j = k := by omega
       rw [hz'.out] at hy
       cases hy
       exact zSY h1 h2)
     go_wp2
     go_roundw
     case rel => exact ⟨k + 1, by omega, by go_num, hnx.out, trivial⟩
     case measure => simp [intOf]; omega
  ·obtain rfl : k = n := by omega
   have hv := zh (zHC (l := l) (fun j z hz => jT.out j z (by have := (List.getElem?_eq_some_iff.1 hz).1; have := hlen'.out; omega) hz))
   go_wp2
   go_ret
   exact ⟨zAJ hv.out.symm, rfl⟩
theorem zA6 {W : World} {X : Nat} (hX : W.heap.size = X) (z lo hi : Int) : Calls Tryz.prog 199 #[.int .i64 lo, .int .i64 hi, .slice (some ⟨X, 0, none⟩) 1 1] (W.alloc (.cells #[.int .i64 z] 3)) (RetB (inB lo hi z) (W.alloc (.cells #[.int .i64 z] 3))) := by
 have hb := zAB W (.cells [.int .i64 z].toArray 3) hX
 have h := zBW (w := W.alloc (.cells #[.int .i64 z] 3)) (x := ⟨some ⟨X, 0, none⟩, 1, 1⟩) (l := [z]) ⟨rfl, Nat.le_refl _, fun k y hy => by
  cases k with
  | zero =>
   cases hy
   exact ⟨X, 0, rfl, zAG hb, zAA hb rfl⟩
  | succ k => simp at hy⟩ (by show 1 <= 1000000; omega) lo hi
 rw [show allIn lo hi [z] = inB lo hi z by simp [allIn]] at h
 exact h
theorem zBP (w : World) (n a b : Int) : Calls Tryz.prog 39 #[.int .i64 n, .int .i64 a, .int .i64 b] w (RetB (inB a b n) w) := by
 by_cases h1 : a <= n
 ·by_cases h2 : n <= b
  ·have hz := zh (show true = inB a b n by simp [inB, h1, h2])
   go_enter Tryz.func39, Tryz.ntmps39
   go_wp2
   go_ret
   exact ⟨zAJ hz.out, rfl⟩
  ·have hz := zh (show false = inB a b n by simp [inB]; omega)
   go_enter Tryz.func39, Tryz.ntmps39
   go_wp2
   go_ret
   exact ⟨zAJ hz.out, rfl⟩
 ·have hz := zh (show false = inB a b n by simp [inB]; omega)
  go_enter Tryz.func39, Tryz.ntmps39
  go_wp2
  go_ret
  exact ⟨zAJ hz.out, rfl⟩
theorem zD7 {w : World} {x : Sl} {l : List Int} (hl : IntsAt w x l) (h9 : x.n <= 1000000) (lo hi : Int) : Calls Tryz.prog 40 #[.slice x.A x.n x.cap, .int .i64 lo, .int .i64 hi] w (RetB (allIn lo hi l) w) := by
 obtain ⟨A, n, cap⟩ := x
 have hl' := zh hl
 have hlen := hl.len
 simp only at *
 have hlen' := zh hlen
 have q := zh (fun z => zBP w z lo hi)
 clear hl hlen
 go_enter Tryz.func40, Tryz.ntmps40
 go_wp2
 go_loopw [11] (fun i wr => ∃ k : Nat, k <= n /\ i = .int .i64 k /\ (∀ (j : Nat) z, j < k -> l[j]? = some z -> inB lo hi z = true) /\ w = wr) (fun i _ => n - (intOf i).toNat)
 case atStart => exact ⟨0, Nat.zero_le _, rfl, (fun j z hj => by omega), rfl⟩
 case round =>
  obtain ⟨k, hk, rfl, hall, rfl⟩ := hrel
  have jT := zh hall
  clear hall
  by_cases hkn : k < n
  ·have vR : (k : Int) < (n : Int) := by omega
   obtain ⟨z, hz⟩ : ∃ z, l[k]? = some z := ⟨_, List.getElem?_eq_getElem (by have := hlen'.out; omega)⟩
   obtain ⟨b, off, hA, hb, c0⟩ := hl'.out.at_ k z hz
   simp only at hA
   subst hA
   have hz' := zh hz
   have q1 := zh (q.out z)
   clear hz
   cases hv : inB lo hi z
   ·rw [hv] at q1
    have hv' := zh (zEK hz'.out hv)
    clear hv
    go_wp2_with (go_at_call 39; refine q1.out.mono ?_; rintro e w' ⟨rfl, rfl⟩)
    go_ret
    exact ⟨zAJ hv'.out.symm, rfl⟩
   ·rw [hv] at q1
    have hnx := zh (show ∀ (j : Nat) y, j < k + 1 -> l[j]? = some y -> inB lo hi y = true from fun j y hj hy => by
     by_cases hjk : j < k
     ·exact jT.out j y hjk hy
     ·obtain rfl : j = k := by omega
      rw [hz'.out] at hy
      cases hy
      exact hv)
    clear hv
    go_wp2_with (go_at_call 39; refine q1.out.mono ?_; rintro e w' ⟨rfl, rfl⟩)
    go_roundw
    case rel => exact ⟨k + 1, by omega, by go_num, hnx.out, trivial⟩
    case measure => simp [intOf]; omega
  ·obtain rfl : k = n := by omega
   have hv := zh (zHC (l := l) (fun j z hz => jT.out j z (by have := (List.getElem?_eq_some_iff.1 hz).1; have := hlen'.out; omega) hz))
   go_wp2
   go_ret
   exact ⟨zAJ hv.out.symm, rfl⟩
def machB (s wy h mi : Int) : Bool := inB 1 16 s && inB 1 4 wy && inB 1 100 h && inB h 100 mi
def taskB (p th pe de fr fl : Int) : Bool := inB 0 63 p && inB p 63 th && inB 1 1048576 pe && inB 1 pe de && inB 0 4096 fr && inB 0 1048576 fl
theorem zAO {a b : Bool} (h : a = b) {w w' : World} (ho : Only (fun _ => False) w w') : GrowB b w (.returned (.bool a)) w' := ⟨by rw [h], ho⟩
set_option maxHeartbeats 1000000 in
theorem zIJ (w : World) (s wy h mi : Int) : Calls Tryz.prog 138 #[.agg #[.int .i64 s, .int .i64 wy, .int .i64 h, .int .i64 mi]] w (GrowB (machB s wy h mi) w) := by
 obtain ⟨b1, e1⟩ : ∃ b, b = inB 1 16 s := ⟨_, rfl⟩
 have q1 := zh (fun (W : World) (X : Nat) (hX : W.heap.size = X) => zA6 hX s 1 16)
 rw [<- e1] at q1
 obtain ⟨b2, e2⟩ : ∃ b, b = inB 1 4 wy := ⟨_, rfl⟩
 have q2 := zh (fun (W : World) (X : Nat) (hX : W.heap.size = X) => zA6 hX wy 1 4)
 rw [<- e2] at q2
 obtain ⟨b3, e3⟩ : ∃ b, b = inB 1 100 h := ⟨_, rfl⟩
 have q3 := zh (fun (W : World) (X : Nat) (hX : W.heap.size = X) => zA6 hX h 1 100)
 rw [<- e3] at q3
 obtain ⟨b4, e4⟩ : ∃ b, b = inB h 100 mi := ⟨_, rfl⟩
 have q4 := zh (fun (W : World) (X : Nat) (hX : W.heap.size = X) => zA6 hX mi h 100)
 rw [<- e4] at q4
 have hv := zh (show machB s wy h mi = (b1 && b2 && b3 && b4) from by unfold machB; rw [<- e1, <- e2, <- e3, <- e4])
 rw [hv.out]
 clear e1 e2 e3 e4 hv
 cases b1
 ·skip
  go_enter Tryz.func138, Tryz.ntmps138
  go_wp2_with fail
  refine (q1.out _ _ (by simp)).mono ?_
  rintro e w' ⟨rfl, rfl⟩
  go_wp2
  go_ret
  refine zAO (by simp) ?_
  repeat first | exact Only.refl _ _ | refine Only.alloc ?_ _
 ·skip
  cases b2
  ·skip
   go_enter Tryz.func138, Tryz.ntmps138
   go_wp2_with fail
   refine (q1.out _ _ (by simp)).mono ?_
   rintro e w' ⟨rfl, rfl⟩
   go_wp2_with fail
   refine (q2.out _ _ (by simp)).mono ?_
   rintro e w' ⟨rfl, rfl⟩
   go_wp2
   go_ret
   refine zAO (by simp) ?_
   repeat first | exact Only.refl _ _ | refine Only.alloc ?_ _
  ·skip
   cases b3
   ·skip
    go_enter Tryz.func138, Tryz.ntmps138
    go_wp2_with fail
    refine (q1.out _ _ (by simp)).mono ?_
    rintro e w' ⟨rfl, rfl⟩
    go_wp2_with fail
    refine (q2.out _ _ (by simp)).mono ?_
    rintro e w' ⟨rfl, rfl⟩
    go_wp2_with fail
    refine (q3.out _ _ (by simp)).mono ?_
    rintro e w' ⟨rfl, rfl⟩
    go_wp2
    go_ret
    refine zAO (by simp) ?_
    repeat first | exact Only.refl _ _ | refine Only.alloc ?_ _
   ·skip
    cases b4
    ·skip
     go_enter Tryz.func138, Tryz.ntmps138
     go_wp2_with fail
     refine (q1.out _ _ (by simp)).mono ?_
     rintro e w' ⟨rfl, rfl⟩
     go_wp2_with fail
     refine (q2.out _ _ (by simp)).mono ?_
     rintro e w' ⟨rfl, rfl⟩
     go_wp2_with fail
     refine (q3.out _ _ (by simp)).mono ?_
     rintro e w' ⟨rfl, rfl⟩
     go_wp2_with fail
     refine (q4.out _ _ (by simp)).mono ?_
     rintro e w' ⟨rfl, rfl⟩
     go_wp2
     go_ret
     refine zAO (by simp) ?_
     repeat first | exact Only.refl _ _ | refine Only.alloc ?_ _
    ·skip
     go_enter Tryz.func138, Tryz.ntmps138
     go_wp2_with fail
     refine (q1.out _ _ (by simp)).mono ?_
     rintro e w' ⟨rfl, rfl⟩
     go_wp2_with fail
     refine (q2.out _ _ (by simp)).mono ?_
     rintro e w' ⟨rfl, rfl⟩
     go_wp2_with fail
     refine (q3.out _ _ (by simp)).mono ?_
     rintro e w' ⟨rfl, rfl⟩
     go_wp2_with fail
     refine (q4.out _ _ (by simp)).mono ?_
     rintro e w' ⟨rfl, rfl⟩
     go_wp2
     go_ret
     refine zAO (by simp) ?_
     repeat first | exact Only.refl _ _ | refine Only.alloc ?_ _
set_option maxHeartbeats 1000000 in
theorem zIK (w : World) (t : jA) : Calls Tryz.prog 201 #[t.val] w (GrowB (taskB t.p t.th t.pe t.de t.fr t.fl) w) := by
 obtain ⟨b1, e1⟩ : ∃ b, b = inB 0 63 t.p := ⟨_, rfl⟩
 have q1 := zh (fun (W : World) (X : Nat) (hX : W.heap.size = X) => zA6 hX t.p 0 63)
 rw [<- e1] at q1
 obtain ⟨b2, e2⟩ : ∃ b, b = inB t.p 63 t.th := ⟨_, rfl⟩
 have q2 := zh (fun (W : World) (X : Nat) (hX : W.heap.size = X) => zA6 hX t.th t.p 63)
 rw [<- e2] at q2
 obtain ⟨b3, e3⟩ : ∃ b, b = inB 1 1048576 t.pe := ⟨_, rfl⟩
 have q3 := zh (fun (W : World) (X : Nat) (hX : W.heap.size = X) => zA6 hX t.pe 1 1048576)
 rw [<- e3] at q3
 obtain ⟨b4, e4⟩ : ∃ b, b = inB 1 t.pe t.de := ⟨_, rfl⟩
 have q4 := zh (fun (W : World) (X : Nat) (hX : W.heap.size = X) => zA6 hX t.de 1 t.pe)
 rw [<- e4] at q4
 obtain ⟨b5, e5⟩ : ∃ b, b = inB 0 4096 t.fr := ⟨_, rfl⟩
 have q5 := zh (fun (W : World) (X : Nat) (hX : W.heap.size = X) => zA6 hX t.fr 0 4096)
 rw [<- e5] at q5
 obtain ⟨b6, e6⟩ : ∃ b, b = inB 0 1048576 t.fl := ⟨_, rfl⟩
 have q6 := zh (fun (W : World) (X : Nat) (hX : W.heap.size = X) => zA6 hX t.fl 0 1048576)
 rw [<- e6] at q6
 have hv := zh (show taskB t.p t.th t.pe t.de t.fr t.fl = (b1 && b2 && b3 && b4 && b5 && b6) from by unfold taskB; rw [<- e1, <- e2, <- e3, <- e4, <- e5, <- e6])
 rw [hv.out]
 clear e1 e2 e3 e4 e5 e6 hv
 rw [show t.val = .agg #[.int .i64 t.p, .int .i64 t.th, .int .i64 t.pe, .int .i64 t.de, .int .i64 t.fr, .int .i64 t.fl, .slice t.o.A t.o.n t.o.cap] from rfl]
 cases b1
 ·skip
  go_enter Tryz.func201, Tryz.ntmps201
  go_wp2_with fail
  refine (q1.out _ _ (by simp)).mono ?_
  rintro e w' ⟨rfl, rfl⟩
  go_wp2
  go_ret
  refine zAO (by simp) ?_
  repeat first | exact Only.refl _ _ | refine Only.alloc ?_ _
 ·skip
  cases b2
  ·skip
   go_enter Tryz.func201, Tryz.ntmps201
   go_wp2_with fail
   refine (q1.out _ _ (by simp)).mono ?_
   rintro e w' ⟨rfl, rfl⟩
   go_wp2_with fail
   refine (q2.out _ _ (by simp)).mono ?_
   rintro e w' ⟨rfl, rfl⟩
   go_wp2
   go_ret
   refine zAO (by simp) ?_
   repeat first | exact Only.refl _ _ | refine Only.alloc ?_ _
  ·skip
   cases b3
   ·skip
    go_enter Tryz.func201, Tryz.ntmps201
    go_wp2_with fail
    refine (q1.out _ _ (by simp)).mono ?_
    rintro e w' ⟨rfl, rfl⟩
    go_wp2_with fail
    refine (q2.out _ _ (by simp)).mono ?_
    rintro e w' ⟨rfl, rfl⟩
    go_wp2_with fail
    refine (q3.out _ _ (by simp)).mono ?_
    rintro e w' ⟨rfl, rfl⟩
    go_wp2
    go_ret
    refine zAO (by simp) ?_
    repeat first | exact Only.refl _ _ | refine Only.alloc ?_ _
   ·skip
    cases b4
    ·skip
     go_enter Tryz.func201, Tryz.ntmps201
     go_wp2_with fail
     refine (q1.out _ _ (by simp)).mono ?_
     rintro e w' ⟨rfl, rfl⟩
     go_wp2_with fail
     refine (q2.out _ _ (by simp)).mono ?_
     rintro e w' ⟨rfl, rfl⟩
     go_wp2_with fail
     refine (q3.out _ _ (by simp)).mono ?_
     rintro e w' ⟨rfl, rfl⟩
     go_wp2_with fail
     refine (q4.out _ _ (by simp)).mono ?_
     rintro e w' ⟨rfl, rfl⟩
     go_wp2
     go_ret
     refine zAO (by simp) ?_
     repeat first | exact Only.refl _ _ | refine Only.alloc ?_ _
    ·skip
     cases b5
     ·skip
      go_enter Tryz.func201, Tryz.ntmps201
      go_wp2_with fail
      refine (q1.out _ _ (by simp)).mono ?_
      rintro e w' ⟨rfl, rfl⟩
      go_wp2_with fail
      refine (q2.out _ _ (by simp)).mono ?_
      rintro e w' ⟨rfl, rfl⟩
      go_wp2_with fail
      refine (q3.out _ _ (by simp)).mono ?_
      rintro e w' ⟨rfl, rfl⟩
      go_wp2_with fail
      refine (q4.out _ _ (by simp)).mono ?_
      rintro e w' ⟨rfl, rfl⟩
      go_wp2_with fail
      refine (q5.out _ _ (by simp)).mono ?_
      rintro e w' ⟨rfl, rfl⟩
      go_wp2
      go_ret
      refine zAO (by simp) ?_
      repeat first | exact Only.refl _ _ | refine Only.alloc ?_ _
     ·skip
      cases b6
      ·skip
       go_enter Tryz.func201, Tryz.ntmps201
       go_wp2_with fail
       refine (q1.out _ _ (by simp)).mono ?_
       rintro e w' ⟨rfl, rfl⟩
       go_wp2_with fail
       refine (q2.out _ _ (by simp)).mono ?_
       rintro e w' ⟨rfl, rfl⟩
       go_wp2_with fail
       refine (q3.out _ _ (by simp)).mono ?_
       rintro e w' ⟨rfl, rfl⟩
       go_wp2_with fail
       refine (q4.out _ _ (by simp)).mono ?_
       rintro e w' ⟨rfl, rfl⟩
       go_wp2_with fail
       refine (q5.out _ _ (by simp)).mono ?_
       rintro e w' ⟨rfl, rfl⟩
       go_wp2_with fail
       refine (q6.out _ _ (by simp)).mono ?_
       rintro e w' ⟨rfl, rfl⟩
       go_wp2
       go_ret
       refine zAO (by simp) ?_
       repeat first | exact Only.refl _ _ | refine Only.alloc ?_ _
      ·skip
       go_enter Tryz.func201, Tryz.ntmps201
       go_wp2_with fail
       refine (q1.out _ _ (by simp)).mono ?_
       rintro e w' ⟨rfl, rfl⟩
       go_wp2_with fail
       refine (q2.out _ _ (by simp)).mono ?_
       rintro e w' ⟨rfl, rfl⟩
       go_wp2_with fail
       refine (q3.out _ _ (by simp)).mono ?_
       rintro e w' ⟨rfl, rfl⟩
       go_wp2_with fail
       refine (q4.out _ _ (by simp)).mono ?_
       rintro e w' ⟨rfl, rfl⟩
       go_wp2_with fail
       refine (q5.out _ _ (by simp)).mono ?_
       rintro e w' ⟨rfl, rfl⟩
       go_wp2_with fail
       refine (q6.out _ _ (by simp)).mono ?_
       rintro e w' ⟨rfl, rfl⟩
       go_wp2
       go_ret
       refine zAO (by simp) ?_
       repeat first | exact Only.refl _ _ | refine Only.alloc ?_ _
def jD.room (c : jD) : jF := ⟨c.mb.n, c.g, c.cn.n, c.ce.n⟩
set_option maxHeartbeats 1000000 in
theorem zJO (c : jD) (w : World) : Calls Tryz.prog 200 #[c.val] w (GrowV c.room.val w) := by
 rw [show c.val = .agg #[.int .i64 c.s, .int .i64 c.wy, .int .i64 c.h, .int .i64 c.mi, .slice c.mb.A c.mb.n c.mb.cap, .int .i64 c.g, .slice c.cn.A c.cn.n c.cn.cap, .slice c.ce.A c.ce.n c.ce.cap, .slice c.ta.A c.ta.n c.ta.cap, .slice c.li.A c.li.n c.li.cap] from rfl]
 go_enter Tryz.func200, Tryz.ntmps200
 go_wp2
 exact bodyPost_ret (v := c.room.val) (by simp [results, Tryz.results200, go_sem, jF.val, jD.room]) rfl ⟨rfl, ((Only.refl _ w).alloc _).alloc _⟩
def max4 (a b c d : Int) : Int := (fun x => if d > x then d else x) ((fun x => if c > x then c else x) (if b > a then b else a))
theorem zQV (a b c d : Int) : 4 < max4 a b c d ↔ (4 < a ∨ 4 < b ∨ 4 < c ∨ 4 < d) := by
 unfold max4
 simp only
 split <;> split <;> split <;> omega
theorem zOJ (P : Program) (t : Array TypeId) (y : TypeId) (a b c d : Int) (w : World) : Sem.run P (Builtin.max_ t y #[.int .i64 a, .int .i64 b, .int .i64 c, .int .i64 d]) w = .ok (.int .i64 (max4 a b c d)) w := rfl
def kQ (c : jD) : Bool := decide (4 < (c.mb.n : Int) ∨ 4 < c.g ∨ 4 < (c.cn.n : Int) ∨ 4 < (c.ce.n : Int) ∨ 8 < (c.ta.n : Int) ∨ 8 < (c.li.n : Int))
set_option maxHeartbeats 2000000 in
theorem zOK (c : jD) (w : World) : Calls Tryz.prog 139 #[c.val] w (GrowB (kQ c) w) := by
 have q := zh (fun W => zJO c W)
 rw [show c.room.val = .agg #[.int .i64 c.mb.n, .int .i64 c.g, .int .i64 c.cn.n, .int .i64 c.ce.n] from rfl] at q
 rw [show c.val = .agg #[.int .i64 c.s, .int .i64 c.wy, .int .i64 c.h, .int .i64 c.mi, .slice c.mb.A c.mb.n c.mb.cap, .int .i64 c.g, .slice c.cn.A c.cn.n c.cn.cap, .slice c.ce.A c.ce.n c.ce.cap, .slice c.ta.A c.ta.n c.ta.cap, .slice c.li.A c.li.n c.li.cap] from rfl] at q ⊢
 obtain ⟨v, hv⟩ : ∃ v, v = kQ c := ⟨_, rfl⟩
 have hv' := zh hv
 rw [<- hv]
 clear hv
 obtain ⟨s, wy, h, mi, ⟨mA, mn, mc⟩, g, ⟨cA, cn, cc⟩, ⟨eA, en, ec⟩, ⟨tA, tn, tc⟩, ⟨lA, ln, lc⟩⟩ := c
 simp only at *
 go_enter Tryz.func139, Tryz.ntmps139
 go_wp2_with fail
 have hO := zh (show Only (fun _ => False) w (w.alloc (.cells [.int .i64 s, .int .i64 wy, .int .i64 h, .int .i64 mi, .slice mA mn mc, .int .i64 g, .slice cA cn cc, .slice eA en ec, .slice tA tn tc, .slice lA ln lc].toArray 27)) from (Only.refl _ w).alloc _)
 have hB := zAB w (.cells [.int .i64 s, .int .i64 wy, .int .i64 h, .int .i64 mi, .slice mA mn mc, .int .i64 g, .slice cA cn cc, .slice eA en ec, .slice tA tn tc, .slice lA ln lc].toArray 27) rfl
 refine (q.out _).mono ?_
 rintro e w1 ⟨rfl, hO1⟩
 have hB1 := hO1.heap hB id
 have c8 := zAA hB1 (i := 8) rfl
 have c9 := zAA hB1 (i := 9) rfl
 have hlt := zAG hB1
 have vB := zh (hO.out.trans' hO1)
 clear hO1 hB hB1
 have hM := fun W => zOJ Tryz.prog #[3, 3, 3, 3] 3 mn g cn en W
 obtain ⟨M, hM0⟩ : ∃ M, M = max4 mn g cn en := ⟨_, rfl⟩
 have hm := zQV mn g cn en
 rw [<- hM0] at hM hm
 clear hM0
 have hm' := zh hm
 clear hm
 by_cases h1 : 4 < M
 ·have hz := zh (show v = true by rw [hv'.out]; unfold kQ; have := hm'.out.1 h1; simp only [decide_eq_true_eq]; omega)
  go_wp2
  go_ret
  exact ⟨zAJ hz.out.symm, by first | exact vB.out | exact vB.out.alloc _⟩
 ·by_cases h2 : 8 < (tn : Int)
  ·have hz := zh (show v = true by rw [hv'.out]; unfold kQ; simp only [decide_eq_true_eq]; omega)
   go_wp2
   go_ret
   exact ⟨zAJ hz.out.symm, by first | exact vB.out | exact vB.out.alloc _⟩
  ·by_cases h3 : 8 < (ln : Int)
   ·have hz := zh (show v = true by rw [hv'.out]; unfold kQ; simp only [decide_eq_true_eq]; omega)
    go_wp2
    go_ret
    exact ⟨zAJ hz.out.symm, by first | exact vB.out | exact vB.out.alloc _⟩
   ·have hz := zh (show v = false by rw [hv'.out]; unfold kQ; have := fun h => h1 (hm'.out.2 h); simp only [decide_eq_false_iff_not]; intro h; apply this; omega)
    go_wp2
    go_ret
    exact ⟨zAJ (by rw [hz.out]; simp; omega), by first | exact vB.out | exact vB.out.alloc _⟩
structure jL where
 mb : List Int
 cn : List Int
 ce : List Int
 li : List Int
structure ObjsAt (w : World) (c : jD) (d : jL) : Prop where
 mb : IntsAt w c.mb d.mb
 cn : IntsAt w c.cn d.cn
 ce : IntsAt w c.ce d.ce
 li : IntsAt w c.li d.li
 s : c.mb.n <= 1000000 /\ c.cn.n <= 1000000 /\ c.ce.n <= 1000000 /\ c.li.n <= 1000000 /\ c.ta.n <= 1000000
theorem ObjsAt.new {w w' : World} {c : jD} {d : jL} (h : ObjsAt w c d) (ho : Only (fun _ => False) w w') : ObjsAt w' c d := ⟨h.mb.new ho, h.cn.new ho, h.ce.new ho, h.li.new ho, h.s⟩
def objB (c : jD) (d : jL) : Bool := allIn 1 8 d.mb && allIn 1 8 d.cn && allIn 0 63 d.ce && allIn 0 ((c.ta.n : Int) - 1) d.li
set_option maxHeartbeats 2000000 in
theorem zHD {w : World} {c : jD} {d : jL} (hd : ObjsAt w c d) : Calls Tryz.prog 140 #[c.val] w (GrowB (objB c d) w) := by
 rw [show c.val = .agg #[.int .i64 c.s, .int .i64 c.wy, .int .i64 c.h, .int .i64 c.mi, .slice c.mb.A c.mb.n c.mb.cap, .int .i64 c.g, .slice c.cn.A c.cn.n c.cn.cap, .slice c.ce.A c.ce.n c.ce.cap, .slice c.ta.A c.ta.n c.ta.cap, .slice c.li.A c.li.n c.li.cap] from rfl]
 obtain ⟨b1, e1⟩ : ∃ b, b = allIn 1 8 d.mb := ⟨_, rfl⟩
 have q1 := zh (fun (W : World) (hW : Only (fun _ => False) w W) => zBW (hd.new hW).mb hd.s.1 1 8)
 rw [<- e1] at q1
 obtain ⟨b2, e2⟩ : ∃ b, b = allIn 1 8 d.cn := ⟨_, rfl⟩
 have q2 := zh (fun (W : World) (hW : Only (fun _ => False) w W) => zBW (hd.new hW).cn hd.s.2.1 1 8)
 rw [<- e2] at q2
 obtain ⟨b3, e3⟩ : ∃ b, b = allIn 0 63 d.ce := ⟨_, rfl⟩
 have q3 := zh (fun (W : World) (hW : Only (fun _ => False) w W) => zBW (hd.new hW).ce hd.s.2.2.1 0 63)
 rw [<- e3] at q3
 obtain ⟨b4, e4⟩ : ∃ b, b = allIn 0 ((c.ta.n : Int) - 1) d.li := ⟨_, rfl⟩
 have q4 := zh (fun (W : World) (hW : Only (fun _ => False) w W) => zBW (hd.new hW).li hd.s.2.2.2.1 0 ((c.ta.n : Int) - 1))
 rw [<- e4] at q4
 have hv := zh (show objB c d = (b1 && b2 && b3 && b4) from by unfold objB; rw [<- e1, <- e2, <- e3, <- e4])
 rw [hv.out]
 have hs5 := hd.s.2.2.2.2
 clear e1 e2 e3 e4 hv hd
 obtain ⟨s, wy, h, mi, ⟨mA, mn, mc⟩, g, ⟨cA, cn, cc⟩, ⟨eA, en, ec⟩, ⟨tA, tn, tc⟩, ⟨lA, ln, lc⟩⟩ := c
 simp only at *
 have hO := fun o => (Only.refl (fun _ => False) w).alloc o
 have hO' := zh hO
 clear hO
 cases b1
 ·skip
  go_enter Tryz.func140, Tryz.ntmps140
  go_wp2_with fail
  refine (q1.out _ (hO'.out _)).mono ?_
  rintro e w' ⟨rfl, rfl⟩
  go_wp2
  go_ret
  exact zAO (by simp) (hO'.out _)
 ·skip
  cases b2
  ·skip
   go_enter Tryz.func140, Tryz.ntmps140
   go_wp2_with fail
   refine (q1.out _ (hO'.out _)).mono ?_
   rintro e w' ⟨rfl, rfl⟩
   go_wp2_with fail
   refine (q2.out _ (hO'.out _)).mono ?_
   rintro e w' ⟨rfl, rfl⟩
   go_wp2
   go_ret
   exact zAO (by simp) (hO'.out _)
  ·skip
   cases b3
   ·skip
    go_enter Tryz.func140, Tryz.ntmps140
    go_wp2_with fail
    refine (q1.out _ (hO'.out _)).mono ?_
    rintro e w' ⟨rfl, rfl⟩
    go_wp2_with fail
    refine (q2.out _ (hO'.out _)).mono ?_
    rintro e w' ⟨rfl, rfl⟩
    go_wp2_with fail
    refine (q3.out _ (hO'.out _)).mono ?_
    rintro e w' ⟨rfl, rfl⟩
    go_wp2
    go_ret
    exact zAO (by simp) (hO'.out _)
   ·skip
    cases b4
    ·skip
     go_enter Tryz.func140, Tryz.ntmps140
     go_wp2_with fail
     refine (q1.out _ (hO'.out _)).mono ?_
     rintro e w' ⟨rfl, rfl⟩
     go_wp2_with fail
     refine (q2.out _ (hO'.out _)).mono ?_
     rintro e w' ⟨rfl, rfl⟩
     go_wp2_with fail
     refine (q3.out _ (hO'.out _)).mono ?_
     rintro e w' ⟨rfl, rfl⟩
     go_wp2_with fail
     refine (q4.out _ (hO'.out _)).mono ?_
     rintro e w' ⟨rfl, rfl⟩
     go_wp2
     go_ret
     exact zAO (by simp) (hO'.out _)
    ·skip
     go_enter Tryz.func140, Tryz.ntmps140
     go_wp2_with fail
     refine (q1.out _ (hO'.out _)).mono ?_
     rintro e w' ⟨rfl, rfl⟩
     go_wp2_with fail
     refine (q2.out _ (hO'.out _)).mono ?_
     rintro e w' ⟨rfl, rfl⟩
     go_wp2_with fail
     refine (q3.out _ (hO'.out _)).mono ?_
     rintro e w' ⟨rfl, rfl⟩
     go_wp2_with fail
     refine (q4.out _ (hO'.out _)).mono ?_
     rintro e w' ⟨rfl, rfl⟩
     go_wp2
     go_ret
     exact zAO (by simp) (hO'.out _)
