import Derived.Test.YtlbdjiiddofkgaaGreatDoorC11
set_option maxRecDepth 100000
namespace Go.Proofs.YtlbdjiiddofkgaaGreatDoor
open Go Go.RowKit
def vS : List Int := [0, 1, 1, 0, 0, 1, 1, 1, 1, 2, 1, 2, 2, 2, 1, 1]
def wC : List ByteArray := [⟨#[]⟩, ⟨#[99, 111, 109, 112, 117, 116, 101]⟩, ⟨#[97, 99, 99, 101, 115, 115]⟩, ⟨#[101, 110, 116, 101, 114]⟩, ⟨#[101, 120, 105, 116]⟩, ⟨#[108, 111, 99, 107]⟩, ⟨#[117, 110, 108, 111, 99, 107]⟩, ⟨#[112, 117, 115, 104]⟩, ⟨#[112, 111, 112]⟩, ⟨#[115, 101, 110, 100]⟩, ⟨#[114, 101, 99, 118]⟩, ⟨#[115, 101, 116]⟩, ⟨#[99, 108, 101, 97, 114]⟩, ⟨#[116, 101, 115, 116]⟩, ⟨#[103, 105, 118, 101]⟩, ⟨#[116, 97, 107, 101]⟩]
def Words (w : World) : Prop := ∀ (k : Nat) (s : ByteArray) (n : Int), wC[k]? = some s -> vS[k]? = some n -> w.cell? ⟨2, k * 2, none⟩ = some (.string s) /\ w.cell? ⟨2, k * 2 + 1, none⟩ = some (.int .i64 n)
theorem Words.new {w w' : World} (h : Words w) (ho : Only (fun _ => False) w w') : Words w' := fun k s n h1 h2 => ⟨ho.cell (h k s n h1 h2).1 id, ho.cell (h k s n h1 h2).2 id⟩
def RetI (v : Int) (w : World) (e : Ending) (w' : World) : Prop := e = .returned (.int .i64 v) /\ w = w'
def GrowI (v : Int) (w : World) (e : Ending) (w' : World) : Prop := e = .returned (.int .i64 v) /\ Only (fun _ => False) w w'
def RetB (v : Bool) (w : World) (e : Ending) (w' : World) : Prop := e = .returned (.bool v) /\ w = w'
def GrowB (v : Bool) (w : World) (e : Ending) (w' : World) : Prop := e = .returned (.bool v) /\ Only (fun _ => False) w w'
def GrowV (v : Value) (w : World) (e : Ending) (w' : World) : Prop := e = .returned v /\ Only (fun _ => False) w w'
theorem zAI {k : IntKind} {a b : Int} (h : a = b) : Ending.returned (.int k a) = .returned (.int k b) := by rw [h]
theorem zAJ {a b : Bool} (h : a = b) : Ending.returned (.bool a) = .returned (.bool b) := by rw [h]
def inB (a b n : Int) : Bool := decide (a <= n /\ n <= b)
def numZ (k : Int) : Int := if k < 1 ∨ 15 < k then -1 else vS.getD k.toNat 0
theorem kinds {k : Int} (h : ¬ (k < 1 ∨ 15 < k)) : k = 1 ∨ k = 2 ∨ k = 3 ∨ k = 4 ∨ k = 5 ∨ k = 6 ∨ k = 7 ∨ k = 8 ∨ k = 9 ∨ k = 10 ∨ k = 11 ∨ k = 12 ∨ k = 13 ∨ k = 14 ∨ k = 15 := by omega
theorem zOI {w : World} (hw : Words w) (k : Nat) (hk : k < 16) : w.cell? ⟨2, k * 2, none⟩ = some (.string (wC.getD k ⟨#[]⟩)) /\ w.cell? ⟨2, k * 2 + 1, none⟩ = some (.int .i64 (vS.getD k 0)) :=
 hw k _ _ (by rw [List.getD_eq_getElem?_getD, List.getElem?_eq_getElem (show k < wC.length from hk)]; rfl) (by rw [List.getD_eq_getElem?_getD, List.getElem?_eq_getElem (show k < vS.length from hk)]; rfl)
theorem zIH {k : Nat} (h1 : 1 <= k) (h2 : k <= 15) : numZ (k : Int) = vS.getD k 0 := by
 unfold numZ
 rw [if_neg (by omega)]
 rfl
theorem zC3 {w : World} (hw : Words w) (n : Int) : Calls Tryz.prog 288 #[.int .i64 n] w (RetI (numZ n) w) := by
 by_cases hk : n < 1 ∨ 15 < n
 ·have hz := zh (show -1 = numZ n by unfold numZ; rw [if_pos hk])
  clear hw
  by_cases h1 : n < 1
  ·clear hk
   go_enter Tryz.func288, Tryz.ntmps288
   go_wp2
   go_ret
   exact ⟨zAI hz.out, rfl⟩
  ·have h2 : 15 < n := by omega
   clear hk
   go_enter Tryz.func288, Tryz.ntmps288
   go_wp2
   go_ret
   exact ⟨zAI hz.out, rfl⟩
 ·obtain ⟨k, rfl⟩ : ∃ k : Nat, n = k := ⟨n.toNat, by omega⟩
  have h1 : 1 <= k := by omega
  have h2 : k <= 15 := by omega
  obtain ⟨-, c⟩ := zOI hw k (by omega)
  have hz := zh (zIH h1 h2)
  obtain ⟨z, hzz⟩ : ∃ z, z = vS.getD k 0 := ⟨_, rfl⟩
  rw [<- hzz] at c
  have hz' := zh hzz
  have g1 : ¬ (k : Int) < 1 := by omega
  have g2 : ¬ 15 < (k : Int) := by omega
  have g3 : (k : Int) < 16 := by omega
  have g4 : (0 : Int) <= (k : Int) := by omega
  clear hk hw hzz h1
  go_enter Tryz.func288, Tryz.ntmps288
  go_wp2
  go_ret
  exact ⟨zAI (by rw [hz.out, <- hz'.out]), rfl⟩
set_option maxHeartbeats 800000 in
theorem zAR (w : World) (n : Int) : Calls Tryz.prog 194 #[.int .i64 n] w (RetI (numZ n) w) := by
 by_cases hk : n < 1 ∨ 15 < n
 ·have hz := zh (show -1 = numZ n by unfold numZ; rw [if_pos hk])
  have e3 : (n == 3) = false := by simp; omega
  have e4 : (n == 4) = false := by simp; omega
  have e9 : (n == 9) = false := by simp; omega
  have e11 : (n == 11) = false := by simp; omega
  have e12 : (n == 12) = false := by simp; omega
  have e13 : (n == 13) = false := by simp; omega
  by_cases h1 : n < 1
  ·clear hk
   go_enter Tryz.func194, Tryz.ntmps194
   go_wp2
   go_ret
   exact ⟨zAI hz.out, rfl⟩
  ·have h2 : 15 < n := by omega
   clear hk
   go_enter Tryz.func194, Tryz.ntmps194
   go_wp2
   go_ret
   exact ⟨zAI hz.out, rfl⟩
 ·rcases kinds hk with rfl | rfl | rfl | rfl | rfl | rfl | rfl | rfl | rfl | rfl | rfl | rfl | rfl | rfl | rfl
  all_goals
   clear hk
   go_enter Tryz.func194, Tryz.ntmps194
   go_wp2
   go_ret
   exact ⟨rfl, rfl⟩
theorem zSU (w : World) (n a b : Int) : Calls Tryz.prog 198 #[.int .i64 n, .int .i64 a, .int .i64 b] w (RetB (inB a b n) w) := by
 by_cases h1 : a <= n
 ·by_cases h2 : n <= b
  ·have hz := zh (show true = inB a b n by simp [inB, h1, h2])
   go_enter Tryz.func198, Tryz.ntmps198
   go_wp2
   go_ret
   exact ⟨zAJ hz.out, rfl⟩
  ·have hz := zh (show false = inB a b n by simp [inB]; omega)
   go_enter Tryz.func198, Tryz.ntmps198
   go_wp2
   go_ret
   exact ⟨zAJ hz.out, rfl⟩
 ·have hz := zh (show false = inB a b n by simp [inB]; omega)
  go_enter Tryz.func198, Tryz.ntmps198
  go_wp2
  go_ret
  exact ⟨zAJ hz.out, rfl⟩
def jH (a b : Int) : Value := .agg #[.int .i64 a, .int .i64 b]
theorem zC2 (w : World) (n a b : Int) : Calls Tryz.prog 290 #[jH a b, .int .i64 n] w (GrowB (inB a b n) w) := by
 unfold jH
 by_cases h1 : a <= n
 ·by_cases h2 : n <= b
  ·have hz := zh (show true = inB a b n by simp [inB, h1, h2])
   go_enter Tryz.func290, Tryz.ntmps290
   go_wp2
   go_ret
   exact ⟨zAJ hz.out, (Only.refl _ w).alloc _⟩
  ·have hz := zh (show false = inB a b n by simp [inB]; omega)
   go_enter Tryz.func290, Tryz.ntmps290
   go_wp2
   go_ret
   exact ⟨zAJ hz.out, (Only.refl _ w).alloc _⟩
 ·have hz := zh (show false = inB a b n by simp [inB]; omega)
  go_enter Tryz.func290, Tryz.ntmps290
  go_wp2
  go_ret
  exact ⟨zAJ hz.out, (Only.refl _ w).alloc _⟩
theorem zB2 (w : World) (c : Int) (hc : -1000 <= c /\ c <= 1000) : Calls Tryz.prog 314 #[.int .i64 c] w (GrowV (jH 0 (max c 0 - 1)) w) := by
 obtain ⟨h1, h2⟩ := hc
 by_cases h0 : c < 0
 ·have hm := zh (show max c 0 - 1 = -1 by omega)
  go_enter Tryz.func314, Tryz.ntmps314
  go_wp2
  refine bodyPost_ret (v := .agg #[.int .i64 0, .int .i64 (-1)]) (by simp [results, Tryz.results314, go_sem]) rfl ⟨by unfold jH; rw [hm.out], (Only.refl _ w).alloc _⟩
 ·have hm := zh (show max c 0 - 1 = c - 1 by omega)
  go_enter Tryz.func314, Tryz.ntmps314
  go_wp2
  refine bodyPost_ret (v := .agg #[.int .i64 0, .int .i64 (c - 1)]) (by simp [results, Tryz.results314, go_sem]) rfl ⟨by unfold jH; rw [hm.out], (Only.refl _ w).alloc _⟩
structure jF where
 m : Int
 g : Int
 c : Int
 l : Int
def jF.val (r : jF) : Value := .agg #[.int .i64 r.m, .int .i64 r.g, .int .i64 r.c, .int .i64 r.l]
def jF.ok (r : jF) : Prop := (-1000 <= r.m /\ r.m <= 1000) /\ (-1000 <= r.g /\ r.g <= 1000) /\ (-1000 <= r.c /\ r.c <= 1000) /\ (-1000 <= r.l /\ r.l <= 1000)
def hiA (k : Nat) (r : jF) : Int := [0, 1000, 255, 0, 0, max r.l 0 - 1, max r.l 0 - 1, 4096, 4096, max r.m 0 - 1, max r.m 0 - 1, max r.g 0 - 1, max r.g 0 - 1, max r.g 0 - 1, max r.c 0 - 1, max r.c 0 - 1].getD k 0
def loA (k : Nat) : Int := [0, 1, 0, 0, 0, 0, 0, 1, 1, 0, 0, 0, 0, 0, 0, 0].getD k 0
def hiB (k : Nat) : Int := [0, 0, 0, 0, 0, 0, 0, 0, 0, 255, 0, 255, 255, 255, 0, 0].getD k 0
set_option maxHeartbeats 2000000 in
theorem zKL (w : World) (r : jF) (hr : r.ok) (k : Nat) (h1 : 1 <= k) (h2 : k <= 15) : Calls Tryz.prog 289 #[.int .i64 k, r.val] w (GrowV (jH (loA k) (hiA k r)) w) := by
 obtain ⟨⟨m1, m2⟩, ⟨g1, g2⟩, ⟨c1, c2⟩, l1, l2⟩ := hr
 have om := zh (fun W => zB2 W r.m ⟨m1, m2⟩)
 have og := zh (fun W => zB2 W r.g ⟨g1, g2⟩)
 have oc := zh (fun W => zB2 W r.c ⟨c1, c2⟩)
 have ol := zh (fun W => zB2 W r.l ⟨l1, l2⟩)
 clear m1 m2 g1 g2 c1 c2 l1 l2
 unfold jF.val
 have hk : k = 1 ∨ k = 2 ∨ k = 3 ∨ k = 4 ∨ k = 5 ∨ k = 6 ∨ k = 7 ∨ k = 8 ∨ k = 9 ∨ k = 10 ∨ k = 11 ∨ k = 12 ∨ k = 13 ∨ k = 14 ∨ k = 15 := by omega
 clear h1 h2
 rcases hk with rfl | rfl | rfl | rfl | rfl | rfl | rfl | rfl | rfl | rfl | rfl | rfl | rfl | rfl | rfl
 ·go_enter Tryz.func289, Tryz.ntmps289
  go_wp2
  exact bodyPost_ret (v := jH 1 1000) (by simp [results, Tryz.results289, go_sem, jH]) rfl ⟨rfl, ((Only.refl _ w).alloc _).alloc _⟩
 ·go_enter Tryz.func289, Tryz.ntmps289
  go_wp2
  exact bodyPost_ret (v := jH 0 255) (by simp [results, Tryz.results289, go_sem, jH]) rfl ⟨rfl, ((Only.refl _ w).alloc _).alloc _⟩
 ·go_enter Tryz.func289, Tryz.ntmps289
  go_wp2
  exact bodyPost_ret (v := jH 0 0) (by simp [results, Tryz.results289, go_sem, jH]) rfl ⟨rfl, ((Only.refl _ w).alloc _).alloc _⟩
 ·go_enter Tryz.func289, Tryz.ntmps289
  go_wp2
  exact bodyPost_ret (v := jH 0 0) (by simp [results, Tryz.results289, go_sem, jH]) rfl ⟨rfl, ((Only.refl _ w).alloc _).alloc _⟩
 ·go_enter Tryz.func289, Tryz.ntmps289
  go_wp2_with fail
  refine (ol.out _).mono ?_
  rintro e w' ⟨rfl, ho⟩
  obtain ⟨B, hB⟩ : ∃ B, B = w.heap.size + 1 := ⟨_, rfl⟩
  have hblk := ho.heap (zAB _ (.cells [.int .i64 0, .int .i64 0].toArray 364) (X := B) (by rw [hB]; simp)) id
  have d0 := zAA hblk (i := 0) rfl
  have d1 := zAA hblk (i := 1) rfl
  have f0 := zAC hblk 0
  have f1 := zAC hblk 1
  have ho' := zh ho
  rw [<- hB]
  have hB' := zh hB
  obtain ⟨z, hz⟩ : ∃ z, z = max r.l 0 - 1 := ⟨_, rfl⟩
  rw [<- hz]
  unfold jH
  have hz' := zh hz
  clear hblk ho hB hz
  go_wp2
  refine bodyPost_ret (v := jH 0 z) (by simp [results, Tryz.results289, go_sem, jH, d0, d1]) rfl ⟨by rw [hz'.out]; rfl, ?_⟩
  exact ((((Only.refl (fun _ => False) w).alloc _).alloc _).trans' ho'.out).trans (((Only.refl (fun k => k = B) w').setCell (p := ⟨B, 0, none⟩) (fun _ => rfl) _).setCell (p := ⟨B, 1, none⟩) (fun _ => rfl) _) (fun x hx e => by have := hB'.out; omega)
 ·go_enter Tryz.func289, Tryz.ntmps289
  go_wp2_with fail
  refine (ol.out _).mono ?_
  rintro e w' ⟨rfl, ho⟩
  obtain ⟨B, hB⟩ : ∃ B, B = w.heap.size + 1 := ⟨_, rfl⟩
  have hblk := ho.heap (zAB _ (.cells [.int .i64 0, .int .i64 0].toArray 364) (X := B) (by rw [hB]; simp)) id
  have d0 := zAA hblk (i := 0) rfl
  have d1 := zAA hblk (i := 1) rfl
  have f0 := zAC hblk 0
  have f1 := zAC hblk 1
  have ho' := zh ho
  rw [<- hB]
  have hB' := zh hB
  obtain ⟨z, hz⟩ : ∃ z, z = max r.l 0 - 1 := ⟨_, rfl⟩
  rw [<- hz]
  unfold jH
  have hz' := zh hz
  clear hblk ho hB hz
  go_wp2
  refine bodyPost_ret (v := jH 0 z) (by simp [results, Tryz.results289, go_sem, jH, d0, d1]) rfl ⟨by rw [hz'.out]; rfl, ?_⟩
  exact ((((Only.refl (fun _ => False) w).alloc _).alloc _).trans' ho'.out).trans (((Only.refl (fun k => k = B) w').setCell (p := ⟨B, 0, none⟩) (fun _ => rfl) _).setCell (p := ⟨B, 1, none⟩) (fun _ => rfl) _) (fun x hx e => by have := hB'.out; omega)
 ·go_enter Tryz.func289, Tryz.ntmps289
  go_wp2
  exact bodyPost_ret (v := jH 1 4096) (by simp [results, Tryz.results289, go_sem, jH]) rfl ⟨rfl, ((Only.refl _ w).alloc _).alloc _⟩
 ·go_enter Tryz.func289, Tryz.ntmps289
  go_wp2
  exact bodyPost_ret (v := jH 1 4096) (by simp [results, Tryz.results289, go_sem, jH]) rfl ⟨rfl, ((Only.refl _ w).alloc _).alloc _⟩
 ·go_enter Tryz.func289, Tryz.ntmps289
  go_wp2_with fail
  refine (om.out _).mono ?_
  rintro e w' ⟨rfl, ho⟩
  obtain ⟨B, hB⟩ : ∃ B, B = w.heap.size + 1 := ⟨_, rfl⟩
  have hblk := ho.heap (zAB _ (.cells [.int .i64 0, .int .i64 0].toArray 364) (X := B) (by rw [hB]; simp)) id
  have d0 := zAA hblk (i := 0) rfl
  have d1 := zAA hblk (i := 1) rfl
  have f0 := zAC hblk 0
  have f1 := zAC hblk 1
  have ho' := zh ho
  rw [<- hB]
  have hB' := zh hB
  obtain ⟨z, hz⟩ : ∃ z, z = max r.m 0 - 1 := ⟨_, rfl⟩
  rw [<- hz]
  unfold jH
  have hz' := zh hz
  clear hblk ho hB hz
  go_wp2
  refine bodyPost_ret (v := jH 0 z) (by simp [results, Tryz.results289, go_sem, jH, d0, d1]) rfl ⟨by rw [hz'.out]; rfl, ?_⟩
  exact ((((Only.refl (fun _ => False) w).alloc _).alloc _).trans' ho'.out).trans (((Only.refl (fun k => k = B) w').setCell (p := ⟨B, 0, none⟩) (fun _ => rfl) _).setCell (p := ⟨B, 1, none⟩) (fun _ => rfl) _) (fun x hx e => by have := hB'.out; omega)
 ·go_enter Tryz.func289, Tryz.ntmps289
  go_wp2_with fail
  refine (om.out _).mono ?_
  rintro e w' ⟨rfl, ho⟩
  obtain ⟨B, hB⟩ : ∃ B, B = w.heap.size + 1 := ⟨_, rfl⟩
  have hblk := ho.heap (zAB _ (.cells [.int .i64 0, .int .i64 0].toArray 364) (X := B) (by rw [hB]; simp)) id
  have d0 := zAA hblk (i := 0) rfl
  have d1 := zAA hblk (i := 1) rfl
  have f0 := zAC hblk 0
  have f1 := zAC hblk 1
  have ho' := zh ho
  rw [<- hB]
  have hB' := zh hB
  obtain ⟨z, hz⟩ : ∃ z, z = max r.m 0 - 1 := ⟨_, rfl⟩
  rw [<- hz]
  unfold jH
  have hz' := zh hz
  clear hblk ho hB hz
  go_wp2
  refine bodyPost_ret (v := jH 0 z) (by simp [results, Tryz.results289, go_sem, jH, d0, d1]) rfl ⟨by rw [hz'.out]; rfl, ?_⟩
  exact ((((Only.refl (fun _ => False) w).alloc _).alloc _).trans' ho'.out).trans (((Only.refl (fun k => k = B) w').setCell (p := ⟨B, 0, none⟩) (fun _ => rfl) _).setCell (p := ⟨B, 1, none⟩) (fun _ => rfl) _) (fun x hx e => by have := hB'.out; omega)
 ·go_enter Tryz.func289, Tryz.ntmps289
  go_wp2_with fail
  refine (og.out _).mono ?_
  rintro e w' ⟨rfl, ho⟩
  obtain ⟨B, hB⟩ : ∃ B, B = w.heap.size + 1 := ⟨_, rfl⟩
  have hblk := ho.heap (zAB _ (.cells [.int .i64 0, .int .i64 0].toArray 364) (X := B) (by rw [hB]; simp)) id
  have d0 := zAA hblk (i := 0) rfl
  have d1 := zAA hblk (i := 1) rfl
  have f0 := zAC hblk 0
  have f1 := zAC hblk 1
  have ho' := zh ho
  rw [<- hB]
  have hB' := zh hB
  obtain ⟨z, hz⟩ : ∃ z, z = max r.g 0 - 1 := ⟨_, rfl⟩
  rw [<- hz]
  unfold jH
  have hz' := zh hz
  clear hblk ho hB hz
  go_wp2
  refine bodyPost_ret (v := jH 0 z) (by simp [results, Tryz.results289, go_sem, jH, d0, d1]) rfl ⟨by rw [hz'.out]; rfl, ?_⟩
  exact ((((Only.refl (fun _ => False) w).alloc _).alloc _).trans' ho'.out).trans (((Only.refl (fun k => k = B) w').setCell (p := ⟨B, 0, none⟩) (fun _ => rfl) _).setCell (p := ⟨B, 1, none⟩) (fun _ => rfl) _) (fun x hx e => by have := hB'.out; omega)
 ·go_enter Tryz.func289, Tryz.ntmps289
  go_wp2_with fail
  refine (og.out _).mono ?_
  rintro e w' ⟨rfl, ho⟩
  obtain ⟨B, hB⟩ : ∃ B, B = w.heap.size + 1 := ⟨_, rfl⟩
  have hblk := ho.heap (zAB _ (.cells [.int .i64 0, .int .i64 0].toArray 364) (X := B) (by rw [hB]; simp)) id
  have d0 := zAA hblk (i := 0) rfl
  have d1 := zAA hblk (i := 1) rfl
  have f0 := zAC hblk 0
  have f1 := zAC hblk 1
  have ho' := zh ho
  rw [<- hB]
  have hB' := zh hB
  obtain ⟨z, hz⟩ : ∃ z, z = max r.g 0 - 1 := ⟨_, rfl⟩
  rw [<- hz]
  unfold jH
  have hz' := zh hz
  clear hblk ho hB hz
  go_wp2
  refine bodyPost_ret (v := jH 0 z) (by simp [results, Tryz.results289, go_sem, jH, d0, d1]) rfl ⟨by rw [hz'.out]; rfl, ?_⟩
  exact ((((Only.refl (fun _ => False) w).alloc _).alloc _).trans' ho'.out).trans (((Only.refl (fun k => k = B) w').setCell (p := ⟨B, 0, none⟩) (fun _ => rfl) _).setCell (p := ⟨B, 1, none⟩) (fun _ => rfl) _) (fun x hx e => by have := hB'.out; omega)
 ·go_enter Tryz.func289, Tryz.ntmps289
  go_wp2_with fail
  refine (og.out _).mono ?_
  rintro e w' ⟨rfl, ho⟩
  obtain ⟨B, hB⟩ : ∃ B, B = w.heap.size + 1 := ⟨_, rfl⟩
  have hblk := ho.heap (zAB _ (.cells [.int .i64 0, .int .i64 0].toArray 364) (X := B) (by rw [hB]; simp)) id
  have d0 := zAA hblk (i := 0) rfl
  have d1 := zAA hblk (i := 1) rfl
  have f0 := zAC hblk 0
  have f1 := zAC hblk 1
  have ho' := zh ho
  rw [<- hB]
  have hB' := zh hB
  obtain ⟨z, hz⟩ : ∃ z, z = max r.g 0 - 1 := ⟨_, rfl⟩
  rw [<- hz]
  unfold jH
  have hz' := zh hz
  clear hblk ho hB hz
  go_wp2
  refine bodyPost_ret (v := jH 0 z) (by simp [results, Tryz.results289, go_sem, jH, d0, d1]) rfl ⟨by rw [hz'.out]; rfl, ?_⟩
  exact ((((Only.refl (fun _ => False) w).alloc _).alloc _).trans' ho'.out).trans (((Only.refl (fun k => k = B) w').setCell (p := ⟨B, 0, none⟩) (fun _ => rfl) _).setCell (p := ⟨B, 1, none⟩) (fun _ => rfl) _) (fun x hx e => by have := hB'.out; omega)
 ·go_enter Tryz.func289, Tryz.ntmps289
  go_wp2_with fail
  refine (oc.out _).mono ?_
  rintro e w' ⟨rfl, ho⟩
  obtain ⟨B, hB⟩ : ∃ B, B = w.heap.size + 1 := ⟨_, rfl⟩
  have hblk := ho.heap (zAB _ (.cells [.int .i64 0, .int .i64 0].toArray 364) (X := B) (by rw [hB]; simp)) id
  have d0 := zAA hblk (i := 0) rfl
  have d1 := zAA hblk (i := 1) rfl
  have f0 := zAC hblk 0
  have f1 := zAC hblk 1
  have ho' := zh ho
  rw [<- hB]
  have hB' := zh hB
  obtain ⟨z, hz⟩ : ∃ z, z = max r.c 0 - 1 := ⟨_, rfl⟩
  rw [<- hz]
  unfold jH
  have hz' := zh hz
  clear hblk ho hB hz
  go_wp2
  refine bodyPost_ret (v := jH 0 z) (by simp [results, Tryz.results289, go_sem, jH, d0, d1]) rfl ⟨by rw [hz'.out]; rfl, ?_⟩
  exact ((((Only.refl (fun _ => False) w).alloc _).alloc _).trans' ho'.out).trans (((Only.refl (fun k => k = B) w').setCell (p := ⟨B, 0, none⟩) (fun _ => rfl) _).setCell (p := ⟨B, 1, none⟩) (fun _ => rfl) _) (fun x hx e => by have := hB'.out; omega)
 ·go_enter Tryz.func289, Tryz.ntmps289
  go_wp2_with fail
  refine (oc.out _).mono ?_
  rintro e w' ⟨rfl, ho⟩
  obtain ⟨B, hB⟩ : ∃ B, B = w.heap.size + 1 := ⟨_, rfl⟩
  have hblk := ho.heap (zAB _ (.cells [.int .i64 0, .int .i64 0].toArray 364) (X := B) (by rw [hB]; simp)) id
  have d0 := zAA hblk (i := 0) rfl
  have d1 := zAA hblk (i := 1) rfl
  have f0 := zAC hblk 0
  have f1 := zAC hblk 1
  have ho' := zh ho
  rw [<- hB]
  have hB' := zh hB
  obtain ⟨z, hz⟩ : ∃ z, z = max r.c 0 - 1 := ⟨_, rfl⟩
  rw [<- hz]
  unfold jH
  have hz' := zh hz
  clear hblk ho hB hz
  go_wp2
  refine bodyPost_ret (v := jH 0 z) (by simp [results, Tryz.results289, go_sem, jH, d0, d1]) rfl ⟨by rw [hz'.out]; rfl, ?_⟩
  exact ((((Only.refl (fun _ => False) w).alloc _).alloc _).trans' ho'.out).trans (((Only.refl (fun k => k = B) w').setCell (p := ⟨B, 0, none⟩) (fun _ => rfl) _).setCell (p := ⟨B, 1, none⟩) (fun _ => rfl) _) (fun x hx e => by have := hB'.out; omega)
structure Opn where
 k : Int
 a : Int
 b : Int
def Opn.val (o : Opn) : Value := .agg #[.int .i64 o.k, .int .i64 o.a, .int .i64 o.b]
def Opn.cells (o : Opn) : List Value := [.int .i64 o.k, .int .i64 o.a, .int .i64 o.b]
def opV (k : Nat) (a b : Int) (r : jF) : Int := if inB (loA k) (hiA k r) a = true /\ inB 0 (hiB k) b = true then 0 else 5
def opZ (o : Opn) (r : jF) : Int :=
 if o.k < 1 ∨ 15 < o.k then 1 else opV o.k.toNat o.a o.b r
set_option maxHeartbeats 800000 in
theorem zII {w : World} (hw : Words w) (k : Nat) (h1 : 1 <= k) (h2 : k <= 15) : Calls Tryz.prog 291 #[.int .i64 k] w (GrowV (jH 0 (hiB k)) w) := by
 have hn := zh (fun W (hW : Only (fun _ => False) w W) => zC3 (hw.new hW) (k : Int))
 have hnz := zIH h1 h2
 by_cases h22 : numZ (k : Int) = 2
 ·have hb : hiB k = 255 := by
   rw [hnz] at h22
   have hk : k = 1 ∨ k = 2 ∨ k = 3 ∨ k = 4 ∨ k = 5 ∨ k = 6 ∨ k = 7 ∨ k = 8 ∨ k = 9 ∨ k = 10 ∨ k = 11 ∨ k = 12 ∨ k = 13 ∨ k = 14 ∨ k = 15 := by omega
   rcases hk with rfl | rfl | rfl | rfl | rfl | rfl | rfl | rfl | rfl | rfl | rfl | rfl | rfl | rfl | rfl <;> first | rfl | (exfalso; revert h22; decide)
  rw [hb]
  rw [h22] at hn
  clear hnz hw h1 h2 hb h22
  go_enter Tryz.func291, Tryz.ntmps291
  go_wp2_with (go_at_call 288; refine (hn.out _ ((Only.refl _ w).alloc _)).mono ?_; rintro e w' ⟨rfl, rfl⟩)
  exact bodyPost_ret (v := jH 0 255) (by simp [results, Tryz.results291, go_sem, jH]) rfl ⟨rfl, (Only.refl _ w).alloc _⟩
 ·have hb : hiB k = 0 := by
   rw [hnz] at h22
   have hk : k = 1 ∨ k = 2 ∨ k = 3 ∨ k = 4 ∨ k = 5 ∨ k = 6 ∨ k = 7 ∨ k = 8 ∨ k = 9 ∨ k = 10 ∨ k = 11 ∨ k = 12 ∨ k = 13 ∨ k = 14 ∨ k = 15 := by omega
   rcases hk with rfl | rfl | rfl | rfl | rfl | rfl | rfl | rfl | rfl | rfl | rfl | rfl | rfl | rfl | rfl <;> first | rfl | (exfalso; revert h22; decide)
  rw [hb]
  have hne : (numZ (k : Int) == 2) = false := by simpa using h22
  obtain ⟨z, hz⟩ : ∃ z, z = numZ (k : Int) := ⟨_, rfl⟩
  rw [<- hz] at hn hne
  clear hnz hw h1 h2 hb h22 hz
  go_enter Tryz.func291, Tryz.ntmps291
  go_wp2_with (go_at_call 288; refine (hn.out _ ((Only.refl _ w).alloc _)).mono ?_; rintro e w' ⟨rfl, rfl⟩)
  exact bodyPost_ret (v := jH 0 0) (by simp [results, Tryz.results291, go_sem, jH]) rfl ⟨rfl, (Only.refl _ w).alloc _⟩
set_option maxHeartbeats 800000 in
theorem zQT {w : World} (hw : Words w) (o : Opn) (r : jF) (hk : o.k < 1 ∨ 15 < o.k) : Calls Tryz.prog 248 #[o.val, r.val] w (GrowI 1 w) := by
 have hn := fun W (hW : Only (fun _ => False) w W) => zC3 (hw.new hW) o.k
 rw [show numZ o.k = -1 by unfold numZ; rw [if_pos hk]] at hn
 have hn' := zh hn
 clear hw hk hn
 unfold Opn.val jF.val
 go_enter Tryz.func248, Tryz.ntmps248
 go_wp2_with (go_at_call 288; refine (hn'.out _ (((Only.refl _ w).alloc _).alloc _)).mono ?_; rintro e w' ⟨rfl, rfl⟩)
 go_ret
 exact ⟨rfl, ((Only.refl _ w).alloc _).alloc _⟩
set_option maxHeartbeats 2000000 in
theorem zQU {w : World} (hw : Words w) (a b : Int) (k : Nat) (h1 : 1 <= k) (h2 : k <= 15) (r : jF) (hr : r.ok) : Calls Tryz.prog 248 #[Opn.val ⟨k, a, b⟩, r.val] w (GrowI (opV k a b r) w) := by
 have hn := fun W (hW : Only (fun _ => False) w W) => zC3 (hw.new hW) (k : Int)
 rw [zIH h1 h2] at hn
 obtain ⟨z, hz⟩ : ∃ z, z = vS.getD k 0 := ⟨_, rfl⟩
 rw [<- hz] at hn
 have hz0 : ¬ z < 0 := by
  rw [hz]
  have hk : k = 1 ∨ k = 2 ∨ k = 3 ∨ k = 4 ∨ k = 5 ∨ k = 6 ∨ k = 7 ∨ k = 8 ∨ k = 9 ∨ k = 10 ∨ k = 11 ∨ k = 12 ∨ k = 13 ∨ k = 14 ∨ k = 15 := by omega
  rcases hk with rfl | rfl | rfl | rfl | rfl | rfl | rfl | rfl | rfl | rfl | rfl | rfl | rfl | rfl | rfl <;> decide
 have hn' := zh hn
 have hw' := zh hw
 have hr' := zh hr
 clear hw hr hz hn
 unfold Opn.val
 have hrv : r.val = .agg #[.int .i64 r.m, .int .i64 r.g, .int .i64 r.c, .int .i64 r.l] := rfl
 rw [hrv]
 have jFf := zh hrv
 clear hrv
 go_enter Tryz.func248, Tryz.ntmps248
 go_wp2_with (go_at_call 288; refine (hn'.out _ (((Only.refl _ w).alloc _).alloc _)).mono ?_; rintro e w' ⟨rfl, rfl⟩)
 have hO : Only (fun _ => False) w ((w.alloc (.cells #[.int .i64 k, .int .i64 a, .int .i64 b] 94)).alloc (.cells #[.int .i64 r.m, .int .i64 r.g, .int .i64 r.c, .int .i64 r.l] 300)) := ((Only.refl _ w).alloc _).alloc _
 have b1 : ((w.alloc (.cells #[.int .i64 k, .int .i64 a, .int .i64 b] 94)).alloc (.cells #[.int .i64 r.m, .int .i64 r.g, .int .i64 r.c, .int .i64 r.l] 300)).heap[w.heap.size]? = some (.cells [.int .i64 k, .int .i64 a, .int .i64 b].toArray 94 (0, 0)) := zAF (zAB _ _ rfl) _
 have b2 : ((w.alloc (.cells #[.int .i64 k, .int .i64 a, .int .i64 b] 94)).alloc (.cells #[.int .i64 r.m, .int .i64 r.g, .int .i64 r.c, .int .i64 r.l] 300)).heap[w.heap.size + 1]? = some (.cells [.int .i64 r.m, .int .i64 r.g, .int .i64 r.c, .int .i64 r.l].toArray 300 (0, 0)) := zAB _ _ (by simp)
 generalize World.alloc (World.alloc w _) _ = W0 at *
 have c0 := zAK (zAA b1 (i := 0) rfl)
 have c1 := zAK (zAA b1 (i := 1) rfl)
 have c2 := zAK (zAA b1 (i := 2) rfl)
 have r0 := zAK (zAA b2 (i := 0) rfl)
 have r1 := zAK (zAA b2 (i := 1) rfl)
 have r2 := zAK (zAA b2 (i := 2) rfl)
 have r3 := zAK (zAA b2 (i := 3) rfl)
 have hex := zGA W0
 have hO' := zh hO
 have hfi := zh (fun x : Wd W0 => Calls.wd (x := x) (zKL x.W r hr'.out k h1 h2))
 have hse := zh (fun x : Wd W0 => Calls.wd (x := x) (zII (hw'.out.new (hO.trans' x.ok)) k h1 h2))
 rw [jFf.out] at hfi
 obtain ⟨iA, jB9⟩ : ∃ iA, iA = inB (loA k) (hiA k r) a := ⟨_, rfl⟩
 obtain ⟨iB, jCa⟩ : ∃ iB, iB = inB 0 (hiB k) b := ⟨_, rfl⟩
 have hhA := fun x : Wd W0 => Calls.wd (x := x) (zC2 x.W a (loA k) (hiA k r))
 have hhB := fun x : Wd W0 => Calls.wd (x := x) (zC2 x.W b 0 (hiB k))
 rw [<- jB9] at hhA
 rw [<- jCa] at hhB
 have hAB := zh (And.intro jB9 jCa)
 have jCb := zh hhA
 have jDp := zh hhB
 clear b1 b2 hO hhA hhB jB9 jCa h1 h2
 cases iA with
 | false =>
  refine zAW (by kernel_rfl) (by kernel_rfl) ?_
  repeat (go_big_quiet_step (first | (go_at_call 289; exact hfi.out _) | (go_at_call 290; exact jCb.out _)))
  refine wpQuiet_nil ?_
  rintro _ ⟨x, rfl⟩
  have hx := zh (hO'.out.trans' x.ok)
  go_wp2
  go_ret
  exact ⟨zAI (by unfold opV; rw [<- hAB.out.1, <- hAB.out.2, if_neg (by simp)]), hx.out⟩
 | true =>
  cases iB with
  | false =>
   refine zAW (by kernel_rfl) (by kernel_rfl) ?_
   repeat (go_big_quiet_step (first | (go_at_call 289; exact hfi.out _) | (go_at_call 291; exact hse.out _) | (go_at_call 290; first | (with_reducible exact jCb.out _) | (with_reducible exact jDp.out _))))
   refine wpQuiet_nil ?_
   rintro _ ⟨x, rfl⟩
   have hx := zh (hO'.out.trans' x.ok)
   go_wp2
   go_ret
   exact ⟨zAI (by unfold opV; rw [<- hAB.out.1, <- hAB.out.2, if_neg (by simp)]), hx.out⟩
  | true =>
   refine zAW (by kernel_rfl) (by kernel_rfl) ?_
   repeat (go_big_quiet_step (first | (go_at_call 289; exact hfi.out _) | (go_at_call 291; exact hse.out _) | (go_at_call 290; first | (with_reducible exact jCb.out _) | (with_reducible exact jDp.out _))))
   refine wpQuiet_nil ?_
   rintro _ ⟨x, rfl⟩
   have hx := zh (hO'.out.trans' x.ok)
   go_wp2
   go_ret
   exact ⟨zAI (by unfold opV; rw [<- hAB.out.1, <- hAB.out.2, if_pos (by simp)]), hx.out⟩
theorem zSV {w : World} (hw : Words w) (o : Opn) (r : jF) (hr : r.ok) : Calls Tryz.prog 248 #[o.val, r.val] w (GrowI (opZ o r) w) := by
 obtain ⟨k, a, b⟩ := o
 by_cases hk : k < 1 ∨ 15 < k
 ·have := zQT hw ⟨k, a, b⟩ r hk
  rwa [show opZ ⟨k, a, b⟩ r = 1 by unfold opZ; rw [if_pos hk]]
 ·obtain ⟨n, rfl⟩ : ∃ n : Nat, k = n := ⟨k.toNat, by omega⟩
  have := zQU hw a b n (by omega) (by omega) r hr
  rwa [show opZ ⟨(n : Int), a, b⟩ r = opV n a b r by unfold opZ; rw [if_neg hk]; rfl]
