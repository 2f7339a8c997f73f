import Derived.Test.YtlbdjiiddofkgaaGreatDoorC08
namespace Go.Proofs.YtlbdjiiddofkgaaGreatDoor.Ring
open Go.RowKit
structure Jb where
 t : Int
 n : Int
 r : Int
def Jb.cells (x : Jb) : List Value := [.int .i64 x.t, .int .i64 x.n, .int .i64 x.r]
def Jb.val (x : Jb) : Value := .agg #[.int .i64 x.t, .int .i64 x.n, .int .i64 x.r]
def zjb : Jb := ⟨0, 0, 0⟩
def jB (l : List Jb) : List Value := l.flatMap Jb.cells
theorem zA5 (l : List Jb) : (jB l).length = l.length * 3 := by
 induction l with
 | nil => rfl
 | cons x l ih => simp only [jB, List.flatMap_cons, List.length_append, List.length_cons] at ih ⊢; rw [ih]; simp [Jb.cells]; omega
theorem zCX (a b : List Jb) : jB (a ++ b) = jB a ++ jB b := by simp [jB]
theorem zCC (x : Jb) (l : List Jb) : jB (x :: l) = x.cells ++ jB l := by simp [jB]
theorem zBN (l : List Jb) (i : Nat) (x : Jb) (h : l[i]? = some x) (j : Nat) (hj : j < 3) : (jB l)[i * 3 + j]? = x.cells[j]? := by
 induction l generalizing i with
 | nil => cases h
 | cons y l ih =>
  cases i with
  | zero =>
   cases h
   simp only [jB, List.flatMap_cons]
   rw [List.getElem?_append_left (by simp [Jb.cells]; omega)]
   simp
  | succ i =>
   simp only [jB, List.flatMap_cons]
   rw [List.getElem?_append_right (by simp [Jb.cells]; omega)]
   have := ih i (by simpa using h)
   rw [<- this]
   congr 1
   simp [Jb.cells]
   omega
theorem zDZ (l : List Jb) (k : Nat) : (jB l).take (k * 3) = jB (l.take k) := by
 induction l generalizing k with
 | nil => simp [jB]
 | cons x l ih =>
  cases k with
  | zero => simp [jB]
  | succ k =>
   rw [zCC, List.take_succ_cons, zCC, <- ih k, List.take_append, List.take_of_length_le (by simp [Jb.cells]; omega)]
   congr 2
   simp [Jb.cells]
   omega
theorem zD0 (l : List Jb) (k : Nat) : (jB l).drop (k * 3) = jB (l.drop k) := by
 induction l generalizing k with
 | nil => simp [jB]
 | cons x l ih =>
  cases k with
  | zero => simp
  | succ k =>
   rw [zCC, List.drop_succ_cons, <- ih k, List.drop_append, List.drop_eq_nil_of_le (by simp [Jb.cells]; omega), List.nil_append]
   congr 1
   simp [Jb.cells]
   omega
theorem zT1 (x : Jb) : ∀ u ∈ x.cells, u.oneCell' = true := by
 intro u hu
 simp only [Jb.cells, List.mem_cons, List.mem_nil_iff, or_false] at hu
 rcases hu with rfl | rfl | rfl <;> rfl
theorem zST (l : List Jb) : ∀ u ∈ jB l, u.oneCell' = true := by
 intro u hu
 obtain ⟨x, _, hx⟩ := List.mem_flatMap.1 hu
 exact zT1 x u hx
theorem zEH (l : List Jb) (i : Nat) (y : Jb) (hi : i < l.length) : jB (l.set i y) = jK (jB l) (i * 3) y.cells := by
 apply List.ext_getElem?
 intro k
 have e1 : (jB (l.set i y)).length = l.length * 3 := by rw [zA5, List.length_set]
 have e2 := zA5 l
 by_cases hk : k < l.length * 3
 ·have hk6 : k = k / 3 * 3 + k % 3 := by omega
  have hm : k % 3 < 3 := Nat.mod_lt _ (by omega)
  have hq : k / 3 < l.length := by omega
  have hc : y.cells.length = 3 := rfl
  by_cases hki : k / 3 = i
  ·have h1 : (l.set i y)[k / 3]? = some y := by rw [hki]; exact List.getElem?_set_self hi
   have h2 := zBN _ _ _ h1 (k % 3) hm
   rw [<- hk6] at h2
   rw [h2, show k = i * 3 + k % 3 by omega, zBC _ _ _ _ (by omega) (by omega)]
   congr 1
   omega
  ·have h1 : (l.set i y)[k / 3]? = some l[k / 3] := by rw [List.getElem?_set_ne (by omega)]; exact List.getElem?_eq_getElem hq
   have h2 := zBN _ _ _ h1 (k % 3) hm
   have h3 := zBN l _ _ (List.getElem?_eq_getElem hq) (k % 3) hm
   rw [<- hk6] at h2 h3
   rw [h2, zA1 _ _ _ _ (by omega), h3]
 ·rw [List.getElem?_eq_none (by omega), List.getElem?_eq_none (by rw [zAY]; omega)]
def sv : Option Nat -> Nat -> Value
 | none, _ => .slice none 0 0
 | some g, n => .slice (some ⟨g, 0, none⟩) n n
structure Laid (L : List Jb) (first : Nat) (room : Nat) (q : List Jb) : Prop where
 le : q.length <= L.length
 fits : L.length <= room
 most : room <= 4096
 place : first < L.length ∨ (L = [] /\ first = 0)
 at_ : ∀ i, i < q.length -> L[(first + i) % L.length]? = q[i]?
def RingAt (w : World) (r : Nat) (o : Option Nat) (room : Nat) (q : List Jb) : Prop :=
 ∃ (first : Nat) (L : List Jb),
  w.heap[r]? = some (.cells #[sv o L.length, .int .i64 first, .int .i64 q.length, .int .i64 room] 244 (0, 0)) /\
  (o = none -> L = []) /\ (∀ g, o = some g -> g ≠ r /\ w.heap[g]? = some (.cells (jB L).toArray 178 (0, 0)) /\ 0 < L.length) /\ Laid L first room q
def fp (r : Nat) (o : Option Nat) : Nat -> Prop := fun k => k = r ∨ some k = o
theorem RingAt.cells {w : World} {r : Nat} {o : Option Nat} {room : Nat} {q : List Jb} (h : RingAt w r o room q) :
  ∃ (first : Nat) (L : List Jb), w.cell? ⟨r, 0, none⟩ = some (sv o L.length) /\ w.cell? ⟨r, 1, none⟩ = some (.int .i64 first) /\ w.cell? ⟨r, 2, none⟩ = some (.int .i64 q.length) /\ w.cell? ⟨r, 3, none⟩ = some (.int .i64 room) /\
   w.frozen? ⟨r, 0, none⟩ = false /\ w.frozen? ⟨r, 1, none⟩ = false /\ w.frozen? ⟨r, 2, none⟩ = false /\ w.frozen? ⟨r, 3, none⟩ = false /\
   (o = none -> L = []) /\ (∀ g, o = some g -> g ≠ r /\ w.heap[g]? = some (.cells (jB L).toArray 178 (0, 0)) /\ 0 < L.length) /\ Laid L first room q := by
 obtain ⟨first, L, h, h1, h2, h3⟩ := h
 refine ⟨first, L, ?_, ?_, ?_, ?_, ?_, ?_, ?_, ?_, h1, h2, h3⟩ <;> simp [World.cell?, World.frozen?, h]
theorem RingAt.kept {w w' : World} {S : Nat -> Prop} {r : Nat} {o : Option Nat} {room : Nat} {q : List Jb} (h : RingAt w r o room q) (hw : Only S w w') (hS : ∀ k, fp r o k -> ¬ S k) : RingAt w' r o room q := by
 obtain ⟨first, L, h, h1, h2, h3⟩ := h
 exact ⟨first, L, hw.heap h (hS r (.inl rfl)), h1, fun g hg => ⟨(h2 g hg).1, hw.heap (h2 g hg).2.1 (hS g (.inr hg.symm)), (h2 g hg).2.2⟩, h3⟩
theorem RingAt.new {w w' : World} {r : Nat} {o : Option Nat} {room : Nat} {q : List Jb} (h : RingAt w r o room q) (hw : Only (fun _ => False) w w') : RingAt w' r o room q := h.kept hw (fun _ _ h => h)
theorem RingAt.lt {w : World} {r : Nat} {o : Option Nat} {room : Nat} {q : List Jb} (h : RingAt w r o room q) : ∀ k, fp r o k -> k < w.heap.size := by
 obtain ⟨first, L, h, h1, h2, h3⟩ := h
 rintro k (rfl | hk)
 ·exact zAG h
 ·exact zAG (h2 k hk.symm).2.1
theorem RingAt.bounds {w : World} {r : Nat} {o : Option Nat} {room : Nat} {q : List Jb} (h : RingAt w r o room q) : q.length <= room /\ room <= 4096 := by
 obtain ⟨first, L, h, h1, h2, h3⟩ := h
 exact ⟨Nat.le_trans h3.le h3.fits, h3.most⟩
theorem zQE {k : IntKind} {a b : Int} (h : a = b) : Ending.returned (.int k a) = .returned (.int k b) := by rw [h]
theorem new_ok (n : Nat) (w : World) (h : n <= 4096) :
  Calls Tryz.prog 89 #[.int .i64 n] w fun e w' => e = .returned (.pointer (some ⟨w.heap.size, 0, none⟩)) /\ RingAt w' w.heap.size none n [] /\ Only (fun _ => False) w w' := by
 go_enter Tryz.func89, Tryz.ntmps89
 go_wp2
 go_ret
 refine ⟨rfl, ⟨0, [], ?_, fun _ => rfl, (fun g hg => by cases hg), ⟨by simp, by simp, h, .inr ⟨rfl, rfl⟩, by simp⟩⟩, (Only.refl _ _).alloc _⟩
 rw [heap_alloc_new]
 rfl
theorem len_any {w : World} {r : Nat} {o : Option Nat} {room : Nat} {q : List Jb} (h : RingAt w r o room q) : Calls Tryz.prog 257 #[.pointer (some ⟨r, 0, none⟩)] w fun e w' => e = .returned (.int .i64 q.length) /\ w = w' := by
 obtain ⟨first, L, c0, c1, c2, c3, f0, f1, f2, f3, h1, h2, h3⟩ := h.cells
 clear h1 h2 h c0
 go_enter Tryz.func257, Tryz.ntmps257
 go_wp2
 go_ret
 exact ⟨rfl, rfl⟩
theorem zCM {w : World} {r : Nat} {o : Option Nat} {room : Nat} (h : RingAt w r o room []) : Calls Tryz.prog 214 #[.pointer (some ⟨r, 0, none⟩)] w fun e w' => e = .returned (.tuple #[zjb.val, .bool false]) /\ Only (fun _ => False) w w' := by
 have hl := zh (fun W (hW : Only (fun _ => False) w W) => len_any (h.new hW))
 clear h
 go_enter Tryz.func214, Tryz.ntmps214
 go_wp2_with (go_at_call 257; refine (hl.out _ ((Only.refl (fun _ => False) w).alloc _)).mono ?_; rintro e w' ⟨rfl, rfl⟩)
 exact bodyPost_ret (v := .tuple #[zjb.val, .bool false]) (by simp [results, Tryz.results214, go_sem, zjb, Jb.val]) rfl ⟨rfl, ((Only.refl _ w).alloc _).alloc _⟩
theorem RingAt.slot {w : World} {r : Nat} {o : Option Nat} {room : Nat} {x : Jb} {q : List Jb} (h : RingAt w r o room (x :: q)) :
  ∃ (g first : Nat) (L : List Jb), o = some g /\ w.cell? ⟨r, 0, none⟩ = some (.slice (some ⟨g, 0, none⟩) L.length L.length) /\ w.cell? ⟨r, 1, none⟩ = some (.int .i64 first) /\ w.cell? ⟨g, first * 3, none⟩ = some (.int .i64 x.t) /\ w.cell? ⟨g, first * 3 + 1, none⟩ = some (.int .i64 x.n) /\ w.cell? ⟨g, first * 3 + 2, none⟩ = some (.int .i64 x.r) /\ first < L.length /\ L.length <= 4096 := by
 obtain ⟨first, L, c0, c1, c2, c3, f0, f1, f2, f3, h1, h2, h3⟩ := h.cells
 have hl : 0 < L.length := Nat.lt_of_lt_of_le (by simp) h3.le
 have hf : first < L.length := by
  rcases h3.place with h | ⟨rfl, _⟩
  ·exact h
  ·simp at hl
 cases o with
 | none => rw [h1 rfl] at hl; simp at hl
 | some g =>
  have hx : L[first]? = some x := by
   have := h3.at_ 0 (by simp)
   rw [Nat.add_zero, Nat.mod_eq_of_lt hf] at this
   simpa using this
  have hc := fun j (hj : j < 3) u (hu : x.cells[j]? = some u) => zAA (h2 g rfl).2.1 ((zBN L first x hx j hj).trans hu)
  exact ⟨g, first, L, rfl, c0, c1, hc 0 (by decide) _ rfl, hc 1 (by decide) _ rfl, hc 2 (by decide) _ rfl, hf, Nat.le_trans h3.fits h3.most⟩
set_option maxHeartbeats 400000 in
theorem first_some {w : World} {r : Nat} {o : Option Nat} {room : Nat} {x : Jb} {q : List Jb} (h : RingAt w r o room (x :: q)) : Calls Tryz.prog 214 #[.pointer (some ⟨r, 0, none⟩)] w fun e w' => e = .returned (.tuple #[x.val, .bool true]) /\ Only (fun _ => False) w w' := by
 obtain ⟨g, first, L, rfl, c0, c1, c2, c3, c4, hf, hm⟩ := h.slot
 have hne : (((x :: q).length : Int) == 0) = false := by simp; omega
 have hf' : (first : Int) < (L.length : Int) := by omega
 have hgl := h.lt g (.inr rfl)
 have hrl := h.lt r (.inl rfl)
 obtain ⟨n, hn⟩ : ∃ n, n = (x :: q).length := ⟨_, rfl⟩
 have hc := zh (fun W (hW : Only (fun _ => False) w W) => len_any (h.new hW))
 obtain ⟨N, hN⟩ : ∃ N, N = L.length := ⟨_, rfl⟩
 rw [<- hN] at c0 hf hf' hm
 rw [<- hn] at hne hc
 unfold Jb.val
 clear hn h hN
 go_enter Tryz.func214, Tryz.ntmps214
 go_wp2_with (go_at_call 257; refine (hc.out _ ((Only.refl (fun _ => False) w).alloc _)).mono ?_; rintro e w' ⟨rfl, rfl⟩)
 go_region
 go_wp2
 exact bodyPost_ret (v := .tuple #[.agg #[.int .i64 x.t, .int .i64 x.n, .int .i64 x.r], .bool true]) (by simp [results, Tryz.results214, go_sem]) rfl ⟨rfl, ((Only.refl _ w).alloc _).drew⟩
theorem zBZ {w : World} {r g first n i : Nat} (c0 : w.cell? ⟨r, 0, none⟩ = some (.slice (some ⟨g, 0, none⟩) n n)) (c1 : w.cell? ⟨r, 1, none⟩ = some (.int .i64 first)) (hn : 0 < n) (hm : n <= 4096) (hf : first < n) (hi : i <= 4096) :
  Calls Tryz.prog 295 #[.pointer (some ⟨r, 0, none⟩), .int .i64 i] w fun e w' => e = .returned (.int .i64 (((first + i) % n : Nat) : Int)) /\ ∃ m, w' = w.drewN m := by
 have hw : IntKind.i64.wrap ((first : Int) + (i : Int)) = (first : Int) + (i : Int) := IntWalk.i64_in _ (by omega)
 have hz : ((n : Int) == 0) = false := by simp; omega
 have hz' : ¬ (n : Int) = 0 := by omega
 go_enter Tryz.func295, Tryz.ntmps295
 go_wp2
 go_quiet (fail)
 go_wp2
 go_ret
 exact ⟨zQE (by simp), _, rfl⟩
theorem zFR {α : Type} {L q : List α} {first : Nat} (hf : first < L.length) (hq : q.length <= L.length) (h : ∀ i, i < q.length -> L[(first + i) % L.length]? = q[i]?) :
  (L.drop first).take q.length ++ L.take (q.length - (L.length - first)) = q := by
 apply List.ext_getElem?
 intro i
 by_cases hi : i < q.length
 ·rw [<- h i hi, List.getElem?_append]
  have hl : ((L.drop first).take q.length).length = min q.length (L.length - first) := by simp
  rw [hl]
  by_cases h1 : first + i < L.length
  ·rw [if_pos (by omega), List.getElem?_take, if_pos hi, List.getElem?_drop, Nat.mod_eq_of_lt h1]
  ·rw [if_neg (by omega), List.getElem?_take, if_pos (by omega), show (first + i) % L.length = i - min q.length (L.length - first) by
    rw [Nat.mod_eq_sub_mod (by omega), Nat.mod_eq_of_lt (by omega)]; omega]
 ·rw [List.getElem?_eq_none (by simp; omega), List.getElem?_eq_none (by omega)]
def Lay (h : Nat) (q : List Jb) (D : List Value) (w : World) (e : Ending) (w' : World) : Prop :=
 e = .returned (.tuple #[]) /\ w'.heap[h]? = some (.cells (jB q ++ D.drop (q.length * 3)).toArray 178 (0, 0)) /\ Only (fun k => k = h) w w'
theorem zFS {w : World} {r g h cap : Nat} {room : Nat} {q : List Jb} {D : List Value} (hR : RingAt w r (some g) room q) (hD : w.heap[h]? = some (.cells D.toArray 178 (0, 0))) (hh : h ≠ g /\ h ≠ r) (hl : q.length * 3 <= D.length) (hc : q.length <= cap) (hc' : cap <= 4096) :
  Calls Tryz.prog 315 #[.pointer (some ⟨r, 0, none⟩), .slice (some ⟨h, 0, none⟩) q.length cap] w (Lay h q D w) := by
 obtain ⟨first, L, c0, c1, c2, c3, f0, f1, f2, f3, h1, h2, h3⟩ := hR.cells
 obtain ⟨hgr, hg, kV⟩ := h2 g rfl
 have hf : first < L.length := by
  rcases h3.place with h | ⟨rfl, _⟩
  ·exact h
  ·simp at kV
 have hle := h3.le
 have hm : L.length <= 4096 := Nat.le_trans h3.fits h3.most
 have wA := zFR hf hle h3.at_
 obtain ⟨n, hn⟩ : ∃ n, n = L.length := ⟨_, rfl⟩
 obtain ⟨m, hm'⟩ : ∃ m, m = q.length := ⟨_, rfl⟩
 simp only [sv] at c0
 rw [<- hn] at c0 hf hm hle wA
 rw [<- hm'] at hc hl hle wA ⊢
 obtain ⟨s, hs⟩ : ∃ s, s = Nat.min (n - first) m := ⟨_, rfl⟩
 have hs1 : s <= m := by rw [hs]; exact Nat.min_le_right _ _
 have hs2 : m - (n - first) = m - s := by rw [hs]; show _ = m - min (n - first) m; omega
 rw [hs2] at wA
 obtain ⟨X, hX⟩ : ∃ X, X = jB ((L.drop first).take m) := ⟨_, rfl⟩
 obtain ⟨Y, hY⟩ : ∃ Y, Y = jB (L.take (m - s)) := ⟨_, rfl⟩
 have hXl : X.length = s * 3 := by
  rw [hX, zA5, hs, List.length_take, List.length_drop, <- hn]
  show min m (n - first) * 3 = min (n - first) m * 3
  omega
 have hYl : Y.length = (m - s) * 3 := by rw [hY, zA5, List.length_take, <- hn]; show min (m - s) n * 3 = _; omega
 have hX1 : ∀ v ∈ X, v.oneCell' = true := hX ▸ zST _
 have hY1 : ∀ v ∈ Y, v.oneCell' = true := hY ▸ zST _
 have kX : X ++ Y = jB q := by rw [hX, hY, <- zCX, wA]
 have hend : splice (splice D 0 X) (s * 3) Y = jB q ++ D.drop (m * 3) := by
  have hXs : splice D 0 X = X ++ D.drop (s * 3) := by simp [splice, hXl]
  rw [hXs, <- kX]
  unfold splice
  rw [List.take_append_of_le_length (by omega), List.take_of_length_le (by omega), List.append_assoc]
  congr 2
  rw [hYl, show s * 3 + (m - s) * 3 = m * 3 by omega, List.drop_append, hXl, List.drop_eq_nil_of_le (by omega), List.nil_append, List.drop_drop]
  congr 1
  omega
 have kY : ∀ W : World, W.heap[g]? = some (.cells (jB L).toArray 178 (0, 0)) -> ∀ j v, X[j]? = some v -> W.cell? ((⟨g, first * 3, none⟩ : Addr).add j) = some v := fun W hW => by
  have := zDN hW (first * 3) (m * 3)
  rw [zD0, zDZ] at this
  rw [hX]
  exact this
 have kZ : ∀ W : World, W.heap[g]? = some (.cells (jB L).toArray 178 (0, 0)) -> ∀ j v, Y[j]? = some v -> W.cell? ((⟨g, 0, none⟩ : Addr).add j) = some v := fun W hW => by
  have := zDN hW 0 ((m - s) * 3)
  rw [List.drop_zero, zDZ] at this
  rw [hY]
  exact this
 have hb : (first : Int) <= (n : Int) := by omega
 have hb2 : (s : Int) <= (m : Int) := by omega
 have H := zh (And.intro hs (And.intro hXl (And.intro hYl (And.intro hX1 (And.intro hY1 (And.intro hend (And.intro kY (And.intro kZ (And.intro hD hg)))))))))
 have hlD := zh (And.intro hl (And.intro hle hm'))
 have hh' := zh hh
 have jE6 := zh hgr
 clear hn wA kX hX hY hX1 hY1 hend kY kZ hs hs2 hXl hYl hm' h3 h2 h1 hD hg hR c2 c3 kV hl hh hgr
 go_enter Tryz.func315, Tryz.ntmps315
 go_wp2
 refine zAD 10 (by kernel_rfl) (by kernel_rfl) ?_
 simp only [List.take_succ_cons, List.take_zero, List.drop_succ_cons, List.drop_zero]
 repeat (go_big_quiet_step (fail))
 refine wpQuiet_nil ?_
 rintro _ ⟨nq, rfl⟩
 obtain ⟨hs, hXl, hYl, hX1, hY1, hend, kY, kZ, hD, hg⟩ := H.out
 refine zBK rfl (.tmp 5) (.tmp 14) 242 242 rfl 178 3 s Tryz.underlying242 (by kernel_rfl) (by decide) (some ⟨h, 0, none⟩) (some ⟨g, first * 3, none⟩) m cap (n - first) (n - first) rfl rfl hs h 0 D 178 hD X hXl (fun _ => ⟨rfl, _, rfl, kY _ hg⟩) (by have := hlD.out.1; omega) hX1 ?_
 intro w1 hw1 ho1
 have c0' : w1.cell? ⟨r, 0, none⟩ = some (.slice (some ⟨g, 0, none⟩) n n) := ho1.cell (a := w.drewN nq) c0 (fun e => hh'.out.2 e.symm)
 have hg1 := zh (ho1.heap (a := w.drewN nq) hg (fun e => hh'.out.1 e.symm))
 have jAc := zh ho1
 clear hs hXl hYl hX1 hY1 hend kY kZ hD hg ho1 c0 c1
 by_cases xI : cap = s
 ·subst xI
  go_wp2
  refine zAD 7 (by kernel_rfl) (by kernel_rfl) ?_
  simp only [List.take_succ_cons, List.take_zero, List.drop_succ_cons, List.drop_zero]
  repeat (go_big_quiet_step (fail))
  refine wpQuiet_nil ?_
  rintro _ ⟨nq2, rfl⟩
  obtain ⟨hs, hXl, hYl, hX1, hY1, hend, kY, kZ, hD, hg⟩ := H.out
  refine zBK rfl (.tmp 18) (.tmp 22) 242 242 rfl 178 3 (m - cap) Tryz.underlying242 (by kernel_rfl) (by decide) _ (some ⟨g, 0, none⟩) _ _ n n rfl rfl (by show _ = min n _; omega) h (cap * 3) (splice D 0 X) 178 hw1.out Y hYl (fun h0 => by omega) (by rw [length_splice _ _ _ (by have := hlD.out.1; omega)]; have := hlD.out.1; omega) hY1 ?_
  intro w2 hw2 ho2
  go_wp2
  go_end0
  refine ⟨rfl, ?_, ?_⟩
  ·rw [hw2.out, hend, hlD.out.2.2]
  ·exact ((Only.refl _ w).drewN nq).trans' (jAc.out.trans' (((Only.refl _ w1).drewN nq2).trans' ho2))
 ·have jBy : (s : Int) < (cap : Int) := by omega
  go_wp2
  refine zAD 7 (by kernel_rfl) (by kernel_rfl) ?_
  simp only [List.take_succ_cons, List.take_zero, List.drop_succ_cons, List.drop_zero]
  repeat (go_big_quiet_step (fail))
  refine wpQuiet_nil ?_
  rintro _ ⟨nq2, rfl⟩
  obtain ⟨hs, hXl, hYl, hX1, hY1, hend, kY, kZ, hD, hg⟩ := H.out
  refine zBK rfl (.tmp 18) (.tmp 22) 242 242 rfl 178 3 (m - s) Tryz.underlying242 (by kernel_rfl) (by decide) _ (some ⟨g, 0, none⟩) _ _ n n rfl rfl (by show _ = min n _; omega) h (s * 3) (splice D 0 X) 178 hw1.out Y hYl (fun _ => ⟨rfl, _, rfl, kZ _ hg1.out⟩) (by rw [length_splice _ _ _ (by have := hlD.out.1; omega)]; have := hlD.out.1; omega) hY1 ?_
  intro w2 hw2 ho2
  go_wp2
  go_end0
  refine ⟨rfl, ?_, ?_⟩
  ·rw [hw2.out, hend, hlD.out.2.2]
  ·exact ((Only.refl _ w).drewN nq).trans' (jAc.out.trans' (((Only.refl _ w1).drewN nq2).trans' ho2))
theorem zFT {w : World} {r h cap : Nat} (c0 : w.cell? ⟨r, 0, none⟩ = some (.slice none 0 0)) (c1 : w.cell? ⟨r, 1, none⟩ = some (.int .i64 0)) :
  Calls Tryz.prog 315 #[.pointer (some ⟨r, 0, none⟩), .slice (some ⟨h, 0, none⟩) 0 cap] w fun e w' => e = .returned (.tuple #[]) /\ ∃ n, w' = w.drewN n := by
 go_enter Tryz.func315, Tryz.ntmps315
 go_wp2
 refine zAD 10 (by kernel_rfl) (by kernel_rfl) ?_
 simp only [List.take_succ_cons, List.take_zero, List.drop_succ_cons, List.drop_zero]
 repeat (go_big_quiet_step (fail))
 refine wpQuiet_nil ?_
 rintro _ ⟨nq, rfl⟩
 refine zBD rfl (.tmp 5) (.tmp 14) 242 242 rfl 178 3 Tryz.underlying242 (by kernel_rfl) _ _ _ _ _ _ rfl rfl rfl ?_
 go_wp2
 refine zAD 7 (by kernel_rfl) (by kernel_rfl) ?_
 simp only [List.take_succ_cons, List.take_zero, List.drop_succ_cons, List.drop_zero]
 repeat (go_big_quiet_step (fail))
 refine wpQuiet_nil ?_
 rintro _ ⟨nq2, rfl⟩
 refine zBD rfl (.tmp 18) (.tmp 22) 242 242 rfl 178 3 Tryz.underlying242 (by kernel_rfl) _ _ _ _ _ _ rfl rfl rfl ?_
 go_wp2
 go_end0
 exact ⟨rfl, _, rfl⟩
theorem zNX : (Tryz.prog.info? 178).map (fun i => (i.zero, i.size, i.bytes)) = some (some zjb.val, 3, 24) := by kernel_rfl
theorem zLT (n : Nat) : madeCells zjb.val.cells (n * 3) = (jB (List.replicate n zjb)).toArray := by
 show madeCells #[Value.int .i64 0, Value.int .i64 0, Value.int .i64 0] (n * 3) = _
 unfold madeCells
 apply Array.ext_getElem?
 intro j
 simp only [Array.getElem?_map, Array.getElem?_range, List.getElem?_toArray]
 by_cases h : j < n * 3
 ·rw [if_pos h]
  have hj : j = j / 3 * 3 + j % 3 := by omega
  have hm : j % 3 < 3 := Nat.mod_lt _ (by omega)
  have h1 : (List.replicate n zjb)[j / 3]? = some zjb := by rw [List.getElem?_replicate, if_pos (by omega)]
  have h2 := zBN _ _ _ h1 (j % 3) hm
  rw [<- hj] at h2
  rw [h2]
  have : j % 3 = 0 ∨ j % 3 = 1 ∨ j % 3 = 2 := by omega
  rcases this with h3 | h3 | h3 <;> simp [zjb, Jb.cells, h3]
 ·rw [if_neg h, List.getElem?_eq_none (by rw [zA5, List.length_replicate]; omega)]
  rfl
theorem zF6 (w : World) (n : Nat) (hn : n <= 4096) : (Instr.makeSlice 242 (.int .i64 (n : Int)) (.int .i64 (n : Int))).run Tryz.prog w = .ok (.slice (some ⟨w.heap.size, 0, none⟩) n n) (w.alloc (.cells (jB (List.replicate n zjb)).toArray 178)) := by
 obtain ⟨i, hi, hzz⟩ := Option.map_eq_some_iff.1 zNX
 simp only [Prod.mk.injEq] at hzz
 obtain ⟨hz, hs, hb⟩ := hzz
 have hr := run_make (P := Tryz.prog) w 242 178 i _ Tryz.underlying242 hi hz .i64 .i64 n n (by omega) (Int.le_refl _) (by rw [hb]; omega) (by omega)
 simp only [Int.toNat_natCast, hs] at hr
 rw [hr, zLT]
theorem zB8 {w : World} {ops : Array Oper} {rest : List Oper} {o : Oper} {a : Act} {Q : Exit -> Act -> World -> Prop}
  (hg : o.guard = none) (l c : Operand) (hop : o.op = Op.makeSlice 242 l c) (L C : Int) (n : Nat) (hl : a.eval l = .int .i64 L) (hc : a.eval c = .int .i64 C) (hL : L = (n : Int)) (hC : C = (n : Int)) (hn : n <= 4096)
  (hK : wpList Tryz.prog ops Q rest (a.put o.dst (.slice (some ⟨w.heap.size, 0, none⟩) n n)) (w.alloc (.cells (jB (List.replicate n zjb)).toArray 178))) : wpList Tryz.prog ops Q (o :: rest) a w := by
 refine wpList_plain hg fun K hK' => ?_
 subst hL
 subst hC
 have hrun := zF6 w n hn
 unfold Oper.wp
 simp only [execOp, hop, hl, hc]
 simp [hrun, Result.andThen]
 exact hK' _ _ hK
def Grown (w : World) (r room : Nat) (q : List Jb) (e : Ending) (w' : World) : Prop :=
 e = .returned (.tuple #[]) /\ RingAt w' r (some w.heap.size) room q /\ (∃ n, q.length < n /\ w'.cell? ⟨r, 0, none⟩ = some (.slice (some ⟨w.heap.size, 0, none⟩) n n)) /\ Only (fun k => k = r) w w'
theorem zCB {w W2 : World} {r B k n room first : Nat} {o : Option Nat} {l : Nat} {q : List Jb} (hn : n = q.length) (hB : B = w.heap.size) (hrB : r < B) (hk : n < k) (hk' : k <= room) (hm : room <= 4096)
  (hr : W2.heap[r]? = some (.cells #[sv o l, .int .i64 first, .int .i64 q.length, .int .i64 room] 244 (0, 0))) (hD : W2.heap[B]? = some (.cells (jB q ++ (jB (List.replicate k zjb)).drop (q.length * 3)).toArray 178 (0, 0))) (ho : Only (fun x => x = r) w W2) :
  Grown w r room q (.returned (.tuple #[])) ((W2.setCell ⟨r, 0, none⟩ (.slice (some ⟨B, 0, none⟩) k k)).setCell ⟨r, 1, none⟩ (.int .i64 0)) := by
 subst hB
 subst hn
 have h1 := heap_setCell_same W2 r 0 _ 244 (.slice (some ⟨w.heap.size, 0, none⟩) k k) hr
 have h2 := heap_setCell_same _ r 1 _ 244 (.int .i64 0) h1
 have hL : (q ++ List.replicate (k - q.length) zjb).length = k := by simp; omega
 refine ⟨rfl, ⟨0, q ++ List.replicate (k - q.length) zjb, ?_, (fun h => by cases h), ?_, ?_⟩, ⟨k, hk, ?_⟩, ?_⟩
 ·rw [h2, hL]
  simp [sv]
 ·rintro g hg
  cases hg
  refine ⟨by omega, ?_, by omega⟩
  rw [Below.heap_setCell _ _ _ _ (by show _ ≠ r; omega), Below.heap_setCell _ _ _ _ (by show _ ≠ r; omega), hD]
  rw [zD0, List.drop_replicate, zCX]
 ·refine ⟨by omega, by omega, hm, .inl (by omega), fun i hi => ?_⟩
  rw [hL, Nat.zero_add, Nat.mod_eq_of_lt (by omega), List.getElem?_append_left hi]
 ·simp [World.cell?, h2]
 ·exact (ho.setCell (fun _ => rfl) _).setCell (fun _ => rfl) _
theorem zEC {w : World} {r g room : Nat} {q : List Jb} (hR : RingAt w r (some g) room q) (hc : w.cell? ⟨r, 0, none⟩ = some (.slice (some ⟨g, 0, none⟩) q.length q.length)) (hlt : q.length < room) :
  Calls Tryz.prog 294 #[.pointer (some ⟨r, 0, none⟩)] w (Grown w r room q) := by
 obtain ⟨first, L, c0, c1, c2, c3, f0, f1, f2, f3, h1, h2, h3⟩ := hR.cells
 have hm := h3.most
 obtain ⟨n, hn⟩ : ∃ n, n = q.length := ⟨_, rfl⟩
 rw [<- hn] at hc hlt c2
 clear c0
 have w1 : IntKind.i64.wrap (2 * (n : Int)) = 2 * (n : Int) := IntWalk.i64_in _ (by omega)
 have w2 : IntKind.i64.wrap (2 * (n : Int) + 1) = 2 * (n : Int) + 1 := IntWalk.i64_in _ (by omega)
 obtain ⟨k, hk⟩ : ∃ k : Nat, (if (room : Int) < 2 * (n : Int) + 1 then (room : Int) else 2 * (n : Int) + 1) = (k : Int) := by
  by_cases h : (room : Int) < 2 * (n : Int) + 1
  ·exact ⟨room, by rw [if_pos h]⟩
  ·exact ⟨2 * n + 1, by rw [if_neg h]; omega⟩
 have hk1 : n < k /\ k <= room := by
  by_cases h : (room : Int) < 2 * (n : Int) + 1
  ·rw [if_pos h] at hk; omega
  ·rw [if_neg h] at hk; omega
 obtain ⟨hk2, hk3⟩ := hk1
 obtain ⟨B, hB⟩ : ∃ B, B = w.heap.size := ⟨_, rfl⟩
 have hrB : r < B := hB ▸ hR.lt r (.inl rfl)
 have hgB : g < B := hB ▸ hR.lt g (.inr rfl)
 have hn' := zh hn
 have hR' := zh hR
 have hB' := zh hB
 have h3' := zh h3
 clear hn hR h1 h2 h3 hB
 go_enter Tryz.func294, Tryz.ntmps294
 go_wp2
 refine zAD 12 (by kernel_rfl) (by kernel_rfl) ?_
 simp only [List.take_succ_cons, List.take_zero, List.drop_succ_cons, List.drop_zero]
 repeat (go_big_quiet_step (fail))
 refine wpQuiet_nil ?_
 rintro _ ⟨nq, rfl⟩
 refine zB8 rfl (.tmp 14) (.tmp 14) rfl k k k rfl rfl rfl rfl (by omega) ?_
 have hsz : (w.drewN nq).heap.size = B := hB'.out.symm
 rw [hsz]
 have o0 : Only (fun _ => False) w ((w.drewN nq).alloc (.cells (jB (List.replicate k zjb)).toArray 178)) := ((Only.refl _ w).drewN nq).alloc _
 have hD : ((w.drewN nq).alloc (.cells (jB (List.replicate k zjb)).toArray 178)).heap[B]? = some (.cells (jB (List.replicate k zjb)).toArray 178 (0, 0)) := by rw [<- hsz]; exact heap_alloc_new _ _
 have yH : ((w.drewN nq).alloc (.cells (jB (List.replicate k zjb)).toArray 178)).heap.size = B + 1 := by rw [zAS, hsz]
 generalize ((w.drewN nq).alloc (.cells (jB (List.replicate k zjb)).toArray 178)) = W at o0 hD yH ⊢
 have hRW := hR'.out.kept o0 (fun _ _ h => h)
 have c2W := o0.cell c2 id
 have jAd := zh hRW
 have o0' := zh o0
 have hD' := zh hD
 have hsz' := zh yH
 clear hRW o0 hD yH hsz c1 c2 c3 hc f0 f1 f2 f3 w1 w2 hk
 have hk4 : (n : Int) <= (k : Int) := by omega
 have xJ := zFS (cap := k) jAd.out hD'.out ⟨by omega, by omega⟩ (by rw [zA5, List.length_replicate, <- hn'.out]; omega) (by rw [<- hn'.out]; omega) (by omega)
 rw [<- hn'.out] at xJ
 have yZ := zh xJ
 clear xJ
 go_wp2_with fail
 refine yZ.out.mono ?_
 rintro e W2 ⟨rfl, hD2, ho2⟩
 have hR2 := jAd.out.kept ho2 (by rintro x (rfl | hx) rfl <;> simp_all)
 obtain ⟨wU, L2, hr2, g1, g2, g3⟩ := hR2
 have c0 : W2.cell? ⟨r, 0, none⟩ = some (sv (some g) L2.length) := by simp [World.cell?, hr2]
 have c1 : W2.cell? ⟨r, 1, none⟩ = some (.int .i64 wU) := by simp [World.cell?, hr2]
 have f0 : W2.frozen? ⟨r, 0, none⟩ = false := by simp [World.frozen?, hr2]
 have f1 : W2.frozen? ⟨r, 1, none⟩ = false := by simp [World.frozen?, hr2]
 have zA := zh hr2
 have jBz := zh hD2
 have zB := zh ho2
 have g3' := zh g3
 clear hr2 hD2 ho2 g1 g2 g3 c2W
 go_wp2
 go_end0
 exact zCB hn'.out hB'.out hrB hk2 hk3 hm zA.out jBz.out ((o0'.out.mono (T := fun x => x = r) (fun _ _ h => h.elim)).trans zB.out (fun x hx e => by have := hB'.out; omega))
theorem zED {w : World} {r room : Nat} {q : List Jb} (hR : RingAt w r none room q) (hlt : q.length < room) :
  Calls Tryz.prog 294 #[.pointer (some ⟨r, 0, none⟩)] w (Grown w r room q) := by
 have hrB := hR.lt r (.inl rfl)
 obtain ⟨first, L, hr, h1, h2, h3⟩ := hR
 obtain rfl := h1 rfl
 obtain rfl : q = [] := List.eq_nil_of_length_eq_zero (by have := h3.le; simpa using this)
 obtain rfl : first = 0 := by rcases h3.place with h | h <;> simp_all
 have hm := h3.most
 have c0 : w.cell? ⟨r, 0, none⟩ = some (.slice none 0 0) := by simp [World.cell?, hr, sv]
 have c1 : w.cell? ⟨r, 1, none⟩ = some (.int .i64 0) := by simp [World.cell?, hr]
 have c2 : w.cell? ⟨r, 2, none⟩ = some (.int .i64 0) := by simp [World.cell?, hr]
 have c3 : w.cell? ⟨r, 3, none⟩ = some (.int .i64 room) := by simp [World.cell?, hr]
 have kM : ¬ (room : Int) < 1 := by simp at hlt; omega
 obtain ⟨B, hB⟩ : ∃ B, B = w.heap.size := ⟨_, rfl⟩
 rw [<- hB] at hrB
 have hB' := zh hB
 have hr' := zh hr
 clear h1 h2 h3 hr hB
 go_enter Tryz.func294, Tryz.ntmps294
 go_wp2
 refine zAD 12 (by kernel_rfl) (by kernel_rfl) ?_
 simp only [List.take_succ_cons, List.take_zero, List.drop_succ_cons, List.drop_zero]
 repeat (go_big_quiet_step (fail))
 refine wpQuiet_nil ?_
 rintro _ ⟨nq, rfl⟩
 refine zB8 rfl (.tmp 14) (.tmp 14) rfl 1 1 1 rfl rfl rfl rfl (by omega) ?_
 have hsz : (w.drewN nq).heap.size = B := hB'.out.symm
 rw [hsz]
 have o0 : Only (fun x => x = r) w ((w.drewN nq).alloc (.cells (jB (List.replicate 1 zjb)).toArray 178)) := ((Only.refl _ w).drewN nq).alloc _
 have hD : ((w.drewN nq).alloc (.cells (jB (List.replicate 1 zjb)).toArray 178)).heap[B]? = some (.cells (jB (List.replicate 1 zjb)).toArray 178 (0, 0)) := by rw [<- hsz]; exact heap_alloc_new _ _
 have hr2 : ((w.drewN nq).alloc (.cells (jB (List.replicate 1 zjb)).toArray 178)).heap[r]? = some (.cells #[sv none 0, .int .i64 ((0 : Nat) : Int), .int .i64 (([] : List Jb).length : Int), .int .i64 room] 244 (0, 0)) := zAF hr'.out _
 generalize ((w.drewN nq).alloc (.cells (jB (List.replicate 1 zjb)).toArray 178)) = W at o0 hD hr2 ⊢
 have d0 : W.cell? ⟨r, 0, none⟩ = some (.slice none 0 0) := by simp [World.cell?, hr2, sv]
 have d1 : W.cell? ⟨r, 1, none⟩ = some (.int .i64 0) := by simp [World.cell?, hr2]
 have d2 : W.cell? ⟨r, 2, none⟩ = some (.int .i64 0) := by simp [World.cell?, hr2]
 have f0 : W.frozen? ⟨r, 0, none⟩ = false := by simp [World.frozen?, hr2]
 have f1 : W.frozen? ⟨r, 1, none⟩ = false := by simp [World.frozen?, hr2]
 have o0' := zh o0
 have hD' := zh hD
 have zA := zh hr2
 clear o0 hD hr2 hsz c0 c1 c2 c3 kM
 go_wp2_with fail
 refine (zFT d0 d1).mono ?_
 rintro e _ ⟨rfl, m, rfl⟩
 go_wp2
 go_end0
 exact zCB (n := 0) rfl hB'.out hrB (by omega) (by simp at hlt; omega) hm (W2 := W.drewN m) zA.out hD'.out (o0'.out.drewN m)
