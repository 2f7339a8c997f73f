import Derived.Test.YtlbdjiiddofkgaaGreatDoorC11
namespace Go.Proofs.YtlbdjiiddofkgaaGreatDoor
open Go Go.RowKit Go.Maps Ring Band
section
variable {w w' : World} {B r G bs bm n : Nat} {P nx ring : Nat -> Nat} {o : Nat -> Option Nat} {q : Nat -> List Jb} {m : BitVec 64}
theorem zCM (h : RdAt w B r G bs bm n P nx ring o q m) (hb : Bits n P q m) (hq : ∀ i, i < n -> q i = []) : Calls Tryz.prog 156 #[.pointer (some ⟨r, 0, none⟩)] w fun e w' => e = .returned (.tuple #[zjb.val, .int .i64 0, .bool false]) /\ Only (fun _ => False) w w' := by
 have hh := zh (zD1 (h.new ((Only.refl (fun _ => False) w).alloc (.cells #[.int .i64 0, .int .i64 0, .int .i64 0] 178))) hb hq)
 clear h hb hq
 go_enter Tryz.func156, Tryz.ntmps156
 go_wp2_with fail
 refine hh.out.mono ?_
 rintro e W ⟨rfl, ho⟩
 obtain ⟨A, hA⟩ : ∃ A, A = w.heap.size := ⟨_, rfl⟩
 have hbk : W.heap[A]? = some (.cells zjb.cells.toArray 178 (0, 0)) := ho.heap (zAB w (.cells zjb.cells.toArray 178) hA.symm) id
 have d0 := zAA hbk (i := 0) rfl
 have d1 := zAA hbk (i := 1) rfl
 have d2 := zAA hbk (i := 2) rfl
 have f0 := zAC hbk 0
 have f1 := zAC hbk 1
 have f2 := zAC hbk 2
 have hl := zAG hbk
 simp only [zjb] at d0 d1 d2
 have hO := zh (And.intro (((Only.refl (fun _ => False) w).alloc (.cells #[.int .i64 0, .int .i64 0, .int .i64 0] 178)).trans' ho) hA)
 rw [<- hA]
 clear ho hbk hA
 go_wp2
 refine bodyPost_ret (v := .tuple #[zjb.val, .int .i64 0, .bool false]) (by simp [results, Tryz.results156, go_sem, zjb, Jb.val, d0, d1, d2]) rfl ⟨rfl, ?_⟩
 exact (((hO.out.1.setCell (p := ⟨A, 0, none⟩) (fun h => absurd h (by have := hO.out.2; simp; omega)) _).setCell (p := ⟨A, 1, none⟩) (fun h => absurd h (by have := hO.out.2; simp; omega)) _).setCell (p := ⟨A, 2, none⟩) (fun h => absurd h (by have := hO.out.2; simp; omega)) _)
set_option maxHeartbeats 800000 in
theorem first_some (h : RdAt w B r G bs bm n P nx ring o q m) (hb : Bits n P q m) {t : Nat} (ht : IsTop n P q t) {x : Jb} {l : List Jb} (hx : q t = x :: l) : Calls Tryz.prog 156 #[.pointer (some ⟨r, 0, none⟩)] w fun e w' => e = .returned (.tuple #[x.val, .int .i64 (P t), .bool true]) /\ Only (fun _ => False) w w' := by
 have hh := zh (zD2 (h.new ((Only.refl (fun _ => False) w).alloc (.cells #[.int .i64 0, .int .i64 0, .int .i64 0] 178))) hb ht)
 have h' := zh h
 have ht' := ht.1
 obtain ⟨p, hp⟩ : ∃ p, p = P t := ⟨_, rfl⟩
 rw [<- hp]
 have hp' := zh hp
 have hGl := zh (h.lt G (.inr (.inl rfl))).1
 clear h hb ht hp
 go_enter Tryz.func156, Tryz.ntmps156
 go_wp2_with fail
 refine hh.out.mono ?_
 rintro e W ⟨rfl, ho⟩
 obtain ⟨A, hA⟩ : ∃ A, A = w.heap.size := ⟨_, rfl⟩
 have hO1 := ((Only.refl (fun _ => False) w).alloc (.cells #[.int .i64 0, .int .i64 0, .int .i64 0] 178)).trans' ho
 have hbk : W.heap[A]? = some (.cells zjb.cells.toArray 178 (0, 0)) := ho.heap (zAB w (.cells zjb.cells.toArray 178) hA.symm) id
 have hR := h'.out.new hO1
 obtain ⟨a0, a1, a2, -, hG⟩ := hR.row_cells ht'
 have hf := Ring.first_some (x := x) (q := l) (room := 4) (hx ▸ hR.rings t ht')
 have hf' := zh hf
 have hE := zh (And.intro hO1 (And.intro hbk hA))
 rw [<- hp'.out] at a0
 rw [<- hA]
 clear ho hbk hA hO1 hR hf a1
 go_wp2_with fail
 refine hf'.out.mono ?_
 rintro e W2 ⟨rfl, ho2⟩
 have yL := ho2.heap hE.out.2.1 id
 have a0' := ho2.cell a0 id
 have hA2 : A < W2.heap.size := zAG yL
 have hG2 : G < W2.heap.size := Nat.lt_of_lt_of_le hG ho2.size
 obtain ⟨W3, hW3⟩ : ∃ W3, W3 = W2.alloc (.cells x.cells.toArray 178) := ⟨_, rfl⟩
 have hW : W2.alloc (.cells #[.int .i64 x.t, .int .i64 x.n, .int .i64 x.r] 178) = W3 := hW3.symm
 obtain ⟨A2, yM⟩ : ∃ A2, A2 = W2.heap.size := ⟨_, rfl⟩
 have ho3 : Only (fun _ => False) W2 W3 := by rw [hW3]; exact (Only.refl _ _).alloc _
 have hb3 : W3.heap[A2]? = some (.cells x.cells.toArray 178 (0, 0)) := by rw [hW3]; exact zAB _ _ yM.symm
 have wW := ho3.heap yL id
 have a3 := ho3.cell a0' id
 have d0 := zAA wW (i := 0) rfl
 have d1 := zAA wW (i := 1) rfl
 have d2 := zAA wW (i := 2) rfl
 have f0 := zAC wW 0
 have f1 := zAC wW 1
 have f2 := zAC wW 2
 have p0 := zAA hb3 (i := 0) rfl
 have p1 := zAA hb3 (i := 1) rfl
 have p2 := zAA hb3 (i := 2) rfl
 have l0 := zAG wW
 have l1 := zAG hb3
 have l2 : G < W3.heap.size := Nat.lt_of_lt_of_le hG2 ho3.size
 have hne : A2 ≠ A := by omega
 have hAG : A ≠ G := by have := hGl.out; have := hE.out.2.2; omega
 have hGA : G ≠ A := fun e => hAG e.symm
 simp only [zjb] at d0 d1 d2
 have hO := zh (And.intro (hE.out.1.trans' (ho2.trans' ho3)) hE.out.2.2)
 clear hE ho2 ho3 yL wW hb3 a0 a0' a2 hA2 hG2 hG hW3 hf' hh
 unfold Jb.val
 go_wp2
 rw [<- yM]
 clear yM hW
 go_region
 all_goals
  go_wp2
  refine bodyPost_ret (v := .tuple #[.agg #[.int .i64 x.t, .int .i64 x.n, .int .i64 x.r], .int .i64 p, .bool true]) (by simp [results, Tryz.results156, go_sem, d0, d1, d2]) rfl ⟨rfl, ?_⟩
  exact (((hO.out.1.setCell (p := ⟨A, 0, none⟩) (fun h => absurd h (by have := hO.out.2; simp; omega)) _).setCell (p := ⟨A, 1, none⟩) (fun h => absurd h (by have := hO.out.2; simp; omega)) _).setCell (p := ⟨A, 2, none⟩) (fun h => absurd h (by have := hO.out.2; simp; omega)) _).drew
end
theorem zCE {w : World} {b k : Nat} {o : Option Nat} {room : Nat} {q : List Jb} (h : RingAt w b o room q) (hk : fp b o k) : ∃ c t, w.heap[k]? = some (.cells c t (0, 0)) /\ (t = 244 ∨ t = 178) := by
 obtain ⟨first, L, h1, h2, h3, h4⟩ := h
 rcases hk with rfl | hk
 ·exact ⟨_, _, h1, .inl rfl⟩
 ·exact ⟨_, _, (h3 k hk.symm).2.1, .inr rfl⟩
section
variable {w w' : World} {B r G bs bm n : Nat} {P nx ring : Nat -> Nat} {o : Nat -> Option Nat} {q : Nat -> List Jb} {m : BitVec 64}
theorem RdAt.apartOf (h : RdAt w B r G bs bm n P nx ring o q m) {i : Nat} (hi : i < n) {k : Nat} (hk : fp (ring i) (o i) k) : k ≠ r /\ k ≠ G /\ k ≠ bs /\ k ≠ bm := by
 obtain ⟨c, t, h1, h2⟩ := zCE (h.rings i hi) hk
 obtain ⟨es, cl, hb⟩ := h.map.block
 refine ⟨zBH h1 h.root ?_, zBH h1 h.rows ?_, zBH h1 h.band ?_, zDE h1 hb⟩ <;> rcases h2 with rfl | rfl <;> decide
theorem RdAt.others (h : RdAt w B r G bs bm n P nx ring o q m) : r ≠ G /\ r ≠ bs /\ r ≠ bm /\ G ≠ bs /\ G ≠ bm /\ bs ≠ bm := by
 obtain ⟨es, cl, hb⟩ := h.map.block
 exact ⟨zBH h.root h.rows (by decide), zBH h.root h.band (by decide), zDE h.root hb, zBH h.rows h.band (by decide), zDE h.rows hb, zDE h.band hb⟩
theorem RdAt.ringStep {i : Nat} {o' : Option Nat} {q' : List Jb} (h : RdAt w B r G bs bm n P nx ring o q m) (hi : i < n) (hR : RingAt w' (ring i) o' 4 q') (hoo : o' = o i ∨ ∃ g, o' = some g /\ w.heap.size <= g) (hw : Only (fp (ring i) (o i)) w w') :
  RdAt w' B r G bs bm n P nx ring (upd o i o') (upd q i q') m := by
 have hlt := h.lt
 have hB : B <= w.heap.size := by have := hlt r (.inl rfl); omega
 have hfp : ∀ k, fp (ring i) o' k -> fp (ring i) (o i) k ∨ w.heap.size <= k := by
  rintro k (rfl | hk)
  ·exact .inl (.inl rfl)
  ·rcases hoo with rfl | ⟨g, rfl, hg⟩
   ·exact .inl (.inr hk)
   ·cases hk; exact .inr hg
 have hne : ∀ j, j < n -> j ≠ i -> ∀ k, fp (ring i) o' k -> ¬ fp (ring j) (o j) k := fun j hj hji k hk hk' => by
  rcases hfp k hk with h1 | h1
  ·exact h.apart i j hi hj (fun e => hji e.symm) k h1 hk'
  ·have := (hlt _ (.inr (.inr (.inr (.inr ⟨j, hj, hk'⟩))))).1
   omega
 refine ⟨hw.heap h.root (fun hk => (h.apartOf hi hk).1 rfl), hw.heap h.rows (fun hk => (h.apartOf hi hk).2.1 rfl), h.band.kept hw (fun hk => (h.apartOf hi hk).2.2.1 rfl), h.map.kept hw (fun hk => (h.apartOf hi hk).2.2.2 rfl), fun j hj => ?_, fun j l hj hl hjl k => ?_, fun j hj k hk => ?_, h.base, h.pr, h.inj⟩
 ·by_cases hji : j = i
  ·subst hji
   rw [upd_self, upd_self]
   exact hR
  ·rw [upd_ne _ _ hji, upd_ne _ _ hji]
   exact (h.rings j hj).kept hw (fun k hk hk' => h.apart i j hi hj (fun e => hji e.symm) k hk' hk)
 ·by_cases hji : j = i
  ·subst hji
   rw [upd_self, upd_ne _ _ (fun e => hjl e.symm)]
   exact hne l hl (fun e => hjl e.symm) k
  ·rw [upd_ne _ _ hji]
   by_cases hli : l = i
   ·subst hli
    rw [upd_self]
    exact fun h1 h2 => hne j hj hji k h2 h1
   ·rw [upd_ne _ _ hli]
    exact h.apart j l hj hl hjl k
 ·by_cases hji : j = i
  ·subst hji
   rw [upd_self] at hk
   rcases hfp k hk with h1 | h1
   ·exact h.own j hj k h1
   ·omega
  ·rw [upd_ne _ _ hji] at hk
   exact h.own j hj k hk
theorem RdAt.bandStep {m' : BitVec 64} (h : RdAt w B r G bs bm n P nx ring o q m) (hb : BandAt w' bs m') (hw : Only (fun k => k = bs) w w') : RdAt w' B r G bs bm n P nx ring o q m' := by
 obtain ⟨n1, n2, n3, n4, n5, n6⟩ := h.others
 exact ⟨hw.heap h.root n2, hw.heap h.rows n4, hb, h.map.kept hw (fun e => n6 e.symm), fun i hi => (h.rings i hi).kept hw (fun k hk e => (h.apartOf hi hk).2.2.1 e), h.apart, h.own, h.base, h.pr, h.inj⟩
theorem RdAt.next (h : RdAt w B r G bs bm n P nx ring o q m) {i : Nat} (x : Nat) : RdAt (w.setCell ⟨G, i * 3 + 1, none⟩ (.int .i64 (x : Int))) B r G bs bm n P (upd nx i x) ring o q m := by
 obtain ⟨n1, n2, n3, n4, n5, n6⟩ := h.others
 have hw : Only (fun k => k = G) w (w.setCell ⟨G, i * 3 + 1, none⟩ (.int .i64 (x : Int))) := (Only.refl (fun k => k = G) w).setCell (p := ⟨G, i * 3 + 1, none⟩) (fun _ => rfl) _
 refine ⟨hw.heap h.root n1, ?_, h.band.kept hw (fun e => n4 e.symm), h.map.kept hw (fun e => n5 e.symm), fun i hi => (h.rings i hi).kept hw (fun k hk e => (h.apartOf hi hk).2.1 e), h.apart, h.own, h.base, h.pr, h.inj⟩
 rw [<- zQS, <- zD6 _ (by decide)]
 exact zAE h.rows _ _
theorem Bits.fill {i : Nat} {q' : List Jb} (h : Bits n P q m) (hi : i < n) (hp : P i < 64) (hq : q' ≠ []) : Bits n P (upd q i q') (m ||| bit (P i)) := by
 intro p hp'
 rw [BitVec.getLsbD_or, bit, BitVec.getLsbD_twoPow, Bool.or_eq_true, h p hp']
 constructor
 ·rintro (⟨j, hj, hpj, hqj⟩ | hb)
  ·by_cases hji : j = i
   ·subst hji
    exact ⟨j, hj, hpj, by rw [upd_self]; exact hq⟩
   ·exact ⟨j, hj, hpj, by rw [upd_ne _ _ hji]; exact hqj⟩
  ·simp at hb
   exact ⟨i, hi, hb.2, by rw [upd_self]; exact hq⟩
 ·rintro ⟨j, hj, hpj, hqj⟩
  by_cases hji : j = i
  ·subst hji
   right
   simp [hpj, hp']
  ·rw [upd_ne _ _ hji] at hqj
   exact .inl ⟨j, hj, hpj, hqj⟩
theorem Bits.same {i : Nat} {q' : List Jb} (h : Bits n P q m) (hq0 : q i ≠ []) (hq : q' ≠ []) : Bits n P (upd q i q') m := by
 intro p hp'
 rw [h p hp']
 constructor
 ·rintro ⟨j, hj, hpj, hqj⟩
  by_cases hji : j = i
  ·subst hji
   exact ⟨j, hj, hpj, by rw [upd_self]; exact hq⟩
  ·exact ⟨j, hj, hpj, by rw [upd_ne _ _ hji]; exact hqj⟩
 ·rintro ⟨j, hj, hpj, hqj⟩
  by_cases hji : j = i
  ·subst hji
   exact ⟨j, hj, hpj, hq0⟩
  ·rw [upd_ne _ _ hji] at hqj
   exact ⟨j, hj, hpj, hqj⟩
theorem Bits.empty {i : Nat} (h : Bits n P q m) (hi : i < n) (inj : ∀ i j, i < n -> j < n -> P i = P j -> i = j) : Bits n P (upd q i []) (m &&& ~~~ bit (P i)) := by
 intro p hp'
 rw [BitVec.getLsbD_and, BitVec.getLsbD_not, bit, BitVec.getLsbD_twoPow, Bool.and_eq_true, h p hp']
 constructor
 ·rintro ⟨⟨j, hj, hpj, hqj⟩, hb⟩
  have hji : j ≠ i := by
   rintro rfl
   simp [hpj, hp'] at hb
  exact ⟨j, hj, hpj, by rw [upd_ne _ _ hji]; exact hqj⟩
 ·rintro ⟨j, hj, hpj, hqj⟩
  have hji : j ≠ i := by
   rintro rfl
   rw [upd_self] at hqj
   exact hqj rfl
  rw [upd_ne _ _ hji] at hqj
  refine ⟨⟨j, hj, hpj, hqj⟩, ?_⟩
  have hne : P i ≠ p := fun e => hji (inj j i hj hi (hpj.trans e.symm))
  simp [hp', hne]
end
theorem zKK {S : Nat -> Prop} {w0 W : World} {A : Nat} (h : Only S w0 W) (hA : w0.heap.size <= A) (a b c : Value) : Only S w0 (((W.setCell ⟨A, 0, none⟩ a).setCell ⟨A, 1, none⟩ b).setCell ⟨A, 2, none⟩ c) :=
 ((h.setCell (p := ⟨A, 0, none⟩) (fun h => absurd h (by simp; omega)) a).setCell (p := ⟨A, 1, none⟩) (fun h => absurd h (by simp; omega)) b).setCell (p := ⟨A, 2, none⟩) (fun h => absurd h (by simp; omega)) c
theorem zBM {W : World} (A : Nat) (a b c : Value) : Only (fun k => k = A) W (((W.setCell ⟨A, 0, none⟩ a).setCell ⟨A, 1, none⟩ b).setCell ⟨A, 2, none⟩ c) :=
 (((Only.refl (fun k => k = A) W).setCell (p := ⟨A, 0, none⟩) (fun _ => rfl) a).setCell (p := ⟨A, 1, none⟩) (fun _ => rfl) b).setCell (p := ⟨A, 2, none⟩) (fun _ => rfl) c
section
variable {w w' : World} {B r G bs bm n : Nat} {P nx ring : Nat -> Nat} {o : Nat -> Option Nat} {q : Nat -> List Jb} {m : BitVec 64}
theorem take_none (h : RdAt w B r G bs bm n P nx ring o q m) (hb : Bits n P q m) (hq : ∀ i, i < n -> q i = []) : Calls Tryz.prog 215 #[.pointer (some ⟨r, 0, none⟩)] w fun e w' => e = .returned (.tuple #[zjb.val, .bool false]) /\ Only (fun _ => False) w w' := by
 have hh := zh (zD1 (h.new ((Only.refl (fun _ => False) w).alloc (.cells #[.int .i64 0, .int .i64 0, .int .i64 0] 178))) hb hq)
 clear h hb hq
 go_enter Tryz.func215, Tryz.ntmps215
 go_wp2_with fail
 refine hh.out.mono ?_
 rintro e W ⟨rfl, ho⟩
 obtain ⟨A, hA⟩ : ∃ A, A = w.heap.size := ⟨_, rfl⟩
 have hbk : W.heap[A]? = some (.cells zjb.cells.toArray 178 (0, 0)) := ho.heap (zAB w (.cells zjb.cells.toArray 178) hA.symm) id
 have d0 := zAA hbk (i := 0) rfl
 have d1 := zAA hbk (i := 1) rfl
 have d2 := zAA hbk (i := 2) rfl
 have f0 := zAC hbk 0
 have f1 := zAC hbk 1
 have f2 := zAC hbk 2
 have hl := zAG hbk
 simp only [zjb] at d0 d1 d2
 have hO := zh (And.intro (((Only.refl (fun _ => False) w).alloc (.cells #[.int .i64 0, .int .i64 0, .int .i64 0] 178)).trans' ho) hA)
 rw [<- hA]
 clear ho hbk hA
 go_wp2
 exact bodyPost_ret (v := .tuple #[zjb.val, .bool false]) (by simp [results, Tryz.results215, go_sem, zjb, Jb.val, d0, d1, d2]) rfl ⟨rfl, zKK hO.out.1 (Nat.le_of_eq hO.out.2.symm) _ _ _⟩
def RTakeEnd (w : World) (B r G bs bm n : Nat) (P nx ring : Nat -> Nat) (o : Nat -> Option Nat) (q : Nat -> List Jb) (x : Jb) (e : Ending) (w' : World) : Prop :=
 e = .returned (.tuple #[x.val, .bool true]) /\ ∃ m', RdAt w' B r G bs bm n P nx ring o q m' /\ Bits n P q m' /\ Only (rfp r G bs bm n ring o) w w'
set_option maxHeartbeats 1600000 in
theorem take_some (h : RdAt w B r G bs bm n P nx ring o q m) (hb : Bits n P q m) {t : Nat} (ht : IsTop n P q t) {x : Jb} {l : List Jb} (hx : q t = x :: l) : Calls Tryz.prog 215 #[.pointer (some ⟨r, 0, none⟩)] w (RTakeEnd w B r G bs bm n P nx ring o (upd q t l) x) := by
 have hh := zh (zD2 (h.new ((Only.refl (fun _ => False) w).alloc (.cells #[.int .i64 0, .int .i64 0, .int .i64 0] 178))) hb ht)
 have h' := zh h
 have hb' := zh hb
 have ht' := ht.1
 have hpt := h.pr t ht'
 have hrl := zh (fun k hk => (h.lt k hk).1)
 obtain ⟨H, hH⟩ : ∃ H : Ending -> World -> Prop, H = RTakeEnd w B r G bs bm n P nx ring o (upd q t l) x := ⟨_, rfl⟩
 rw [<- hH]
 have hH' := zh hH
 clear h hb ht hH
 go_enter Tryz.func215, Tryz.ntmps215
 go_wp2_with fail
 refine hh.out.mono ?_
 rintro e W ⟨rfl, ho⟩
 obtain ⟨A, hA⟩ : ∃ A, A = w.heap.size := ⟨_, rfl⟩
 have hO1 := ((Only.refl (fun _ => False) w).alloc (.cells #[.int .i64 0, .int .i64 0, .int .i64 0] 178)).trans' ho
 have hbk : W.heap[A]? = some (.cells zjb.cells.toArray 178 (0, 0)) := ho.heap (zAB w (.cells zjb.cells.toArray 178) hA.symm) id
 have hR := h'.out.new hO1
 obtain ⟨a0, a1, a2, -, hG⟩ := hR.row_cells ht'
 have hf := Ring.take_some (x := x) (q := l) (room := 4) (hx ▸ hR.rings t ht')
 have hf' := zh hf
 have hE := zh (And.intro hO1 (And.intro hbk (And.intro hA hR)))
 rw [<- hA]
 clear ho hbk hA hO1 hR hf a1 a0
 go_wp2_with fail
 refine hf'.out.mono ?_
 rintro e W2 ⟨rfl, hR2, ho2⟩
 obtain ⟨hO1, hbk, hA, hR⟩ := hE.out
 have hAr : ∀ k, rfp r G bs bm n ring o k -> k < A := fun k hk => by have := hrl.out k hk; omega
 have yL := ho2.heap hbk (fun hf => by have := hAr A (.inr (.inr (.inr (.inr ⟨t, ht', hf⟩)))); omega)
 have hS2 := hR.ringStep ht' hR2 (.inl rfl) ho2
 rw [upd_same] at hS2
 have hO2 : Only (rfp r G bs bm n ring o) w W2 := (hO1.mono (T := rfp r G bs bm n ring o) (fun _ _ h => h.elim)).trans ho2 (fun k _ hk => .inr (.inr (.inr (.inr ⟨t, ht', hk⟩))))
 obtain ⟨W3, hW3⟩ : ∃ W3, W3 = W2.alloc (.cells x.cells.toArray 178) := ⟨_, rfl⟩
 have hW : W2.alloc (.cells #[.int .i64 x.t, .int .i64 x.n, .int .i64 x.r] 178) = W3 := hW3.symm
 obtain ⟨A2, yM⟩ : ∃ A2, A2 = W2.heap.size := ⟨_, rfl⟩
 have ho3 : Only (fun _ => False) W2 W3 := by rw [hW3]; exact (Only.refl _ _).alloc _
 have hb3 : W3.heap[A2]? = some (.cells x.cells.toArray 178 (0, 0)) := by rw [hW3]; exact zAB _ _ yM.symm
 have wW := ho3.heap yL id
 have hS3 := hS2.new ho3
 have hO3 := hO2.trans ho3 (fun _ _ h => h.elim)
 obtain ⟨b0, b1, b2, -, hG3⟩ := hS3.row_cells ht'
 obtain ⟨c0, c1, c2, hr3⟩ := hS3.root_cells
 have hlen := Ring.len_any (hS3.rings t ht')
 rw [upd_self] at hlen
 have hlen' := zh hlen
 have hAA : A2 ≠ A := by have := zAG yL; omega
 have jE := zh (show ∀ W4 m', RdAt W4 B r G bs bm n P nx ring o (upd q t l) m' -> Bits n P (upd q t l) m' -> Only (fun k => k = bs) W3 W4 -> (W4.heap[A]? = some (.cells zjb.cells.toArray 178 (0, 0)) /\ W4.heap[A2]? = some (.cells x.cells.toArray 178 (0, 0))) /\
   ∀ W5, Only (fun k => k = A) W4 W5 -> H (.returned (.tuple #[x.val, .bool true])) W5 from fun W4 m' hS4 hB4 ho4 => by
  have jIj : bs < A := hAr bs (.inr (.inr (.inl rfl)))
  have e1 : A < W2.heap.size := zAG yL
  refine ⟨⟨ho4.heap wW (by omega), ho4.heap hb3 (by omega)⟩, fun W5 ho5 => ?_⟩
  rw [hH'.out]
  refine ⟨rfl, m', hS4.kept ho5 (fun k hk e => by have := hAr k hk; omega), hB4, ((hO3.trans ho4 (fun k _ e => .inr (.inr (.inl e)))).trans ho5 (fun k hk e => by omega))⟩)
 have zI := zh hS3.band
 have jBi := zh hS3
 clear hE hO1 hbk hA hR hR2 ho2 yL hS2 hO2 wW hb3 hO3 hlen hS3 ho3 hW3 hf' hh hrl hAr a2 hG
 unfold Jb.val
 cases l with
 | nil =>
  have wB := zh (fun k => Band.drop_any (w := W3.drewN k) (zI.out.new ((Only.refl _ W3).drewN k)) (P t) hpt)
  obtain ⟨p, hp⟩ : ∃ p, p = P t := ⟨_, rfl⟩
  rw [<- hp] at wB b0
  have hp' := zh hp
  clear hp
  go_wp2_with (go_at_call 257; refine hlen'.out.mono ?_; rintro e w' ⟨rfl, rfl⟩)
  rw [<- yM]
  clear yM hW
  refine zAD 8 (by kernel_rfl) (by kernel_rfl) ?_
  simp only [List.take_succ_cons, List.take_zero, List.drop_succ_cons, List.drop_zero]
  repeat (go_big_quiet_step (fail))
  refine wpQuiet_nil ?_
  rintro _ ⟨nq, rfl⟩
  go_wp2_with fail
  refine (wB.out _).mono ?_
  rintro e W4 ⟨rfl, hB4, hO4⟩
  rw [hp'.out] at hB4
  have hS4 := (jBi.out.new ((Only.refl _ W3).drewN nq)).bandStep hB4 hO4
  have wR := ((Only.refl (fun k => k = bs) W3).drewN nq).trans' hO4
  obtain ⟨⟨e0, e2⟩, vE⟩ := jE.out W4 _ hS4 (hb'.out.empty ht' hS4.inj) wR
  have vN := zh vE
  have d0 := zAA e0 (i := 0) rfl
  have d1 := zAA e0 (i := 1) rfl
  have d2 := zAA e0 (i := 2) rfl
  have f0 := zAC e0 0
  have f1 := zAC e0 1
  have f2 := zAC e0 2
  have p0 := zAA e2 (i := 0) rfl
  have p1 := zAA e2 (i := 1) rfl
  have p2 := zAA e2 (i := 2) rfl
  have l0 := zAG e0
  have l1 := zAG e2
  simp only [zjb] at d0 d1 d2
  clear vE wR hS4 hB4 hO4 e0 e2 jBi jE wB hlen' zI b0 b1 b2 c0 c1 c2 hr3 hG3 h'
  go_wp2
  exact bodyPost_ret (v := .tuple #[.agg #[.int .i64 x.t, .int .i64 x.n, .int .i64 x.r], .bool true]) (by simp [results, Tryz.results215, go_sem, d0, d1, d2]) rfl (vN.out _ (zBM A _ _ _))
 | cons y l =>
  have hne : (((y :: l).length : Int) == 0) = false := by simp; omega
  obtain ⟨L, hL⟩ : ∃ L, L = (y :: l).length := ⟨_, rfl⟩
  rw [<- hL] at hne hlen'
  obtain ⟨⟨e0, e2⟩, vE⟩ := jE.out W3 m jBi.out (hb'.out.same (by rw [hx]; simp) (by simp)) (Only.refl _ _)
  have vN := zh vE
  have d0 := zAA e0 (i := 0) rfl
  have d1 := zAA e0 (i := 1) rfl
  have d2 := zAA e0 (i := 2) rfl
  have f0 := zAC e0 0
  have f1 := zAC e0 1
  have f2 := zAC e0 2
  have p0 := zAA e2 (i := 0) rfl
  have p1 := zAA e2 (i := 1) rfl
  have p2 := zAA e2 (i := 2) rfl
  have l0 := zAG e0
  have l1 := zAG e2
  simp only [zjb] at d0 d1 d2
  clear vE e0 e2 jBi jE zI b0 b1 c0 c1 c2 hr3 h' hL hx
  subst yM
  go_wp2_with (go_at_call 257; refine hlen'.out.mono ?_; rintro e w' ⟨rfl, rfl⟩)
  exact bodyPost_ret (v := .tuple #[.agg #[.int .i64 x.t, .int .i64 x.n, .int .i64 x.r], .bool true]) (by simp [results, Tryz.results215, go_sem, d0, d1, d2]) rfl (vN.out _ (zBM A _ _ _))
end
section
variable {w w' : World} {B r G bs bm n : Nat} {P nx ring : Nat -> Nat} {o : Nat -> Option Nat} {q : Nat -> List Jb} {m : BitVec 64}
def RelEnd (w : World) (B r G bs bm n : Nat) (P nx ring : Nat -> Nat) (o : Nat -> Option Nat) (q' : Nat -> List Jb) (x : Jb) (code : Int) (e : Ending) (w' : World) : Prop :=
 e = .returned (.tuple #[x.val, .int .i64 code]) /\ ∃ o' m', RdAt w' B r G bs bm n P nx ring o' q' m' /\ Bits n P q' m' /\ Only (rfp r G bs bm n ring o) w w' /\ ∀ k, rfp r G bs bm n ring o' k -> rfp r G bs bm n ring o k ∨ w.heap.size <= k
set_option maxHeartbeats 1600000 in
theorem release_any (h : RdAt w B r G bs bm n P nx ring o q m) (hb : Bits n P q m) {t : Nat} (ht : t < n) (hnx : nx t <= 1000000) (a : Int) :
  Calls Tryz.prog 209 #[.pointer (some ⟨r, 0, none⟩), .int .i64 t, .int .i64 a] w (if (q t).length < 4 then RelEnd w B r G bs bm n P (upd nx t (nx t + 1)) ring o (upd q t (q t ++ [⟨t, nx t, a⟩])) ⟨t, nx t, a⟩ 0 else RelEnd w B r G bs bm n P (upd nx t (nx t + 1)) ring o q ⟨t, nx t, a⟩ 7) := by
 obtain ⟨A, hA⟩ : ∃ A, A = w.heap.size := ⟨_, rfl⟩
 obtain ⟨N, hN⟩ : ∃ N, N = nx t := ⟨_, rfl⟩
 obtain ⟨W1, hW1⟩ : ∃ W1, W1 = w.alloc (.cells #[.int .i64 0, .int .i64 0, .int .i64 0] 178) := ⟨_, rfl⟩
 obtain ⟨W2, hW2⟩ : ∃ W2, W2 = W1.alloc (.cells #[.int .i64 t, .int .i64 N, .int .i64 a] 178) := ⟨_, rfl⟩
 have ho1 : Only (fun _ => False) w W1 := by rw [hW1]; exact (Only.refl _ w).alloc _
 have ho2 : Only (fun _ => False) w W2 := by rw [hW2]; exact ho1.alloc _
 have hs1 : W1.heap.size = A + 1 := by rw [hW1, hA]; simp
 have hb0 : W2.heap[A]? = some (.cells zjb.cells.toArray 178 (0, 0)) := by rw [hW2]; exact zAF (by rw [hW1]; exact zAB w (.cells zjb.cells.toArray 178) hA.symm) _
 have hb1 : W2.heap[A + 1]? = some (.cells (Jb.cells ⟨t, N, a⟩).toArray 178 (0, 0)) := by rw [hW2]; exact zAB _ (.cells (Jb.cells ⟨t, N, a⟩).toArray 178) hs1
 have hR1 := h.new ho1
 have hR2 := h.new ho2
 have hh := zh (zA8 hR1.root_cells.1 ht)
 obtain ⟨c0, c1, c2, hr⟩ := hR1.root_cells
 obtain ⟨g0, g1, g2, gf, hG⟩ := hR1.row_cells ht
 obtain ⟨k0, k1, k2, kf, hG2⟩ := hR2.row_cells ht
 rw [<- hN] at g1 k1 hnx ⊢
 obtain ⟨W3, hW3⟩ : ∃ W3, W3 = W2.setCell ⟨G, t * 3 + 1, none⟩ (.int .i64 ((N : Int) + 1)) := ⟨_, rfl⟩
 have hR3 : RdAt W3 B r G bs bm n P (upd nx t (N + 1)) ring o q m := by rw [hW3]; exact hR2.next (N + 1)
 have ho3 : Only (fun k => k = G) W2 W3 := by rw [hW3]; exact (Only.refl (fun k => k = G) W2).setCell (p := ⟨G, t * 3 + 1, none⟩) (fun _ => rfl) _
 have hlt : ∀ k, rfp r G bs bm n ring o k -> k < A := fun k hk => by have := (h.lt k hk).1; omega
 have hGA : G < A := hlt G (.inr (.inl rfl))
 have jB8 := ho3.heap hb0 (by omega)
 have yN := ho3.heap hb1 (by omega)
 obtain ⟨m0, m1, m2, -, hG3⟩ := hR3.row_cells ht
 obtain ⟨e0, e1, e2, hr3⟩ := hR3.root_cells
 have hwr : IntKind.i64.wrap ((N : Int) + 1) = (N : Int) + 1 := IntWalk.i64_in _ (by omega)
 have htn : (t : Int) < (n : Int) := by omega
 have j0 := zAA yN (i := 0) rfl
 have j1 := zAA yN (i := 1) rfl
 have j2 := zAA yN (i := 2) rfl
 have jl := zAG yN
 have hpt := h.pr t ht
 have hO3 : Only (rfp r G bs bm n ring o) w W3 := (ho2.mono (T := rfp r G bs bm n ring o) (fun _ _ h => h.elim)).trans ho3 (fun k _ e => .inr (.inl e))
 have hring := hR3.rings t ht
 have hlen := hring.bounds.1
 have jE := fun (code : Int) (q' : Nat -> List Jb) => (show ∀ W4 o' m', RdAt W4 B r G bs bm n P (upd nx t (N + 1)) ring o' q' m' -> Bits n P q' m' -> Only (fun k => k = bs ∨ fp (ring t) (o t) k) W3 W4 -> (∀ k, rfp r G bs bm n ring o' k -> rfp r G bs bm n ring o k ∨ A + 2 <= k) -> (W4.heap[A]? = some (.cells zjb.cells.toArray 178 (0, 0)) /\ W4.heap[A + 1]? = some (.cells (Jb.cells ⟨t, N, a⟩).toArray 178 (0, 0))) /\
   ∀ W5, Only (fun k => k = A) W4 W5 -> RelEnd w B r G bs bm n P (upd nx t (N + 1)) ring o q' ⟨t, N, a⟩ code (.returned (.tuple #[Jb.val ⟨t, N, a⟩, .int .i64 code])) W5 from fun W4 o' m' hS4 hB4 ho4 hk4 => by
  have hbl : ∀ k, (k = bs ∨ fp (ring t) (o t) k) -> k < A := fun k hk => by
   rcases hk with rfl | hk
   ·exact hlt k (.inr (.inr (.inl rfl)))
   ·exact hlt k (.inr (.inr (.inr (.inr ⟨t, ht, hk⟩))))
  refine ⟨⟨ho4.heap jB8 (fun hk => by have := hbl _ hk; omega), ho4.heap yN (fun hk => by have := hbl _ hk; omega)⟩, fun W5 ho5 => ⟨rfl, o', m', hS4.kept ho5 (fun k hk e => (hk4 k hk).elim (fun h1 => by have := hlt k h1; omega) (fun h1 => by omega)), hB4, (hO3.trans ho4 (fun k _ hk => ?_)).trans ho5 (fun k hk e => by omega), fun k hk => (hk4 k hk).imp id (fun h1 => by omega)⟩⟩
  rcases hk with rfl | hk
  ·exact .inr (.inr (.inl rfl))
  ·exact .inr (.inr (.inr (.inr ⟨t, ht, hk⟩))))
 have wX : w.alloc (.cells #[.int .i64 0, .int .i64 0, .int .i64 0] 178) = W1 := hW1.symm
 have vH : W1.alloc (.cells #[.int .i64 t, .int .i64 N, .int .i64 a] 178) = W2 := hW2.symm
 have hs3 : A + 2 <= W3.heap.size := by have := zAG yN; omega
 have jDm : W2.setCell ⟨G, t * 3 + 1, none⟩ (.int .i64 ((N : Int) + 1)) = W3 := hW3.symm
 have jBj := zh hR3
 have hb' := zh hb
 have hA' := zh hA
 have kM := zh hlt
 by_cases hfull : (q t).length < 4
 ·rw [if_pos hfull]
  have hput := zh (fun k => Ring.put_any (w := W3.drewN k) (hring.new ((Only.refl _ W3).drewN k)) hfull ⟨t, N, a⟩)
  have kK := zh (jE 0 (upd q t (q t ++ [⟨t, N, a⟩])))
  have hne : q t ++ [(⟨t, N, a⟩ : Jb)] ≠ [] := by simp
  obtain ⟨Q, hQ⟩ : ∃ Q, Q = q t ++ [(⟨t, N, a⟩ : Jb)] := ⟨_, rfl⟩
  obtain ⟨H, hH⟩ : ∃ H : Ending -> World -> Prop, H = RelEnd w B r G bs bm n P (upd nx t (N + 1)) ring o (upd q t (q t ++ [⟨t, N, a⟩])) ⟨t, N, a⟩ 0 := ⟨_, rfl⟩
  rw [<- hH] at kK ⊢
  rw [<- hQ] at kK hne
  obtain ⟨p, hp⟩ : ∃ p, p = P t := ⟨_, rfl⟩
  rw [<- hp] at m0 hpt
  have hX := zh (And.intro hQ hp)
  unfold Jb.val at hput kK
  clear hH jE jB8 yN hR3 hring hO3 ho3 ho2 ho1 hW1 hW2 hW3 hb0 hb1 hR1 hR2 hb hA hlt h hN hfull e0 e2 c1 c2 g0 g2 k0 k2 hQ hp
  go_enter Tryz.func209, Tryz.ntmps209
  go_wp2_with (go_at_call 253; refine hh.out.mono ?_; rintro e w' ⟨rfl, rfl⟩)
  rw [<- hA'.out]
  refine zAD 5 (by kernel_rfl) (by kernel_rfl) ?_
  simp only [List.take_succ_cons, List.take_zero, List.drop_succ_cons, List.drop_zero]
  repeat (go_big_quiet_step (fail))
  refine wpQuiet_nil ?_
  rintro _ ⟨nq, rfl⟩
  go_wp2_with fail
  refine (hput.out _).mono ?_
  rintro e W4 ⟨rfl, o', hR4, hoo, hO4⟩
  rw [<- hX.out.1] at hR4
  have hS4 := (jBj.out.new ((Only.refl (fun _ => False) W3).drewN nq)).ringStep ht hR4 hoo hO4
  have wR : Only (fp (ring t) (o t)) W3 W4 := ((Only.refl (fp (ring t) (o t)) W3).drewN nq).trans' hO4
  have hk4 : ∀ k, rfp r G bs bm n ring (upd o t o') k -> rfp r G bs bm n ring o k ∨ A + 2 <= k := by
   rintro k (hk | hk | hk | hk | ⟨i, hi, hk⟩)
   ·exact .inl (.inl hk)
   ·exact .inl (.inr (.inl hk))
   ·exact .inl (.inr (.inr (.inl hk)))
   ·exact .inl (.inr (.inr (.inr (.inl hk))))
   ·by_cases hit : i = t
    ·subst hit
     rw [upd_self] at hk
     rcases hk with hk | hk
     ·exact .inl (.inr (.inr (.inr (.inr ⟨i, hi, .inl hk⟩))))
     ·rcases hoo with hoo | ⟨g, hg, hge⟩
      ·rw [hoo] at hk
       exact .inl (.inr (.inr (.inr (.inr ⟨i, hi, .inr hk⟩))))
      ·rw [hg] at hk
       cases hk
       have : W3.heap.size <= k := hge
       exact .inr (by omega)
    ·rw [upd_ne _ _ hit] at hk
     exact .inl (.inr (.inr (.inr (.inr ⟨i, hi, hk⟩))))
  obtain ⟨x0, x1, x2, -, xl⟩ := hS4.row_cells ht
  obtain ⟨y0, y1, y2, yl⟩ := hS4.root_cells
  have hbd := zh (fun k => Band.put_any (w := W4.drewN k) (hS4.band.new ((Only.refl _ W4).drewN k)) p hpt)
  have hE := zh (And.intro hS4 (And.intro wR hk4))
  rw [<- hX.out.2] at x0
  clear hS4 wR hk4 hoo hO4 hR4 m0 m1 m2 hG3 e1 hr3 j0 j1 j2 jl hput
  go_wp2
  refine zAD 8 (by kernel_rfl) (by kernel_rfl) ?_
  simp only [List.take_succ_cons, List.take_zero, List.drop_succ_cons, List.drop_zero]
  repeat (go_big_quiet_step (fail))
  refine wpQuiet_nil ?_
  rintro _ ⟨nq2, rfl⟩
  go_wp2_with fail
  refine (hbd.out _).mono ?_
  rintro e W5 ⟨rfl, hB5, hO5⟩
  rw [hX.out.2] at hB5
  obtain ⟨hS4, wR, hk4⟩ := hE.out
  have hS5 := (hS4.new ((Only.refl (fun _ => False) W4).drewN nq2)).bandStep hB5 hO5
  have jDn : Only (fun k => k = bs) W4 W5 := ((Only.refl (fun k => k = bs) W4).drewN nq2).trans' hO5
  have jDo : Only (fun k => k = bs ∨ fp (ring t) (o t) k) W3 W5 := (wR.mono (T := fun k => k = bs ∨ fp (ring t) (o t) k) (fun _ _ h => .inr h)).trans jDn (fun k _ e => .inl e)
  obtain ⟨⟨z0, z1⟩, vE⟩ := kK.out W5 _ _ hS5 (hb'.out.fill ht (hX.out.2 ▸ hpt) hne) jDo hk4
  have vN := zh vE
  have d0 := zAA z0 (i := 0) rfl
  have d1 := zAA z0 (i := 1) rfl
  have d2 := zAA z0 (i := 2) rfl
  have f0 := zAC z0 0
  have f1 := zAC z0 1
  have f2 := zAC z0 2
  have p0 := zAA z1 (i := 0) rfl
  have p1 := zAA z1 (i := 1) rfl
  have p2 := zAA z1 (i := 2) rfl
  have l0 := zAG z0
  have l1 := zAG z1
  simp only [zjb] at d0 d1 d2
  clear vE hS4 wR hk4 hS5 jDn jDo hB5 hO5 z0 z1 hE hbd x0 x1 x2 xl y0 y1 y2 yl jBj hb' kM kK hh hA' k1 g1 c0 kf gf wX vH jDm
  go_wp2
  exact bodyPost_ret (v := .tuple #[.agg #[.int .i64 t, .int .i64 N, .int .i64 a], .int .i64 0]) (by simp [results, Tryz.results209, go_sem, d0, d1, d2]) rfl (vN.out _ (zBM A _ _ _))
 ·rw [if_neg hfull]
  have hput := zh (fun k => Ring.put_full (w := W3.drewN k) (hring.new ((Only.refl _ W3).drewN k)) (by omega) ⟨t, N, a⟩)
  have kK := zh (jE 7 q)
  obtain ⟨H, hH⟩ : ∃ H : Ending -> World -> Prop, H = RelEnd w B r G bs bm n P (upd nx t (N + 1)) ring o q ⟨t, N, a⟩ 7 := ⟨_, rfl⟩
  rw [<- hH] at kK ⊢
  unfold Jb.val at hput kK
  clear hH jE jB8 yN hR3 hring hO3 ho3 ho2 ho1 hW1 hW2 hW3 hb0 hb1 hR1 hR2 hb hA hlt h hN hfull e0 e1 e2 c1 c2 g0 g2 k0 k2
  go_enter Tryz.func209, Tryz.ntmps209
  go_wp2_with (go_at_call 253; refine hh.out.mono ?_; rintro e w' ⟨rfl, rfl⟩)
  rw [<- hA'.out]
  refine zAD 5 (by kernel_rfl) (by kernel_rfl) ?_
  simp only [List.take_succ_cons, List.take_zero, List.drop_succ_cons, List.drop_zero]
  repeat (go_big_quiet_step (fail))
  refine wpQuiet_nil ?_
  rintro _ ⟨nq, rfl⟩
  go_wp2_with fail
  refine (hput.out _).mono ?_
  rintro e W4 ⟨rfl, hO4⟩
  have wR : Only (fun _ => False) W3 W4 := ((Only.refl _ W3).drewN nq).trans' hO4
  obtain ⟨⟨z0, z1⟩, vE⟩ := kK.out W4 o m (jBj.out.new wR) hb'.out (wR.mono (fun _ _ h => h.elim)) (fun k hk => .inl hk)
  have vN := zh vE
  have d0 := zAA z0 (i := 0) rfl
  have d1 := zAA z0 (i := 1) rfl
  have d2 := zAA z0 (i := 2) rfl
  have f0 := zAC z0 0
  have f1 := zAC z0 1
  have f2 := zAC z0 2
  have p0 := zAA z1 (i := 0) rfl
  have p1 := zAA z1 (i := 1) rfl
  have p2 := zAA z1 (i := 2) rfl
  have l0 := zAG z0
  have l1 := zAG z1
  simp only [zjb] at d0 d1 d2
  clear vE wR hO4 z0 z1 jBj hb' kM kK hput j0 j1 j2 jl m0 m1 m2 hG3 hr3 hh hA' k1 g1 c0 kf gf wX vH jDm
  go_wp2
  exact bodyPost_ret (v := .tuple #[.agg #[.int .i64 t, .int .i64 N, .int .i64 a], .int .i64 7]) (by simp [results, Tryz.results209, go_sem, d0, d1, d2]) rfl (vN.out _ (zBM A _ _ _))
end
