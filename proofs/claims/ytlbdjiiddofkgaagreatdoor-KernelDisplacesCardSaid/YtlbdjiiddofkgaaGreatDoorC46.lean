import Derived.Test.YtlbdjiiddofkgaaGreatDoorC45
set_option maxRecDepth 100000
namespace Go.Proofs.YtlbdjiiddofkgaaGreatDoor
namespace Krn
open Go Go.RowKit Go.Maps Ring Band
theorem zE4 {last s w' : World} {Q : Prop} (h2 : Only (fun _ => False) s w') (hp : Q) (h1 : Only (fun _ => False) last s) : Only (fun _ => False) last s /\ Q /\ Only (fun _ => False) s w' := ⟨h1, hp, h2⟩
theorem zBI (w : World) : w.drew.heap = w.heap := rfl
theorem zDL (w : World) : Sem.run Tryz.prog (Instr.makeMap 115 none) w = .ok (.map (some w.heap.size)) (w.alloc (.map #[] 0)) := by kernel_rfl
set_option maxHeartbeats 8000000 in
theorem zPQ {w : World} {c : jD} {P31 : World -> Nat -> World -> Prop} {P32 : World -> Nat -> Nat -> Nat -> Nat -> World -> Prop} {P33 : World -> Option Addr -> Nat -> Nat -> World -> Prop} {P34 : World -> Option Addr -> Nat -> Nat -> World -> Prop} {P35 : World -> Nat -> World -> Prop} {P36 : World -> Nat -> World -> Prop} {P37 : World -> Nat -> World -> Prop} {P38 : World -> Nat -> World -> Prop} {Z : Nat -> World -> Prop}
  (h31 : ∀ W, Only (fun _ => False) w W -> Calls Tryz.prog 42 #[c.val] W (fun e w' => ∃ r7, e = .returned (.tuple #[ptr r7, .int .i64 0]) /\ P31 W r7 w' /\ Only (fun _ => False) W w'))
  (h32 : ∀ W, Only (fun _ => False) w W -> Calls Tryz.prog 43 #[c.val] W (fun e w' => ∃ (b1 : Nat) (b2 : Nat) (b3 : Nat) (b4 : Nat), e = .returned (.agg #[ptr b1, ptr b2, ptr b3, ptr b4]) /\ P32 W b1 b2 b3 b4 w' /\ Only (fun _ => False) W w'))
  (h33 : ∀ W, Only (fun _ => False) w W -> Calls Tryz.prog 44 #[.slice c.ta.A c.ta.n c.ta.cap] W (fun e w' => ∃ (tA : Option Addr) (tn : Nat) (tc : Nat), e = .returned (.slice tA tn tc) /\ P33 W tA tn tc w' /\ Only (fun _ => False) W w'))
  (h34 : ∀ W, Only (fun _ => False) w W -> Calls Tryz.prog 45 #[.slice c.li.A c.li.n c.li.cap] W (fun e w' => ∃ (lA : Option Addr) (ln : Nat) (lc : Nat), e = .returned (.slice lA ln lc) /\ P34 W lA ln lc w' /\ Only (fun _ => False) W w'))
  (h35 : ∀ W, Only (fun _ => False) w W -> Calls Tryz.prog 46 #[.int .i64 (c.li.n : Int)] W (fun e w' => ∃ (b5 : Nat), e = .returned (ptr b5) /\ P35 W b5 w' /\ Only (fun _ => False) W w'))
  (h36 : ∀ W, Only (fun _ => False) w W -> Calls Tryz.prog 47 #[.slice none 0 0] W (fun e w' => ∃ (b6 : Nat), e = .returned (ptr b6) /\ P36 W b6 w' /\ Only (fun _ => False) W w'))
  (h37 : ∀ W, Only (fun _ => False) w W -> Calls Tryz.prog 48 #[] W (fun e w' => ∃ (b10 : Nat), e = .returned (ptr b10) /\ P37 W b10 w' /\ Only (fun _ => False) W w'))
  (h38 : ∀ W, Only (fun _ => False) w W -> Calls Tryz.prog 49 #[.int .i64 c.s, .int .i64 c.wy] W (fun e w' => ∃ (r11 : Nat), e = .returned (ptr r11) /\ P38 W r11 w' /\ Only (fun _ => False) W w'))
  (jE : ∀ (s1 W1 : World) (r7 : Nat) (s2 w2 : World) (b1 : Nat) (b2 : Nat) (b3 : Nat) (b4 : Nat) (s3 w3 : World) (tA : Option Addr) (tn : Nat) (tc : Nat) (s4 w4 : World) (lA : Option Addr) (ln : Nat) (lc : Nat) (s5 w5 : World) (b5 : Nat) (s6 w6 : World) (b6 : Nat) (s7 w7 : World) (b10 : Nat) (s8 w8 : World) (r11 : Nat) (Wf : World) (M : Nat), Only (fun _ => False) w s1 -> P31 s1 r7 W1 -> Only (fun _ => False) s1 W1 -> Only (fun _ => False) W1 s2 -> P32 s2 b1 b2 b3 b4 w2 -> Only (fun _ => False) s2 w2 -> Only (fun _ => False) w2 s3 -> P33 s3 tA tn tc w3 -> Only (fun _ => False) s3 w3 -> Only (fun _ => False) w3 s4 -> P34 s4 lA ln lc w4 -> Only (fun _ => False) s4 w4 -> Only (fun _ => False) w4 s5 -> P35 s5 b5 w5 -> Only (fun _ => False) s5 w5 -> Only (fun _ => False) w5 s6 -> P36 s6 b6 w6 -> Only (fun _ => False) s6 w6 -> Only (fun _ => False) w6 s7 -> P37 s7 b10 w7 -> Only (fun _ => False) s7 w7 -> Only (fun _ => False) w7 s8 -> P38 s8 r11 w8 -> Only (fun _ => False) s8 w8 -> Only (fun _ => False) w8 Wf -> Wf.heap[M]? = some (.map #[] 0) -> W1.heap.size <= M -> (M < s2.heap.size ∨ w2.heap.size <= M) -> (M < s3.heap.size ∨ w3.heap.size <= M) -> (M < s4.heap.size ∨ w4.heap.size <= M) -> (M < s5.heap.size ∨ w5.heap.size <= M) -> (M < s6.heap.size ∨ w6.heap.size <= M) -> (M < s7.heap.size ∨ w7.heap.size <= M) -> (M < s8.heap.size ∨ w8.heap.size <= M) -> ∀ K, K = Wf.heap.size -> Z K (Wf.alloc (.cells #[ptr b1, ptr b2, ptr b3, ptr b4, .int .i64 c.s, .int .i64 c.wy, .int .i64 c.h, .int .i64 c.mi, .slice tA tn tc, .slice lA ln lc, ptr b5, ptr b6, ptr r7, .map (some M), .slice none 0 0, ptr b10, ptr r11, .slice none 0 0, .slice none 0 0, .int .i64 0] 123))) :
  Calls Tryz.prog 12 #[c.val] w (fun e w' => ∃ k, e = .returned (.tuple #[.pointer (some ⟨k, 0, none⟩), .int .i64 0]) /\ Z k w') := by
 obtain ⟨W, hW⟩ : ∃ W, W = w.alloc (.cells c.cells.toArray 27) := ⟨_, rfl⟩
 obtain ⟨X, hX⟩ : ∃ X, X = w.heap.size := ⟨_, rfl⟩
 have hXr : W.heap[X]? = some (.cells c.cells.toArray 27 (0, 0)) := by rw [hW]; exact zAB _ _ hX.symm
 have hOb : Only (fun _ => False) w W := by rw [hW]; exact (Only.refl _ w).alloc _
 have zZ := zh (h31 W hOb)
 have yV := zh hOb
 have jC3 := zh h32
 have jEe := zh h33
 have jEf := zh h34
 have jEg := zh h35
 have jEh := zh h36
 have jEi := zh h37
 have jEj := zh h38
 have kK := zh jE
 have hmk := fun W0 : World => zDL W0
 have hk := zh (fun W' (ho : Only (fun _ => False) W W') => show W'.cell? ⟨X, 0, none⟩ = some (.int .i64 c.s) /\ W'.cell? ⟨X, 1, none⟩ = some (.int .i64 c.wy) /\ W'.cell? ⟨X, 2, none⟩ = some (.int .i64 c.h) /\ W'.cell? ⟨X, 3, none⟩ = some (.int .i64 c.mi) /\ W'.cell? ⟨X, 4, none⟩ = some (.slice c.mb.A c.mb.n c.mb.cap) /\ W'.cell? ⟨X, 5, none⟩ = some (.int .i64 c.g) /\ W'.cell? ⟨X, 6, none⟩ = some (.slice c.cn.A c.cn.n c.cn.cap) /\ W'.cell? ⟨X, 7, none⟩ = some (.slice c.ce.A c.ce.n c.ce.cap) /\ W'.cell? ⟨X, 8, none⟩ = some (.slice c.ta.A c.ta.n c.ta.cap) /\ W'.cell? ⟨X, 9, none⟩ = some (.slice c.li.A c.li.n c.li.cap) /\ X < W'.heap.size from
  ⟨ho.cell (zAA hXr (i := 0) rfl) id, ho.cell (zAA hXr (i := 1) rfl) id, ho.cell (zAA hXr (i := 2) rfl) id, ho.cell (zAA hXr (i := 3) rfl) id, ho.cell (zAA hXr (i := 4) rfl) id, ho.cell (zAA hXr (i := 5) rfl) id, ho.cell (zAA hXr (i := 6) rfl) id, ho.cell (zAA hXr (i := 7) rfl) id, ho.cell (zAA hXr (i := 8) rfl) id, ho.cell (zAA hXr (i := 9) rfl) id, Nat.lt_of_lt_of_le (zAG hXr) ho.size⟩)
 have hX' := zh hX
 have hW' := zh hW
 obtain ⟨d0, d1, d2, d3, d4, d5, d6, d7, d8, d9, dl⟩ := hk.out W (Only.refl _ _)
 unfold jD.cells at hW'
 unfold jD.val at zZ jC3 ⊢
 unfold ptr at *
 clear h31 h32 h33 h34 h35 h36 h37 h38 jE hXr hX hW hOb
 go_enter Tryz.func12, Tryz.ntmps12
 go_upto_region 1 with fail
 rw [<- hX'.out, <- hW'.out]
 go_wp2_with fail
 refine zZ.out.mono ?_
 rintro e W0 ⟨r7, rfl, hP1, hO1⟩
 have jA2 := zh (And.intro yV.out (And.intro hP1 hO1))
 have g32 := zh (fun W9 (ho : Only (fun _ => False) W0 W9) => jC3.out W9 ((yV.out.trans' hO1).trans' ho))
 have g33 := zh (fun W9 (ho : Only (fun _ => False) W0 W9) => jEe.out W9 ((yV.out.trans' hO1).trans' ho))
 have g34 := zh (fun W9 (ho : Only (fun _ => False) W0 W9) => jEf.out W9 ((yV.out.trans' hO1).trans' ho))
 have g35 := zh (fun W9 (ho : Only (fun _ => False) W0 W9) => jEg.out W9 ((yV.out.trans' hO1).trans' ho))
 have g36 := zh (fun W9 (ho : Only (fun _ => False) W0 W9) => jEh.out W9 ((yV.out.trans' hO1).trans' ho))
 have g37 := zh (fun W9 (ho : Only (fun _ => False) W0 W9) => jEi.out W9 ((yV.out.trans' hO1).trans' ho))
 have g38 := zh (fun W9 (ho : Only (fun _ => False) W0 W9) => jEj.out W9 ((yV.out.trans' hO1).trans' ho))
 have hkp := zh (fun W' (ho : Only (fun _ => False) W0 W') => hk.out W' (hO1.trans' ho))
 clear hk d0 d1 d2 d3 d4 d5 d6 d7 d8 d9 dl zZ hO1 hP1 jC3 jEe jEf jEg jEh jEi jEj
 go_upto_region 4 with fail
 go_region_held3 (fun W' => W'.cell? ⟨X, 0, none⟩ = some (.int .i64 c.s) /\ W'.cell? ⟨X, 1, none⟩ = some (.int .i64 c.wy) /\ W'.cell? ⟨X, 2, none⟩ = some (.int .i64 c.h) /\ W'.cell? ⟨X, 3, none⟩ = some (.int .i64 c.mi) /\ W'.cell? ⟨X, 4, none⟩ = some (.slice c.mb.A c.mb.n c.mb.cap) /\ W'.cell? ⟨X, 5, none⟩ = some (.int .i64 c.g) /\ W'.cell? ⟨X, 6, none⟩ = some (.slice c.cn.A c.cn.n c.cn.cap) /\ W'.cell? ⟨X, 7, none⟩ = some (.slice c.ce.A c.ce.n c.ce.cap) /\ W'.cell? ⟨X, 8, none⟩ = some (.slice c.ta.A c.ta.n c.ta.cap) /\ W'.cell? ⟨X, 9, none⟩ = some (.slice c.li.A c.li.n c.li.cap) /\ X < W'.heap.size)
  (first
   | exact hkp.out _ hR8
   | exact hkp.out _ hR7
   | exact hkp.out _ hR6
   | exact hkp.out _ hR5
   | exact hkp.out _ hR4
   | exact hkp.out _ hR3
   | exact hkp.out _ hR2
   | exact hkp.out _ (by repeat (first | with_reducible assumption | with_reducible exact Only.refl _ _ | with_reducible apply Only.drew | with_reducible apply Only.drewN | with_reducible apply Only.alloc)))
  (first
   | (go_at_call 43; (with_reducible refine (g32.out _ (by repeat (first | with_reducible assumption | with_reducible exact Only.refl _ _ | with_reducible apply Only.drew | with_reducible apply Only.drewN | with_reducible apply Only.alloc))).mono ?_); rintro _ w2 ⟨b1, b2, b3, b4, rfl, hP2, hQ2⟩; (first | (have hm := hQ2.heap hm (fun h => h)) | (have hm := hQ2.heap (zAB _ (Obj.map #[] 0) rfl) (fun h => h)) | skip); have hR2 := Only.trans' (show Only (fun _ => False) W0 _ from (by repeat (first | with_reducible assumption | with_reducible exact Only.refl _ _ | with_reducible apply Only.drew | with_reducible apply Only.drewN | with_reducible apply Only.alloc))) hQ2; have zT := zh (zE4 (last := W0) hQ2 hP2 (by repeat (first | with_reducible assumption | with_reducible exact Only.refl _ _ | with_reducible apply Only.drew | with_reducible apply Only.drewN | with_reducible apply Only.alloc))); clear hP2 hQ2)
   | (go_at_call 44; (with_reducible refine (g33.out _ (by repeat (first | with_reducible assumption | with_reducible exact Only.refl _ _ | with_reducible apply Only.drew | with_reducible apply Only.drewN | with_reducible apply Only.alloc))).mono ?_); rintro _ w3 ⟨tA, tn, tc, rfl, hP3, hQ3⟩; (first | (have hm := hQ3.heap hm (fun h => h)) | (have hm := hQ3.heap (zAB _ (Obj.map #[] 0) rfl) (fun h => h)) | skip); have hR3 := Only.trans' (show Only (fun _ => False) W0 _ from (by repeat (first | with_reducible assumption | with_reducible exact Only.refl _ _ | with_reducible apply Only.drew | with_reducible apply Only.drewN | with_reducible apply Only.alloc))) hQ3; have zU := zh (zE4 (last := w2) hQ3 hP3 (by repeat (first | with_reducible assumption | with_reducible exact Only.refl _ _ | with_reducible apply Only.drew | with_reducible apply Only.drewN | with_reducible apply Only.alloc))); clear hP3 hQ3)
   | (go_at_call 45; (with_reducible refine (g34.out _ (by repeat (first | with_reducible assumption | with_reducible exact Only.refl _ _ | with_reducible apply Only.drew | with_reducible apply Only.drewN | with_reducible apply Only.alloc))).mono ?_); rintro _ w4 ⟨lA, ln, lc, rfl, hP4, hQ4⟩; (first | (have hm := hQ4.heap hm (fun h => h)) | (have hm := hQ4.heap (zAB _ (Obj.map #[] 0) rfl) (fun h => h)) | skip); have hR4 := Only.trans' (show Only (fun _ => False) W0 _ from (by repeat (first | with_reducible assumption | with_reducible exact Only.refl _ _ | with_reducible apply Only.drew | with_reducible apply Only.drewN | with_reducible apply Only.alloc))) hQ4; have zV := zh (zE4 (last := w3) hQ4 hP4 (by repeat (first | with_reducible assumption | with_reducible exact Only.refl _ _ | with_reducible apply Only.drew | with_reducible apply Only.drewN | with_reducible apply Only.alloc))); clear hP4 hQ4)
   | (go_at_call 46; (with_reducible refine (g35.out _ (by repeat (first | with_reducible assumption | with_reducible exact Only.refl _ _ | with_reducible apply Only.drew | with_reducible apply Only.drewN | with_reducible apply Only.alloc))).mono ?_); rintro _ w5 ⟨b5, rfl, hP5, hQ5⟩; (first | (have hm := hQ5.heap hm (fun h => h)) | (have hm := hQ5.heap (zAB _ (Obj.map #[] 0) rfl) (fun h => h)) | skip); have hR5 := Only.trans' (show Only (fun _ => False) W0 _ from (by repeat (first | with_reducible assumption | with_reducible exact Only.refl _ _ | with_reducible apply Only.drew | with_reducible apply Only.drewN | with_reducible apply Only.alloc))) hQ5; have jA3 := zh (zE4 (last := w4) hQ5 hP5 (by repeat (first | with_reducible assumption | with_reducible exact Only.refl _ _ | with_reducible apply Only.drew | with_reducible apply Only.drewN | with_reducible apply Only.alloc))); clear hP5 hQ5)
   | (go_at_call 47; (with_reducible refine (g36.out _ (by repeat (first | with_reducible assumption | with_reducible exact Only.refl _ _ | with_reducible apply Only.drew | with_reducible apply Only.drewN | with_reducible apply Only.alloc))).mono ?_); rintro _ w6 ⟨b6, rfl, hP6, hQ6⟩; (first | (have hm := hQ6.heap hm (fun h => h)) | (have hm := hQ6.heap (zAB _ (Obj.map #[] 0) rfl) (fun h => h)) | skip); have hR6 := Only.trans' (show Only (fun _ => False) W0 _ from (by repeat (first | with_reducible assumption | with_reducible exact Only.refl _ _ | with_reducible apply Only.drew | with_reducible apply Only.drewN | with_reducible apply Only.alloc))) hQ6; have jA4 := zh (zE4 (last := w5) hQ6 hP6 (by repeat (first | with_reducible assumption | with_reducible exact Only.refl _ _ | with_reducible apply Only.drew | with_reducible apply Only.drewN | with_reducible apply Only.alloc))); clear hP6 hQ6)
   | (go_at_call 48; (with_reducible refine (g37.out _ (by repeat (first | with_reducible assumption | with_reducible exact Only.refl _ _ | with_reducible apply Only.drew | with_reducible apply Only.drewN | with_reducible apply Only.alloc))).mono ?_); rintro _ w7 ⟨b10, rfl, hP7, hQ7⟩; (first | (have hm := hQ7.heap hm (fun h => h)) | (have hm := hQ7.heap (zAB _ (Obj.map #[] 0) rfl) (fun h => h)) | skip); have hR7 := Only.trans' (show Only (fun _ => False) W0 _ from (by repeat (first | with_reducible assumption | with_reducible exact Only.refl _ _ | with_reducible apply Only.drew | with_reducible apply Only.drewN | with_reducible apply Only.alloc))) hQ7; have jA5 := zh (zE4 (last := w6) hQ7 hP7 (by repeat (first | with_reducible assumption | with_reducible exact Only.refl _ _ | with_reducible apply Only.drew | with_reducible apply Only.drewN | with_reducible apply Only.alloc))); clear hP7 hQ7)
   | (go_at_call 49; (with_reducible refine (g38.out _ (by repeat (first | with_reducible assumption | with_reducible exact Only.refl _ _ | with_reducible apply Only.drew | with_reducible apply Only.drewN | with_reducible apply Only.alloc))).mono ?_); rintro _ w8 ⟨r11, rfl, hP8, hQ8⟩; (first | (have hm := hQ8.heap hm (fun h => h)) | (have hm := hQ8.heap (zAB _ (Obj.map #[] 0) rfl) (fun h => h)) | skip); have hR8 := Only.trans' (show Only (fun _ => False) W0 _ from (by repeat (first | with_reducible assumption | with_reducible exact Only.refl _ _ | with_reducible apply Only.drew | with_reducible apply Only.drewN | with_reducible apply Only.alloc))) hQ8; have jA6 := zh (zE4 (last := w7) hQ8 hP8 (by repeat (first | with_reducible assumption | with_reducible exact Only.refl _ _ | with_reducible apply Only.drew | with_reducible apply Only.drewN | with_reducible apply Only.alloc))); clear hP8 hQ8))
 all_goals
  have y2 := zT.out.1.size
  have x2 := zT.out.2.2.size
  have y3 := zU.out.1.size
  have x3 := zU.out.2.2.size
  have y4 := zV.out.1.size
  have x4 := zV.out.2.2.size
  have y5 := jA3.out.1.size
  have x5 := jA3.out.2.2.size
  have y6 := jA4.out.1.size
  have x6 := jA4.out.2.2.size
  have y7 := jA5.out.1.size
  have x7 := jA5.out.2.2.size
  have y8 := jA6.out.1.size
  have x8 := jA6.out.2.2.size
  clear g32 g33 g34 g35 g36 g37 g38 hkp
  go_wp2
  go_ret2
  refine ⟨_, rfl, ?_⟩
  refine kK.out _ _ _ _ w2 _ _ _ _ _ w3 _ _ _ _ w4 _ _ _ _ w5 _ _ w6 _ _ w7 _ _ w8 _ _ _ jA2.out.1 jA2.out.2.1 jA2.out.2.2 zT.out.1 zT.out.2.1 zT.out.2.2 zU.out.1 zU.out.2.1 zU.out.2.2 zV.out.1 zV.out.2.1 zV.out.2.2 jA3.out.1 jA3.out.2.1 jA3.out.2.2 jA4.out.1 jA4.out.2.1 jA4.out.2.2 jA5.out.1 jA5.out.2.1 jA5.out.2.2 jA6.out.1 jA6.out.2.1 jA6.out.2.2 (by repeat (first | with_reducible assumption | with_reducible exact Only.refl _ _ | with_reducible apply Only.drew | with_reducible apply Only.drewN | with_reducible apply Only.alloc)) (by first | exact hm | exact zAB _ _ rfl) (by (try simp only [zAS, zBI] at y2 x2 y3 x3 y4 x4 y5 x5 y6 x6 y7 x7 y8 x8 ⊢); omega) (by (try simp only [zAS, zBI] at y2 x2 y3 x3 y4 x4 y5 x5 y6 x6 y7 x7 y8 x8 ⊢); omega) (by (try simp only [zAS, zBI] at y2 x2 y3 x3 y4 x4 y5 x5 y6 x6 y7 x7 y8 x8 ⊢); omega) (by (try simp only [zAS, zBI] at y2 x2 y3 x3 y4 x4 y5 x5 y6 x6 y7 x7 y8 x8 ⊢); omega) (by (try simp only [zAS, zBI] at y2 x2 y3 x3 y4 x4 y5 x5 y6 x6 y7 x7 y8 x8 ⊢); omega) (by (try simp only [zAS, zBI] at y2 x2 y3 x3 y4 x4 y5 x5 y6 x6 y7 x7 y8 x8 ⊢); omega) (by (try simp only [zAS, zBI] at y2 x2 y3 x3 y4 x4 y5 x5 y6 x6 y7 x7 y8 x8 ⊢); omega) (by (try simp only [zAS, zBI] at y2 x2 y3 x3 y4 x4 y5 x5 y6 x6 y7 x7 y8 x8 ⊢); omega) _ (by first | rfl | exact (zAS _ _).symm)
def kc (c : jD) (d : jL) (pl : Tks) (us : List (jA × List Opn)) (mo : Nat -> Nat) : KC where
 nb := c.mb.n
 room := fun i => Mbx.roomN (d.mb.getD i 0)
 ng := Flg.manyN c.g
 nc := c.cn.n
 most := mo
 nl := c.ce.n
 ceil := fun i => d.ce.getD i 0
 s := c.s.toNat
 w := c.wy.toNat
 h := c.h
 mi := c.mi
 ts := us
 li := d.li
 P := pN pl.ts
def ks0 : KS where
 box := fun _ => []
 grp := fun _ => 0#8
 cnt := fun _ => 0
 lkh := fun _ => 0
 lkd := fun _ => false
 lnm := fun _ => false
 lnl := fun _ => false
 ag := []
 tn := 0
 nx := fun _ => 0
 q := fun _ => []
 ps := []
 jobs := []
 fs := []
 pk := 0
 cg := fun _ => []
 ents := []
 tr := []
 now := 0
theorem zR5 {w : World} {B B0 r G bs bm n : Nat} {P nx ring : Nat -> Nat} {o : Nat -> Option Nat} {q : Nat -> List Jb} {m : BitVec 64} (h : RdAt w B r G bs bm n P nx ring o q m) (hB : B0 <= B) : RdAt w B0 r G bs bm n P nx ring o q m :=
 ⟨h.root, h.rows, h.band, h.map, h.rings, h.apart, fun i hi k hk => Nat.le_trans hB (h.own i hi k hk), ⟨Nat.le_trans hB h.base.1, Nat.le_trans hB h.base.2.1, Nat.le_trans hB h.base.2.2.1, Nat.le_trans hB h.base.2.2.2⟩, h.pr, h.inj⟩
def SameT (us : List (jA × List Opn)) (pl : Tks) : Prop := us.length = pl.length /\ ∀ (i : Nat) t l, pl[i]? = some (t, l) -> ∃ o, us[i]? = some ({ t with o := o }, l)
def KNewEnd (w : World) (c : jD) (d : jL) (pl : Tks) (e : Ending) (w' : World) : Prop :=
 ∃ us mo m, e = .returned (.tuple #[ptr m.k, .int .i64 0]) /\ KAt w' (kc c d pl us mo) m ks0 /\ SameT us pl /\ (∀ i, i < c.cn.n -> mo i = Cnt.mostN (d.cn.getD i 0)) /\ (∀ k, kfp (kc c d pl us mo) m k -> w.heap.size <= k) /\ Only (fun _ => False) w w'
structure Ivs (m : KM) (c : KC) (lo hi : Nat -> Nat) : Prop where
 f : ∀ i k, foot c m i k -> i <= 13 /\ i ≠ 11 /\ lo i <= k /\ k < hi i
 ap : ∀ i j, i <= 13 -> j <= 13 -> i ≠ 11 -> j ≠ 11 -> i ≠ j -> hi i <= lo j ∨ hi j <= lo i
theorem Ivs.apart {m : KM} {c : KC} {lo hi : Nat -> Nat} (h : Ivs m c lo hi) : ∀ i j, i ≠ j -> ∀ k, foot c m i k -> ¬ foot c m j k := by
 intro i j hij k hi1 hj1
 obtain ⟨a1, a2, a3, a4⟩ := h.f i k hi1
 obtain ⟨b1, b2, b3, b4⟩ := h.f j k hj1
 have := h.ap i j a1 b1 a2 b2 hij
 omega
set_option maxHeartbeats 4000000 in
theorem zPR {w : World} (hw : Words w) {c : jD} {d : jL} {pl : Tks} (hc : ConfAt w c d pl) (hz : confZ c d pl = 0) (hmb : c.mb.n <= 4096 /\ c.cn.n <= 4096 /\ c.ce.n <= 4096) (hli : c.li.n <= 8) (hpn : pl.length <= 1000) (hol : ∀ (i : Nat) t l, pl[i]? = some (t, l) -> l.length <= 1000) (hs : 1 <= c.s /\ c.s <= 16) (hwy : 1 <= c.wy /\ c.wy <= 4) :
  Calls Tryz.prog 12 #[c.val] w (KNewEnd w c d pl) := by
 have hpl : pl.length = c.ta.n := by rw [<- hc.t.len]; unfold Tks.ts; rw [List.length_map]
 have jC4 : d.li.length = c.li.n := hc.o.li.len
 refine (zPQ (w := w) (c := c)
  (P31 := fun W r7 w' => ∃ G bs bm ring, RdAt w' W.heap.size r7 G bs bm c.ta.n (pN pl.ts) (fun _ => 0) ring (fun _ => none) (fun _ => []) 0#64 /\ Bits c.ta.n (pN pl.ts) (fun _ => []) 0#64)
  (P32 := fun W b1 b2 b3 b4 w' => ObjsOk W c d b1 b2 b3 b4 w')
  (P33 := fun W A n cap w' => ∃ tb us tp, TkRel W pl (.slice A n cap) tb pl.length us tp w')
  (P34 := fun W A n cap w' => ∃ g, Win w' 3 1 (.slice A n cap) g c.li.n (d.li.map fun z => .int .i64 z) /\ ∀ k, g = some k -> W.heap.size <= k)
  (P35 := fun W b w' => ∃ g, Lin.LinesAt w' b g (Lin.linesN c.li.n) (fun _ => false) (fun _ => false) /\ W.heap.size <= b /\ W.heap.size <= g)
  (P36 := fun W b w' => ∃ o, Pil.Ag w' b o 0 [] /\ ∀ k, Pil.fp b o k -> W.heap.size <= k)
  (P37 := fun W b w' => StAt w' b none 0 [] /\ W.heap.size <= b)
  (P38 := fun W r w' => ∃ R M, Csh.CacheAt w' r R M c.s.toNat c.wy.toNat (fun _ => []) /\ W.heap.size <= r /\ W.heap.size <= R /\ W.heap.size <= M)
  (Z := fun k w' => KNewEnd w c d pl (.returned (.tuple #[ptr k, .int .i64 0])) w')
  ?h31 ?h32 ?h33 ?h34 ?h35 ?h36 ?h37 ?h38 ?fin).mono (fun e w' ⟨k, he, hk⟩ => by rw [he]; exact hk)
 case h31 =>
  intro W hO
  have hR := zJR (w := W) (fun k s n h1 h2 => ⟨hO.cell (hw k s n h1 h2).1 id, hO.cell (hw k s n h1 h2).2 id⟩) (hc.new hO)
  refine hR.mono fun e w' h => ?_
  unfold RNewEnd at h
  rw [if_pos hz] at h
  obtain ⟨r, G, bs, bm, ring, h1, h2, h3, h4⟩ := h
  exact ⟨r, h1, ⟨G, bs, bm, ring, h2, h3⟩, h4⟩
 case h32 =>
  intro W hO
  refine (zPP (hc.o.new hO) hmb).mono fun e w' h => ?_
  obtain ⟨b1, b2, b3, b4, h1, h2⟩ := h
  exact ⟨b1, b2, b3, b4, h1, h2, h2.o⟩
 case h33 =>
  intro W hO
  refine (zNE (hc.t.new hO) (hc.p.new hO) hpn hol).mono fun e w' h => ?_
  obtain ⟨v, tb, us, tp, h1, h2⟩ := h
  obtain ⟨p, cap, rfl, -, -⟩ := h2.win.form
  exact ⟨p, _, cap, h1, ⟨tb, us, tp, h2⟩, h2.only⟩
 case h34 =>
  intro W hO
  have hi := hc.o.li.new hO
  refine (zK7 (A := c.li.A) (n := c.li.n) (cap := c.li.cap) (xs := d.li.map fun z => .int .i64 z) (by rw [List.length_map, jC4, Nat.mul_one]) (fun h0 => ?_) (fun u hu => by obtain ⟨z, -, rfl⟩ := List.mem_map.1 hu; rfl) (by omega)).mono fun e w' h => ?_
  ·obtain ⟨z0, hz0⟩ : ∃ z, d.li[0]? = some z := ⟨_, List.getElem?_eq_getElem (by omega)⟩
   obtain ⟨b, off, hA, -, -⟩ := hi.at_ 0 z0 hz0
   refine ⟨_, hA, fun j u hu => ?_⟩
   rw [List.getElem?_map] at hu
   obtain ⟨z, hz, rfl⟩ := Option.map_eq_some_iff.1 hu
   obtain ⟨b', off', hA', -, hcl⟩ := hi.at_ j z hz
   rw [hA] at hA'
   cases hA'
   rw [Addr.add_lit]
   exact hcl
  ·obtain ⟨v, g, h1, h2, h3, h4⟩ := h
   obtain ⟨p, cap, rfl, -, -⟩ := h2.form
   exact ⟨p, _, cap, h1, ⟨g, h2, h3⟩, h4⟩
 case h35 =>
  intro W hO
  refine (Lin.lnew_any (c.li.n : Int) W).mono fun e w' h => ?_
  obtain ⟨h1, h2, h3⟩ := h
  exact ⟨_, h1, ⟨_, h2, by omega, Nat.le_refl _⟩, h3⟩
 case h36 =>
  intro W hO
  refine (Pil.new_any (w := W) (A := none) (cap := 0) (l := []) (fun k x hx => by simp at hx) (by decide)).mono fun e w' h => ?_
  obtain ⟨h1, o, h2, h3, h4⟩ := h
  refine ⟨_, h1, ⟨o, h2, fun k hk => ?_⟩, h4⟩
  rcases hk with rfl | hk
  ·exact Nat.le_refl _
  ·exact h3 k hk
 case h37 =>
  intro W hO
  refine (zOS W).mono fun e w' h => ?_
  obtain ⟨h1, h2, h3⟩ := h
  exact ⟨_, h1, ⟨h2, Nat.le_refl _⟩, h3⟩
 case h38 =>
  intro W hO
  have e1 : c.s = (c.s.toNat : Int) := by omega
  have e2 : c.wy = (c.wy.toNat : Int) := by omega
  have := Csh.new_any W c.s.toNat c.wy.toNat (by omega) (by omega)
  rw [<- e1, <- e2] at this
  refine this.mono fun e w' h => ?_
  obtain ⟨r, R, M, h1, h2, h3, h4, h5, h6⟩ := h
  exact ⟨r, h1, ⟨R, M, h5, h2, h3, h4⟩, h6⟩
 case fin =>
  intro s1 W1 r7 s2 w2 b1 b2 b3 b4 s3 w3 tA tn tc s4 w4 lA ln lc s5 w5 b5 s6 w6 b6 s7 w7 b10 s8 w8 r11 Wf M o1 p1 q1 o2 p2 q2 o3 p3 q3 o4 p4 q4 o5 p5 q5 o6 p6 q6 o7 p7 q7 o8 p8 q8 oF hM hM1 n2 n3 n4 n5 n6 n7 n8 K hKe
  subst hKe
  obtain ⟨G, bs, bm, ring, pRd, pBt⟩ := p1
  obtain ⟨⟨g1, r1, g2, g3, mo, g4, a1, a2, a3, k1, k2, k3, hmo, k4, i1, i2, i3, i4, l1, l2, l3, l4⟩, -⟩ := p2
  obtain ⟨tb, us, tp, hT⟩ := p3
  obtain ⟨lb, kL, fL⟩ := p4
  obtain ⟨g5, k5, f5, f5'⟩ := p5
  obtain ⟨oo6, k6, f6⟩ := p6
  obtain ⟨k7, f7⟩ := p7
  obtain ⟨R, M1, k8, f8, f8', jI5⟩ := p8
  have htn : tn = pl.length := by
   obtain ⟨p, cap, e, -, -⟩ := hT.win.form
   injection e
  have hln : ln = c.li.n := by
   obtain ⟨p, cap, e, -, -⟩ := kL.form
   injection e
  have hus : us.length = c.ta.n := hT.len.trans hpl
  obtain ⟨bx, hbx⟩ : ∃ bx : List Value, bx = [ptr b1, ptr b2, ptr b3, ptr b4, .int .i64 c.s, .int .i64 c.wy, .int .i64 c.h, .int .i64 c.mi, .slice tA tn tc, .slice lA ln lc, ptr b5, ptr b6, ptr r7, .map (some M), .slice none 0 0, ptr b10, ptr r11, .slice none 0 0, .slice none 0 0, .int .i64 0] := ⟨_, rfl⟩
  show KNewEnd w c d pl (.returned (.tuple #[ptr Wf.heap.size, .int .i64 0])) (Wf.alloc (.cells [ptr b1, ptr b2, ptr b3, ptr b4, .int .i64 c.s, .int .i64 c.wy, .int .i64 c.h, .int .i64 c.mi, .slice tA tn tc, .slice lA ln lc, ptr b5, ptr b6, ptr r7, .map (some M), .slice none 0 0, ptr b10, ptr r11, .slice none 0 0, .slice none 0 0, .int .i64 0].toArray 123))
  rw [<- hbx]
  have hK : (Wf.alloc (.cells bx.toArray 123)).heap[Wf.heap.size]? = some (.cells bx.toArray 123 (0, 0)) := zAB _ _ rfl
  have c9 : Only (fun _ => False) Wf (Wf.alloc (.cells bx.toArray 123)) := (Only.refl _ _).alloc _
  have z9 : (Wf.alloc (.cells bx.toArray 123)).heap.size = Wf.heap.size + 1 := zAS _ _
  generalize Wf.alloc (.cells bx.toArray 123) = W9 at hK c9 z9 ⊢
  have c8 := oF.trans' c9
  have c7 := (o8.trans' q8).trans' c8
  have c6 := (o7.trans' q7).trans' c7
  have c5 := (o6.trans' q6).trans' c6
  have c4 := (o5.trans' q5).trans' c5
  have c3 := (o4.trans' q4).trans' c4
  have c2 := (o3.trans' q3).trans' c3
  have c1 := (o2.trans' q2).trans' c2
  have c0 := (o1.trans' q1).trans' c1
  have y1 := o1.size
  have x1 := q1.size
  have y2 := o2.size
  have x2 := q2.size
  have y3 := o3.size
  have x3 := q3.size
  have y4 := o4.size
  have x4 := q4.size
  have y5 := o5.size
  have x5 := q5.size
  have y6 := o6.size
  have x6 := q6.size
  have y7 := o7.size
  have x7 := q7.size
  have y8 := o8.size
  have x8 := q8.size
  have yF := oF.size
  have hMl := zAG hM
  obtain ⟨C, hC⟩ : ∃ C, C = kc c d pl us mo := ⟨_, rfl⟩
  obtain ⟨m, hm⟩ : ∃ m : KM, m = ⟨w.heap.size, Wf.heap.size, b1, g1, r1, fun _ => none, b2, g2, b3, g3, b4, g4, ⟨tA, tn, tc⟩, tb, tp, ⟨lA, ln, lc⟩, lb, b5, g5, b6, oo6, r7, G, bs, bm, ring, fun _ => none, 0#64, M, .slice none 0 0, none, [], b10, none, r11, R, M1, .slice none 0 0, none, .slice none 0 0, none⟩ := ⟨_, rfl⟩
  obtain ⟨lo, L0, L1, L2, L3, L4, L5, L6, L7, L8, L9, L10, L12, L13⟩ : ∃ lo : Nat -> Nat, lo 0 = Wf.heap.size /\ lo 1 = s2.heap.size /\ lo 2 = a1 /\ lo 3 = a2 /\ lo 4 = a3 /\ lo 5 = s3.heap.size /\ lo 6 = s4.heap.size /\ lo 7 = s5.heap.size /\ lo 8 = s6.heap.size /\ lo 9 = s1.heap.size /\ lo 10 = M /\ lo 12 = s7.heap.size /\ lo 13 = s8.heap.size := ⟨fun i => match i with | 0 => Wf.heap.size | 1 => s2.heap.size | 2 => a1 | 3 => a2 | 4 => a3 | 5 => s3.heap.size | 6 => s4.heap.size | 7 => s5.heap.size | 8 => s6.heap.size | 9 => s1.heap.size | 10 => M | 12 => s7.heap.size | 13 => s8.heap.size | _ => 0, rfl, rfl, rfl, rfl, rfl, rfl, rfl, rfl, rfl, rfl, rfl, rfl, rfl⟩
  obtain ⟨hi, H0, H1, H2, H3, H4, H5, H6, H7, H8, H9, H10, H12, H13⟩ : ∃ hi : Nat -> Nat, hi 0 = Wf.heap.size + 1 /\ hi 1 = a1 /\ hi 2 = a2 /\ hi 3 = a3 /\ hi 4 = w2.heap.size /\ hi 5 = w3.heap.size /\ hi 6 = w4.heap.size /\ hi 7 = w5.heap.size /\ hi 8 = w6.heap.size /\ hi 9 = W1.heap.size /\ hi 10 = M + 1 /\ hi 12 = w7.heap.size /\ hi 13 = w8.heap.size := ⟨fun i => match i with | 0 => Wf.heap.size + 1 | 1 => a1 | 2 => a2 | 3 => a3 | 4 => w2.heap.size | 5 => w3.heap.size | 6 => w4.heap.size | 7 => w5.heap.size | 8 => w6.heap.size | 9 => W1.heap.size | 10 => M + 1 | 12 => w7.heap.size | 13 => w8.heap.size | _ => 0, rfl, rfl, rfl, rfl, rfl, rfl, rfl, rfl, rfl, rfl, rfl, rfl, rfl⟩
  have hI : Ivs m C lo hi := by
   constructor
   ·intro i k hk
    subst hm hC
    match i, hk with
    | 0, hk => obtain rfl : k = Wf.heap.size := hk; exact ⟨by omega, by omega, by omega, by omega⟩
    | 1, hk => have := i1 k hk; exact ⟨by omega, by omega, by omega, by omega⟩
    | 2, hk => have := i2 k hk; exact ⟨by omega, by omega, by omega, by omega⟩
    | 3, hk => have := i3 k hk; exact ⟨by omega, by omega, by omega, by omega⟩
    | 4, hk => have := i4 k hk; exact ⟨by omega, by omega, by omega, by omega⟩
    | 5, hk =>
     refine ⟨by omega, by omega, ?_⟩
     rcases hk with hk | hk
     ·have e1 := hT.fb k hk
      have e2 := hT.win.lt k hk
      exact ⟨by omega, by omega⟩
     ·have e1 := (hT.fp k hk).1
      refine ⟨by omega, ?_⟩
      obtain ⟨i, hi'⟩ := List.mem_iff_getElem?.1 hk
      have hil := (List.getElem?_eq_some_iff.1 hi').1
      rw [hT.tpl] at hil
      obtain ⟨⟨t, l⟩, hu⟩ : ∃ y, us[i]? = some y := ⟨_, List.getElem?_eq_getElem (by rw [hT.len]; exact hil)⟩
      have e2 := (hT.own i t l _ hu hi').1.lt k rfl
      omega
    | 6, hk =>
     have e1 := fL k hk
     have e2 := kL.lt k hk
     exact ⟨by omega, by omega, by omega, by omega⟩
    | 7, hk =>
     refine ⟨by omega, by omega, ?_⟩
     have q : b5 < w5.heap.size := by obtain ⟨t, q⟩ := k5.box; exact zAG q
     have q' := zAG k5.row
     rcases hk with rfl | rfl <;> exact ⟨by omega, by omega⟩
    | 8, hk =>
     have e1 := f6 k hk
     have e2 := k6.lt k hk
     exact ⟨by omega, by omega, by omega, by omega⟩
    | 9, hk =>
     have hk' : rfp r7 G bs bm c.ta.n ring (fun _ => none) k := by rw [<- hus]; exact hk
     have := pRd.lt k hk'
     exact ⟨by omega, by omega, by omega, by omega⟩
    | 10, hk => obtain rfl : k = M := hk; exact ⟨by omega, by omega, by omega, by omega⟩
    | 11, hk =>
     rcases hk with hk | ⟨x, hx, -⟩
     ·cases hk
     ·cases hx
    | 12, hk =>
     rcases hk with hk | hk
     ·obtain rfl : k = b10 := hk
      have e2 := k7.lt k (.inl rfl)
      exact ⟨by omega, by omega, by omega, by omega⟩
     ·cases hk
    | 13, hk =>
     refine ⟨by omega, by omega, ?_⟩
     obtain ⟨z1, z2, z3⟩ := k8.lt
     rcases hk with rfl | rfl | rfl <;> exact ⟨by omega, by omega⟩
    | 14, hk => cases hk
    | 15, hk => cases hk
    | _ + 16, hk => exact hk.elim
   ·intro i j hi1 hj1 h11 h11' hne
    have e1 : i = 0 ∨ i = 1 ∨ i = 2 ∨ i = 3 ∨ i = 4 ∨ i = 5 ∨ i = 6 ∨ i = 7 ∨ i = 8 ∨ i = 9 ∨ i = 10 ∨ i = 12 ∨ i = 13 := by omega
    have e2 : j = 0 ∨ j = 1 ∨ j = 2 ∨ j = 3 ∨ j = 4 ∨ j = 5 ∨ j = 6 ∨ j = 7 ∨ j = 8 ∨ j = 9 ∨ j = 10 ∨ j = 12 ∨ j = 13 := by omega
    rcases e1 with rfl | rfl | rfl | rfl | rfl | rfl | rfl | rfl | rfl | rfl | rfl | rfl | rfl <;> rcases e2 with rfl | rfl | rfl | rfl | rfl | rfl | rfl | rfl | rfl | rfl | rfl | rfl | rfl <;> first | (exact absurd rfl hne) | omega
  have hlt : ∀ i k, foot C m i k -> k < W9.heap.size /\ w.heap.size <= k := by
   intro i k hk
   obtain ⟨h1, h2, h3, h4⟩ := hI.f i k hk
   have e1 : i = 0 ∨ i = 1 ∨ i = 2 ∨ i = 3 ∨ i = 4 ∨ i = 5 ∨ i = 6 ∨ i = 7 ∨ i = 8 ∨ i = 9 ∨ i = 10 ∨ i = 12 ∨ i = 13 := by omega
   rcases e1 with rfl | rfl | rfl | rfl | rfl | rfl | rfl | rfl | rfl | rfl | rfl | rfl | rfl <;> omega
  have e1 : ((c.s.toNat : Nat) : Int) = c.s := by omega
  have e2 : ((c.wy.toNat : Nat) : Int) = c.wy := by omega
  have jC5 : rootL (kc c d pl us mo) m ks0 = bx := by
   rw [hbx, hm]
   unfold rootL kc ks0 Sl.val
   dsimp only
   rw [e1, e2]
  have y12 : w.heap.size <= s2.heap.size := by omega
  have hl8 : Lin.linesN (c.li.n : Int) = d.li.length := by unfold Lin.linesN; omega
  refine ⟨us, mo, m, ?_, ⟨fun i => ?_, hC ▸ hI.apart, ?_⟩, ⟨hT.len, fun i t l hi => by obtain ⟨o, ho, -⟩ := hT.same i t l hi; exact ⟨o, ho⟩⟩, hmo, ?_, c0⟩
  ·rw [hm]
  ·match i with
   | 0 =>
    show W9.heap[m.k]? = some (.cells (rootL (kc c d pl us mo) m ks0).toArray 123 (0, 0))
    rw [jC5, hm]
    exact hK
   | 1 => subst hm; exact zJ1 (k1.kept c2 (fun _ _ h => h)) y12
   | 2 => subst hm; exact k2.kept c2 id id
   | 3 => subst hm; exact k3.kept c2 id id
   | 4 => subst hm; exact k4.kept c2 id id
   | 5 =>
    subst hm
    refine ⟨?_, htn.trans hT.len.symm, ⟨hT.tpl.trans hT.len.symm, fun i t l o hi ho => ⟨(hT.own i t l o hi ho).1.kept c3 (fun _ _ h => h), (hT.own i t l o hi ho).2⟩⟩, fun o ho => ?_⟩
    ·have := hT.win.kept c3 (fun _ _ h => h)
     rw [<- hT.len] at this
     exact this
    ·cases o with
     | none => exact .inl rfl
     | some g => exact .inr (hT.fp g ho).2
   | 6 =>
    subst hm
    refine ⟨?_, hln.trans jC4.symm⟩
    have := kL.kept c4 (fun _ _ h => h)
    rw [<- jC4] at this
    exact this
   | 7 =>
    subst hm
    have := k5.kept c5 id id
    rw [hl8] at this
    exact this
   | 8 => subst hm; exact k6.kept c6 (fun _ _ h => h)
   | 9 =>
    subst hm
    have h1 := zR5 (pRd.new c1) o1.size
    have h2 := pBt
    rw [<- hus] at h1 h2
    exact ⟨h1, h2⟩
   | 10 => subst hm; exact ⟨#[], 0, c9.heap hM id, rfl⟩
   | 11 =>
    subst hm
    exact ⟨Win.nil _ _ _, ⟨rfl, fun i m x h => (by cases h), fun i j m n h => (by cases h)⟩, fun i x h => (by cases h)⟩
   | 12 => subst hm; exact k7.kept c7 (fun _ _ h => h)
   | 13 => subst hm; exact k8.kept c8 id id id
   | 14 => subst hm; exact Win.nil _ _ _
   | 15 => subst hm; exact Win.nil _ _ _
   | _ + 16 => exact trivial
  ·rw [<- hC]
   intro i k hk
   rw [show m.B = w.heap.size by rw [hm]]
   exact hlt i k hk
  ·rw [<- hC]
   rintro k ⟨i, hk⟩
   exact (hlt i k hk).2
