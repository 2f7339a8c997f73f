import Derived.Test.YtlbdjiiddofkgaaGreatDoorC33
namespace Go.Proofs.YtlbdjiiddofkgaaGreatDoor
namespace Krn
open Go Go.RowKit Go.Maps Ring Band
def kA (S W : Nat) (h mi : Int) (a : Int × Int × (Nat -> List Int)) (x : Opn) : Int × Int × (Nat -> List Int) :=
 if x.k = 2 then
  if x.a ∈ a.2.2 (x.a.toNat % S) then (a.1, a.2.1 + ofZ x h mi true, Csh.upd a.2.2 (x.a.toNat % S) (Csh.acc W (a.2.2 (x.a.toNat % S)) x.a))
  else (a.1 + 1, a.2.1 + ofZ x h mi false, Csh.upd a.2.2 (x.a.toNat % S) (Csh.acc W (a.2.2 (x.a.toNat % S)) x.a))
 else (a.1, a.2.1 + ofZ x h mi false, a.2.2)
def alF (S W : Nat) (h mi : Int) (G : Nat -> List Int) (l : List Opn) : Int × Int × (Nat -> List Int) := l.foldl (kA S W h mi) (0, 0, G)
theorem zPB {S W : Nat} {h mi : Int} {G : Nat -> List Int} {l : List Opn} {k : Nat} {x : Opn} (hx : l[k]? = some x) : alF S W h mi G (l.take (k + 1)) = kA S W h mi (alF S W h mi G (l.take k)) x := by
 unfold alF
 rw [List.take_add_one, hx, Option.toList_some, List.foldl_append]
 rfl
theorem zTG (S W : Nat) (h mi : Int) (G : Nat -> List Int) (l : List Opn) : (0 <= (alF S W h mi G l).1 /\ (alF S W h mi G l).1 <= l.length) /\ 0 <= (alF S W h mi G l).2.1 /\ (alF S W h mi G l).2.1 <= l.length * 1073741824 := by
 have key : ∀ (l : List Opn) (a : Int × Int × (Nat -> List Int)) (n : Nat), (0 <= a.1 /\ a.1 <= n) /\ 0 <= a.2.1 /\ a.2.1 <= n * 1073741824 ->
   (0 <= (l.foldl (kA S W h mi) a).1 /\ (l.foldl (kA S W h mi) a).1 <= (n + l.length : Nat)) /\ 0 <= (l.foldl (kA S W h mi) a).2.1 /\ (l.foldl (kA S W h mi) a).2.1 <= (n + l.length : Nat) * 1073741824 := by
  intro l
  induction l with
  | nil => intro a n hn; simpa using hn
  | cons x l ih =>
   intro a n hn
   have := ih (kA S W h mi a x) (n + 1) (by
    have h1 := zHR x h mi true
    have h2 := zHR x h mi false
    unfold kA
    split
    ·split <;> dsimp only <;> omega
    ·dsimp only; omega)
   rw [List.foldl_cons, List.length_cons, show n + (l.length + 1) = n + 1 + l.length by omega]
   exact this
 have := key l (0, 0, G) 0 (by simp)
 simpa [alF] using this
def AlRel (w1 : World) (S W : Nat) (h mi : Int) (G : Nat -> List Int) (l : List Opn) (r R M : Nat) (k : Nat) (a b : Value) (wr : World) : Prop :=
 a = .int .i64 (alF S W h mi G (l.take k)).1 /\ b = .int .i64 (alF S W h mi G (l.take k)).2.1 /\ Csh.CacheAt wr r R M S W (alF S W h mi G (l.take k)).2.2 /\ Only (fun k => k = R ∨ k = M) w1 wr
theorem AlRel.next {w1 wr w3 : World} {S W : Nat} {h mi : Int} {G : Nat -> List Int} {l : List Opn} {r R M k : Nat} {a b a' b' : Value} (hr : AlRel w1 S W h mi G l r R M k a b wr) {x : Opn} (hx : l[k]? = some x) {m y : Int} {G' : Nat -> List Int} (e : kA S W h mi (alF S W h mi G (l.take k)) x = (m, y, G')) (ha : a' = .int .i64 m) (hb : b' = .int .i64 y) (hC : Csh.CacheAt w3 r R M S W G') (ho : Only (fun k => k = R ∨ k = M) wr w3) :
  AlRel w1 S W h mi G l r R M (k + 1) a' b' w3 := by
 unfold AlRel
 rw [zPB hx, e]
 exact ⟨ha, hb, hC, hr.2.2.2.trans' ho⟩
set_option maxHeartbeats 1000000 in
theorem zMT {w : World} {c0 r0 m0 S W : Nat} {G : Nat -> List Int} (hC : Csh.CacheAt w c0 r0 m0 S W G) {A : Option Addr} {n cap : Nat} {l : List Opn} (hl : OpnRow w A l) (hn : l.length = n) (hb : n <= 1000) (hv : ∀ x ∈ l, x.k = 2 -> 0 <= x.a /\ x.a <= 255) (s0 w0 h mi : Int) :
  Calls Tryz.prog 217 #[.slice A n cap, .agg #[.int .i64 s0, .int .i64 w0, .int .i64 h, .int .i64 mi], .pointer (some ⟨c0, 0, none⟩)] w (GrowV (.tuple #[.int .i64 (alF S W h mi G l).1, .int .i64 (alF S W h mi G l).2.1]) w) := by
 have ht := zh (Csh.twin_any (hC.new ((Only.refl (fun _ => False) w).alloc (.cells #[.int .i64 s0, .int .i64 w0, .int .i64 h, .int .i64 mi] 23))))
 have hl' := zh hl
 have hn' := zh hn
 have hv' := zh hv
 have hend : ∃ V, V = Value.tuple #[.int .i64 (alF S W h mi G l).1, .int .i64 (alF S W h mi G l).2.1] := ⟨_, rfl⟩
 obtain ⟨V, hV⟩ := hend
 rw [<- hV]
 have hV' := zh hV
 clear hC hl hn hv hV
 go_enter Tryz.func217, Tryz.ntmps217
 go_wp2_with fail
 refine ht.out.mono ?_
 rintro e w1 ⟨r, R, M, rfl, q1, q2, q3, hC1, hO1⟩
 have hX := zh (hO1.heap (zAB w (.cells [Value.int .i64 s0, .int .i64 w0, .int .i64 h, .int .i64 mi].toArray 23) rfl) id)
 have hO := zh (((Only.refl (fun _ => False) w).alloc (.cells #[.int .i64 s0, .int .i64 w0, .int .i64 h, .int .i64 mi] 23)).trans' hO1)
 obtain ⟨X, hXe⟩ : ∃ X, X = w.heap.size := ⟨_, rfl⟩
 have jDw := zh hXe
 rw [zAS, <- hXe] at q1 q2 q3
 have hst := zh (show AlRel w1 S W h mi G l r R M 0 (.int .i64 0) (.int .i64 0) w1 from ⟨rfl, rfl, hC1, Only.refl _ _⟩)
 have hw1 := zAG hX.out
 rw [<- hXe] at hX hw1 ⊢
 have hq := zh (show X < r /\ X < R /\ X < M /\ r < w1.heap.size /\ R < w1.heap.size /\ M < w1.heap.size from ⟨by omega, by omega, by omega, hC1.lt.1, hC1.lt.2.1, hC1.lt.2.2⟩)
 clear ht hC1 hO1 q1 q2 q3 hXe
 go_wp2
 go_loopw [6, 7, 16] (fun a b i wr => ∃ k : Nat, k <= n /\ i = .int .i64 k /\ AlRel w1 S W h mi G l r R M k a b wr) (fun _ _ i _ => n - (intOf i).toNat)
 case atStart => exact ⟨0, Nat.zero_le _, rfl, hst.out⟩
 case round =>
  obtain ⟨k, hk, rfl, hrel⟩ := hrel
  have hR := zh hrel
  obtain ⟨rfl, rfl, hC, hO2⟩ := hrel
  by_cases hkn : k < n
  ·have vR : (k : Int) < (n : Int) := by omega
   obtain ⟨x, hx⟩ : ∃ x, l[k]? = some x := ⟨_, List.getElem?_eq_getElem (by have := hn'.out; omega)⟩
   have hlr := hl'.out.only ((hO.out.mono (T := fun k => k = R ∨ k = M) (fun _ _ h => h.elim)).trans' hO2) (fun k hk => by have := hq.out; have := jDw.out; rcases hk with rfl | rfl <;> omega)
   obtain ⟨g, off, rfl, hg, e0, e1, e2⟩ := hlr k x hx
   have hle := zTG S W h mi G (l.take k)
   have hkl : (l.take k).length <= 1000 := by rw [List.length_take]; omega
   have hnx := zh (fun w3 a' b' m y G' => hR.out.next (w3 := w3) (a' := a') (b' := b') hx (m := m) (y := y) (G' := G'))
   have hvx := zh (hv'.out x (List.mem_of_getElem? hx))
   obtain ⟨F, hF⟩ : ∃ F, F = alF S W h mi G (l.take k) := ⟨_, rfl⟩
   rw [<- hF] at hC hle hnx ⊢
   obtain ⟨mz, cz, G1⟩ := F
   obtain ⟨K, a, b⟩ := x
   dsimp only at *
   have o1 := zHR ⟨K, a, b⟩ h mi true
   have o2 := zHR ⟨K, a, b⟩ h mi false
   have hXr := hO2.heap hX.out (fun hk => by have := hq.out; omega)
   have x0 := zAA hXr (i := 0) rfl
   have x1 := zAA hXr (i := 1) rfl
   have x2 := zAA hXr (i := 2) rfl
   have x3 := zAA hXr (i := 3) rfl
   have xl := zAG hXr
   have hC' := zh hC
   have jIu := zh hXr
   have hF' := zh hF
   by_cases h2 : K = 2
   ·subst h2
    obtain ⟨v, hv⟩ : ∃ v : Nat, a = (v : Int) := ⟨a.toNat, by have := hvx.out rfl; omega⟩
    subst hv
    have jCo : v <= 255 := by have := hvx.out rfl; omega
    obtain ⟨Y, hY⟩ : ∃ Y, Y = wr.heap.size := ⟨_, rfl⟩
    have hA := zh (Csh.access_any (hC.new ((Only.refl (fun _ => False) wr).alloc (.cells (Opn.cells ⟨2, v, b⟩).toArray 94))) v jCo)
    have hY0 := zh (zAB wr (.cells (Opn.cells ⟨2, v, b⟩).toArray 94) hY.symm)
    have hYn := zh (show Y ≠ R /\ Y ≠ M /\ X ≠ R /\ X ≠ M from by have := hq.out; have := hC.lt; omega)
    have hX0 := zh (zAF hXr (.cells (Opn.cells ⟨2, v, b⟩).toArray 94))
    unfold Csh.AccEnd at hA
    by_cases hin : (v : Int) ∈ G1 (v % S)
    ·have hs : kA S W h mi (mz, cz, G1) ⟨2, v, b⟩ = (mz, cz + ofZ ⟨2, v, b⟩ h mi true, Csh.upd G1 (v % S) (Csh.acc W (G1 (v % S)) v)) := by simp [kA, hin]
     obtain ⟨oz, hoz⟩ : ∃ oz, oz = ofZ ⟨2, v, b⟩ h mi true := ⟨_, rfl⟩
     have hof := zh (fun W0 => zER ⟨2, v, b⟩ s0 w0 h mi true W0)
     rw [<- hoz] at hs o1 hof
     rw [decide_eq_true hin] at hA
     have hs' := zh hs
     have hwr : IntKind.i64.wrap (cz + oz) = cz + oz := IntWalk.i64_in _ (by omega)
     unfold Opn.val Opn.cells at *
     dsimp only at hof hA hY0 hX0
     clear hR hC hO2 hx hlr hs hvx hXr hF hoz hst hle o2 hin
     go_wp2_with fail
     rw [<- hY]
     clear hY
     refine hA.out.mono ?_
     rintro e w2 ⟨rfl, hC2, hO2⟩
     have jCp := zh hC2
     have kC := zh (((Only.refl (fun k => k = R ∨ k = M) wr).alloc _).trans' hO2)
     have hY2 := hO2.heap hY0.out (fun hk => by have := hYn.out; omega)
     have hX2 := hO2.heap hX0.out (fun hk => by have := hYn.out; omega)
     have y0 := zAA (L := [_, _, _]) hY2 (i := 0) rfl
     have y1 := zAA (L := [_, _, _]) hY2 (i := 1) rfl
     have y2 := zAA (L := [_, _, _]) hY2 (i := 2) rfl
     have yl := zAG hY2
     have z0 := zAA (L := [_, _, _, _]) hX2 (i := 0) rfl
     have z1 := zAA (L := [_, _, _, _]) hX2 (i := 1) rfl
     have z2 := zAA (L := [_, _, _, _]) hX2 (i := 2) rfl
     have z3 := zAA (L := [_, _, _, _]) hX2 (i := 3) rfl
     have zl := zAG hX2
     clear hC2 hO2 hY2 hX2 x0 x1 x2 x3 xl e0 e1 e2 hA
     go_wp2_with fail
     refine (hof.out _).mono ?_
     rintro e w3 ⟨rfl, hO3⟩
     have vT := zh hO3
     clear hO3
     go_wp2
     go_roundw
     case rel => exact ⟨k + 1, by omega, by go_num, hnx.out _ _ _ _ _ _ hs'.out rfl rfl (jCp.out.new vT.out) (kC.out.trans vT.out (fun _ _ h => h.elim))⟩
     case measure => simp [intOf]; omega
    ·have hs : kA S W h mi (mz, cz, G1) ⟨2, v, b⟩ = (mz + 1, cz + ofZ ⟨2, v, b⟩ h mi false, Csh.upd G1 (v % S) (Csh.acc W (G1 (v % S)) v)) := by simp [kA, hin]
     obtain ⟨oz, hoz⟩ : ∃ oz, oz = ofZ ⟨2, v, b⟩ h mi false := ⟨_, rfl⟩
     have hof := zh (fun W0 => zER ⟨2, v, b⟩ s0 w0 h mi false W0)
     rw [<- hoz] at hs o2 hof
     rw [decide_eq_false hin] at hA
     have hs' := zh hs
     have hwr : IntKind.i64.wrap (cz + oz) = cz + oz := IntWalk.i64_in _ (by omega)
     have jCk : IntKind.i64.wrap (mz + 1) = mz + 1 := IntWalk.i64_in _ (by omega)
     unfold Opn.val Opn.cells at *
     dsimp only at hof hA hY0 hX0
     clear hR hC hO2 hx hlr hs hvx hXr hF hoz hst hle o1 hin
     go_wp2_with fail
     rw [<- hY]
     clear hY
     refine hA.out.mono ?_
     rintro e w2 ⟨rfl, hC2, hO2⟩
     have jCp := zh hC2
     have kC := zh (((Only.refl (fun k => k = R ∨ k = M) wr).alloc _).trans' hO2)
     have hY2 := hO2.heap hY0.out (fun hk => by have := hYn.out; omega)
     have hX2 := hO2.heap hX0.out (fun hk => by have := hYn.out; omega)
     have y0 := zAA (L := [_, _, _]) hY2 (i := 0) rfl
     have y1 := zAA (L := [_, _, _]) hY2 (i := 1) rfl
     have y2 := zAA (L := [_, _, _]) hY2 (i := 2) rfl
     have yl := zAG hY2
     have z0 := zAA (L := [_, _, _, _]) hX2 (i := 0) rfl
     have z1 := zAA (L := [_, _, _, _]) hX2 (i := 1) rfl
     have z2 := zAA (L := [_, _, _, _]) hX2 (i := 2) rfl
     have z3 := zAA (L := [_, _, _, _]) hX2 (i := 3) rfl
     have zl := zAG hX2
     clear hC2 hO2 hY2 hX2 x0 x1 x2 x3 xl e0 e1 e2 hA
     go_wp2_with fail
     refine (hof.out _).mono ?_
     rintro e w3 ⟨rfl, hO3⟩
     have vT := zh hO3
     clear hO3
     go_wp2
     go_roundw
     case rel => exact ⟨k + 1, by omega, by go_num, hnx.out _ _ _ _ _ _ hs'.out rfl rfl (jCp.out.new vT.out) (kC.out.trans vT.out (fun _ _ h => h.elim))⟩
     case measure => simp [intOf]; omega
   ·have hk2 : (K == 2) = false := by simpa using h2
    have hs : kA S W h mi (mz, cz, G1) ⟨K, a, b⟩ = (mz, cz + ofZ ⟨K, a, b⟩ h mi false, G1) := by simp [kA, h2]
    obtain ⟨oz, hoz⟩ : ∃ oz, oz = ofZ ⟨K, a, b⟩ h mi false := ⟨_, rfl⟩
    have hof := zh (fun W0 => zER ⟨K, a, b⟩ s0 w0 h mi false W0)
    rw [<- hoz] at hs o2 hof
    have hs' := zh hs
    have hwr : IntKind.i64.wrap (cz + oz) = cz + oz := IntWalk.i64_in _ (by omega)
    unfold Opn.val at hof
    dsimp only at hof
    clear hR hC hO2 hx hlr hs hvx hXr hF hoz hst h2 hle o1
    go_wp2_with fail
    refine (hof.out _).mono ?_
    rintro e w3 ⟨rfl, hO3⟩
    have vT := zh hO3
    clear hO3
    go_wp2
    go_roundw
    case rel => exact ⟨k + 1, by omega, by go_num, hnx.out _ _ _ _ _ _ hs'.out rfl rfl (hC'.out.new (((Only.refl _ _).alloc _).trans' vT.out)) ((((Only.refl _ _).alloc _).trans' vT.out).mono (fun _ _ h => h.elim))⟩
    case measure => simp [intOf]; omega
  ·obtain rfl : k = n := by omega
   have hv := zh (show (alF S W h mi G (l.take k)) = alF S W h mi G l from by rw [List.take_of_length_le (by have := hn'.out; omega)])
   rw [hv.out]
   have hO3 := zh hO2
   clear hC hO2 hst hR
   go_wp2
   exact bodyPost_ret (v := V) (by simp [results, Tryz.results217, go_sem, hV'.out]) rfl ⟨rfl, hO.out.trans hO3.out (fun x hx hk => by have := hq.out; have := jDw.out; rcases hk with rfl | rfl <;> omega)⟩
section
variable {w w' : World} {c : KC} {m : KM} {s : KS}
theorem KAt.opn (h : KAt w c m s) {t : Nat} {tv : jA} {l : List Opn} (hx : c.ts[t]? = some (tv, l)) : OpnRow w tv.o.A l /\ l.length = tv.o.n := by
 obtain ⟨-, -, ⟨hlen, hall⟩, -⟩ := h.p 5
 have hlt := (List.getElem?_eq_some_iff.1 hx).1
 obtain ⟨o, ho⟩ : ∃ o, m.tp[t]? = some o := ⟨m.tp[t]'(by omega), List.getElem?_eq_getElem (by omega)⟩
 obtain ⟨hW, hn⟩ := hall t tv l o hx ho
 refine ⟨fun k x hk => ?_, hn⟩
 obtain ⟨g, off, cap, -, h2, -, -, -, h6, h7, -⟩ := zBG (f := Opn.cells) (fun _ => rfl) (show Win w 94 3 tv.o.val o l.length (rowC Opn.cells l) from hW) hk
 refine ⟨g, off, ?_, h6, h7 0 _ rfl, h7 1 _ rfl, h7 2 _ rfl⟩
 unfold Sl.val at h2
 simp only [Value.slice.injEq] at h2
 exact h2.1
end
section
variable {w w' : World} {c : KC} {m : KM} {s : KS}
theorem KAt.jobAdd (h : KAt w c m s) {x : Bj} {B : Bm} {W0 W1 : World} {v' : Value} {o' : Option Nat} (h0 : Only (fun _ => False) w W0) (hx : BjAt W0 B x) (hB : ∀ k, B.fp k -> w.heap.size <= k)
  (hW : Win W1 141 1 v' o' (s.jobs.length + 1) (rowC bmV m.js ++ [ptr B.b])) (h1 : Only (fun k => some k = m.oj) W0 W1) (hh : o' = m.oj ∨ ∃ g, o' = some g /\ W0.heap.size <= g) :
  KT w c m (W1.setCell ⟨m.k, 14, none⟩ v') { m with vj := v', oj := o', js := m.js ++ [B] } { s with jobs := s.jobs ++ [x] } := by
 obtain ⟨hw1, hj1, ha1⟩ := h.p 11
 have jAt : ∀ k, m.oj = some k -> k < w.heap.size := fun k hk => hw1.lt k hk
 have hold : ∀ y ∈ m.js, ∀ k, y.fp k -> k < w.heap.size := fun y hy k hk => zML hw1 hj1 k (.inr ⟨y, hy, hk⟩)
 have hx1 : BjAt W1 B x := hx.kept h1 (fun k hk e => by have := hB k hk; have := jAt k e.symm; omega)
 have hj2 : JobsAt W1 m.js s.jobs := (hj1.kept h0 (fun _ _ _ _ h => h)).kept h1 (fun y hy k hk e => by
  obtain ⟨i, hi⟩ := List.mem_iff_getElem?.1 hy
  exact ha1 i y hi k hk e.symm)
 refine h.jobr (W := w) (Only.refl _ w) ⟨?_, ⟨?_, ?_, ?_⟩, ?_⟩ ((h0.mono (fun _ _ h => h.elim)).trans h1 (fun k _ e => .inl e.symm)) ?_
 ·show Win W1 141 1 v' o' (s.jobs ++ [x]).length (rowC bmV (m.js ++ [B]))
  rw [List.length_append, zBY, zFP]
  exact hW
 ·rw [List.length_append, List.length_append, hj1.1]
  rfl
 ·intro i y z hy hz
  by_cases hi : i < m.js.length
  ·rw [List.getElem?_append_left hi] at hy
   rw [List.getElem?_append_left (by have := hj1.1; omega)] at hz
   exact hj2.2.1 i y z hy hz
  ·have hil := (List.getElem?_eq_some_iff.1 hy).1
   rw [List.length_append] at hil
   simp only [List.length_cons, List.length_nil] at hil
   obtain rfl : i = m.js.length := by omega
   rw [List.getElem?_append_right (Nat.le_refl _), Nat.sub_self] at hy
   rw [List.getElem?_append_right (by have := hj1.1; omega), hj1.1, Nat.sub_self] at hz
   cases hy
   cases hz
   exact hx1
 ·intro i j y z hy hz hij k hk1 hk2
  have wN : ∀ (i : Nat) (y : Bm), (m.js ++ [B])[i]? = some y -> (i < m.js.length /\ m.js[i]? = some y) ∨ (i = m.js.length /\ y = B) := fun i y hy => by
   by_cases hi : i < m.js.length
   ·rw [List.getElem?_append_left hi] at hy
    exact .inl ⟨hi, hy⟩
   ·have hil := (List.getElem?_eq_some_iff.1 hy).1
    rw [List.length_append] at hil
    simp only [List.length_cons, List.length_nil] at hil
    obtain rfl : i = m.js.length := by omega
    rw [List.getElem?_append_right (Nat.le_refl _), Nat.sub_self] at hy
    cases hy
    exact .inr ⟨rfl, rfl⟩
  rcases wN i y hy with ⟨hi, hy'⟩ | ⟨hi, rfl⟩ <;> rcases wN j z hz with ⟨hj, hz'⟩ | ⟨hj, rfl⟩
  ·exact hj1.2.2 i j y z hy' hz' hij k hk1 hk2
  ·have := hold y (List.mem_of_getElem? hy') k hk1
   have := hB k hk2
   omega
  ·have := hold z (List.mem_of_getElem? hz') k hk2
   have := hB k hk1
   omega
  ·omega
 ·intro i y hy k hk e
  have e' : o' = some k := e
  have hy' : y ∈ m.js ∨ y = B := by
   have := List.mem_of_getElem? hy
   simpa using this
  rcases hh with rfl | ⟨g, hg, hge⟩
  ·rcases hy' with hy' | rfl
   ·obtain ⟨i', hi'⟩ := List.mem_iff_getElem?.1 hy'
    exact ha1 i' y hi' k hk e'
   ·have := hB k hk
    have := jAt k e'
    omega
  ·rw [hg] at e'
   cases e'
   rcases hy' with hy' | rfl
   ·have := hold y hy' k hk
    have := h0.size
    omega
   ·have := hx.lt k hk
    omega
 ·rintro k (hk | ⟨y, hy, hk⟩)
  ·have hk' : o' = some k := hk
   rcases hh with rfl | ⟨g, hg, hge⟩
   ·exact .inl (.inl hk')
   ·rw [hg] at hk'
    cases hk'
    exact .inr (Nat.le_trans h0.size hge)
  ·have hy' : y ∈ m.js ∨ y = B := by simpa using hy
   rcases hy' with hy' | rfl
   ·exact .inl (.inr ⟨y, hy', hk⟩)
   ·exact .inr (hB k hk)
end
