import Derived.Test.YtlbdjiiddofkgaaGreatDoorC36
set_option maxRecDepth 100000
namespace Go.Proofs.YtlbdjiiddofkgaaGreatDoor
namespace Krn
open Go Go.RowKit Go.Maps Ring Band
section
variable {w w' : World} {c : KC} {m : KM} {s : KS}
def FirstV (z : Jb) (P : Int) (wt : Bool) (W : World) (e : Ending) (w' : World) : Prop := e = .returned (.tuple #[z.val, .int .i64 P, .bool wt]) /\ Only (fun _ => False) W w'
def ResV (Z : World -> Prop) (e : Ending) (w' : World) : Prop := e = .returned (.tuple #[]) /\ Z w'
def ChV (v : Bool) (Z : World -> Prop) (e : Ending) (w' : World) : Prop := e = .returned (.bool v) /\ Z w'
theorem zIW {k r7 : Nat} {v : Value} {z : Jb} {P L : Int} {wt : Bool} {Z : World -> Prop} (hv : v = .pointer none ∨ ∃ b, v = ptr b) (hlt : k < w.heap.size) (c12 : w.cell? ⟨k, 12, none⟩ = some (ptr r7))
  (jU : Calls Tryz.prog 67 #[ptr k] w (DrewV v w))
  (jW : ∀ W, Only (fun _ => False) w W -> Calls Tryz.prog 156 #[ptr r7] W (FirstV z P wt W))
  (kS : ∀ W, Only (fun _ => False) w W -> Calls Tryz.prog 68 #[ptr k, v] W (GrowV (.int .i64 L) W))
  (hd : wt = true -> ¬ L < P)
  (hres : ∀ W, Only (fun _ => False) w W -> Calls Tryz.prog 159 #[ptr k, v] W (ResV Z)) :
  Calls Tryz.prog 102 #[ptr k] w (ChV false Z) := by
 have vU := zh jU
 have jZ := zh jW
 have vA := zh kS
 have wE := zh hres
 clear jU jW kS hres
 unfold ptr FirstV Jb.val at *
 rcases hv with rfl | ⟨b, rfl⟩
 all_goals
  cases wt with
  | false =>
   clear hd
   go_enter Tryz.func102, Tryz.ntmps102
   go_wp2_with fail
   refine vU.out.mono ?_
   rintro e w1 ⟨rfl, n, rfl⟩
   have yC : (w.drewN n).cell? ⟨k, 12, none⟩ = _ := c12
   have kM : k < (w.drewN n).heap.size := hlt
   go_wp2_with fail
   refine (jZ.out _ ((Only.refl _ w).drewN n)).mono ?_
   rintro e w2 ⟨rfl, hO2⟩
   have hO3 : Only (fun _ => False) w w2 := ((Only.refl (fun _ => False) w).drewN n).trans hO2 (fun _ _ h => h)
   clear hO2 yC kM
   go_wp2_with fail
   refine (wE.out _ (hO3.alloc _)).mono ?_
   rintro e w6 ⟨rfl, hZ⟩
   have hZ' := zh hZ
   clear hZ
   go_wp2_with fail
   go_ret
   exact ⟨rfl, hZ'.out⟩
  | true =>
   have hd' : ¬ L < P := hd rfl
   clear hd
   go_enter Tryz.func102, Tryz.ntmps102
   go_wp2_with fail
   refine vU.out.mono ?_
   rintro e w1 ⟨rfl, n, rfl⟩
   have yC : (w.drewN n).cell? ⟨k, 12, none⟩ = _ := c12
   have kM : k < (w.drewN n).heap.size := hlt
   go_wp2_with fail
   refine (jZ.out _ ((Only.refl _ w).drewN n)).mono ?_
   rintro e w2 ⟨rfl, hO2⟩
   have hO3 : Only (fun _ => False) w w2 := ((Only.refl (fun _ => False) w).drewN n).trans hO2 (fun _ _ h => h)
   clear hO2 yC kM
   go_wp2_with fail
   refine (vA.out _ (hO3.alloc _)).mono ?_
   rintro e w4 ⟨rfl, hO4⟩
   have hO5 : Only (fun _ => False) w w4 := (hO3.alloc _).trans hO4 (fun _ _ h => h)
   clear hO3 hO4
   go_wp2_with fail
   refine (wE.out _ hO5).mono ?_
   rintro e w6 ⟨rfl, hZ⟩
   have hZ' := zh hZ
   clear hZ
   go_wp2_with fail
   go_ret
   exact ⟨rfl, hZ'.out⟩
theorem zIX {k r7 b jb : Nat} {z : Jb} {P L : Int} {Y Z : World -> Prop} (hlt : k < w.heap.size) (c12 : w.cell? ⟨k, 12, none⟩ = some (ptr r7)) (hb : w.cell? ⟨b, 0, none⟩ = some (ptr jb)) (hbl : b < w.heap.size)
  (jU : Calls Tryz.prog 67 #[ptr k] w (DrewV (ptr b) w))
  (jW : ∀ W, Only (fun _ => False) w W -> Calls Tryz.prog 156 #[ptr r7] W (FirstV z P true W))
  (kS : ∀ W, Only (fun _ => False) w W -> Calls Tryz.prog 68 #[ptr k, ptr b] W (GrowV (.int .i64 L) W))
  (hd : L < P) (hw : ∀ W, Only (fun _ => False) w W -> Calls Tryz.prog 157 #[ptr jb] W (fun e w' => e = .returned (.bool true) /\ Y w'))
  (hres : ∀ W, Y W -> Calls Tryz.prog 159 #[ptr k, ptr b] W (ResV Z)) :
  Calls Tryz.prog 102 #[ptr k] w (ChV true Z) := by
 have vU := zh jU
 have jZ := zh jW
 have vA := zh kS
 have wE := zh hres
 have hw' := zh hw
 clear jU jW kS hres hw
 unfold ptr FirstV Jb.val at *
 go_enter Tryz.func102, Tryz.ntmps102
 go_wp2_with fail
 refine vU.out.mono ?_
 rintro e w1 ⟨rfl, n, rfl⟩
 have yC : (w.drewN n).cell? ⟨k, 12, none⟩ = _ := c12
 have kM : k < (w.drewN n).heap.size := hlt
 go_wp2_with fail
 refine (jZ.out _ ((Only.refl _ w).drewN n)).mono ?_
 rintro e w2 ⟨rfl, hO2⟩
 have hO3 : Only (fun _ => False) w w2 := ((Only.refl (fun _ => False) w).drewN n).trans hO2 (fun _ _ h => h)
 clear hO2 yC kM
 go_wp2_with fail
 refine (vA.out _ (hO3.alloc _)).mono ?_
 rintro e w4 ⟨rfl, hO4⟩
 have hO5 : Only (fun _ => False) w w4 := (hO3.alloc _).trans hO4 (fun _ _ h => h)
 clear hO3 hO4
 have hb5 := hO5.cell hb id
 have jD3 := Nat.lt_of_lt_of_le hbl hO5.size
 go_wp2_with fail
 refine (hw'.out _ hO5).mono ?_
 rintro e w5 ⟨rfl, hY⟩
 have hY' := zh hY
 clear hY
 go_wp2_with fail
 refine (wE.out _ hY'.out).mono ?_
 rintro e w6 ⟨rfl, hZ⟩
 have hZ' := zh hZ
 clear hZ
 go_wp2_with fail
 go_ret
 exact ⟨rfl, hZ'.out⟩
theorem zGL {k r7 : Nat} {z : Jb} {P L : Int} {Z : World -> Prop} (hlt : k < w.heap.size) (c12 : w.cell? ⟨k, 12, none⟩ = some (ptr r7))
  (jU : Calls Tryz.prog 67 #[ptr k] w (DrewV (.pointer none) w))
  (jW : ∀ W, Only (fun _ => False) w W -> Calls Tryz.prog 156 #[ptr r7] W (FirstV z P true W))
  (kS : ∀ W, Only (fun _ => False) w W -> Calls Tryz.prog 68 #[ptr k, .pointer none] W (GrowV (.int .i64 L) W))
  (hd : L < P)
  (hres : ∀ W, Only (fun _ => False) w W -> Calls Tryz.prog 158 #[ptr k, .pointer none] W (ResV Z)) :
  Calls Tryz.prog 102 #[ptr k] w (ChV false Z) := by
 have vU := zh jU
 have jZ := zh jW
 have vA := zh kS
 have wE := zh hres
 clear jU jW kS hres
 unfold ptr FirstV Jb.val at *
 go_enter Tryz.func102, Tryz.ntmps102
 go_wp2_with fail
 refine vU.out.mono ?_
 rintro e w1 ⟨rfl, n, rfl⟩
 have yC : (w.drewN n).cell? ⟨k, 12, none⟩ = _ := c12
 have kM : k < (w.drewN n).heap.size := hlt
 go_wp2_with fail
 refine (jZ.out _ ((Only.refl _ w).drewN n)).mono ?_
 rintro e w2 ⟨rfl, hO2⟩
 have hO3 : Only (fun _ => False) w w2 := ((Only.refl (fun _ => False) w).drewN n).trans hO2 (fun _ _ h => h)
 clear hO2 yC kM
 go_wp2_with fail
 refine (vA.out _ (hO3.alloc _)).mono ?_
 rintro e w4 ⟨rfl, hO4⟩
 have hO5 : Only (fun _ => False) w w4 := (hO3.alloc _).trans hO4 (fun _ _ h => h)
 clear hO3 hO4
 go_wp2_with fail
 refine (wE.out _ hO5).mono ?_
 rintro e w6 ⟨rfl, hZ⟩
 have hZ' := zh hZ
 clear hZ
 go_wp2_with fail
 go_ret
 exact ⟨rfl, hZ'.out⟩
theorem zGM {k r7 b jb : Nat} {z : Jb} {P L : Int} {Z : World -> Prop} (hlt : k < w.heap.size) (c12 : w.cell? ⟨k, 12, none⟩ = some (ptr r7)) (hb : w.cell? ⟨b, 0, none⟩ = some (ptr jb)) (hbl : b < w.heap.size)
  (jU : Calls Tryz.prog 67 #[ptr k] w (DrewV (ptr b) w))
  (jW : ∀ W, Only (fun _ => False) w W -> Calls Tryz.prog 156 #[ptr r7] W (FirstV z P true W))
  (kS : ∀ W, Only (fun _ => False) w W -> Calls Tryz.prog 68 #[ptr k, ptr b] W (GrowV (.int .i64 L) W))
  (hd : L < P) (hw : ∀ W, Only (fun _ => False) w W -> Calls Tryz.prog 157 #[ptr jb] W (GrowV (.bool false) W))
  (hres : ∀ W, Only (fun _ => False) w W -> Calls Tryz.prog 158 #[ptr k, ptr b] W (ResV Z)) :
  Calls Tryz.prog 102 #[ptr k] w (ChV false Z) := by
 have vU := zh jU
 have jZ := zh jW
 have vA := zh kS
 have wE := zh hres
 have hw' := zh hw
 clear jU jW kS hres hw
 unfold ptr FirstV Jb.val at *
 go_enter Tryz.func102, Tryz.ntmps102
 go_wp2_with fail
 refine vU.out.mono ?_
 rintro e w1 ⟨rfl, n, rfl⟩
 have yC : (w.drewN n).cell? ⟨k, 12, none⟩ = _ := c12
 have kM : k < (w.drewN n).heap.size := hlt
 go_wp2_with fail
 refine (jZ.out _ ((Only.refl _ w).drewN n)).mono ?_
 rintro e w2 ⟨rfl, hO2⟩
 have hO3 : Only (fun _ => False) w w2 := ((Only.refl (fun _ => False) w).drewN n).trans hO2 (fun _ _ h => h)
 clear hO2 yC kM
 go_wp2_with fail
 refine (vA.out _ (hO3.alloc _)).mono ?_
 rintro e w4 ⟨rfl, hO4⟩
 have hO5 : Only (fun _ => False) w w4 := (hO3.alloc _).trans hO4 (fun _ _ h => h)
 clear hO3 hO4
 have hb5 := hO5.cell hb id
 have jD3 := Nat.lt_of_lt_of_le hbl hO5.size
 go_wp2_with fail
 refine (hw'.out _ hO5).mono ?_
 rintro e w5 ⟨rfl, hO6⟩
 have hO7 := hO5.trans hO6 (fun _ _ h => h)
 clear hO6 hb5 jD3 hO5
 go_wp2_with fail
 refine (wE.out _ hO7).mono ?_
 rintro e w6 ⟨rfl, hZ⟩
 have hZ' := zh hZ
 clear hZ
 go_wp2_with fail
 go_ret
 exact ⟨rfl, hZ'.out⟩
end
section
variable {w w' : World} {c : KC} {m : KM} {s : KS}
def UOk (c : KC) (m : KM) (s : KS) : Option (Nat × Bj × Et) -> Prop
 | none => m.js.getLast? = none
 | some (i, x, e) => ∃ B, m.js.getLast? = some B /\ m.js[i]? = some B /\ s.jobs[i]? = some x /\ s.ents[x.p]? = some e /\ 0 <= e.di /\ e.di <= 1000000000000 /\ ∃ (tn : Nat) (t : jA) (l : List Opn), e.ta = (tn : Int) /\ c.ts[tn]? = some (t, l)
def FOk (c : KC) (s : KS) : Option (Nat × Jb × Nat × List (Jb × Nat)) -> Prop
 | none => ∀ i, i < c.ts.length -> s.q i = []
 | some (t, x, p, l) => IsTop c.ts.length c.P (qj s) t /\ s.q t = (x, p) :: l
def levU (c : KC) (s : KS) : Option (Nat × Bj × Et) -> Int
 | none => -1
 | some (_, x, e) => match c.ts[e.ta.toNat]? with
  | some y => levF c s y.1 x
  | none => 0
def dispB (c : KC) (s : KS) (u : Option (Nat × Bj × Et)) : Option (Nat × Jb × Nat × List (Jb × Nat)) -> Bool
 | none => false
 | some (t, _) => decide (levU c s u < (c.P t : Int))
def resU (s : KS) : Option (Nat × Bj × Et) -> KS
 | none => s
 | some (i, x, e) => resF s i x e
def whU : Option (Nat × Bj × Et) -> Bool
 | none => false
 | some (_, x, _) => whB x.j
theorem UOk.top {u : Option (Nat × Bj × Et)} (hu : UOk c m s u) : topV m.js = .pointer none ∨ ∃ b, topV m.js = ptr b := by
 cases u with
 | none => unfold topV; rw [show m.js.getLast? = none from hu]; exact .inl rfl
 | some y =>
  obtain ⟨i, x, e⟩ := y
  obtain ⟨B, h1, -⟩ := hu
  unfold topV
  rw [h1]
  exact .inr ⟨_, rfl⟩
theorem UOk.under {u : Option (Nat × Bj × Et)} (hu : UOk c m s u) : UnderOk m s (topV m.js) u := by
 cases u with
 | none => unfold topV; rw [show m.js.getLast? = none from hu]; rfl
 | some y =>
  obtain ⟨i, x, e⟩ := y
  obtain ⟨B, h1, h2, h3, h4, h5, h6, -⟩ := hu
  unfold topV
  rw [h1]
  exact ⟨B.b, rfl, B, rfl, h2, h3, h4, h5, h6⟩
theorem KMore.back {w0 : World} {S : KS} (h : KMore w c m S w') (ho : Only (fun _ => False) w0 w) : KMore w0 c m S w' := by
 obtain ⟨m9, B, k9, e9, f9⟩ := h
 exact ⟨m9, B, k9.back ho, e9, f9⟩
theorem zPD (h : KAt w c m s) : w.cell? ⟨m.k, 12, none⟩ = some (ptr m.r7) := zAA h.root (i := 12) rfl
theorem zDU (h : KAt w c m s) {f : Option (Nat × Jb × Nat × List (Jb × Nat))} (hf : FOk c s f) : ∃ z P, (∀ t x p l, f = some (t, x, p, l) -> P = (c.P t : Int)) /\ ∀ W, Only (fun _ => False) w W -> Calls Tryz.prog 156 #[ptr m.r7] W (FirstV z P f.isSome W) := by
 cases f with
 | none =>
  refine ⟨zjb, 0, (fun _ _ _ _ e => by cases e), fun W hO => ?_⟩
  obtain ⟨h1, h2⟩ := (h.new hO).p 9
  exact zCM h1 h2 (fun i hi => by unfold qj; rw [hf i hi]; rfl)
 | some y =>
  obtain ⟨t, x, p, l⟩ := y
  refine ⟨x, (c.P t : Int), (fun _ _ _ _ e => by cases e; rfl), fun W hO => ?_⟩
  obtain ⟨h1, h2⟩ := (h.new hO).p 9
  exact first_some h1 h2 hf.1 (l := l.map Prod.fst) (by unfold qj; rw [hf.2]; rfl)
theorem zDV (h : KAt w c m s) {u : Option (Nat × Bj × Et)} (hu : UOk c m s u) (hnl : c.nl <= 4096) : ∀ W, Only (fun _ => False) w W -> Calls Tryz.prog 68 #[ptr m.k, topV m.js] W (GrowV (.int .i64 (levU c s u)) W) := by
 intro W hO
 cases u with
 | none =>
  unfold topV
  rw [show m.js.getLast? = none from hu]
  exact (zKZ m.k W).mono fun e w' ⟨h1, h2⟩ => ⟨h1, h2 ▸ Only.refl _ _⟩
 | some y =>
  obtain ⟨i, x, e⟩ := y
  obtain ⟨B, h1, h2, h3, h4, h5, h6, tn, t, l, h7, h8⟩ := hu
  unfold topV
  rw [h1]
  have : levU c s (some (i, x, e)) = levF c s t x := by
   show (match c.ts[e.ta.toNat]? with | some y => levF c s y.1 x | none => 0) = _
   rw [h7, Int.toNat_natCast, h8]
  rw [this]
  exact level_any (h.new hO) h2 h3 h4 h7 h8 hnl
theorem zIY (h : KAt w c m s) {u : Option (Nat × Bj × Et)} (hu : UOk c m s u) (htr : s.tr.length <= 1000000000) : ∀ W, Only (fun _ => False) w W -> Calls Tryz.prog 159 #[ptr m.k, topV m.js] W (ResV (KNow w c m (resU s u))) := by
 intro W hO
 cases u with
 | none =>
  unfold topV
  rw [show m.js.getLast? = none from hu]
  exact (zIV m.k W).mono fun e w' ⟨h1, h2⟩ => ⟨h1, (h.new hO).know h2 |>.back hO⟩
 | some y =>
  obtain ⟨i, x, e⟩ := y
  obtain ⟨B, h1, h2, h3, h4, -⟩ := hu
  unfold topV
  rw [h1]
  exact (zFJ (h.new hO) h2 h3 h4 htr).mono fun e w' ⟨h1, h2⟩ => ⟨h1, h2.back hO⟩
theorem zMW (h : KAt w c m s) {u : Option (Nat × Bj × Et)} (hu : UOk c m s u) {f : Option (Nat × Jb × Nat × List (Jb × Nat))} (hf : FOk c s f) (hnl : c.nl <= 4096) (htr : s.tr.length <= 1000000000) (hd : dispB c s u f = false) :
  Calls Tryz.prog 102 #[ptr m.k] w (KEnd w c m (resU s u) (.bool false)) := by
 obtain ⟨z, P, hP, h1⟩ := zDU h hf
 refine zIW (P := P) (L := levU c s u) hu.top (h.lt 0 m.k rfl).1 (zPD h) (zB5 h) h1 (zDV h hu hnl) (fun e => ?_) (zIY h hu htr)
 cases f with
 | none => cases e
 | some y =>
  obtain ⟨t, x, p, l⟩ := y
  rw [hP t x p l rfl]
  exact of_decide_eq_false hd
theorem zIZ (h : KAt w c m s) {i : Nat} {x : Bj} {e : Et} (hu : UOk c m s (some (i, x, e))) {f : Option (Nat × Jb × Nat × List (Jb × Nat))} (hf : FOk c s f) (hnl : c.nl <= 4096) (htr : s.tr.length <= 1000000000) (hd : dispB c s (some (i, x, e)) f = true) (hw : whB x.j = true) :
  Calls Tryz.prog 102 #[ptr m.k] w (KEnd w c m (resF { s with jobs := s.jobs.set i { x with j := { x.j with armed := true } } } i { x with j := { x.j with armed := true } } e) (.bool true)) := by
 obtain ⟨z, P, hP, h1⟩ := zDU h hf
 have wF := zDV h hu hnl
 have jU := zB5 h
 obtain ⟨B, g1, g2, g3, g4, -⟩ := hu
 have hT : topV m.js = ptr B.b := by unfold topV; rw [g1]
 rw [hT] at wF jU
 have hxl := (List.getElem?_eq_some_iff.1 g3).1
 have hb := (h.begun g2 g3).1
 cases f with
 | none => cases hd
 | some y =>
  obtain ⟨t, x1, p, l⟩ := y
  have hd' : levU c s (some (i, x, e)) < P := by
   rw [hP t x1 p l rfl]
   exact of_decide_eq_true hd
  refine zIX (jb := B.jb) (Y := fun W => KT w c m W m { s with jobs := s.jobs.set i { x with j := { x.j with armed := true } } }) (h.lt 0 m.k rfl).1 (zPD h) (zAA hb (i := 0) rfl) (zAG hb) jU h1 wF hd' (fun W hO => ?_) (fun W hK => ?_)
  ·obtain ⟨-, hJ, hOk⟩ := (h.new hO).begun g2 g3
   refine (zRF hJ hw).mono fun e9 w9 ⟨q1, q2, q3⟩ => ⟨q1, ?_⟩
   have hK := (h.new hO).bjJob g2 g3 q2 ⟨hOk.r, hOk.l, hOk.n, hOk.u⟩ q3
   exact hK.back hO
  ·exact (zFJ (s := { s with jobs := s.jobs.set i { x with j := { x.j with armed := true } } }) hK.1 g2 (List.getElem?_set_self hxl) g4 htr).mono fun e9 w9 ⟨q1, q2⟩ => ⟨q1, hK.know rfl rfl q2⟩
theorem zK2 (h : KAt w c m s) {u : Option (Nat × Bj × Et)} (hu : UOk c m s u) {t p : Nat} {x : Jb} {l : List (Jb × Nat)} (hf : FOk c s (some (t, x, p, l))) (hnl : c.nl <= 4096) (hd : dispB c s u (some (t, x, p, l)) = true) (hw : whU u = false) {S : KS}
  (hst : ∀ W, Only (fun _ => False) w W -> Calls Tryz.prog 158 #[ptr m.k, topV m.js] W (StartEnd W c m S)) :
  Calls Tryz.prog 102 #[ptr m.k] w (ChV false (KMore w c m S)) := by
 obtain ⟨z, P, hP, h1⟩ := zDU h hf
 have wF := zDV h hu hnl
 have jU := zB5 h
 have yS : ∀ W, Only (fun _ => False) w W -> Calls Tryz.prog 158 #[ptr m.k, topV m.js] W (ResV (KMore w c m S)) := fun W hO => (hst W hO).mono fun e w' ⟨q1, q2⟩ => ⟨q1, q2.back hO⟩
 have hd' : levU c s u < P := by
  rw [hP t x p l rfl]
  exact of_decide_eq_true hd
 cases u with
 | none =>
  have hT : topV m.js = .pointer none := by unfold topV; rw [show m.js.getLast? = none from hu]
  rw [hT] at wF jU yS
  exact zGL (h.lt 0 m.k rfl).1 (zPD h) jU h1 wF hd' yS
 | some y =>
  obtain ⟨i, y, e⟩ := y
  obtain ⟨B, g1, g2, g3, g4, -⟩ := hu
  have hT : topV m.js = ptr B.b := by unfold topV; rw [g1]
  rw [hT] at wF jU yS
  have hb := (h.begun g2 g3).1
  refine zGM (jb := B.jb) (h.lt 0 m.k rfl).1 (zPD h) (zAA hb (i := 0) rfl) (zAG hb) jU h1 wF hd' (fun W hO => ?_) yS
  obtain ⟨-, hJ, hOk⟩ := (h.new hO).begun g2 g3
  refine (zRE hJ hw).mono fun e9 w9 ⟨q1, n, q2⟩ => ⟨q1, ?_⟩
  rw [q2]
  exact (Only.refl _ _).drewN _
end
def yD : List Pil.En -> Int
 | [] => 0
 | [x] => x.e.t
 | x :: y :: r => min x.e.t (yD (y :: r))
theorem zI0 : ∀ {l : List Pil.En} {x : Pil.En}, x ∈ l -> yD l <= x.e.t
 | [], x, h => by cases h
 | [y], x, h => by
  obtain rfl : x = y := by simpa using h
  exact Int.le_refl _
 | y :: z :: r, x, h => by
  rcases List.mem_cons.1 h with rfl | h
  ·show min _ _ <= _; omega
  ·have := zI0 h
   show min _ _ <= _
   omega
theorem zCQ : ∀ {l : List Pil.En}, l ≠ [] -> ∃ x ∈ l, x.e.t = yD l
 | [], h => absurd rfl h
 | [y], _ => ⟨y, by simp, rfl⟩
 | y :: z :: r, _ => by
  obtain ⟨x, hx, e⟩ := zCQ (l := z :: r) (by simp)
  by_cases hle : y.e.t <= yD (z :: r)
  ·exact ⟨y, by simp, by show _ = min _ _; omega⟩
  ·exact ⟨x, List.mem_cons_of_mem _ hx, by show _ = min _ _; omega⟩
theorem zI1 {l : List Pil.En} {k : Nat} {x : Pil.En} (h : Pil.IsFirst l k x) : x.e.t = yD l := by
 have hm := List.mem_of_getElem? h.1
 have h1 := zI0 hm
 obtain ⟨y, hy, e⟩ := zCQ (l := l) (List.ne_nil_of_mem hm)
 obtain ⟨j, hj⟩ := List.mem_iff_getElem?.1 hy
 have := (h.2 j y hj).1
 omega
def quietZ (s : KS) (till : Int) : Int := (if s.ag = [] then till else min till (yD s.ag)) - s.now
section
variable {w w' : World} {c : KC} {m : KM} {s : KS}
theorem zHS (h : KAt w c m s) (till : Int) (h1 : 0 <= s.now /\ s.now <= 1000000000) (h2 : 0 <= till /\ till <= 1000000000) (h3 : ∀ x ∈ s.ag, 0 <= x.e.t /\ x.e.t <= 1000000000) : Calls Tryz.prog 103 #[ptr m.k, .int .i64 till] w (RetI (quietZ s till) w) := by
 have hn := Pil.next_any (show Pil.Ag w m.b6 m.o6 s.tn s.ag from h.p 8)
 have c5 := zAA h.root (i := 11) rfl
 have c19 := zAA h.root (i := 19) rfl
 have hlt := (h.lt 0 m.k rfl).1
 by_cases hz : s.ag = []
 ·have hn' := zh (show Calls Tryz.prog 149 #[.pointer (some ⟨m.b6, 0, none⟩)] w (fun e w2 => e = .returned (.tuple #[.int .i64 0, .bool false]) /\ w = w2) from hn.mono fun e w2 ⟨v, b, he, hv, hw⟩ => by
   rcases hv with ⟨-, rfl, rfl⟩ | ⟨k, x, hx, -, -⟩
   ·exact ⟨he, hw⟩
   ·rw [hz] at hx; simp [Pil.IsFirst] at hx)
  have e : quietZ s till = till - s.now := by unfold quietZ; rw [if_pos hz]
  rw [e]
  have hwr : IntKind.i64.wrap (till - s.now) = till - s.now := IntWalk.i64_in _ (by omega)
  unfold ptr
  clear h hn hz e h3
  go_enter Tryz.func103, Tryz.ntmps103
  go_wp2_with fail
  refine hn'.out.mono ?_
  rintro e1 w1 ⟨rfl, rfl⟩
  go_wp2
  go_ret
  exact ⟨rfl, rfl⟩
 ·have hm := zCQ hz
  have hb : 0 <= yD s.ag /\ yD s.ag <= 1000000000 := by
   obtain ⟨x, hx, e⟩ := hm
   have := h3 x hx
   omega
  obtain ⟨M, hM⟩ : ∃ M, M = yD s.ag := ⟨_, rfl⟩
  have hn' := zh (show Calls Tryz.prog 149 #[.pointer (some ⟨m.b6, 0, none⟩)] w (fun e w2 => e = .returned (.tuple #[.int .i64 M, .bool true]) /\ w = w2) from hn.mono fun e w2 ⟨v, b, he, hv, hw⟩ => by
   rcases hv with ⟨h0, -, -⟩ | ⟨k, x, hx, rfl, rfl⟩
   ·exact absurd h0 hz
   ·rw [hM, <- zI1 hx]; exact ⟨he, hw⟩)
  rw [<- hM] at hb
  have e : quietZ s till = min till M - s.now := by unfold quietZ; rw [if_neg hz, hM]
  rw [e]
  unfold ptr
  by_cases hle : till <= M
  ·have hmn : min till M = till := by omega
   have hwr : IntKind.i64.wrap (till - s.now) = till - s.now := IntWalk.i64_in _ (by omega)
   rw [hmn]
   clear h hn hz e h3 hm hM hmn
   go_enter Tryz.func103, Tryz.ntmps103
   go_wp2_with fail
   refine hn'.out.mono ?_
   rintro e1 w1 ⟨rfl, rfl⟩
   go_wp2
   all_goals
    go_ret
    exact ⟨by congr 2 <;> omega, rfl⟩
  ·have hmn : min till M = M := by omega
   have hwr : IntKind.i64.wrap (M - s.now) = M - s.now := IntWalk.i64_in _ (by omega)
   rw [hmn]
   clear h hn hz e h3 hm hM hmn
   go_enter Tryz.func103, Tryz.ntmps103
   go_wp2_with fail
   refine hn'.out.mono ?_
   rintro e1 w1 ⟨rfl, rfl⟩
   go_wp2
   all_goals
    go_ret
    exact ⟨by congr 2 <;> omega, rfl⟩
end
