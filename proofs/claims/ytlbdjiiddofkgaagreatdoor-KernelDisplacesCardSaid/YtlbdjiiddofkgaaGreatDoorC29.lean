import Derived.Test.YtlbdjiiddofkgaaGreatDoorC28
set_option maxRecDepth 100000
namespace Go.Proofs.YtlbdjiiddofkgaaGreatDoor
namespace Krn
open Go Go.RowKit Go.Maps Ring Band
def KT (w : World) (c : KC) (m : KM) (w' : World) (m' : KM) (s' : KS) : Prop :=
 KAt w' c m' s' /\ Only (kfp c m) w w' /\ ∀ x, kfp c m' x -> kfp c m x ∨ w.heap.size <= x
section
variable {w w' w2 : World} {c : KC} {m m' m2 : KM} {s s' s2 : KS}
theorem KT.trans (h : KT w c m w' m' s') (g : KT w' c m' w2 m2 s2) : KT w c m w2 m2 s2 := by
 refine ⟨g.1, h.2.1.trans g.2.1 (fun x hx hk => ?_), fun x hx => ?_⟩
 ·rcases h.2.2 x hk with hh | hh
  ·exact hh
  ·omega
 ·rcases g.2.2 x hx with hh | hh
  ·exact h.2.2 x hh
  ·exact .inr (Nat.le_trans h.2.1.size hh)
theorem KAt.kt (h : KAt w c m s) : KT w c m w m s := ⟨h, Only.refl _ _, fun _ h => .inl h⟩
theorem KAt.ktNew (h : KAt w c m s) (ho : Only (fun _ => False) w w') : KT w c m w' m s := ⟨h.new ho, ho.mono (fun _ _ h => h.elim), fun _ h => .inl h⟩
theorem KT.new (h : KT w c m w' m' s') (ho : Only (fun _ => False) w' w2) : KT w c m w2 m' s' := h.trans (h.1.ktNew ho)
theorem KT.back (h : KT w c m w' m' s') {w0 : World} (ho : Only (fun _ => False) w0 w) : KT w0 c m w' m' s' :=
 ⟨h.1, (ho.mono (T := kfp c m) (fun _ _ h => h.elim)).trans' h.2.1, fun x hx => by
  rcases h.2.2 x hx with hh | hh
  ·exact .inl hh
  ·exact .inr (Nat.le_trans ho.size hh)⟩
theorem KT.loc (h : KT w c m w' m' s') {X : Nat} (hX : X < w.heap.size) (hn : ¬ kfp c m X) (ho : Only (fun k => k = X) w' w2) {w0 : World} (h0 : Only (fun _ => False) w0 w) (hX0 : w0.heap.size <= X) : KT w0 c m w2 m' s' := by
 have hn' : ¬ kfp c m' X := fun hk => by
  rcases h.2.2 X hk with hh | hh
  ·exact hn hh
  ·omega
 refine ⟨h.1.kept ho (fun k hk e => hn' (e ▸ hk)), ?_, fun x hx => ?_⟩
 ·exact ((h0.mono (T := kfp c m) (fun _ _ h => h.elim)).trans' h.2.1).trans ho (fun x hx e => by omega)
 ·rcases h.2.2 x hx with hh | hh
  ·exact .inl hh
  ·exact .inr (Nat.le_trans h0.size hh)
theorem KAt.root (h : KAt w c m s) : w.heap[m.k]? = some (.cells (rootL c m s).toArray 123 (0, 0)) := h.p 0
theorem KAt.klt (h : KAt w c m s) : ∀ x, kfp c m x -> x < w.heap.size := fun x ⟨i, hi⟩ => (h.lt i x hi).1
theorem KAt.turnK (h : KAt w c m s) (a : Nat) (ho : Only (fun k => k = m.k ∨ foot c m a k) w w')
  (hs : ∀ i, i ≠ 0 -> i ≠ a -> (part c m' s' w' i ↔ part c m s w' i) /\ ∀ k, foot c m' i k ↔ foot c m i k) (hk : m'.k = m.k) (hB : m'.B = m.B)
  (h0 : part c m' s' w' 0) (ha : part c m' s' w' a) (hn : ∀ k, foot c m' a k -> foot c m a k ∨ w.heap.size <= k) (hl : ∀ k, foot c m' a k -> k < w'.heap.size) : KT w c m w' m' s' := by
 refine ⟨h.turn a ho hs hk hB h0 ha hn hl, ho.mono (fun x _ hx => ?_), fun x ⟨i, hi⟩ => ?_⟩
 ·rcases hx with rfl | hx
  ·exact ⟨0, rfl⟩
  ·exact ⟨a, hx⟩
 ·by_cases h0 : i = 0
  ·subst h0
   exact .inl ⟨0, (show x = m'.k from hi).trans hk⟩
  ·by_cases hia : i = a
   ·subst hia
    exact (hn x hi).imp (fun hh => ⟨i, hh⟩) id
   ·exact .inl ⟨i, ((hs i h0 hia).2 x).1 hi⟩
theorem KAt.turn1 (h : KAt w c m s) (a : Nat) (ha0 : a ≠ 0) (ho : Only (foot c m a) w w')
  (hs : ∀ i, i ≠ 0 -> i ≠ a -> (part c m' s' w' i ↔ part c m s w' i) /\ ∀ k, foot c m' i k ↔ foot c m i k) (hk : m'.k = m.k) (hB : m'.B = m.B) (hr : rootL c m' s' = rootL c m s)
  (ha : part c m' s' w' a) (hn : ∀ k, foot c m' a k -> foot c m a k ∨ w.heap.size <= k) (hl : ∀ k, foot c m' a k -> k < w'.heap.size) : KT w c m w' m' s' := by
 refine h.turnK a (ho.mono (fun _ _ h => .inr h)) hs hk hB ?_ ha hn hl
 show w'.heap[m'.k]? = _
 rw [hk, hr]
 exact ho.heap h.root (fun hh => h.ap a 0 ha0 _ hh rfl)
theorem KAt.box_ (h : KAt w c m s) {o1 : Nat -> Option Nat} {q : Nat -> List Int} (hp : Mbx.BoxesAt w' m.B m.b1 m.g1 c.nb m.r1 c.room o1 q) (ho : Only (foot c m 1) w w') (hn : ∀ k, Mbx.bfp m.b1 m.g1 c.nb m.r1 o1 k -> foot c m 1 k ∨ w.heap.size <= k) : KT w c m w' { m with o1 := o1 } { s with box := q } := by
 refine h.turn1 1 (by decide) ho (fun i h0 ha => ?_) rfl rfl rfl hp hn (fun k hk => (Mbx.BoxesAt.lt hp k hk).1)
 match i, h0, ha with
 | 2, _, _ | 3, _, _ | 4, _, _ | 5, _, _ | 6, _, _ | 7, _, _ | 8, _, _ | 9, _, _ | 10, _, _ | 11, _, _ | 12, _, _ | 13, _, _ | 14, _, _ | 15, _, _ => exact ⟨Iff.rfl, fun _ => Iff.rfl⟩
 | 0, h, _ => exact absurd rfl h
 | 1, _, h => exact absurd rfl h
 | _ + 16, _, _ => exact ⟨Iff.rfl, fun _ => Iff.rfl⟩
theorem KAt.grp_ (h : KAt w c m s) {v : Nat -> BitVec 8} (hp : Flg.GroupsAt w' m.b2 m.g2 c.ng v) (ho : Only (foot c m 2) w w') : KT w c m w' m { s with grp := v } := by
 refine h.turn1 2 (by decide) ho (fun i h0 ha => ?_) rfl rfl rfl hp (fun _ hk => .inl hk) (fun k hk => Nat.lt_of_lt_of_le (h.lt 2 k hk).1 ho.size)
 match i, h0, ha with
 | 1, _, _ | 3, _, _ | 4, _, _ | 5, _, _ | 6, _, _ | 7, _, _ | 8, _, _ | 9, _, _ | 10, _, _ | 11, _, _ | 12, _, _ | 13, _, _ | 14, _, _ | 15, _, _ => exact ⟨Iff.rfl, fun _ => Iff.rfl⟩
 | 0, h, _ => exact absurd rfl h
 | 2, _, h => exact absurd rfl h
 | _ + 16, _, _ => exact ⟨Iff.rfl, fun _ => Iff.rfl⟩
theorem KAt.cnt_ (h : KAt w c m s) {f : Nat -> Nat} (hp : Cnt.CountsAt w' m.b3 m.g3 c.nc f c.most) (ho : Only (foot c m 3) w w') : KT w c m w' m { s with cnt := f } := by
 refine h.turn1 3 (by decide) ho (fun i h0 ha => ?_) rfl rfl rfl hp (fun _ hk => .inl hk) (fun k hk => Nat.lt_of_lt_of_le (h.lt 3 k hk).1 ho.size)
 match i, h0, ha with
 | 1, _, _ | 2, _, _ | 4, _, _ | 5, _, _ | 6, _, _ | 7, _, _ | 8, _, _ | 9, _, _ | 10, _, _ | 11, _, _ | 12, _, _ | 13, _, _ | 14, _, _ | 15, _, _ => exact ⟨Iff.rfl, fun _ => Iff.rfl⟩
 | 0, h, _ => exact absurd rfl h
 | 3, _, h => exact absurd rfl h
 | _ + 16, _, _ => exact ⟨Iff.rfl, fun _ => Iff.rfl⟩
theorem KAt.lck_ (h : KAt w c m s) {x : Nat -> Int} {d : Nat -> Bool} (hp : Lck.LkAt w' m.b4 m.g4 c.nl c.ceil x d) (ho : Only (foot c m 4) w w') : KT w c m w' m { s with lkh := x, lkd := d } := by
 refine h.turn1 4 (by decide) ho (fun i h0 ha => ?_) rfl rfl rfl hp (fun _ hk => .inl hk) (fun k hk => Nat.lt_of_lt_of_le (h.lt 4 k hk).1 ho.size)
 match i, h0, ha with
 | 1, _, _ | 2, _, _ | 3, _, _ | 5, _, _ | 6, _, _ | 7, _, _ | 8, _, _ | 9, _, _ | 10, _, _ | 11, _, _ | 12, _, _ | 13, _, _ | 14, _, _ | 15, _, _ => exact ⟨Iff.rfl, fun _ => Iff.rfl⟩
 | 0, h, _ => exact absurd rfl h
 | 4, _, h => exact absurd rfl h
 | _ + 16, _, _ => exact ⟨Iff.rfl, fun _ => Iff.rfl⟩
theorem KAt.lin_ (h : KAt w c m s) {f g : Nat -> Bool} (hp : Lin.LinesAt w' m.b5 m.g5 c.li.length f g) (ho : Only (foot c m 7) w w') : KT w c m w' m { s with lnm := f, lnl := g } := by
 refine h.turn1 7 (by decide) ho (fun i h0 ha => ?_) rfl rfl rfl hp (fun _ hk => .inl hk) (fun k hk => Nat.lt_of_lt_of_le (h.lt 7 k hk).1 ho.size)
 match i, h0, ha with
 | 1, _, _ | 2, _, _ | 3, _, _ | 4, _, _ | 5, _, _ | 6, _, _ | 8, _, _ | 9, _, _ | 10, _, _ | 11, _, _ | 12, _, _ | 13, _, _ | 14, _, _ | 15, _, _ => exact ⟨Iff.rfl, fun _ => Iff.rfl⟩
 | 0, h, _ => exact absurd rfl h
 | 7, _, h => exact absurd rfl h
 | _ + 16, _, _ => exact ⟨Iff.rfl, fun _ => Iff.rfl⟩
theorem KAt.agd_ (h : KAt w c m s) {o6 : Option Nat} {T : Nat} {rs : List Pil.En} (hp : Pil.Ag w' m.b6 o6 T rs) (ho : Only (foot c m 8) w w') (hn : ∀ k, Pil.fp m.b6 o6 k -> foot c m 8 k ∨ w.heap.size <= k) : KT w c m w' { m with o6 := o6 } { s with ag := rs, tn := T } := by
 refine h.turn1 8 (by decide) ho (fun i h0 ha => ?_) rfl rfl rfl hp hn (fun k hk => Pil.Ag.lt hp k hk)
 match i, h0, ha with
 | 1, _, _ | 2, _, _ | 3, _, _ | 4, _, _ | 5, _, _ | 6, _, _ | 7, _, _ | 9, _, _ | 10, _, _ | 11, _, _ | 12, _, _ | 13, _, _ | 14, _, _ | 15, _, _ => exact ⟨Iff.rfl, fun _ => Iff.rfl⟩
 | 0, h, _ => exact absurd rfl h
 | 8, _, h => exact absurd rfl h
 | _ + 16, _, _ => exact ⟨Iff.rfl, fun _ => Iff.rfl⟩
theorem KAt.rdy_ (h : KAt w c m s) {o7 : Nat -> Option Nat} {bits : BitVec 64} {nx : Nat -> Nat} {q : Nat -> List (Jb × Nat)} (hp : RdAt w' m.B m.r7 m.G7 m.s7 m.m7 c.ts.length c.P nx m.ring o7 (fun i => (q i).map Prod.fst) bits /\ Bits c.ts.length c.P (fun i => (q i).map Prod.fst) bits) (ho : Only (foot c m 9) w w') (hn : ∀ k, rfp m.r7 m.G7 m.s7 m.m7 c.ts.length m.ring o7 k -> foot c m 9 k ∨ w.heap.size <= k) : KT w c m w' { m with o7 := o7, bits := bits } { s with nx := nx, q := q } := by
 refine h.turn1 9 (by decide) ho (fun i h0 ha => ?_) rfl rfl rfl hp hn (fun k hk => (RdAt.lt hp.1 k hk).1)
 match i, h0, ha with
 | 1, _, _ | 2, _, _ | 3, _, _ | 4, _, _ | 5, _, _ | 6, _, _ | 7, _, _ | 8, _, _ | 10, _, _ | 11, _, _ | 12, _, _ | 13, _, _ | 14, _, _ | 15, _, _ => exact ⟨Iff.rfl, fun _ => Iff.rfl⟩
 | 0, h, _ => exact absurd rfl h
 | 9, _, h => exact absurd rfl h
 | _ + 16, _, _ => exact ⟨Iff.rfl, fun _ => Iff.rfl⟩
theorem KAt.plc_ (h : KAt w c m s) {ps : List (Jb × Nat)} (hp : PlAt w' m.b8 ps) (ho : Only (foot c m 10) w w') : KT w c m w' m { s with ps := ps } := by
 refine h.turn1 10 (by decide) ho (fun i h0 ha => ?_) rfl rfl rfl hp (fun _ hk => .inl hk) (fun k hk => Nat.lt_of_lt_of_le (h.lt 10 k hk).1 ho.size)
 match i, h0, ha with
 | 1, _, _ | 2, _, _ | 3, _, _ | 4, _, _ | 5, _, _ | 6, _, _ | 7, _, _ | 8, _, _ | 9, _, _ | 11, _, _ | 12, _, _ | 13, _, _ | 14, _, _ | 15, _, _ => exact ⟨Iff.rfl, fun _ => Iff.rfl⟩
 | 0, h, _ => exact absurd rfl h
 | 10, _, h => exact absurd rfl h
 | _ + 16, _, _ => exact ⟨Iff.rfl, fun _ => Iff.rfl⟩
theorem KAt.job_ (h : KAt w c m s) {xs : List Bj} (hp : Win w' 141 1 m.vj m.oj xs.length (rowC bmV m.js) /\ JobsAt w' m.js xs /\ ∀ (i : Nat) x, m.js[i]? = some x -> ∀ k, x.fp k -> m.oj ≠ some k) (ho : Only (foot c m 11) w w') : KT w c m w' m { s with jobs := xs } := by
 refine h.turn1 11 (by decide) ho (fun i h0 ha => ?_) rfl rfl rfl hp (fun _ hk => .inl hk) (fun k hk => Nat.lt_of_lt_of_le (h.lt 11 k hk).1 ho.size)
 match i, h0, ha with
 | 1, _, _ | 2, _, _ | 3, _, _ | 4, _, _ | 5, _, _ | 6, _, _ | 7, _, _ | 8, _, _ | 9, _, _ | 10, _, _ | 12, _, _ | 13, _, _ | 14, _, _ | 15, _, _ => exact ⟨Iff.rfl, fun _ => Iff.rfl⟩
 | 0, h, _ => exact absurd rfl h
 | 11, _, h => exact absurd rfl h
 | _ + 16, _, _ => exact ⟨Iff.rfl, fun _ => Iff.rfl⟩
theorem KAt.stk_ (h : KAt w c m s) {o10 : Option Nat} {pk : Int} {fs : List Fr} (hp : StAt w' m.b10 o10 pk fs) (ho : Only (foot c m 12) w w') (hn : ∀ k, ffp m.b10 o10 k -> foot c m 12 k ∨ w.heap.size <= k) : KT w c m w' { m with o10 := o10 } { s with pk := pk, fs := fs } := by
 refine h.turn1 12 (by decide) ho (fun i h0 ha => ?_) rfl rfl rfl hp hn (fun k hk => StAt.lt hp k hk)
 match i, h0, ha with
 | 1, _, _ | 2, _, _ | 3, _, _ | 4, _, _ | 5, _, _ | 6, _, _ | 7, _, _ | 8, _, _ | 9, _, _ | 10, _, _ | 11, _, _ | 13, _, _ | 14, _, _ | 15, _, _ => exact ⟨Iff.rfl, fun _ => Iff.rfl⟩
 | 0, h, _ => exact absurd rfl h
 | 12, _, h => exact absurd rfl h
 | _ + 16, _, _ => exact ⟨Iff.rfl, fun _ => Iff.rfl⟩
theorem KAt.csh_ (h : KAt w c m s) {G : Nat -> List Int} (hp : Csh.CacheAt w' m.r11 m.R11 m.M11 c.s c.w G) (ho : Only (foot c m 13) w w') : KT w c m w' m { s with cg := G } := by
 refine h.turn1 13 (by decide) ho (fun i h0 ha => ?_) rfl rfl rfl hp (fun _ hk => .inl hk) (fun k hk => Nat.lt_of_lt_of_le (h.lt 13 k hk).1 ho.size)
 match i, h0, ha with
 | 1, _, _ | 2, _, _ | 3, _, _ | 4, _, _ | 5, _, _ | 6, _, _ | 7, _, _ | 8, _, _ | 9, _, _ | 10, _, _ | 11, _, _ | 12, _, _ | 14, _, _ | 15, _, _ => exact ⟨Iff.rfl, fun _ => Iff.rfl⟩
 | 0, h, _ => exact absurd rfl h
 | 13, _, h => exact absurd rfl h
 | _ + 16, _, _ => exact ⟨Iff.rfl, fun _ => Iff.rfl⟩
theorem KAt.ent_ (h : KAt w c m s) {l : List Et} (hp : Win w' 146 13 m.ve m.oe l.length (rowC Et.cells l)) (ho : Only (foot c m 14) w w') : KT w c m w' m { s with ents := l } := by
 refine h.turn1 14 (by decide) ho (fun i h0 ha => ?_) rfl rfl rfl hp (fun _ hk => .inl hk) (fun k hk => Nat.lt_of_lt_of_le (h.lt 14 k hk).1 ho.size)
 match i, h0, ha with
 | 1, _, _ | 2, _, _ | 3, _, _ | 4, _, _ | 5, _, _ | 6, _, _ | 7, _, _ | 8, _, _ | 9, _, _ | 10, _, _ | 11, _, _ | 12, _, _ | 13, _, _ | 15, _, _ => exact ⟨Iff.rfl, fun _ => Iff.rfl⟩
 | 0, h, _ => exact absurd rfl h
 | 14, _, h => exact absurd rfl h
 | _ + 16, _, _ => exact ⟨Iff.rfl, fun _ => Iff.rfl⟩
theorem KAt.recd (h : KAt w c m s) {v' : Value} {o' : Option Nat} {l : List Rc} {W w1 : World} (hO : Only (fun _ => False) w W) (hp : part c { m with vt := v', ot := o' } { s with tr := l } w1 15) (h1 : Only (foot c m 15) W w1) (hn : ∀ k, foot c { m with vt := v', ot := o' } 15 k -> foot c m 15 k ∨ W.heap.size <= k) :
  KT w c m (w1.setCell ⟨m.k, 18, none⟩ v') { m with vt := v', ot := o' } { s with tr := l } := by
 have hk : m.k < w.heap.size := (h.lt 0 m.k rfl).1
 have hne : ∀ k, foot c { m with vt := v', ot := o' } 15 k -> k ≠ m.k := by
  rintro k hk2 rfl
  rcases hn _ hk2 with hh | hh
  ·exact h.ap 15 0 (by decide) m.k hh rfl
  ·have := hO.size; omega
 have hb1 := h1.heap (hO.heap h.root id) (fun e => h.ap 15 0 (by decide) m.k e rfl)
 have hO1 : Only (fun k => k = m.k) w1 (w1.setCell ⟨m.k, 18, none⟩ v') := (Only.refl (fun k => k = m.k) w1).setCell (p := ⟨m.k, 18, none⟩) (fun _ => rfl) _
 have hall : Only (fun k => k = m.k ∨ foot c m 15 k) w (w1.setCell ⟨m.k, 18, none⟩ v') := ((hO.mono (T := fun k => k = m.k ∨ foot c m 15 k) (fun _ _ h => h.elim)).trans h1 (fun x _ e => .inr e)).trans hO1 (fun x _ e => .inl e)
 have hp' : part c { m with vt := v', ot := o' } { s with tr := l } (w1.setCell ⟨m.k, 18, none⟩ v') 15 := zCI 15 hp hO1 (fun k hk e => hne k hk e)
 have hlt := fun k (hk : foot c { m with vt := v', ot := o' } 15 k) => Nat.lt_of_lt_of_le ((Win.lt hp) k hk) hO1.size
 refine h.turnK 15 hall (fun i h0 ha => ?_) rfl rfl (zAE hb1 18 v') hp' (fun k hk => (hn k hk).imp id (fun hh => Nat.le_trans hO.size hh)) hlt
 match i, h0, ha with
 | 1, _, _ | 2, _, _ | 3, _, _ | 4, _, _ | 5, _, _ | 6, _, _ | 7, _, _ | 8, _, _ | 9, _, _ | 10, _, _ | 11, _, _ | 12, _, _ | 13, _, _ | 14, _, _ => exact ⟨Iff.rfl, fun _ => Iff.rfl⟩
 | 0, h, _ => exact absurd rfl h
 | 15, _, h => exact absurd rfl h
 | _ + 16, _, _ => exact ⟨Iff.rfl, fun _ => Iff.rfl⟩
theorem KAt.entr (h : KAt w c m s) {v' : Value} {o' : Option Nat} {l : List Et} {W w1 : World} (hO : Only (fun _ => False) w W) (hp : part c { m with ve := v', oe := o' } { s with ents := l } w1 14) (h1 : Only (foot c m 14) W w1) (hn : ∀ k, foot c { m with ve := v', oe := o' } 14 k -> foot c m 14 k ∨ W.heap.size <= k) :
  KT w c m (w1.setCell ⟨m.k, 17, none⟩ v') { m with ve := v', oe := o' } { s with ents := l } := by
 have hk : m.k < w.heap.size := (h.lt 0 m.k rfl).1
 have hne : ∀ k, foot c { m with ve := v', oe := o' } 14 k -> k ≠ m.k := by
  rintro k hk2 rfl
  rcases hn _ hk2 with hh | hh
  ·exact h.ap 14 0 (by decide) m.k hh rfl
  ·have := hO.size; omega
 have hb1 := h1.heap (hO.heap h.root id) (fun e => h.ap 14 0 (by decide) m.k e rfl)
 have hO1 : Only (fun k => k = m.k) w1 (w1.setCell ⟨m.k, 17, none⟩ v') := (Only.refl (fun k => k = m.k) w1).setCell (p := ⟨m.k, 17, none⟩) (fun _ => rfl) _
 have hall : Only (fun k => k = m.k ∨ foot c m 14 k) w (w1.setCell ⟨m.k, 17, none⟩ v') := ((hO.mono (T := fun k => k = m.k ∨ foot c m 14 k) (fun _ _ h => h.elim)).trans h1 (fun x _ e => .inr e)).trans hO1 (fun x _ e => .inl e)
 have hp' : part c { m with ve := v', oe := o' } { s with ents := l } (w1.setCell ⟨m.k, 17, none⟩ v') 14 := zCI 14 hp hO1 (fun k hk e => hne k hk e)
 have hlt := fun k (hk : foot c { m with ve := v', oe := o' } 14 k) => Nat.lt_of_lt_of_le ((Win.lt hp) k hk) hO1.size
 refine h.turnK 14 hall (fun i h0 ha => ?_) rfl rfl (zAE hb1 17 v') hp' (fun k hk => (hn k hk).imp id (fun hh => Nat.le_trans hO.size hh)) hlt
 match i, h0, ha with
 | 1, _, _ | 2, _, _ | 3, _, _ | 4, _, _ | 5, _, _ | 6, _, _ | 7, _, _ | 8, _, _ | 9, _, _ | 10, _, _ | 11, _, _ | 12, _, _ | 13, _, _ | 15, _, _ => exact ⟨Iff.rfl, fun _ => Iff.rfl⟩
 | 0, h, _ => exact absurd rfl h
 | 14, _, h => exact absurd rfl h
 | _ + 16, _, _ => exact ⟨Iff.rfl, fun _ => Iff.rfl⟩
theorem zML {vj : Value} {oj : Option Nat} {js : List Bm} {xs : List Bj} (h1 : Win w 141 1 vj oj xs.length (rowC bmV js)) (h2 : JobsAt w js xs) : ∀ k, (oj = some k ∨ ∃ x ∈ js, x.fp k) -> k < w.heap.size := by
 rintro k (hk | ⟨x, hx, hk⟩)
 ·exact h1.lt k hk
 ·obtain ⟨i, hi⟩ := List.mem_iff_getElem?.1 hx
  have hil := (List.getElem?_eq_some_iff.1 hi).1
  exact (h2.2.1 i x _ hi (List.getElem?_eq_getElem (h2.1 ▸ hil))).lt k hk
theorem KAt.jobr (h : KAt w c m s) {v' : Value} {o' : Option Nat} {js : List Bm} {xs : List Bj} {W w1 : World} (hO : Only (fun _ => False) w W) (hp : part c { m with vj := v', oj := o', js := js } { s with jobs := xs } w1 11) (h1 : Only (foot c m 11) W w1) (hn : ∀ k, foot c { m with vj := v', oj := o', js := js } 11 k -> foot c m 11 k ∨ W.heap.size <= k) :
  KT w c m (w1.setCell ⟨m.k, 14, none⟩ v') { m with vj := v', oj := o', js := js } { s with jobs := xs } := by
 have hk : m.k < w.heap.size := (h.lt 0 m.k rfl).1
 have hne : ∀ k, foot c { m with vj := v', oj := o', js := js } 11 k -> k ≠ m.k := by
  rintro k hk2 rfl
  rcases hn _ hk2 with hh | hh
  ·exact h.ap 11 0 (by decide) m.k hh rfl
  ·have := hO.size; omega
 have hb1 := h1.heap (hO.heap h.root id) (fun e => h.ap 11 0 (by decide) m.k e rfl)
 have hO1 : Only (fun k => k = m.k) w1 (w1.setCell ⟨m.k, 14, none⟩ v') := (Only.refl (fun k => k = m.k) w1).setCell (p := ⟨m.k, 14, none⟩) (fun _ => rfl) _
 have hall : Only (fun k => k = m.k ∨ foot c m 11 k) w (w1.setCell ⟨m.k, 14, none⟩ v') := ((hO.mono (T := fun k => k = m.k ∨ foot c m 11 k) (fun _ _ h => h.elim)).trans h1 (fun x _ e => .inr e)).trans hO1 (fun x _ e => .inl e)
 have hp' : part c { m with vj := v', oj := o', js := js } { s with jobs := xs } (w1.setCell ⟨m.k, 14, none⟩ v') 11 := zCI 11 hp hO1 (fun k hk e => hne k hk e)
 have hlt := fun k (hk : foot c { m with vj := v', oj := o', js := js } 11 k) => Nat.lt_of_lt_of_le ((zML hp.1 hp.2.1) k hk) hO1.size
 refine h.turnK 11 hall (fun i h0 ha => ?_) rfl rfl (zAE hb1 14 v') hp' (fun k hk => (hn k hk).imp id (fun hh => Nat.le_trans hO.size hh)) hlt
 match i, h0, ha with
 | 1, _, _ | 2, _, _ | 3, _, _ | 4, _, _ | 5, _, _ | 6, _, _ | 7, _, _ | 8, _, _ | 9, _, _ | 10, _, _ | 12, _, _ | 13, _, _ | 14, _, _ | 15, _, _ => exact ⟨Iff.rfl, fun _ => Iff.rfl⟩
 | 0, h, _ => exact absurd rfl h
 | 11, _, h => exact absurd rfl h
 | _ + 16, _, _ => exact ⟨Iff.rfl, fun _ => Iff.rfl⟩
theorem KAt.nowr (h : KAt w c m s) (t : Int) : KT w c m (w.setCell ⟨m.k, 19, none⟩ (.int .i64 t)) m { s with now := t } := by
 have ho : Only (fun k => k = m.k) w (w.setCell ⟨m.k, 19, none⟩ (.int .i64 t)) := (Only.refl (fun k => k = m.k) w).setCell (p := ⟨m.k, 19, none⟩) (fun _ => rfl) _
 refine h.turnK 16 (ho.mono (fun _ _ h => .inl h)) (fun i h0 ha => ?_) rfl rfl (zAE h.root 19 _) trivial (fun _ hk => hk.elim) (fun _ hk => hk.elim)
 match i, h0 with
 | 1, _ | 2, _ | 3, _ | 4, _ | 5, _ | 6, _ | 7, _ | 8, _ | 9, _ | 10, _ | 11, _ | 12, _ | 13, _ | 14, _ | 15, _ => exact ⟨Iff.rfl, fun _ => Iff.rfl⟩
 | 0, h => exact absurd rfl h
 | _ + 16, _ => exact ⟨Iff.rfl, fun _ => Iff.rfl⟩
end
def KNow (w : World) (c : KC) (m : KM) (s' : KS) (w' : World) : Prop := ∃ m', KT w c m w' m' s' /\ m'.k = m.k /\ m'.js = m.js
def KEnd (w : World) (c : KC) (m : KM) (s' : KS) (v : Value) (e : Ending) (w' : World) : Prop := e = .returned v /\ KNow w c m s' w'
theorem KNow.back {w w' w0 : World} {c : KC} {m : KM} {s' : KS} (h : KNow w c m s' w') (ho : Only (fun _ => False) w0 w) : KNow w0 c m s' w' := by
 obtain ⟨m', h1, h2⟩ := h
 exact ⟨m', h1.back ho, h2⟩
theorem KT.not {w w' : World} {c : KC} {m m' : KM} {s' : KS} (h : KT w c m w' m' s') {Y : Nat} (hY : Y < w.heap.size) (hn : ¬ kfp c m Y) : ¬ kfp c m' Y := fun hk => by
 rcases h.2.2 Y hk with hh | hh
 ·exact hn hh
 ·omega
def vD (s : KS) (ta jb : Int) (r : Rc) : KS := { s with tr := s.tr ++ [{ r with t := s.now, ta := ta, jb := jb }] }
section
variable {w w' : World} {c : KC} {m : KM} {s : KS}
set_option maxHeartbeats 1000000 in
theorem zDT (h : KAt w c m s) (hn : s.tr.length <= 1000000000) (ta jb : Int) (r : Rc) : Calls Tryz.prog 210 #[ptr m.k, .int .i64 ta, .int .i64 jb, r.val] w (KEnd w c m (vD s ta jb r) (.tuple #[])) := by
 obtain ⟨t0, k0, ta0, jb0, op, co, va⟩ := r
 obtain ⟨n, hnn⟩ : ∃ n, n = s.tr.length := ⟨_, rfl⟩
 obtain ⟨k, hk⟩ : ∃ k, k = m.k := ⟨_, rfl⟩
 obtain ⟨T, hT⟩ : ∃ T, T = s.now := ⟨_, rfl⟩
 obtain ⟨p, cap, hv, hc1, hc2⟩ := Win.form (show Win w 60 7 m.vt m.ot s.tr.length (rowC Rc.cells s.tr) from h.p 15)
 have hb := h.root
 have c18 := zAA hb (i := 18) rfl
 have c19 := zAA hb (i := 19) rfl
 have f18 := zAC hb 18
 have hlt := zAG hb
 have hE := zh (fun W w1 v' o' (hO : Only (fun _ => False) w W) (hW : Hid (Win w1 60 7 v' o' (n + 1) (rowC Rc.cells s.tr ++ Rc.cells ⟨T, k0, ta, jb, op, co, va⟩))) (h1 : Hid (Only (fun k => some k = m.ot) W w1)) (hh : Hid (o' = m.ot ∨ ∃ g, o' = some g /\ W.heap.size <= g)) => show KEnd w c m (vD s ta jb ⟨t0, k0, ta0, jb0, op, co, va⟩) (.tuple #[]) (.returned (.tuple #[])) (w1.setCell ⟨k, 18, none⟩ v') from by
  subst hnn hT hk
  refine ⟨rfl, { m with vt := v', ot := o' }, h.recd (l := s.tr ++ [⟨s.now, k0, ta, jb, op, co, va⟩]) hO ?_ (h1.out.mono (fun x _ e => e.symm)) ?_, rfl, rfl⟩
  ·show Win _ 60 7 v' o' (s.tr ++ [_]).length (rowC Rc.cells (s.tr ++ [_]))
   rw [List.length_append, zBY, zFP]
   exact hW.out
  ·intro x hx
   rcases hh.out with q | ⟨g, q, hg⟩
   ·exact .inl (q.symm.trans hx)
   ·have e := (show o' = some x from hx)
    rw [q] at e
    cases e
    exact .inr hg)
 have jC := zh (fun W w1 (hO : Only (fun _ => False) w W) (h1 : Only (fun k => some k = m.ot) W w1) => show k < w1.heap.size /\ w1.frozen? ⟨k, 18, none⟩ = false /\ w1.cell? ⟨k, 18, none⟩ = some (.slice p n cap) from by
  subst hk
  have hb1 := h1.heap (hO.heap hb id) (fun e => h.ap 15 0 (by decide) m.k e.symm rfl)
  have q := zAA hb1 (i := 18) rfl
  rw [hv, <- hnn] at q
  exact ⟨zAG hb1, zAC hb1 18, q⟩)
 have jFt := zh (fun W (hO : Only (fun _ => False) w W) => show Win W 60 7 (.slice p n cap) m.ot n (rowC Rc.cells s.tr) from by
  have q : Win w 60 7 m.vt m.ot s.tr.length (rowC Rc.cells s.tr) := h.p 15
  rw [hv, <- hnn] at q
  exact q.kept hO (fun _ _ h => h))
 rw [hv, <- hk, <- hnn] at c18
 rw [<- hk, <- hT] at c19
 rw [<- hk] at f18 hlt
 rw [<- hnn] at hn
 unfold ptr Rc.val
 rw [<- hk]
 clear h hb hv hc1 hc2 hk hT hnn
 go_enter Tryz.func210, Tryz.ntmps210
 go_upto_region 2 with fail
 obtain ⟨X, hX⟩ : ∃ X, X = w.heap.size := ⟨_, rfl⟩
 obtain ⟨W1, hW1⟩ : ∃ W1, W1 = w.alloc (.cells #[.int .i64 T, .int .i64 k0, .int .i64 ta, .int .i64 jb, .int .i64 op, .int .i64 co, .int .i64 va] 60) := ⟨_, rfl⟩
 have hXc : W1.heap[X]? = some (.cells (Rc.cells ⟨T, k0, ta, jb, op, co, va⟩).toArray 60 (0, 0)) := by rw [hW1]; exact zAB w (.cells (Rc.cells ⟨T, k0, ta, jb, op, co, va⟩).toArray 60) hX.symm
 have hO1 : Only (fun _ => False) w W1 := by rw [hW1]; exact (Only.refl _ w).alloc _
 rw [<- hX, <- hW1]
 have d0 := zAA hXc (i := 0) rfl
 have d1 := zAA hXc (i := 1) rfl
 have d2 := zAA hXc (i := 2) rfl
 have d3 := zAA hXc (i := 3) rfl
 have d4 := zAA hXc (i := 4) rfl
 have d5 := zAA hXc (i := 5) rfl
 have d6 := zAA hXc (i := 6) rfl
 have jFu := zAG hXc
 have e18 := hO1.cell c18 id
 have kD := Nat.lt_of_lt_of_le hlt hO1.size
 have vB := zh hO1
 clear c18 c19 f18 hlt hXc hO1 hX hW1
 go_region_law (first | (refine zBE rfl (.tmp 21) (.tmp 23) 49 rfl 60 zrc.val 7 56 Tryz.underlying49 zP7 rfl (by decide) (v := .slice p n cap) (h := m.ot) (by rfl) (jFt.out _ (by repeat (first | exact vB.out | refine Only.drew ?_ | refine Only.alloc ?_ _))) _ 1 1 (by rfl) (Rc.cells ⟨T, k0, ta, jb, op, co, va⟩) rfl (fun _ => ⟨_, rfl, zGH (zAB _ _ (by simp))⟩) (zP6 _) (by unfold maxLen; omega) (by omega) ?_; intro v6 w6 h6 hW6 hO6 hh6; obtain ⟨p6, c6, rfl, _, _⟩ := hW6.out.form; obtain ⟨m1, m2, m3⟩ := jC.out _ w6 (by repeat (first | exact vB.out | refine Only.drew ?_ | refine Only.alloc ?_ _)) hO6.out; have hE6 := zh (hE.out _ w6 _ h6 (by repeat (first | exact vB.out | refine Only.drew ?_ | refine Only.alloc ?_ _)) hW6 hO6 hh6)))
 all_goals
  go_end0
  exact hE6.out
end
theorem KNow.locs {w0 W w1 w2 : World} {c : KC} {m : KM} {s0 S : KS} {T : Nat -> Prop} (hk : KAt w0 c m s0) (h : KNow W c m S w1) (h0 : Only (fun _ => False) w0 W) (hT : ∀ x, T x -> w0.heap.size <= x /\ x < W.heap.size) (ho : Only T w1 w2) : KNow w0 c m S w2 := by
 obtain ⟨m1, h1, e1, e2⟩ := h
 have hn : ∀ x, T x -> ¬ kfp c m1 x := fun x hx hkx => by
  have := hT x hx
  rcases h1.2.2 x hkx with hh | hh
  ·have := hk.klt x hh; omega
  ·omega
 refine ⟨m1, ⟨h1.1.kept ho (fun k hk1 ht => hn k ht hk1), ?_, fun x hx => ?_⟩, e1, e2⟩
 ·exact ((h0.mono (T := kfp c m) (fun _ _ h => h.elim)).trans' h1.2.1).trans ho (fun x hx ht => by have := hT x ht; omega)
 ·rcases h1.2.2 x hx with hh | hh
  ·exact .inl hh
  ·exact .inr (Nat.le_trans h0.size hh)
theorem KNow.keep {w0 W w1 : World} {c : KC} {m : KM} {s0 S : KS} (hk : KAt w0 c m s0) (h : KNow W c m S w1) {X : Nat} {o : Obj} (hX : W.heap[X]? = some o) (hge : w0.heap.size <= X) : w1.heap[X]? = some o := by
 obtain ⟨m1, h1, -⟩ := h
 exact h1.2.1.heap hX (fun hh => by have := hk.klt X hh; omega)
theorem KAt.know {w w' : World} {c : KC} {m : KM} {s : KS} (h : KAt w c m s) (ho : Only (fun _ => False) w w') : KNow w c m s w' := ⟨m, h.ktNew ho, rfl, rfl⟩
theorem KT.know {w W w2 : World} {c : KC} {m m' : KM} {s' S : KS} (h : KT w c m W m' s') (e : m'.k = m.k) (f : m'.js = m.js) (hk : KNow W c m' S w2) : KNow w c m S w2 := by
 obtain ⟨m9, k9, e9, f9⟩ := hk
 exact ⟨m9, h.trans k9, e9.trans e, f9.trans f⟩
