import Derived.Test.YtlbdjiiddofkgaaGreatDoorC42
set_option maxRecDepth 100000
namespace Go.Proofs.YtlbdjiiddofkgaaGreatDoor
namespace Krn
open Go Go.RowKit Go.Maps Ring Band
structure ObjS (s s' : KS) : Prop where
 e : ∃ box grp cnt lkh lkd, s' = { s with box := box, grp := grp, cnt := cnt, lkh := lkh, lkd := lkd }
theorem ObjS.refl (s : KS) : ObjS s s := ⟨s.box, s.grp, s.cnt, s.lkh, s.lkd, rfl⟩
theorem zR0 (c : KC) (s : KS) (o : Opn) (who : Nat) : ObjS s (opF c s o who).1 := by
 have hit : ∀ {p : Prop} [Decidable p] {a b : KS × Int × Int}, ObjS s a.1 -> ObjS s b.1 -> ObjS s (if p then a else b).1 := by
  intro p _ a b ha hb
  split
  ·exact ha
  ·exact hb
 unfold opF
 dsimp only
 refine hit (hit (.refl s) ⟨_, _, _, _, _, rfl⟩) (hit (hit ⟨_, _, _, _, _, rfl⟩ (.refl s)) (hit (hit (.refl s) ⟨_, _, _, _, _, rfl⟩) (hit ?_ (hit ⟨_, _, _, _, _, rfl⟩ (hit ⟨_, _, _, _, _, rfl⟩ (hit (.refl s) (hit (hit (.refl s) ⟨_, _, _, _, _, rfl⟩) (hit (hit (.refl s) ⟨_, _, _, _, _, rfl⟩) (.refl s)))))))))
 cases s.box o.a.toNat with
 | nil => exact .refl s
 | cons a l => exact ⟨_, _, _, _, _, rfl⟩
theorem zDJ {α : Type} {l : List α} {p : Nat} {x : α} (h : l[p]? = some x) : l.set p x = l := by
 refine List.ext_getElem? fun i => ?_
 by_cases hi : p = i
 ·subst hi
  rw [List.getElem?_set_self (List.getElem?_eq_some_iff.1 h).1, h]
 ·rw [List.getElem?_set_ne hi]
structure BegS (c : KC) (s : KS) (o : Opn) (i : Nat) (x : Bj) (e : Et) (s' : KS) : Prop where
 e : ∃ box grp cnt lkh lkd cg a b l, s' = { s with box := box, grp := grp, cnt := cnt, lkh := lkh, lkd := lkd, cg := cg, ents := s.ents.set x.p { e with hi := e.hi + a, mi := e.mi + b }, jobs := s.jobs.set i { x with j := (beginF x.j o (ofZ o c.h c.mi (wO c s o))).1 }, tr := s.tr ++ l }
  /\ (0 <= a /\ 0 <= b /\ a + b <= 1) /\ l.length <= 1 /\ ∀ r ∈ l, r.k = 8
theorem zJ0 (c : KC) {s : KS} (o : Opn) (i : Nat) {x : Bj} {e : Et} (he : s.ents[x.p]? = some e) : ∃ cg a b, begB c s o i x e = { s with cg := cg, ents := s.ents.set x.p { e with hi := e.hi + a, mi := e.mi + b }, jobs := s.jobs.set i { x with j := (beginF x.j o (ofZ o c.h c.mi (wO c s o))).1 } } /\ 0 <= a /\ 0 <= b /\ a + b <= 1 := by
 unfold begB begA
 split
 ·unfold accF
  by_cases hh : (o.a.toNat : Int) ∈ s.cg (o.a.toNat % c.s)
  ·rw [if_pos hh]
   exact ⟨_, 1, 0, by rw [Int.add_zero], by decide, by decide, by decide⟩
  ·rw [if_neg hh]
   exact ⟨_, 0, 1, by rw [Int.add_zero], by decide, by decide, by decide⟩
 ·refine ⟨s.cg, 0, 0, ?_, by decide, by decide, by decide⟩
  rw [Int.add_zero, Int.add_zero, zDJ he]
theorem zGP (c : KC) {s : KS} (o : Opn) (i : Nat) {x : Bj} {e : Et} (he : s.ents[x.p]? = some e) : BegS c s o i x e (begC c s o i x e) := by
 obtain ⟨cg, a, b, hB, h1⟩ := zJ0 c o i he
 unfold begC
 split
 ·obtain ⟨box, grp, cnt, lkh, lkd, hO⟩ := (zR0 c (begB c s o i x e) o x.p).e
  rw [hB] at hO ⊢
  rw [hO]
  exact ⟨box, grp, cnt, lkh, lkd, cg, a, b, _, rfl, h1, Nat.le_refl _, fun r hr => by rw [List.mem_singleton.1 hr]⟩
 ·rw [hB]
  exact ⟨s.box, s.grp, s.cnt, s.lkh, s.lkd, cg, a, b, [], by rw [List.append_nil], h1, Nat.zero_le _, fun r hr => by cases hr⟩
theorem zPJ {j : Jz} {o : Opn} (h : j.Ok) (ho : opOf j = some o) {k : Int} (hk : 0 <= k /\ k <= 1073741824) : (beginF j o k).1.Ok /\ 1 <= (beginF j o k).1.rest /\ (beginF j o k).1.ops = j.ops /\ (beginF j o k).1.left = j.left /\ (beginF j o k).1.armed = j.armed := by
 obtain ⟨h1, h2, h3⟩ := zDH ho
 obtain ⟨d1, d2, d3, d4, d5, d6, d7⟩ := zGJ j o
 have hat := (List.getElem?_eq_some_iff.1 h3).1
 have hl := h.l
 have hn := h.n
 unfold beginF
 split
 ·refine ⟨⟨?_, ?_, ?_, fun _ => ?_⟩, ?_, d1, d5, d6⟩ <;> dsimp only
  ·omega
  ·rw [d5]; exact hl
  ·rw [d1, d3]; exact hn
  ·rw [d1, d3]; exact hat
  ·omega
 ·refine ⟨⟨?_, ?_, ?_, fun _ => ?_⟩, ?_, d1, d5, d6⟩ <;> dsimp only
  ·omega
  ·rw [d5]; exact hl
  ·rw [d1, d3]; exact hn
  ·rw [d1, d3]; exact hat
  ·omega
theorem zTI (x : Opn) (h mi : Int) (hit : Bool) : 0 <= ofZ x h mi hit /\ ofZ x h mi hit <= 1073741824 := by
 unfold ofZ cntZ
 split
 ·omega
 ·split
  ·omega
  ·split <;> omega
def T3 (wh : Bool) (j : Jz) (e : Et) : Prop := 1 <= j.rest /\ (wh = false -> j.armed = true -> 1 <= e.wi) /\ (wh = true -> j.armed = true /\ 0 < j.left)
theorem T2.rest {wh : Bool} {j : Jz} {e : Et} (h : T2 wh j e) : overB j = false /\ (wh = false -> j.armed = true -> 1 <= e.wi) /\ (wh = true -> j.armed = true /\ 0 < j.left) := by
 cases wh with
 | true => exact ⟨h.1, (fun q => by cases q), fun _ => h.2⟩
 | false => exact ⟨h.1, fun _ => h.2, (fun q => by cases q)⟩
section
variable {c : KC} {s : KS} {K : Int} {B : Nat} {T : Jz -> Et -> Prop}
structure Next (c : KC) (s s' : KS) (wh : Bool) (K : Int) (B : Nat) : Prop where
 ki : KI c s' (K + 1) (B + 1) (T3 wh)
 now : s'.now = s.now
 ag : s'.ag = s.ag
 tn : s'.tn = s.tn
 jl : s'.jobs.length = s.jobs.length
theorem KI.next {wh : Bool} (h : KI c s K B (T2 wh)) {i : Nat} (hl : s.jobs.length = i + 1) : Next c s (nextF c s) wh K B := by
 obtain ⟨x, f, t, tv, e, h1, h2, h3, h4, h5⟩ := h.top hl
 obtain ⟨t1, t2, t3⟩ := h5.T.rest
 unfold nextF
 rw [h1]
 dsimp only
 cases ho : opOf x.j with
 | none =>
  dsimp only
  have hr := h5.ok.r
  have h6 : ¬ (x.j.rest = 0 /\ opOf x.j = none) := fun q => by
   have := zEQ.2 q
   rw [t1] at this
   cases this
  rw [ho] at h6
  have h7 : x.j.rest ≠ 0 := fun q => h6 ⟨q, rfl⟩
  have hJ : JAt c s.ents s.fs (T3 wh) i x := ⟨f, t, tv, e, h3, h4, h5.mono fun _ => ⟨by omega, t2, t3⟩⟩
  have q := h.si.turn (T' := T3 wh) (x' := x) (ents' := s.ents) hl.symm h2 rfl (fun _ _ => rfl) hJ
  rw [zDJ h2] at q
  exact ⟨⟨h.n0, q, h.wi, h.ei.mono (by omega), fun u => Nat.le_succ_of_le (h.nx u), Nat.le_succ_of_le h.el, Nat.le_succ_of_le h.tr⟩, rfl, rfl, rfl, rfl⟩
 | some o =>
  dsimp only
  obtain ⟨box, grp, cnt, lkh, lkd, cg, a, b, l, hB, hab, hll, -⟩ := (zGP c o i h5.en).e
  obtain ⟨b1, b2, b3, b4, b5⟩ := zPJ h5.ok ho (zTI o c.h c.mi (wO c s o))
  have hp := (List.getElem?_eq_some_iff.1 h5.en).1
  rw [hB]
  refine ⟨⟨h.n0, h.si.turn (x' := { x with j := (beginF x.j o (ofZ o c.h c.mi (wO c s o))).1 }) (ents' := s.ents.set x.p { e with hi := e.hi + a, mi := e.mi + b }) hl.symm h2 rfl (fun p hpp => List.getElem?_set_ne (fun e => hpp e.symm)) ?_, h.wi.turn h5.en h5.st, h.ei.turn h5.en (by omega) rfl rfl ?_, fun u => Nat.le_succ_of_le (h.nx u), ?_, ?_⟩, rfl, rfl, rfl, List.length_set⟩
  ·refine ⟨f, t, tv, { e with hi := e.hi + a, mi := e.mi + b }, h3, h4, ?_, List.getElem?_set_self hp, h5.ta, b1, h5.st, h5.ed, h5.wi, ?_, ?_, h5.who, h5.size, h5.base, b2, ?_, ?_⟩
   ·show c.ts[t]? = some (tv, (beginF x.j o (ofZ o c.h c.mi (wO c s o))).1.ops)
    rw [b3]; exact h5.ts
   ·dsimp only; rw [b4, b5]; exact h5.un
   ·dsimp only; rw [b4, b5]; exact h5.ar
   ·dsimp only; rw [b5]; exact t2
   ·dsimp only; rw [b4, b5]; exact t3
  ·have := h.ei.eb _ _ h5.en
   unfold EB at *
   dsimp only
   omega
  ·show (s.ents.set _ _).length <= _
   rw [List.length_set]
   exact Nat.le_succ_of_le h.el
  ·have := h.tr
   show (s.tr ++ l).length <= _
   rw [List.length_append]
   omega
theorem zHZ (j : Jz) (z : Int) : (burnF j z).ops = j.ops /\ (burnF j z).armed = j.armed /\ (burnF j z).fault = j.fault := by
 unfold burnF
 split <;> exact ⟨rfl, rfl, rfl⟩
theorem zE2 {j : Jz} {z : Int} (hz : 1 <= z) (hr : z <= j.rest) : (burnF j z).left = if j.armed = true then max (j.left - z) 0 else j.left := by
 unfold burnF
 have : goneF j z = z := by unfold goneF; omega
 rw [this, if_neg (by omega)]
structure Gone (c : KC) (s s' : KS) (K z : Int) (B : Nat) : Prop where
 ki : KI c s' (K + z) (B + 1) Lo
 now : s'.now = s.now + z
 ag : s'.ag = s.ag
 tn : s'.tn = s.tn
theorem KI.go {wh : Bool} (h : KI c s K B (T3 wh)) {i : Nat} (hl : s.jobs.length = i + 1) {z : Int} (hz : 1 <= z) (hzr : ∀ x, s.jobs[i]? = some x -> z <= x.j.rest /\ (wh = true -> z <= x.j.left)) (hn : s.now + z <= 3000) : Gone c s (goF s wh z) K z B := by
 obtain ⟨x, f, t, tv, e, h1, h2, h3, h4, h5⟩ := h.top hl
 obtain ⟨t1, t2, t3⟩ := h5.T
 obtain ⟨z1, z2⟩ := hzr x h2
 have h0 := h.n0
 have hp := (List.getElem?_eq_some_iff.1 h5.en).1
 obtain ⟨S, hS⟩ : ∃ S, S = kT (vJ (jQ s x.p e wh z) i x z) z := ⟨_, rfl⟩
 have hwE : (jQ s x.p e wh z).ents = s.ents.set x.p (jR e wh z) := by
  unfold jQ jR
  cases wh with
  | true => rfl
  | false => exact (zDJ h5.en).symm
 have hwe : (jR e wh z).ta = e.ta /\ (jR e wh z).jb = e.jb /\ (jR e wh z).st = e.st /\ (jR e wh z).en = e.en /\ (jR e wh z).ba = e.ba /\ (jR e wh z).wi = (if wh = true then e.wi + z else e.wi) := by
  unfold jR
  cases wh <;> exact ⟨rfl, rfl, rfl, rfl, rfl, rfl⟩
 obtain ⟨w1, w2, w3, w4, w5, w6⟩ := hwe
 obtain ⟨b1, b2, b3⟩ := zHZ x.j z
 have b4 := zE2 hz z1
 have hwi : 0 <= (jR e wh z).wi := by
  have := h5.wi
  rw [w6]
  split <;> omega
 have hE : S.ents = s.ents.set x.p (jR e wh z) := by rw [hS]; exact hwE
 have hJ : S.jobs = s.jobs.set i { x with j := burnF x.j z } := by
  rw [hS]
  show (jQ s x.p e wh z).jobs.set i _ = _
  unfold jQ
  split <;> rfl
 have xE : S.fs = s.fs /\ S.pk = s.pk /\ S.q = s.q /\ S.ps = s.ps /\ S.nx = s.nx /\ S.tr = s.tr /\ S.ag = s.ag /\ S.tn = s.tn /\ S.now = s.now + z := by
  rw [hS]
  unfold jQ
  split <;> exact ⟨rfl, rfl, rfl, rfl, rfl, rfl, rfl, rfl, rfl⟩
 obtain ⟨r1, r2, r3, r4, r5, r6, r7, r8, r9⟩ := xE
 have hEB : EB (K + z) (jR e wh z) := by
  have hb := h.ei.eb _ _ h5.en
  unfold jR
  unfold EB at *
  split
  ·dsimp only; omega
  ·omega
 have hK : KI c S (K + z) B fun j e' => j.armed = true -> 1 <= e'.wi := by
  refine ⟨by rw [r9]; omega, ?_, ?_, ?_, by rw [r5]; exact h.nx, by rw [hE, List.length_set]; exact h.el, by rw [r6]; exact h.tr⟩
  ·rw [hJ, hE, r1, r2]
   refine h.si.turn (x' := { x with j := burnF x.j z }) hl.symm h2 rfl (fun p hpp => List.getElem?_set_ne (fun e => hpp e.symm)) ?_
   refine ⟨f, t, tv, jR e wh z, h3, h4, ?_, List.getElem?_set_self hp, by rw [w1]; exact h5.ta, zM2 h5.ok z, by rw [w3]; exact h5.st, by rw [w4]; exact h5.ed, hwi, fun ha => ?_, fun ha => ?_, h5.who, h5.size, by rw [w5]; exact h5.base, fun ha => ?_⟩
   ·show c.ts[t]? = some (tv, (burnF x.j z).ops)
    rw [b1]; exact h5.ts
   ·dsimp only at ha ⊢
    rw [b2] at ha
    have hw : wh = false := by
     cases wh with
     | false => rfl
     | true => rw [(t3 rfl).1] at ha; cases ha
    rw [b4, w6, hw, ha]
    exact h5.un ha
   ·dsimp only at ha ⊢
    rw [b2] at ha
    have h6 := h5.ar ha
    have h7 := h5.ok.l.1
    rw [b4, ha, if_pos rfl, w6]
    cases wh with
    | true =>
     have := z2 rfl
     rw [if_pos rfl]
     omega
    | false =>
     rw [if_neg (by decide)]
     have : 0 <= tv.fl := by have := h5.wi; omega
     rcases Nat.eq_zero_or_pos x.j.left.toNat with hq | hq
     ·omega
     ·omega
   ·dsimp only at ha ⊢
    rw [b2] at ha
    rw [w6]
    cases wh with
    | true =>
     have := h5.wi
     rw [if_pos rfl]
     omega
    | false =>
     rw [if_neg (by decide)]
     exact t2 rfl ha
  ·rw [r3, r4, r5, hE, r9]
   exact (h.wi.turn h5.en h5.st).later (by omega)
  ·rw [hE, r5]
   exact h.ei.turn h5.en (by omega) w1 w2 hEB
 have hSl : S.jobs.length = i + 1 := by rw [hJ, List.length_set]; exact hl
 have hSx : S.jobs[i]? = some { x with j := burnF x.j z } := by rw [hJ]; exact List.getElem?_set_self (by omega)
 have hSe : S.ents[x.p]? = some (jR e wh z) := by rw [hE]; exact List.getElem?_set_self hp
 unfold goF
 rw [h1]
 dsimp only
 rw [<- hS]
 split
 ·rename_i ho
  have xK := hK.si.pop (ents' := S.ents.set x.p { jR e wh z with en := S.now, fa := (burnF x.j z).fault }) hSl.symm hSx (fun p hpp => List.getElem?_set_ne (fun e => hpp e.symm))
  rw [<- r1]
  refine ⟨⟨hK.n0, xK, hK.wi.turn hSe (by rw [w3]; exact h5.st), hK.ei.turn hSe (Int.le_refl _) rfl rfl hEB, fun u => Nat.le_succ_of_le (hK.nx u), ?_, ?_⟩, r9, r7, r8⟩
  ·show (S.ents.set _ _).length <= _
   rw [List.length_set]
   exact Nat.le_succ_of_le hK.el
  ·have := hK.tr
   show (S.tr ++ [_]).length <= _
   rw [List.length_append, List.length_singleton]
   omega
 ·rename_i ho
  refine ⟨⟨hK.n0, ?_, hK.wi, hK.ei, fun u => Nat.le_succ_of_le (hK.nx u), Nat.le_succ_of_le hK.el, Nat.le_succ_of_le hK.tr⟩, r9, r7, r8⟩
  obtain ⟨f', t', tv', e', g3, g4, g5⟩ := hK.si.top i _ hSx hSl.symm
  have := hK.si.turn (T' := Lo) hSl.symm hSx rfl (fun _ _ => rfl) ⟨f', t', tv', e', g3, g4, g5.mono fun q => ⟨by cases hb : overB (burnF x.j z) with | true => exact absurd hb ho | false => rfl, q⟩⟩
  rw [zDJ hSx] at this
  exact this
end
structure KOk (c : KC) (E : Nat) (s : KS) : Prop where
 i : KI c s (4 * s.now) (300 * s.now.toNat) Lo
 a : AgI c s.now s.ag
 l : s.ag.length <= 256
 n : s.tn <= 256 * s.now.toNat + E
section
variable {c : KC} {s : KS} {K : Int} {B E : Nat} {T : Jz -> Et -> Prop} {till : Int}
theorem zPK (hA : AgI c (s.now + 1) s.ag) (ht : s.now < till) : 1 <= quietZ s till /\ s.now + quietZ s till <= till /\ ∀ x ∈ s.ag, s.now + quietZ s till <= x.e.t := by
 unfold quietZ
 split
 ·rename_i h0
  rw [h0]
  exact ⟨by omega, by omega, fun x hx => by cases hx⟩
 ·rename_i h0
  obtain ⟨y, hy, e⟩ := zCQ h0
  have := (hA y hy).1
  refine ⟨by omega, by omega, fun x hx => ?_⟩
  have := zI0 hx
  omega
structure Phases (c : KC) (s : KS) (till : Int) : Prop where
 due : Due c s (dueF c s) (4 * s.now) (300 * s.now.toNat) (tak s.now s.ag).1.length
 few : (tak s.now s.ag).1.length <= 256
 ch : Chosen c (dueF c s) (chF c (dueF c s)).1 (chF c (dueF c s)).2 (4 * s.now) (300 * s.now.toNat + (tak s.now s.ag).1.length)
 q : 1 <= quietZ (chF c (dueF c s)).1 till /\ s.now + quietZ (chF c (dueF c s)).1 till <= till /\ ∀ x ∈ (chF c (dueF c s)).1.ag, s.now + quietZ (chF c (dueF c s)).1 till <= x.e.t
 nx : ∀ i, (chF c (dueF c s)).1.jobs.length = i + 1 -> Next c (chF c (dueF c s)).1 (nextF c (chF c (dueF c s)).1) (chF c (dueF c s)).2 (4 * s.now + 1) (300 * s.now.toNat + (tak s.now s.ag).1.length + 2)
theorem KOk.phases (h : KOk c E s) (hc : CfgOk c) (ht : s.now < till) : Phases c s till := by
 have h0 := h.i.n0
 have hd : Due c s (dueF c s) (4 * s.now) (300 * s.now.toNat) (tak s.now s.ag).1.length := zI6 h.i (by omega) hc h.a _ (Nat.le_refl _)
 have hC := hd.ki.choose hc
 have hn : (chF c (dueF c s)).1.now = s.now := hC.now.trans hd.st.now
 have hq := zPK (c := c) (s := (chF c (dueF c s)).1) (till := till) (by rw [hn, hC.ag]; exact hd.ag) (by rw [hn]; exact ht)
 rw [hn] at hq
 have := zI5 s.now s.ag
 have := h.l
 exact ⟨hd, by omega, hC, hq, fun i hi => hC.ki.next hi⟩
theorem zI7 {x : Bj} {wh : Bool} {q : Int} {e : Et} (hT : T3 wh x.j e) (hq : 1 <= q) : 1 <= spanZ x wh q /\ spanZ x wh q <= q /\ spanZ x wh q <= x.j.rest /\ (wh = true -> spanZ x wh q <= x.j.left) := by
 obtain ⟨t1, t2, t3⟩ := hT
 unfold spanZ
 cases wh with
 | true =>
  have := (t3 rfl).2
  rw [if_pos rfl]
  exact ⟨by omega, by omega, by omega, fun _ => by omega⟩
 | false =>
  rw [if_neg (by decide)]
  exact ⟨by omega, by omega, by omega, fun h => by cases h⟩
theorem KOk.step (h : KOk c E s) (hc : CfgOk c) (ht : s.now < till) (h3 : till <= 3000) : KOk c E (stepF c till s) /\ s.now < (stepF c till s).now /\ (stepF c till s).now <= till := by
 have hp := h.phases hc ht
 obtain ⟨hd, hf, hC, hq, hN⟩ := hp
 have h0 := h.i.n0
 have hn : (chF c (dueF c s)).1.now = s.now := hC.now.trans hd.st.now
 have hl := h.l
 have htn := h.n
 have hal := hd.al
 have hdt := hd.tn
 unfold stepF tickF
 obtain ⟨S, hS⟩ : ∃ S, S = (chF c (dueF c s)).1 := ⟨_, rfl⟩
 obtain ⟨wh, hwh⟩ : ∃ wh, wh = (chF c (dueF c s)).2 := ⟨_, rfl⟩
 rw [<- hS] at hC hq hN hn ⊢
 rw [<- hwh] at hC hN ⊢
 obtain ⟨q, hqq⟩ : ∃ q, q = quietZ S till := ⟨_, rfl⟩
 rw [<- hqq] at hq ⊢
 obtain ⟨q1, q2, q3⟩ := hq
 have fin : ∀ (S' : KS) (z : Int), 1 <= z -> z <= q -> KI c S' (4 * s.now + 2 + z) (300 * s.now.toNat + (tak s.now s.ag).1.length + 4) Lo -> S'.now = s.now + z -> S'.ag = S.ag -> S'.tn = S.tn -> KOk c E S' /\ s.now < S'.now /\ S'.now <= till := by
  intro S' z z1 z2 hk e1 e2 e3
  have e4 := hC.tn
  have e5 := hC.ag
  refine ⟨⟨(hk.high (by omega)).more (by omega), fun x hx => ?_, ?_, ?_⟩, by omega, by omega⟩
  ·rw [e2] at hx
   have g1 := q3 x hx
   rw [e5] at hx
   obtain ⟨g2, g3, g4⟩ := hd.ag x hx
   exact ⟨by omega, g3, g4⟩
  ·rw [e2, e5]; omega
  ·rw [e3, e4]; omega
 cases hj : S.jobs with
 | nil =>
  dsimp only [List.isEmpty_nil]
  rw [if_pos rfl]
  have hk := hC.ki
  refine fin (kT S q) q q1 (Int.le_refl _) ⟨?_, ?_, hk.wi.later ?_, hk.ei.mono (by omega), fun u => Nat.le_trans (hk.nx u) (by omega), Nat.le_trans hk.el (by omega), Nat.le_trans hk.tr (by omega)⟩ ?_ rfl rfl
  ·show 0 <= S.now + q /\ S.now + q <= 3000
   omega
  ·have := hk.si
   show SI c S.jobs S.fs S.pk S.ents Lo
   rw [hj] at this ⊢
   exact ⟨this.len, this.low, (fun i x hx => by simp at hx), this.nod, this.std, this.pk⟩
  ·show S.now <= S.now + q
   omega
  ·show S.now + q = _
   omega
 | cons y l =>
  rw [if_neg (by simp)]
  obtain ⟨i, hi⟩ : ∃ i, S.jobs.length = i + 1 := ⟨l.length, by rw [hj]; rfl⟩
  have hX := hN i hi
  have hi3 : (nextF c S).jobs.length = i + 1 := hX.jl.trans hi
  obtain ⟨x, f, t, tv, e, g1, g2, g3, g4, g5⟩ := hX.ki.top hi3
  obtain ⟨s1, s2, s3, s4⟩ := zI7 g5.T q1
  have hz : goZ (nextF c S) wh q = spanZ x wh q := by unfold goZ; rw [g1]
  rw [hz]
  have hnn : (nextF c S).now = s.now := hX.now.trans hn
  have hG := hX.ki.go hi3 (z := spanZ x wh q) s1 (fun x' hx' => by rw [g2] at hx'; cases hx'; exact ⟨s3, s4⟩) (by omega)
  refine fin _ (spanZ x wh q) s1 s2 ?_ (hG.now.trans (by rw [hnn])) (hG.ag.trans hX.ag) (hG.tn.trans hX.tn)
  exact (hG.ki.high (by omega)).more (by omega)
end
section
variable {w w' : World} {c : KC} {m : KM} {s : KS} {K : Int} {B E : Nat} {T : Jz -> Et -> Prop} {till : Int}
theorem zR1 (hA : KAt w c m s) (h : KI c s K B T) (hK : K <= 1000000) : UOk c m s (topU s) := by
 rcases Nat.eq_zero_or_pos s.jobs.length with h0 | h0
 ·rw [zBF (List.eq_nil_of_length_eq_zero h0)]
  show m.js.getLast? = none
  have := hA.jlen
  rw [h0] at this
  rw [List.eq_nil_of_length_eq_zero this]
  rfl
 ·obtain ⟨i, hi⟩ : ∃ i, s.jobs.length = i + 1 := ⟨s.jobs.length - 1, by omega⟩
  obtain ⟨x, f, t, tv, e, h1, h2, h3, h4, h5⟩ := h.top hi
  rw [h1]
  have hj := hA.jlen
  obtain ⟨b, hb⟩ : ∃ b, m.js[i]? = some b := ⟨_, List.getElem?_eq_getElem (by omega)⟩
  have hE := (h.ei.eb _ _ h5.en).1
  refine ⟨b, ?_, hb, h2, h5.en, hE.1, by omega, t, tv, _, h5.ta, h5.ts⟩
  rw [List.getLast?_eq_getElem?, hj, hi, Nat.add_sub_cancel]
  exact hb
theorem KNow.go {S : KS} (h : KNow w c m S w') : KGo w c m S w' := by
 obtain ⟨m', k, e, -⟩ := h
 exact ⟨m', k, e⟩
theorem zM7 (hA : KAt w c m s) (h : KI c s K B Lo) (hc : CfgOk c) (hK : K <= 1000000) (hB : B <= 1000000) :
  Calls Tryz.prog 102 #[ptr m.k] w (fun e w' => e = .returned (.bool (chF c s).2) /\ KGo w c m (chF c s).1 w') := by
 have hu := zR1 hA h hK
 have hf := zI4 c s
 have htr := h.tr
 have hnl := hc.nl
 unfold chF
 by_cases hd : dispB c s (topU s) (topQ c s) = true
 ·rw [if_pos hd]
  by_cases hw : whU (topU s) = true
  ·rw [if_pos hw]
   cases hU : topU s with
   | none => rw [hU] at hw; cases hw
   | some y =>
    obtain ⟨i, x, e⟩ := y
    rw [hU] at hw hd hu
    exact (zIZ hA hu hf hnl (by omega) hd hw).mono fun e w' ⟨h1, h2⟩ => ⟨h1, h2.go⟩
  ·rw [if_neg hw]
   obtain ⟨⟨t, x, p, l⟩, hQ⟩ : ∃ y, topQ c s = some y := by
    cases hq : topQ c s with
    | none => rw [hq] at hd; cases hd
    | some y => exact ⟨y, rfl⟩
   obtain ⟨tv, ops, hN⟩ := h.newOk hQ
   rw [hQ] at hd hf ⊢
   rw [hN.new]
   have hk := hc.t t tv ops hN.ts
   obtain ⟨x1, x2, x3⟩ := h.wi.qm t (x, p) (by rw [hN.q]; exact List.mem_cons_self)
   have hfl := hk.fl
   have hn := hc.n
   refine (zK2 hA hu hf hnl hd (by simpa using hw) fun W hO => zMV (hA.new hO) hu.under (by omega) hN.q hN.top (fun y hy => ?_) h.wi.pd x2 (fun y hy e => ?_) x1 hN.ts hN.e h.si.std ?_ hk.fr hk.ol.2 (fun o ho h2 => ?_) ?_ (by omega)).mono fun e w' ⟨h1, m', b, h2, h3, _⟩ => ⟨h1, m', h2, h3⟩
   ·obtain ⟨u, g1, g2, g3, g4, g5, g6⟩ := h.wi.pm y hy
    have := h.nx u
    have := h.n0
    unfold Jb.fine
    omega
   ·obtain ⟨y1, y2⟩ := y
    have e' : y1 = x := e
    subst e'
    exact zM6 h.wi.pd hy x2
   ·have := h.si.few hc
    have := h.si.len
    omega
   ·obtain ⟨q, q1, q2⟩ := hk.oi o ho
    have := q1.a
    have := q2 h2
    omega
   ·have := h.si.few hc
    omega
 ·rw [if_neg hd]
  exact (zMW hA hu hf hnl (by omega) (by simpa using hd)).mono fun e w' ⟨h1, h2⟩ => ⟨h1, h2.go⟩
theorem zR2 {wh : Bool} (h : KI c s K B (T2 wh)) (hc : CfgOk c) (hK : K <= 1000000) (hB : B <= 1000000) {i : Nat} (hi : s.jobs.length = i + 1) (W : World) (m1 : KM) (b : Bm) (hA : KAt W c m1 s) (hb : m1.js[i]? = some b) :
  Calls Tryz.prog 104 #[ptr m1.k, ptr b.b] W (KEnd W c m1 (nextF c s) (.tuple #[])) := by
 obtain ⟨x, f, t, tv, e, h1, h2, h3, h4, h5⟩ := h.top hi
 have htr := h.tr
 unfold nextF
 rw [h1]
 dsimp only
 cases ho : opOf x.j with
 | none => exact zK0 hA hb h2 ho
 | some o =>
  have hm := List.mem_of_getElem? (zDH ho).2.2
  obtain ⟨q, q1, q2⟩ := (hc.t t tv _ h5.ts).oi o hm
  obtain ⟨-, b2, b3, -⟩ := h.ei.eb _ _ h5.en
  exact zK1 hA hb h2 h5.en ho q1 q2 (by omega) (by omega) (by omega)
theorem KOk.run (h : KOk c E s) (hc : CfgOk c) (hE : E <= 100000) (ht : s.now < till) (h3 : till <= 3000) (W : World) (m1 : KM) (hA : KAt W c m1 s) :
  Calls Tryz.prog 54 #[ptr m1.k, .int .i64 till] W (ResV (KGo W c m1 (stepF c till s))) := by
 obtain ⟨hd, hf, hC, hq, hN⟩ := h.phases hc ht
 have h0 := h.i.n0
 have hl := h.l
 have htn := h.n
 have hout := zI5 s.now s.ag
 have hn : (chF c (dueF c s)).1.now = s.now := hC.now.trans hd.st.now
 refine zPH hA (out := (tak s.now s.ag).1) (rs := (tak s.now s.ag).2) (zDW _ _ _) (fun k x hx => zEZ s.now s.ag.length s.ag (Nat.le_refl _) x (List.mem_of_getElem? hx.1)) (by omega) (fun i x hx => ?_)
  (S2 := (chF c (dueF c s)).1) (wh := (chF c (dueF c s)).2) (fun W m1 hA => zM7 (s := dueF c s) hA hd.ki hc (by omega) (by omega)) (by omega) (by omega) (fun x hx => ?_) (fun hj => ?_) (fun i x hi hx => ?_)
 ·have hil := (List.getElem?_eq_some_iff.1 hx).1
  have hdi := zI6 h.i (by omega) hc h.a i (by omega)
  obtain ⟨e1, e2⟩ := zPI h.a hx
  have := hdi.al
  have := hdi.tn
  exact ⟨hdi.ki.evOk hc (by omega) e1 (by omega), by omega, by omega⟩
 ·rw [hC.ag] at hx
  obtain ⟨g1, g2, g3⟩ := hd.ag x hx
  omega
 ·unfold stepF tickF
  rw [hj]
  rfl
 ·have hX := hN i hi
  have hi3 := hX.jl.trans hi
  obtain ⟨x3, f, t, tv, e3, g1, g2, g3, g4, g5⟩ := hX.ki.top hi3
  have hemp : (chF c (dueF c s)).1.jobs.isEmpty = false := by
   cases hj : (chF c (dueF c s)).1.jobs with
   | nil => rw [hj] at hi; cases hi
   | cons _ _ => rfl
  have hz : goZ (nextF c (chF c (dueF c s)).1) (chF c (dueF c s)).2 (quietZ (chF c (dueF c s)).1 till) = spanZ x3 (chF c (dueF c s)).2 (quietZ (chF c (dueF c s)).1 till) := by unfold goZ; rw [g1]
  have hst : stepF c till s = goF (nextF c (chF c (dueF c s)).1) (chF c (dueF c s)).2 (spanZ x3 (chF c (dueF c s)).2 (quietZ (chF c (dueF c s)).1 till)) := by
   unfold stepF tickF
   rw [hemp, if_neg (by decide), hz]
  have hwi := (hX.ki.ei.eb _ _ g5.en).2.2.2
  refine ⟨nextF c (chF c (dueF c s)).1, x3, e3, fun W m1 b hA hb => zR2 hC.ki hc (by omega) (by omega) hi W m1 b hA hb, hi3, g2, g5.en, by omega, hX.now, fun ho => ?_, fun ho => ?_⟩
  ·rw [hst]
   unfold goF
   rw [g1]
   dsimp only
   rw [ho, if_neg (by decide)]
  ·have hfl : (nextF c (chF c (dueF c s)).1).fs.length = i + 1 := hX.ki.si.len.trans hi3
   have hne : (nextF c (chF c (dueF c s)).1).fs ≠ [] := fun e => by rw [e] at hfl; cases hfl
   have vE : (nextF c (chF c (dueF c s)).1).fs.getLast hne = f := by
    have := List.getLast?_eq_some_getLast hne
    rw [List.getLast?_eq_getElem?, hfl, Nat.add_sub_cancel, g3] at this
    exact (Option.some.inj this).symm
   have jBs := hX.ki.si.few hc
   have htr := hX.ki.tr
   refine ⟨(nextF c (chF c (dueF c s)).1).fs.dropLast, f, ?_, g5.who, by rw [List.length_dropLast]; omega, hc.nl, by omega, by omega, ?_⟩
   ·rw [<- vE]
    exact (List.dropLast_concat_getLast hne).symm
   ·rw [hst]
    unfold goF
    rw [g1]
    dsimp only
    rw [ho, if_pos rfl]
theorem zTJ (hc : CfgOk c) (hE : E <= 100000) (h3 : till <= 3000) : StepOk c (KOk c E) (stepF c till) till :=
 ⟨fun _ hS hlt => (hS.step hc hlt h3).1, fun _ hS hlt => (hS.step hc hlt h3).2, fun _ hS hlt W m1 hA => hS.run hc hE hlt h3 W m1 hA⟩
theorem zQB (hA : KAt w c m s) (h : KOk c E s) (hc : CfgOk c) (hE : E <= 100000) (h1 : s.now <= till) (h2 : till <= 3000) :
  Calls Tryz.prog 16 #[ptr m.k, .int .i64 till] w (fun e w' => e = .returned (.int .i64 0) /\ KGo w c m (runF (stepF c till) till s) w') :=
 run_any hA (zTJ hc hE h2) h h1 (by omega)
end
def vY (x : Pil.Ev) : Bool := decide (x.k ≠ 5) || (decide (1 <= x.b) && decide (x.b <= 1048576) && decide (1 <= x.c) && decide (x.c <= 256))
def hasB (c : KC) (x : Pil.Ev) : Bool := decide (0 <= x.a) && decide (x.a < (if x.k = 1 ∨ x.k = 5 then c.ts.length else c.li.length : Nat))
def evE (c : KC) (s : KS) (x : Pil.Ev) : Int :=
 if x.k < 1 ∨ 5 < x.k then 1 else if x.t < s.now ∨ 16777216 < x.t ∨ vY x = false then 5 else if hasB c x = false then 6 else if 256 <= s.ag.length then 7 else 0
def evF (c : KC) (s : KS) (x : Pil.Ev) : KS := if evE c s x = 0 then putF s x else s
theorem zR3 (x : Pil.Ev) (w : World) : Calls Tryz.prog 50 #[x.val] w (GrowV (.bool (vY x)) w) := by
 obtain ⟨t, k, a, b, c⟩ := x
 unfold Pil.Ev.val
 dsimp only
 have hO := (Only.refl (fun _ => False) w).alloc (.cells #[.int .i64 t, .int .i64 k, .int .i64 a, .int .i64 b, .int .i64 c] 40)
 by_cases hk : k = 5
 ·subst hk
  by_cases h1 : 1 <= b
  ·by_cases h2 : b <= 1048576
   ·by_cases h3 : 1 <= c
    ·by_cases h4 : c <= 256
     ·have e : vY ⟨t, 5, a, b, c⟩ = true := by simp [vY, h1, h2, h3, h4]
      rw [e]
      go_enter Tryz.func50, Tryz.ntmps50
      go_wp2
      go_ret
      exact ⟨rfl, hO⟩
     ·have e : vY ⟨t, 5, a, b, c⟩ = false := by simp [vY]; omega
      rw [e]
      go_enter Tryz.func50, Tryz.ntmps50
      go_wp2
      go_ret
      exact ⟨rfl, hO⟩
    ·have e : vY ⟨t, 5, a, b, c⟩ = false := by simp [vY]; omega
     rw [e]
     go_enter Tryz.func50, Tryz.ntmps50
     go_wp2
     go_ret
     exact ⟨rfl, hO⟩
   ·have e : vY ⟨t, 5, a, b, c⟩ = false := by simp [vY]; omega
    rw [e]
    go_enter Tryz.func50, Tryz.ntmps50
    go_wp2
    go_ret
    exact ⟨rfl, hO⟩
  ·have e : vY ⟨t, 5, a, b, c⟩ = false := by simp [vY]; omega
   rw [e]
   go_enter Tryz.func50, Tryz.ntmps50
   go_wp2
   go_ret
   exact ⟨rfl, hO⟩
 ·have e : vY ⟨t, k, a, b, c⟩ = true := by simp [vY, hk]
  rw [e]
  go_enter Tryz.func50, Tryz.ntmps50
  go_wp2
  go_ret
  exact ⟨rfl, hO⟩
section
variable {w w' : World} {c : KC} {m : KM} {s : KS}
theorem zC2 (h : KAt w c m s) (x : Pil.Ev) : Calls Tryz.prog 51 #[ptr m.k, x.val] w (GrowV (.bool (hasB c x)) w) := by
 have c8 := zAA h.root (i := 8) rfl
 have c9 := zAA h.root (i := 9) rfl
 have n8 : m.ta.n = c.ts.length := (h.p 5).2.1
 have n9 : m.li.n = c.li.length := (h.p 6).2
 have hlt := (h.lt 0 m.k rfl).1
 obtain ⟨t, k, a, b, z⟩ := x
 have hO := (Only.refl (fun _ => False) w).alloc (.cells #[.int .i64 t, .int .i64 k, .int .i64 a, .int .i64 b, .int .i64 z] 40)
 obtain ⟨W, hW⟩ : ∃ W, W = w.alloc (.cells #[.int .i64 t, .int .i64 k, .int .i64 a, .int .i64 b, .int .i64 z] 40) := ⟨_, rfl⟩
 obtain ⟨nt, hnt⟩ : ∃ nt, nt = c.ts.length := ⟨_, rfl⟩
 obtain ⟨nl, hnl⟩ : ∃ nl, nl = c.li.length := ⟨_, rfl⟩
 unfold Sl.val at c8 c9
 rw [n8, <- hnt] at c8
 rw [n9, <- hnl] at c9
 have he : hasB c ⟨t, k, a, b, z⟩ = (decide (0 <= a) && decide (a < (if k = 1 ∨ k = 5 then nt else nl : Nat))) := by rw [hnt, hnl]; rfl
 rw [he]
 unfold Pil.Ev.val ptr
 dsimp only
 clear h hnt hnl n8 n9 he hW
 by_cases hk : k = 1 ∨ k = 5
 ·rw [if_pos hk]
  rcases hk with rfl | rfl
  all_goals
   by_cases h1 : 0 <= a
   ·rw [decide_eq_true h1, Bool.true_and]
    go_enter Tryz.func51, Tryz.ntmps51
    go_wp2
    all_goals
     go_ret
     exact ⟨rfl, hO⟩
   ·rw [decide_eq_false h1, Bool.false_and]
    go_enter Tryz.func51, Tryz.ntmps51
    go_wp2
    all_goals
     go_ret
     exact ⟨rfl, hO⟩
 ·rw [if_neg hk]
  have k1 : (k == 1) = false := by simp; exact fun e => hk (.inl e)
  have k5 : (k == 5) = false := by simp; exact fun e => hk (.inr e)
  have hk' : ¬ (k = 1 ∨ k = 5) := hk
  by_cases h1 : 0 <= a
  ·rw [decide_eq_true h1, Bool.true_and]
   go_enter Tryz.func51, Tryz.ntmps51
   go_wp2
   all_goals
    go_ret
    exact ⟨rfl, hO⟩
  ·rw [decide_eq_false h1, Bool.false_and]
   go_enter Tryz.func51, Tryz.ntmps51
   go_wp2
   all_goals
    go_ret
    exact ⟨rfl, hO⟩
end
