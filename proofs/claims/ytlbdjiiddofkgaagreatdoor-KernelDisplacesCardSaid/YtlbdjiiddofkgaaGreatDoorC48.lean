import Derived.Test.YtlbdjiiddofkgaaGreatDoorC47
set_option maxRecDepth 100000
namespace Go.Proofs.YtlbdjiiddofkgaaGreatDoor
namespace Krn
open Go Go.RowKit Go.Maps Ring Band
section
variable {c : KC} {s S : KS} {K : Int} {B E : Nat} {T : Jz -> Et -> Prop} {till : Int}
theorem zE5 {i : Nat} {x : Bj} {e : Et} (h1 : S.jobs.length = i + 1) (h2 : S.jobs[i]? = some x) (h3 : S.ents[x.p]? = some e) : topU S = some (i, x, e) := by
 unfold topU
 rw [h1, Nat.add_sub_cancel, h2]
 dsimp only
 rw [h3]
theorem zBU {i : Nat} {x : Bj} {e : Et} (h : topU S = some (i, x, e)) : S.jobs.length = i + 1 /\ S.jobs[i]? = some x /\ S.ents[x.p]? = some e := by
 unfold topU at h
 split at h
 ·cases h
 ·rename_i y hy
  split at h
  ·cases h
  ·rename_i e' he
   cases h
   have := (List.getElem?_eq_some_iff.1 hy).1
   exact ⟨by omega, hy, he⟩
theorem zH2 (h : S.q = s.q) : topQ c S = topQ c s := by
 unfold topQ
 rw [h]
structure Sett (c : KC) (S : KS) (wh : Bool) (i : Nat) (x : Bj) (e : Et) : Prop where
 top : topU S = some (i, x, e)
 cov : x.cov = false
 d : dispB c S (some (i, x, e)) (topQ c S) = wh
 ar : wh = true -> x.j.armed = true
theorem zNG {i : Nat} {x x' : Bj} {e e' : Et} (hr : x'.j.regions = x.j.regions) (hp : x'.p = x.p) (ht : e'.ta = e.ta) (h1 : S.lkh = s.lkh) (h2 : S.lkd = s.lkd) : levU c S (some (i, x', e')) = levU c s (some (i, x, e)) := by
 unfold levU levF
 dsimp only
 rw [hr, hp, ht, h1, h2]
theorem zCS {i : Nat} {x x' : Bj} {e e' : Et} {f : Option (Nat × Jb × Nat × List (Jb × Nat))} (hr : x'.j.regions = x.j.regions) (hp : x'.p = x.p) (ht : e'.ta = e.ta) (h1 : S.lkh = s.lkh) (h2 : S.lkd = s.lkd) : dispB c S (some (i, x', e')) f = dispB c s (some (i, x, e)) f := by
 cases f with
 | none => rfl
 | some y =>
  obtain ⟨t, r⟩ := y
  unfold dispB
  dsimp only
  rw [zNG hr hp ht h1 h2]
theorem zNH (s : KS) {i : Nat} {x : Bj} {e : Et} (h1 : s.jobs.length = i + 1) (h2 : s.jobs[i]? = some x) (h3 : s.ents[x.p]? = some e) : topU (resF s i x e) = some (i, { x with cov := false }, e) /\ (resF s i x e).q = s.q /\ (resF s i x e).lkh = s.lkh /\ (resF s i x e).lkd = s.lkd := by
 unfold resF
 split
 ·exact ⟨zE5 (by show (s.jobs.set i _).length = _; rw [List.length_set]; exact h1) (List.getElem?_set_self (by omega)) h3, rfl, rfl, rfl⟩
 ·rename_i hc
  refine ⟨?_, rfl, rfl, rfl⟩
  have : ({ x with cov := false } : Bj) = x := by
   obtain ⟨j, p, cv⟩ := x
   cases cv with
   | true => exact absurd rfl hc
   | false => rfl
  rw [this]
  exact zE5 h1 h2 h3
theorem zNI (h : dispB c S none (topQ c S) = false) : topQ c S = none := by
 cases hq : topQ c S with
 | none => rfl
 | some y =>
  obtain ⟨t, r⟩ := y
  rw [hq] at h
  have : ¬ ((-1 : Int) < (c.P t : Int)) := of_decide_eq_false h
  omega
theorem zTO (hc : CfgOk c) {t : Nat} {tv : jA} {ops : List Opn} (ht : c.ts[t]? = some (tv, ops)) (S : KS) (x : Bj) : (c.P t : Int) <= levF c S tv x := by
 have hP := (hc.t t tv ops ht).p
 unfold levF
 split
 ·omega
 ·have := zGO tv.th c.ceil (Lck.mine S.lkh S.lkd x.p) c.nl
  omega
theorem zR8 {i t : Nat} {x : Bj} {e : Et} {tv : jA} {ops : List Opn} (h : e.ta = (t : Int)) (ht : c.ts[t]? = some (tv, ops)) : levU c S (some (i, x, e)) = levF c S tv x := by
 unfold levU
 dsimp only
 rw [h, Int.toNat_natCast, ht]
theorem zJA (h : KI c s K B Lo) (hc : CfgOk c) : ((chF c s).1.jobs = [] -> topQ c (chF c s).1 = none /\ (chF c s).2 = false) /\ ((chF c s).1.jobs ≠ [] -> ∃ i x e, Sett c (chF c s).1 (chF c s).2 i x e) := by
 unfold chF
 by_cases hd : dispB c s (topU s) (topQ c s) = true
 ·rw [if_pos hd]
  by_cases hw : whU (topU s) = true
  ·rw [if_pos hw]
   cases hU : topU s with
   | none => rw [hU] at hw; cases hw
   | some y =>
    obtain ⟨i, x, e⟩ := y
    obtain ⟨h1, h2, h3⟩ := zBU hU
    obtain ⟨r1, r2, r3, r4⟩ := zNH { s with jobs := s.jobs.set i { x with j := { x.j with armed := true } } } (i := i) (x := { x with j := { x.j with armed := true } }) (e := e) (by show (s.jobs.set i _).length = _; rw [List.length_set]; exact h1) (List.getElem?_set_self (by omega)) h3
    have hS : heldS s (some (i, x, e)) = resF { s with jobs := s.jobs.set i { x with j := { x.j with armed := true } } } i { x with j := { x.j with armed := true } } e := rfl
    refine ⟨fun e0 => ?_, fun _ => ⟨i, { x with j := { x.j with armed := true }, cov := false }, e, r1, rfl, ?_, fun _ => rfl⟩⟩
    ·have := (zBU r1).1
     rw [<- hS] at this
     rw [show (heldS s (some (i, x, e))).jobs = [] from e0] at this
     cases this
    ·show dispB c (heldS s (some (i, x, e))) _ (topQ c (heldS s (some (i, x, e)))) = true
     rw [zH2 (s := s) (S := heldS s (some (i, x, e))) r2]
     refine Eq.trans (zCS (s := s) (x := x) (e := e) rfl rfl rfl r3 r4) ?_
     rw [<- hU]
     exact hd
  ·rw [if_neg hw]
   obtain ⟨⟨t, x, p, l⟩, hQ⟩ : ∃ y, topQ c s = some y := by
    cases hq : topQ c s with
    | none => rw [hq] at hd; cases hd
    | some y => exact ⟨y, rfl⟩
   obtain ⟨tv, ops, hN⟩ := h.newOk hQ
   have hxt := (h.wi.qm t (x, p) (by rw [hN.q]; exact List.mem_cons_self)).1
   rw [hQ, hN.new]
   dsimp only
   have hlp := (List.getElem?_eq_some_iff.1 hN.e).1
   obtain ⟨e1, he1⟩ : ∃ e1, (startF c (kB s (topU s)) t p x l tv ops (jM x)).ents[p]? = some e1 /\ e1.ta = (t : Int) := ⟨_, List.getElem?_set_self hlp, hxt⟩
   have jU : topU (startF c (kB s (topU s)) t p x l tv ops (jM x)) = some ((kB s (topU s)).jobs.length, ⟨newJ tv ops, p, false⟩, e1) := by
    refine zE5 ?_ ?_ he1.1
    ·show ((kB s (topU s)).jobs ++ [_]).length = _
     rw [List.length_append, List.length_singleton]
    ·show ((kB s (topU s)).jobs ++ [_])[(kB s (topU s)).jobs.length]? = _
     rw [List.getElem?_append_right (Nat.le_refl _), Nat.sub_self]
     rfl
   refine ⟨fun e0 => ?_, fun _ => ⟨_, _, e1, jU, rfl, ?_, (fun q => by cases q)⟩⟩
   ·have : (kB s (topU s)).jobs ++ [(⟨newJ tv ops, p, false⟩ : Bj)] = [] := e0
    simp at this
   ·-- nobody that waits is above it
    cases hq : topQ c (startF c (kB s (topU s)) t p x l tv ops (jM x)) with
    | none => rfl
    | some y =>
     obtain ⟨u, x', p', l'⟩ := y
     have hF := zI4 c (startF c (kB s (topU s)) t p x l tv ops (jM x))
     rw [hq] at hF
     obtain ⟨hT, hq'⟩ := hF
     have hle : c.P u <= c.P t := by
      by_cases hu : u = t
      ·rw [hu]; exact Nat.le_refl _
      ·refine hN.top.2.2 u hT.1 fun e0 => ?_
       have h9 : upd (kB s (topU s)).q t l u = (x', p') :: l' := hq'
       rw [upd_ne _ _ hu, (zEX (topU s)).1] at h9
       unfold qj at e0
       rw [h9] at e0
       cases e0
     have hl := zTO hc hN.ts (startF c (kB s (topU s)) t p x l tv ops (jM x)) ⟨newJ tv ops, p, false⟩
     refine decide_eq_false ?_
     rw [zR8 he1.2 hN.ts]
     omega
 ·rw [if_neg hd]
  have hd' : dispB c s (topU s) (topQ c s) = false := by cases hb : dispB c s (topU s) (topQ c s) with | true => exact absurd hb hd | false => rfl
  cases hU : topU s with
  | none =>
   refine ⟨fun _ => ⟨?_, rfl⟩, fun e0 => ?_⟩
   ·rw [hU] at hd'
    exact zNI hd'
   ·obtain ⟨i, hi⟩ : ∃ i, s.jobs.length = i + 1 := ⟨s.jobs.length - 1, (Nat.sub_add_cancel (List.length_pos_iff.2 e0)).symm⟩
    obtain ⟨x, f, t, tv, e, h1, -⟩ := h.top hi
    rw [hU] at h1
    cases h1
  | some y =>
   obtain ⟨i, x, e⟩ := y
   obtain ⟨h1, h2, h3⟩ := zBU hU
   obtain ⟨r1, r2, r3, r4⟩ := zNH s h1 h2 h3
   refine ⟨fun e0 => ?_, fun _ => ⟨i, { x with cov := false }, e, r1, rfl, ?_, (fun q => by cases q)⟩⟩
   ·have := (zBU r1).1
    rw [show (resF s i x e).jobs = [] from e0] at this
    cases this
   ·show dispB c (resF s i x e) _ (topQ c (resF s i x e)) = false
    rw [zH2 (s := s) r2]
    refine Eq.trans (zCS (s := s) (x := x) (e := e) rfl rfl rfl r3 r4) ?_
    rw [<- hU]
    exact hd'
theorem zK9 {j : Jz} {o : Opn} {k : Int} (h : 2 <= (beginF j o k).1.rest) (hk : o.k ≠ 1 -> o.k ≠ 2 -> k <= 1) : (o.k = 1 ∨ o.k = 2) /\ (beginF j o k).1.regions = j.regions := by
 unfold beginF at h ⊢
 split at h
 ·rename_i h0
  rw [if_pos h0]
  dsimp only at h ⊢
  have ho : o.k = 1 ∨ o.k = 2 := by
   by_cases h1 : o.k = 1
   ·exact .inl h1
   ·by_cases h2 : o.k = 2
    ·exact .inr h2
    ·have := hk h1 h2
     omega
  refine ⟨ho, ?_⟩
  unfold doF
  rw [if_neg (by omega), if_neg (by omega), if_neg (by omega), if_neg (by omega)]
 ·dsimp only at h
  omega
theorem zR9 (o : Opn) (h mi : Int) (hit : Bool) (h1 : o.k ≠ 1) (h2 : o.k ≠ 2) : ofZ o h mi hit <= 1 := by
 unfold ofZ
 rw [if_neg h1, if_pos h2]
 exact Int.le_refl _
theorem zNJ (j : Jz) (o : Opn) (k : Int) : (beginF j o k).1.armed = j.armed /\ (beginF j o k).1.left = j.left := by
 obtain ⟨-, -, -, -, d5, d6, -⟩ := zGJ j o
 unfold beginF
 split
 ·exact ⟨d6, d5⟩
 ·exact ⟨d6, d5⟩
theorem zNK {k : Int} (h : k = 1 ∨ k = 2) : callK k = false := by
 rcases h with rfl | rfl <;> rfl
theorem zNL {wh : Bool} {i : Nat} {x : Bj} {e : Et} (hS : Sett c s wh i x e) :
  ∃ x' e', topU (nextF c s) = some (i, x', e') /\ x'.cov = false /\ (wh = true -> x'.j.armed = true) /\ (nextF c s).q = s.q /\ (2 <= x'.j.rest -> Sett c (nextF c s) wh i x' e') := by
 obtain ⟨h1, h2, h3⟩ := zBU hS.top
 cases ho : opOf x.j with
 | none =>
  have hn : nextF c s = s := by
   unfold nextF
   rw [hS.top]
   dsimp only
   rw [ho]
  rw [hn]
  exact ⟨x, e, hS.top, hS.cov, hS.ar, rfl, fun _ => hS⟩
 | some o =>
  have hn : nextF c s = begC c s o i x e := by
   unfold nextF
   rw [hS.top]
   dsimp only
   rw [ho]
  have hp := (List.getElem?_eq_some_iff.1 h3).1
  obtain ⟨box, grp, cnt, lkh, lkd, cg, a, b, l, hB, -⟩ := (zGP c o i h3).e
  obtain ⟨r1, r2⟩ := zNJ x.j o (ofZ o c.h c.mi (wO c s o))
  have jU : topU (nextF c s) = some (i, { x with j := (beginF x.j o (ofZ o c.h c.mi (wO c s o))).1 }, { e with hi := e.hi + a, mi := e.mi + b }) := by
   rw [hn, hB]
   refine zE5 ?_ (List.getElem?_set_self (by omega)) (List.getElem?_set_self hp)
   show (s.jobs.set i _).length = _
   rw [List.length_set]
   exact h1
  refine ⟨_, _, jU, hS.cov, fun hw => ?_, by rw [hn, hB], fun hr => ?_⟩
  ·show (beginF x.j o _).1.armed = true
   rw [r1]
   exact hS.ar hw
  ·obtain ⟨g1, g2⟩ := zK9 hr (fun q1 q2 => zR9 o c.h c.mi (wO c s o) q1 q2)
   have hlk : (nextF c s).lkh = s.lkh /\ (nextF c s).lkd = s.lkd /\ (nextF c s).q = s.q := by
    obtain ⟨cg', a', b', hB', -⟩ := zJ0 c o i h3
    rw [hn]
    unfold begC
    rw [zNK g1, if_neg (by decide), hB']
    exact ⟨rfl, rfl, rfl⟩
   refine ⟨jU, hS.cov, ?_, fun hw => ?_⟩
   ·rw [zH2 hlk.2.2]
    exact Eq.trans (zCS (s := s) (x := x) (e := e) g2 rfl rfl hlk.1 hlk.2.1) hS.d
   ·show (beginF x.j o _).1.armed = true
    rw [r1]
    exact hS.ar hw
theorem zPS {a : Int} {rs : List Pil.En} (h : ∀ x ∈ rs, a < x.e.t) : tak a rs = ([], rs) := by
 unfold tak
 cases hn : rs.length with
 | zero => rfl
 | succ n =>
  unfold takN
  cases hf : zS rs with
  | none => rfl
  | some y =>
   obtain ⟨k, x⟩ := y
   have := h x (List.mem_of_getElem? (zBX hf).1)
   dsimp only
   rw [if_neg (by omega)]
theorem zJ2 (h : ∀ x ∈ S.ag, S.now < x.e.t) : dueF c S = S := by
 unfold dueF
 rw [zPS h]
 rfl
def tick1 (c : KC) (s : KS) : KS := stepF c (s.now + 1) s
theorem zH3 (h : ∀ x ∈ S.ag, S.now + 1 <= x.e.t) : quietZ S (S.now + 1) = 1 := by
 unfold quietZ
 split
 ·omega
 ·rename_i h0
  obtain ⟨y, hy, e⟩ := zCQ h0
  have := h y hy
  omega
structure GoAt (S S' : KS) (wh : Bool) (i : Nat) (x : Bj) (e : Et) (k : Int) : Prop where
 top : topU S' = some (i, { x with j := burnF x.j k }, jR e wh k)
 e : S' = kT (vJ (jQ S x.p e wh k) i x k) k
theorem zUE {i : Nat} {x : Bj} {e : Et} (hU : topU S = some (i, x, e)) (wh : Bool) {k : Int} (ho : overB (burnF x.j k) = false) : GoAt S (goF S wh k) wh i x e k := by
 obtain ⟨h1, h2, h3⟩ := zBU hU
 have hp := (List.getElem?_eq_some_iff.1 h3).1
 have hg : goF S wh k = kT (vJ (jQ S x.p e wh k) i x k) k := by
  unfold goF
  rw [hU]
  dsimp only
  rw [ho, if_neg (by decide)]
 refine ⟨?_, hg⟩
 rw [hg]
 have hj : (jQ S x.p e wh k).jobs = S.jobs := by unfold jQ; split <;> rfl
 refine zE5 ?_ ?_ ?_
 ·show ((jQ S x.p e wh k).jobs.set i _).length = _
  rw [List.length_set, hj]
  exact h1
 ·show ((jQ S x.p e wh k).jobs.set i _)[i]? = _
  rw [hj]
  exact List.getElem?_set_self (by omega)
 ·show (jQ S x.p e wh k).ents[x.p]? = _
  unfold jQ jR
  cases wh with
  | true => exact List.getElem?_set_self hp
  | false => exact h3
theorem zGU (j : Jz) {k : Int} (h1 : 1 <= k) (h2 : k + 1 <= j.rest) : burnF (burnF j k) 1 = burnF j (k + 1) := by
 have e1 : goneF j k = k := by unfold goneF; omega
 have e2 : goneF j (k + 1) = k + 1 := by unfold goneF; omega
 have b1 : burnF j k = { j with rest := j.rest - k, at_ := j.at_, left := if j.armed = true then max (j.left - k) 0 else j.left } := by
  unfold burnF
  rw [e1, if_neg (by omega), if_neg (by omega)]
 have e3 : goneF (burnF j k) 1 = 1 := by rw [b1]; unfold goneF; dsimp only; omega
 have b2 : burnF j (k + 1) = { j with rest := j.rest - (k + 1), at_ := if j.rest - (k + 1) = 0 then j.at_ + 1 else j.at_, left := if j.armed = true then max (j.left - (k + 1)) 0 else j.left } := by
  unfold burnF
  rw [e2, if_neg (by omega)]
 rw [b2]
 unfold burnF at e3 ⊢
 rw [e3, if_neg (by decide), e1, if_neg (by omega : ¬ k = 0)]
 dsimp only
 rw [if_neg (by omega : ¬ j.rest - k = 0)]
 have q1 : j.rest - k - 1 = j.rest - (k + 1) := by omega
 rw [q1]
 congr 1
 split <;> omega
theorem zNM {j : Jz} (h : j.rest ≠ 0) : overB j = false := by
 unfold overB
 rw [decide_eq_false h]
 rfl
theorem zNN {j : Jz} {k : Int} (h1 : 1 <= k) (h2 : k <= j.rest) : (burnF j k).rest = j.rest - k := by
 have e1 : goneF j k = k := by unfold goneF; omega
 unfold burnF
 rw [e1, if_neg (by omega)]
theorem zPT (j : Jz) (k : Int) : (burnF j k).regions = j.regions := by
 unfold burnF
 split <;> rfl
theorem zJ3 {x : Bj} (h : x.cov = false) (s : KS) (i : Nat) (e : Et) : resF s i x e = s := by
 unfold resF
 rw [h, if_neg (by decide)]
theorem zPU (e : Et) (wh : Bool) (k : Int) : (jR e wh k).ta = e.ta := by
 unfold jR
 cases wh <;> rfl
theorem zNO (e : Et) (wh : Bool) (k : Int) : jR (jR e wh k) wh 1 = jR e wh (k + 1) := by
 unfold jR
 cases wh with
 | true =>
  show ({ e with wi := e.wi + k + 1 } : Et) = { e with wi := e.wi + (k + 1) }
  rw [Int.add_assoc]
 | false => rfl
theorem zSA {wh : Bool} {i : Nat} {x : Bj} {e : Et} (hS : Sett c S wh i x e) {k : Int} (h1 : 1 <= k) (h2 : k + 1 <= x.j.rest) (h3 : wh = true -> k + 1 <= x.j.left) (hA : ∀ y ∈ S.ag, S.now + (k + 1) <= y.e.t) : tick1 c (goF S wh k) = goF S wh (k + 1) := by
 obtain ⟨g1, g2, g3⟩ := zBU hS.top
 have hp := (List.getElem?_eq_some_iff.1 g3).1
 have hr := zNN h1 (by omega : k <= x.j.rest)
 have ho : overB (burnF x.j k) = false := zNM (by omega)
 obtain ⟨jU, hG⟩ := zUE hS.top wh ho
 obtain ⟨G, hGG⟩ : ∃ G, G = goF S wh k := ⟨_, rfl⟩
 have jE : goF G wh 1 = goF S wh (k + 1) := by
  rw [<- hGG] at jU
  unfold goF
  rw [jU, hS.top]
  dsimp only
  rw [zGU x.j h1 h2, zNO]
  have hst : kT (vJ (jQ G x.p (jR e wh k) wh 1) i { x with j := burnF x.j k } 1) 1 = kT (vJ (jQ S x.p e wh (k + 1)) i x (k + 1)) (k + 1) := by
   rw [hGG, hG]
   cases wh with
   | true => simp [kT, vJ, jQ, jR, zGU x.j h1 h2, List.set_set, Int.add_assoc]
   | false => simp [kT, vJ, jQ, zGU x.j h1 h2, List.set_set, Int.add_assoc]
  have hfs : G.fs = S.fs := by
   rw [hGG, hG]
   unfold jQ
   cases wh <;> rfl
  rw [hst, hfs]
 have xE : G.ag = S.ag /\ G.now = S.now + k /\ G.q = S.q /\ G.lkh = S.lkh /\ G.lkd = S.lkd := by
  rw [hGG, hG]
  unfold jQ
  cases wh <;> exact ⟨rfl, rfl, rfl, rfl, rfl⟩
 obtain ⟨r1, r2, r3, r4, r5⟩ := xE
 rw [<- hGG] at jU
 rw [<- hGG]
 have jC6 : dueF c G = G := zJ2 fun y hy => by
  rw [r1] at hy
  have := hA y hy
  omega
 have hd : dispB c G (some (i, { x with j := burnF x.j k }, jR e wh k)) (topQ c G) = wh := by
  rw [zH2 r3]
  exact Eq.trans (zCS (s := S) (x := x) (e := e) (zPT _ _) rfl (zPU _ _ _) r4 r5) hS.d
 have hch : chF c G = (G, wh) := by
  unfold chF
  rw [jU, hd]
  cases hw : wh with
  | false =>
   rw [if_neg (by decide)]
   show (resF G i _ _, false) = _
   rw [zJ3 (by exact hS.cov)]
  | true =>
   have ha : (burnF x.j k).armed = true := (zHZ x.j k).2.1.trans (hS.ar hw)
   have hl : (burnF x.j k).left = max (x.j.left - k) 0 := by
    rw [zE2 h1 (by omega), if_pos (hS.ar hw)]
   have hwB : whB (burnF x.j k) = true := by
    have := h3 hw
    unfold whB
    rw [ho, decide_eq_true (by omega : (burnF x.j k).left ≠ 0)]
    rfl
   rw [if_pos rfl, if_pos (by exact hwB)]
   have jV : ({ ({ x with j := burnF x.j k } : Bj) with j := { burnF x.j k with armed := true } } : Bj) = { x with j := burnF x.j k } := by
    have : ({ burnF x.j k with armed := true } : Jz) = burnF x.j k := by
     rw [<- ha]
    rw [this]
   obtain ⟨t1, t2, t3⟩ := zBU jU
   show (resF { G with jobs := G.jobs.set i { ({ x with j := burnF x.j k } : Bj) with j := { burnF x.j k with armed := true } } } i _ _, true) = _
   rw [zJ3 (by exact hS.cov), jV, zDJ t2]
 have hq : quietZ G (G.now + 1) = 1 := zH3 fun y hy => by
  rw [r1] at hy
  have := hA y hy
  omega
 have hne : G.jobs.isEmpty = false := by
  have := (zBU jU).1
  cases hj : G.jobs with
  | nil => rw [hj] at this; cases this
  | cons _ _ => rfl
 have hnx : nextF c G = G := by
  unfold nextF
  rw [jU]
  dsimp only
  have : opOf (burnF x.j k) = none := by
   unfold opOf
   rw [if_neg (by omega)]
  rw [this]
 have hz : goZ G wh 1 = 1 := by
  unfold goZ
  rw [jU]
  show spanZ { x with j := burnF x.j k } wh 1 = 1
  unfold spanZ
  dsimp only
  rw [hr]
  cases hw : wh with
  | false => rw [if_neg (by decide)]; omega
  | true =>
   rw [if_pos rfl, zE2 h1 (by omega), if_pos (hS.ar hw)]
   have := h3 hw
   omega
 unfold tick1 stepF tickF
 rw [jC6, hch, hq]
 dsimp only
 rw [hne, if_neg (by decide), hnx, hz]
 exact jE
def runT (c : KC) : Nat -> KS -> KS
 | 0, s => s
 | n + 1, s => tick1 c (runT c n s)
theorem zJ4 (c : KC) (s : KS) (m : Nat) : ∀ n, runT c (m + n) s = runT c n (runT c m s)
 | 0 => rfl
 | n + 1 => by
  show tick1 c (runT c (m + n) s) = tick1 c (runT c n (runT c m s))
  rw [zJ4 c s m n]
theorem zLA (h : KOk c E s) (hc : CfgOk c) (ht : s.now < till) (h3 : till <= 3000) : stepF c till s = runT c ((stepF c till s).now - s.now).toNat s := by
 obtain ⟨hd, hf, hC, hq, hN⟩ := h.phases hc ht
 have jGu := h.phases hc (till := s.now + 1) (by omega)
 have hstep := h.step hc ht h3
 have hn : (chF c (dueF c s)).1.now = s.now := hC.now.trans hd.st.now
 obtain ⟨c1, c2⟩ := zJA hd.ki hc
 have h0 := h.i.n0
 have hq1 : quietZ (chF c (dueF c s)).1 (s.now + 1) = 1 := by
  have := jGu.q
  omega
 obtain ⟨S, hS⟩ : ∃ S, S = (chF c (dueF c s)).1 := ⟨_, rfl⟩
 obtain ⟨wh, hwh⟩ : ∃ wh, wh = (chF c (dueF c s)).2 := ⟨_, rfl⟩
 have jA7 : tick1 c s = tickF c S wh 1 := by
  unfold tick1 stepF
  rw [hq1, hS, hwh]
 have xF : stepF c till s = tickF c S wh (quietZ S till) := by
  unfold stepF
  rw [hS, hwh]
 rw [<- hS] at hC hq hN hn c1 c2
 rw [<- hwh] at hC hN c1 c2
 obtain ⟨q, hqq⟩ : ∃ q, q = quietZ S till := ⟨_, rfl⟩
 rw [<- hqq] at hq xF
 obtain ⟨q1, q2, q3⟩ := hq
 cases hj : S.jobs with
 | nil =>
  obtain ⟨d1, d2⟩ := c1 hj
  have hT : ∀ k, tickF c S wh k = kT S k := fun k => by
   unfold tickF
   rw [hj]
   rfl
  have key : ∀ k : Nat, (k : Int) + 1 <= q -> runT c (k + 1) s = kT S (k + 1) := by
   intro k
   induction k with
   | zero =>
    intro _
    show tick1 c s = kT S ((0 : Nat) + 1)
    rw [jA7, hT]
    rfl
   | succ k ih =>
    intro hk
    show tick1 c (runT c (k + 1) s) = _
    rw [ih (by omega)]
    have hnow : (kT S ((k : Int) + 1)).now = s.now + (k + 1) := by
     show S.now + _ = _
     rw [hn]
    have jC6 : dueF c (kT S ((k : Int) + 1)) = kT S ((k : Int) + 1) := zJ2 fun y hy => by
     have := q3 y hy
     rw [hnow]
     omega
    have jU : topU (kT S ((k : Int) + 1)) = none := zBF hj
    have hQ : topQ c (kT S ((k : Int) + 1)) = none := (zH2 (s := S) rfl).trans d1
    have hch : chF c (kT S ((k : Int) + 1)) = (kT S ((k : Int) + 1), false) := by
     unfold chF
     rw [jU, hQ]
     rfl
    have hqt : quietZ (kT S ((k : Int) + 1)) ((kT S ((k : Int) + 1)).now + 1) = 1 := zH3 fun y hy => by
     have := q3 y hy
     rw [hnow]
     omega
    unfold tick1 stepF tickF
    rw [jC6, hch, hqt]
    dsimp only
    rw [show (kT S ((k : Int) + 1)).jobs.isEmpty = true from by show S.jobs.isEmpty = true; rw [hj]; rfl, if_pos rfl]
    show kT (kT S ((k : Int) + 1)) 1 = kT S (((k + 1 : Nat) : Int) + 1)
    unfold kT
    dsimp only
    rw [Int.add_assoc]
    rfl
  rw [xF, hT]
  have hz : (kT S q).now - s.now = q := by
   show S.now + q - s.now = q
   omega
  rw [hz]
  obtain ⟨k, hk⟩ : ∃ k : Nat, q = (k : Int) + 1 := ⟨(q - 1).toNat, by omega⟩
  rw [hk, show ((k : Int) + 1).toNat = k + 1 by omega]
  exact (key k (by omega)).symm
 | cons y l =>
  have hne : S.jobs.isEmpty = false := by rw [hj]; rfl
  obtain ⟨i, x0, e0, hSt⟩ := c2 (by rw [hj]; exact List.cons_ne_nil _ _)
  have hi := (zBU hSt.top).1
  have hX := hN i hi
  obtain ⟨x, f, t, tv, e, g1, g2, g3, g4, g5⟩ := hX.ki.top (hX.jl.trans hi)
  obtain ⟨x', e', n1, n2, n3, n4, n5⟩ := zNL hSt
  rw [g1] at n1
  cases n1
  obtain ⟨s1, s2, s3, s4⟩ := zI7 g5.T q1
  obtain ⟨t1, t2, t3⟩ := g5.T
  have hT : ∀ k, tickF c S wh k = goF (nextF c S) wh (goZ (nextF c S) wh k) := fun k => by
   unfold tickF
   rw [hne, if_neg (by decide)]
  have hz1 : goZ (nextF c S) wh 1 = 1 := by
   unfold goZ
   rw [g1]
   obtain ⟨u1, u2, -⟩ := zI7 g5.T (Int.le_refl 1)
   show spanZ x wh 1 = 1
   omega
  have hzq : goZ (nextF c S) wh q = spanZ x wh q := by unfold goZ; rw [g1]
  have key : ∀ k : Nat, (k : Int) + 1 <= spanZ x wh q -> runT c (k + 1) s = goF (nextF c S) wh (k + 1) := by
   intro k
   induction k with
   | zero =>
    intro _
    show tick1 c s = goF (nextF c S) wh ((0 : Nat) + 1)
    rw [jA7, hT, hz1]
    rfl
   | succ k ih =>
    intro hk
    show tick1 c (runT c (k + 1) s) = _
    rw [ih (by omega)]
    have hk' : (k : Int) + 1 + 1 <= spanZ x wh q := by omega
    have := zSA (n5 (by omega)) (k := (k : Int) + 1) (by omega) (by omega) (fun hw => by have := s4 hw; omega) (fun z hz => by
     rw [hX.ag] at hz
     have := q3 z hz
     rw [hX.now, hn]
     omega)
    rw [this]
    rfl
  have hG := hX.ki.go (hX.jl.trans hi) (z := spanZ x wh q) s1 (fun x' hx' => by rw [g2] at hx'; cases hx'; exact ⟨s3, s4⟩) (by rw [hX.now, hn]; omega)
  rw [xF, hT, hzq]
  have hz : (goF (nextF c S) wh (spanZ x wh q)).now - s.now = spanZ x wh q := by
   rw [hG.now, hX.now, hn]
   omega
  rw [hz]
  obtain ⟨k, hk⟩ : ∃ k : Nat, spanZ x wh q = (k : Int) + 1 := ⟨(spanZ x wh q - 1).toNat, by omega⟩
  rw [hk, show ((k : Int) + 1).toNat = k + 1 by omega]
  exact (key k (by omega)).symm
theorem zFM (hc : CfgOk c) (h3 : till <= 3000) : ∀ (n : Nat) (S : KS), KOk c E S -> S.now <= till -> (till - S.now).toNat <= n -> runN (stepF c till) till n S = runT c (till - S.now).toNat S
 | 0, S, _, h1, hn => by
  rw [show (till - S.now).toNat = 0 by omega]
  rfl
 | n + 1, S, hS, h1, hn => by
  show (if S.now < till then runN (stepF c till) till n (stepF c till S) else S) = _
  by_cases hlt : S.now < till
  ·obtain ⟨k1, k2, k3⟩ := hS.step hc hlt h3
   rw [if_pos hlt, zFM hc h3 n _ k1 k3 (by omega)]
   have he := zLA hS hc hlt h3
   obtain ⟨b, hb⟩ : ∃ b, b = ((stepF c till S).now - S.now).toNat := ⟨_, rfl⟩
   obtain ⟨a, ha⟩ : ∃ a, a = (till - (stepF c till S).now).toNat := ⟨_, rfl⟩
   rw [<- ha, show (till - S.now).toNat = b + a by omega, zJ4]
   rw [<- hb] at he
   rw [<- he]
  ·rw [if_neg hlt, show (till - S.now).toNat = 0 by omega]
   rfl
theorem zH4 (h : KOk c E s) (hc : CfgOk c) (h1 : s.now <= till) (h3 : till <= 3000) : runF (stepF c till) till s = runT c (till - s.now).toNat s :=
 zFM hc h3 _ s h h1 (Nat.le_refl _)
end
end Krn
end Go.Proofs.YtlbdjiiddofkgaaGreatDoor
namespace Go.Proofs.YtlbdjiiddofkgaaGreatDoor
open Go Go.RowKit
def fewB (c : jD) (ts : List jA) : Bool := ts.all (fun t => decide (t.o.n <= 80)) && decide (c.mb.n <= 20 /\ c.cn.n <= 20 /\ c.ce.n <= 20 /\ c.ta.n <= 20 /\ c.li.n <= 20)
theorem zSB {ts : List jA} {n : Nat} (hn : ts.length = n) (h : ∀ (j : Nat) t, j < n -> ts[j]? = some t -> t.o.n <= 80) : ts.all (fun t => decide (t.o.n <= 80)) = true := by
 rw [List.all_eq_true]
 intro t ht
 obtain ⟨k, hk⟩ := List.getElem?_of_mem ht
 exact decide_eq_true (h k t (by have := (List.getElem?_eq_some_iff.1 hk).1; omega) hk)
theorem zSC {ts : List jA} {k : Nat} {t : jA} (hk : ts[k]? = some t) (h : 80 < t.o.n) : ts.all (fun t => decide (t.o.n <= 80)) = false := by
 rw [List.all_eq_false]
 exact ⟨t, List.mem_of_getElem? hk, by simp; omega⟩
set_option maxHeartbeats 2000000 in
theorem zSD {w : World} {c : jD} {ts : List jA} (hT : TasksAt w c.ta ts) (hs : c.ta.n <= 9223372036854775807) : Calls Tryz.prog 38 #[c.val] w (GrowB (fewB c ts) w) := by
 have hO := (Only.refl (fun _ => False) w).alloc (.cells c.cells.toArray 27)
 have hB := zAB w (.cells c.cells.toArray 27) rfl
 obtain ⟨W1, hW1⟩ : ∃ W1, W1 = w.alloc (.cells c.cells.toArray 27) := ⟨_, rfl⟩
 have e0 := zAA hB (i := 0) rfl
 have e1 := zAA hB (i := 1) rfl
 have e2 := zAA hB (i := 2) rfl
 have e3 := zAA hB (i := 3) rfl
 have e4 := zAA hB (i := 4) rfl
 have e5 := zAA hB (i := 5) rfl
 have e6 := zAA hB (i := 6) rfl
 have e7 := zAA hB (i := 7) rfl
 have e8 := zAA hB (i := 8) rfl
 have e9 := zAA hB (i := 9) rfl
 have kD := zAG hB
 rw [<- hW1] at e0 e1 e2 e3 e4 e5 e6 e7 e8 e9 hO kD
 obtain ⟨V, hV⟩ : ∃ V, V = fewB c ts := ⟨_, rfl⟩
 rw [<- hV]
 unfold fewB at hV
 obtain ⟨F, hF⟩ : ∃ F, F = ts.all (fun t => decide (t.o.n <= 80)) := ⟨_, rfl⟩
 rw [<- hF] at hV
 have hlen := hT.len
 rw [show c.val = .agg #[.int .i64 c.s, .int .i64 c.wy, .int .i64 c.h, .int .i64 c.mi, .slice c.mb.A c.mb.n c.mb.cap, .int .i64 c.g, .slice c.cn.A c.cn.n c.cn.cap, .slice c.ce.A c.ce.n c.ce.cap, .slice c.ta.A c.ta.n c.ta.cap, .slice c.li.A c.li.n c.li.cap] from rfl]
 unfold jD.cells at hW1
 have hT' := zh hT
 obtain ⟨s, wy, h, mi, ⟨mA, mn, mc⟩, g, ⟨cA, cn, cc⟩, ⟨eA, en, ec⟩, ⟨tA, tn, tc⟩, ⟨lA, ln, lc⟩⟩ := c
 simp only at *
 have wX := zh hW1
 have hO' := zh hO
 have hV' := zh hV
 have hF' := zh hF
 have hlen' := zh hlen
 clear hT hB hW1 hO hV hF hlen
 go_enter Tryz.func38, Tryz.ntmps38
 go_wp2
 rw [<- wX.out]
 go_loopw [8] (fun i wr => ∃ k : Nat, k <= tn /\ i = .int .i64 k /\ (∀ (j : Nat) t, j < k -> ts[j]? = some t -> t.o.n <= 80) /\ Only (fun _ => False) W1 wr) (fun i _ => tn - (intOf i).toNat)
 case atStart => exact ⟨0, Nat.zero_le _, rfl, (fun j _ hj => by omega), Only.refl _ W1⟩
 case round =>
  obtain ⟨k, hk, rfl, hall, hOk⟩ := hrel
  replace e0 := hOk.cell e0 id
  replace e1 := hOk.cell e1 id
  replace e2 := hOk.cell e2 id
  replace e3 := hOk.cell e3 id
  replace e4 := hOk.cell e4 id
  replace e5 := hOk.cell e5 id
  replace e6 := hOk.cell e6 id
  replace e7 := hOk.cell e7 id
  replace e8 := hOk.cell e8 id
  replace e9 := hOk.cell e9 id
  replace kD := Nat.lt_of_lt_of_le kD hOk.size
  have yO := zh hOk
  have hPk := zh (hO'.out.trans' hOk)
  have jT := zh hall
  clear hall hOk
  by_cases hkn : k < tn
  ·have vR : (k : Int) < (tn : Int) := by omega
   obtain ⟨t, ht⟩ : ∃ t, ts[k]? = some t := ⟨_, List.getElem?_eq_getElem (by have := hlen'.out; omega)⟩
   obtain ⟨bb, off, hA, hb, hC⟩ := hT'.out.at_ k t ht
   simp only at hA
   subst hA
   obtain ⟨c0, c1, c2, c3, c4, c5, c6⟩ := hC.new hPk.out
   have hb3 := Nat.lt_of_lt_of_le hb hPk.out.size
   have wP := zh (fun (h : 80 < t.o.n) => show V = false by rw [hV'.out, hF'.out, zSC ht h]; rfl)
   have hnx := zh (fun (h : t.o.n <= 80) => show ∀ (j : Nat) u, j < k + 1 -> ts[j]? = some u -> u.o.n <= 80 from fun j u hj hu => by
    by_cases hjk : j < k
    ·exact jT.out j u hjk hu
    ·obtain rfl : j = k := by omega
     rw [ht] at hu
     cases hu
     exact h)
   clear hC ht hb
   obtain ⟨P, th, pe, de, fr, fl, ⟨oA, on, oc⟩⟩ := t
   simp only at *
   by_cases h80 : 80 < on
   ·have hv := zh (wP.out h80)
    have jGv : (80 : Int) < (on : Int) := by omega
    clear wP hnx
    go_wp2
    go_ret
    exact zAO hv.out.symm (hPk.out.alloc _)
   ·have hnw := zh (hnx.out (by omega))
    have jGv : ¬ (80 : Int) < (on : Int) := by omega
    clear wP hnx
    go_wp2
    go_roundw
    case rel => exact ⟨k + 1, by omega, by go_num, hnw.out, yO.out.alloc _⟩
    case measure => simp [intOf]; omega
  ·obtain rfl : k = tn := by omega
   have hF2 := zh (show F = true by rw [hF'.out]; exact zSB hlen'.out jT.out)
   by_cases u0 : mn <= 20
   rotate_left
   ·have hv := zh (show V = false by rw [hV'.out, hF2.out, decide_eq_false (by omega)]; rfl)
    have uu : ¬ (mn : Int) <= 20 := by omega
    go_wp2
    go_ret
    exact zAO (by first | exact hv.out.symm | (rw [hv.out]; simp)) hPk.out
   ·have uu0 : (mn : Int) <= 20 := by omega
    by_cases u1 : cn <= 20
    rotate_left
    ·have hv := zh (show V = false by rw [hV'.out, hF2.out, decide_eq_false (by omega)]; rfl)
     have uu : ¬ (cn : Int) <= 20 := by omega
     go_wp2
     go_ret
     exact zAO (by first | exact hv.out.symm | (rw [hv.out]; simp)) hPk.out
    ·have uu1 : (cn : Int) <= 20 := by omega
     by_cases u2 : en <= 20
     rotate_left
     ·have hv := zh (show V = false by rw [hV'.out, hF2.out, decide_eq_false (by omega)]; rfl)
      have uu : ¬ (en : Int) <= 20 := by omega
      go_wp2
      go_ret
      exact zAO (by first | exact hv.out.symm | (rw [hv.out]; simp)) hPk.out
     ·have uu2 : (en : Int) <= 20 := by omega
      by_cases u3 : k <= 20
      rotate_left
      ·have hv := zh (show V = false by rw [hV'.out, hF2.out, decide_eq_false (by omega)]; rfl)
       have uu : ¬ (k : Int) <= 20 := by omega
       go_wp2
       go_ret
       exact zAO (by first | exact hv.out.symm | (rw [hv.out]; simp)) hPk.out
      ·have uu3 : (k : Int) <= 20 := by omega
       by_cases u4 : ln <= 20
       rotate_left
       ·have hv := zh (show V = false by rw [hV'.out, hF2.out, decide_eq_false (by omega)]; rfl)
        have uu : ¬ (ln : Int) <= 20 := by omega
        go_wp2
        go_ret
        exact zAO (by first | exact hv.out.symm | (rw [hv.out]; simp)) hPk.out
       ·have uu4 : (ln : Int) <= 20 := by omega
        have hv := zh (show V = true by rw [hV'.out, hF2.out, decide_eq_true (by omega)]; rfl)
        go_wp2
        go_ret
        exact zAO (by first | exact hv.out.symm | (rw [hv.out]; simp)) hPk.out
structure ConfIn (w : World) (c : jD) (d : jL) (pl : Tks) : Prop where
 mb : IntsAt w c.mb d.mb
 cn : IntsAt w c.cn d.cn
 ce : IntsAt w c.ce d.ce
 li : IntsAt w c.li d.li
 t : TasksAt w c.ta pl.ts
 p : ∀ (i : Nat) t l, pl[i]? = some (t, l) -> OpnRow w t.o.A l /\ l.length = t.o.n /\ t.o.n <= t.o.cap
 n : c.ta.n <= 9223372036854775807
theorem ConfIn.new {w w' : World} {c : jD} {d : jL} {pl : Tks} (h : ConfIn w c d pl) (ho : Only (fun _ => False) w w') : ConfIn w' c d pl :=
 ⟨h.mb.new ho, h.cn.new ho, h.ce.new ho, h.li.new ho, h.t.new ho, fun i t l ht => ⟨(h.p i t l ht).1.new ho, (h.p i t l ht).2⟩, h.n⟩
theorem ConfIn.small {w : World} {c : jD} {d : jL} {pl : Tks} (_ : ConfIn w c d pl) (hf : fewB c pl.ts = true) : c.mb.n <= 20 /\ c.cn.n <= 20 /\ c.ce.n <= 20 /\ c.ta.n <= 20 /\ c.li.n <= 20 /\ ∀ (i : Nat) t l, pl[i]? = some (t, l) -> t.o.n <= 80 := by
 unfold fewB at hf
 rw [Bool.and_eq_true, decide_eq_true_eq, List.all_eq_true] at hf
 obtain ⟨h1, h2, h3, h4, h5, h6⟩ := hf
 refine ⟨h2, h3, h4, h5, h6, fun i t l hi => ?_⟩
 have := h1 t (List.mem_of_getElem? (i := i) (by unfold Tks.ts; rw [List.getElem?_map, hi]; rfl))
 simpa using this
theorem ConfIn.conf {w : World} {c : jD} {d : jL} {pl : Tks} (h : ConfIn w c d pl) (hf : fewB c pl.ts = true) : ConfAt w c d pl := by
 obtain ⟨h1, h2, h3, h4, h5, h6⟩ := h.small hf
 exact ⟨⟨h.mb, h.cn, h.ce, h.li, by omega⟩, h.t, ⟨fun i t l ht => ⟨(h.p i t l ht).1, (h.p i t l ht).2.1, by have := h6 i t l ht; omega, (h.p i t l ht).2.2⟩⟩⟩
theorem ConfIn.few {w : World} {c : jD} {d : jL} {pl : Tks} (h : ConfIn w c d pl) : Calls Tryz.prog 38 #[.agg #[.int .i64 c.s, .int .i64 c.wy, .int .i64 c.h, .int .i64 c.mi, .slice c.mb.A c.mb.n c.mb.cap, .int .i64 c.g, .slice c.cn.A c.cn.n c.cn.cap, .slice c.ce.A c.ce.n c.ce.cap, .slice c.ta.A c.ta.n c.ta.cap, .slice c.li.A c.li.n c.li.cap]] w (GrowB (fewB c pl.ts) w) := zSD h.t h.n
