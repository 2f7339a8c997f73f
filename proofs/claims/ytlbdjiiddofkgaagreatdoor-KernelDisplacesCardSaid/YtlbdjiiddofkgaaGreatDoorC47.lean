import Derived.Test.YtlbdjiiddofkgaaGreatDoorC46
namespace Go.Proofs.YtlbdjiiddofkgaaGreatDoor
namespace Krn
open Go Go.RowKit Go.Maps Ring Band
section
variable {c : KC} {s : KS} {K : Int} {B E : Nat} {T : Jz -> Et -> Prop} {till : Int}
theorem KOk.mono (h : KOk c E s) {E' : Nat} (hE : E <= E') : KOk c E' s := ⟨h.i, h.a, h.l, by have := h.n; omega⟩
theorem KOk.event (h : KOk c E s) (x : Pil.Ev) : KOk c (E + 1) (evF c s x) := by
 unfold evF
 split
 ·rename_i h0
  unfold evE at h0
  by_cases h1 : x.k < 1 ∨ 5 < x.k
  ·rw [if_pos h1] at h0; cases h0
  ·rw [if_neg h1] at h0
   by_cases h2 : x.t < s.now ∨ 16777216 < x.t ∨ vY x = false
   ·rw [if_pos h2] at h0; cases h0
   ·rw [if_neg h2] at h0
    by_cases h3 : hasB c x = false
    ·rw [if_pos h3] at h0; cases h0
    ·rw [if_neg h3] at h0
     by_cases h4 : 256 <= s.ag.length
     ·rw [if_pos h4] at h0; cases h0
     ·have h3' : hasB c x = true := by cases hb : hasB c x with | true => rfl | false => exact absurd hb h3
      have h2' : vY x = true := by cases hb : vY x with | true => rfl | false => exact absurd (.inr (.inr hb)) h2
      unfold hasB at h3'
      rw [Bool.and_eq_true, decide_eq_true_eq, decide_eq_true_eq] at h3'
      obtain ⟨a1, a2⟩ := h3'
      have hin : EvIn c x := by
       refine ⟨by omega, a1, fun hk => ?_, fun hk => ?_, fun hk => ?_⟩
       ·rw [if_pos hk] at a2; omega
       ·rw [if_neg (by omega)] at a2; omega
       ·unfold vY at h2'
        rw [decide_eq_false (fun e => e hk : ¬ x.k ≠ 5), Bool.false_or] at h2'
        simp only [Bool.and_eq_true, decide_eq_true_eq] at h2'
        omega
      refine ⟨⟨h.i.n0, h.i.si, h.i.wi, h.i.ei, h.i.nx, h.i.el, h.i.tr⟩, fun y hy => ?_, ?_, ?_⟩
      ·rcases List.mem_append.1 hy with hy | hy
       ·exact h.a y hy
       ·rw [List.mem_singleton.1 hy]
        show s.now <= x.t /\ x.t <= 16777216 /\ EvIn c x
        exact ⟨by omega, by omega, hin⟩
      ·show (s.ag ++ [_]).length <= _
       rw [List.length_append, List.length_singleton]
       omega
      ·have := h.n
       show s.tn + 1 <= 256 * s.now.toNat + (E + 1)
       omega
 ·exact h.mono (Nat.le_succ E)
theorem KOk.first (c : KC) : KOk c 0 ks0 := by
 refine ⟨⟨by decide, ⟨rfl, (fun i x hx => by simp [ks0] at hx), (fun i x hx => by simp [ks0] at hx), (fun i j x y hx => by simp [ks0] at hx), trivial, by decide⟩, ⟨fun _ _ => rfl, (fun t y hy => by cases hy), fun _ => List.Pairwise.nil, (fun y hy => by cases hy), List.Pairwise.nil⟩,
  ⟨(fun p e he => by simp [ks0] at he), (fun p e he => by simp [ks0] at he), (fun p p' e e' he => by simp [ks0] at he)⟩, fun _ => Nat.zero_le _, Nat.zero_le _, Nat.zero_le _⟩, (fun x hx => by cases hx), by decide, by decide⟩
theorem Stays.top {s s' : KS} (h : Stays s s') (hk : KI c s K B T) : topU s' = topU s := by
 rcases Nat.eq_zero_or_pos s.jobs.length with h0 | h0
 ·have h1 := List.eq_nil_of_length_eq_zero h0
  rw [zBF h1, zBF (by rw [h.jobs]; exact h1)]
 ·obtain ⟨i, hi⟩ : ∃ i, s.jobs.length = i + 1 := ⟨s.jobs.length - 1, by omega⟩
  obtain ⟨x, f, t, tv, e, h1, h2, h3, h4, h5⟩ := hk.top hi
  rw [h1]
  unfold topU
  rw [h.jobs, hi, Nat.add_sub_cancel, h2]
  dsimp only
  obtain ⟨l, hl⟩ := h.ents
  rw [hl, List.getElem?_append_left (List.getElem?_eq_some_iff.1 h5.en).1, h5.en]
theorem Stays.lev {s s' : KS} (h : Stays s s') (t : jA) (x : Bj) : levF c s' t x = levF c s t x := by
 unfold levF
 rw [h.lkh, h.lkd]
structure Dis (c : KC) (s : KS) (r : Rc) (u : Nat) : Prop where
 e : ∃ (i : Nat) (x : Bj) (e : Et) (t : Nat) (tv : jA), topU s = some (i, x, e) /\ r.ta = e.ta /\ r.jb = e.jb /\ e.ta = (t : Int) /\ c.ts[t]? = some (tv, x.j.ops) /\ e.wi <= tv.fl /\ (0 < tv.fl -> 1 <= e.wi) /\ levF c s tv x < (c.P u : Int)
 u : u < c.ts.length
theorem zNF (h : KI c s K B Lo) : ∃ l, (chF c s).1.tr = s.tr ++ l /\ ∀ r ∈ l, r.k = 3 ∨ r.k = 5 ∨ (r.k = 4 /\ ∃ u, Dis c s r u /\ (∃ r' ∈ l, r'.k = 3) /\ ∀ r' ∈ l, r'.k = 3 -> r'.ta = (u : Int)) := by
 have res : ∀ (S : KS) i x e, S.tr = s.tr -> ∃ l, (resF S i x e).tr = s.tr ++ l /\ ∀ r ∈ l, r.k = 5 := by
  intro S i x e hS
  unfold resF
  split
  ·refine ⟨[_], by show S.tr ++ [_] = _; rw [hS], fun r hr => ?_⟩
   rw [List.mem_singleton.1 hr]
  ·exact ⟨[], by rw [hS, List.append_nil], fun r hr => by cases hr⟩
 unfold chF
 by_cases hd : dispB c s (topU s) (topQ c s) = true
 ·rw [if_pos hd]
  by_cases hw : whU (topU s) = true
  ·rw [if_pos hw]
   cases hU : topU s with
   | none => rw [hU] at hw; cases hw
   | some y =>
    obtain ⟨i, x, e⟩ := y
    obtain ⟨l, h1, h2⟩ := res { s with jobs := s.jobs.set i { x with j := { x.j with armed := true } } } i { x with j := { x.j with armed := true } } e rfl
    exact ⟨l, h1, fun r hr => .inr (.inl (h2 r hr))⟩
  ·rw [if_neg hw]
   obtain ⟨⟨t, x, p, l⟩, hQ⟩ : ∃ y, topQ c s = some y := by
    cases hq : topQ c s with
    | none => rw [hq] at hd; cases hd
    | some y => exact ⟨y, rfl⟩
   obtain ⟨tv, ops, hN⟩ := h.newOk hQ
   rw [hQ] at hd ⊢
   rw [hN.new]
   have hxt := (h.wi.qm t (x, p) (by rw [hN.q]; exact List.mem_cons_self)).1
   rcases Nat.eq_zero_or_pos s.jobs.length with h0 | h0
   ·rw [zBF (List.eq_nil_of_length_eq_zero h0)]
    exact ⟨[_], rfl, fun r hr => by rw [List.mem_singleton.1 hr]; exact .inl rfl⟩
   ·obtain ⟨i, hi⟩ : ∃ i, s.jobs.length = i + 1 := ⟨s.jobs.length - 1, by omega⟩
    obtain ⟨y, f, v, tvv, e, h1, h2, h3, h4, h5⟩ := h.top hi
    rw [h1] at hd hw ⊢
    have wF : levF c s tvv y < (c.P t : Int) := by
     have hd' : levU c s (some (i, y, e)) < (c.P t : Int) := of_decide_eq_true hd
     unfold levU at hd'
     dsimp only at hd'
     rw [h5.ta, Int.toNat_natCast, h5.ts] at hd'
     exact hd'
    have jGt : y.j.left = 0 := by
     have hw' : whB y.j = false := by cases hb : whB y.j with | true => exact absurd hb hw | false => rfl
     unfold whB at hw'
     rw [h5.T.1] at hw'
     simpa using hw'
    have hwi : e.wi <= tvv.fl /\ (0 < tvv.fl -> 1 <= e.wi) := by
     cases ha : y.j.armed with
     | true =>
      have := h5.ar ha
      have := h5.T.2 ha
      omega
     | false =>
      have := h5.un ha
      omega
    refine ⟨[⟨s.now, 4, e.ta, e.jb, 0, 0, 0⟩, ⟨s.now, 3, (jM x).ta, (jM x).jb, 0, 0, deep s.fs⟩], ?_, fun r hr => ?_⟩
    ·show (s.tr ++ [_]) ++ [_] = _
     rw [List.append_assoc]
     rfl
    ·rcases List.mem_cons.1 hr with rfl | hr
     ·refine .inr (.inr ⟨rfl, t, ⟨⟨i, y, e, v, tvv, h1, rfl, rfl, h5.ta, h5.ts, hwi.1, hwi.2, wF⟩, hN.lt⟩, ⟨_, List.mem_cons_of_mem _ (List.mem_singleton.2 rfl), rfl⟩, fun r' hr' hk => ?_⟩)
      rcases List.mem_cons.1 hr' with rfl | hr'
      ·cases hk
      ·rw [List.mem_singleton.1 hr']
       exact hxt
     ·rw [List.mem_singleton.1 hr]
      exact .inl rfl
 ·rw [if_neg hd]
  cases hU : topU s with
  | none => exact ⟨[], (List.append_nil _).symm, fun r hr => by cases hr⟩
  | some y =>
   obtain ⟨i, x, e⟩ := y
   obtain ⟨l, h1, h2⟩ := res s i x e rfl
   exact ⟨l, h1, fun r hr => .inr (.inl (h2 r hr))⟩
theorem zR6 (h : KI c s K B T) : ∃ l, (nextF c s).tr = s.tr ++ l /\ ∀ r ∈ l, r.k = 8 := by
 unfold nextF
 rcases Nat.eq_zero_or_pos s.jobs.length with h0 | h0
 ·rw [zBF (List.eq_nil_of_length_eq_zero h0)]
  exact ⟨[], (List.append_nil _).symm, fun r hr => by cases hr⟩
 ·obtain ⟨i, hi⟩ : ∃ i, s.jobs.length = i + 1 := ⟨s.jobs.length - 1, by omega⟩
  obtain ⟨x, f, t, tv, e, h1, h2, h3, h4, h5⟩ := h.top hi
  rw [h1]
  dsimp only
  cases ho : opOf x.j with
  | none => exact ⟨[], (List.append_nil _).symm, fun r hr => by cases hr⟩
  | some o =>
   obtain ⟨box, grp, cnt, lkh, lkd, cg, a, b, l, hB, -, -, hr⟩ := (zGP c o i h5.en).e
   dsimp only
   rw [hB]
   exact ⟨l, rfl, hr⟩
theorem zUD (s : KS) (wh : Bool) (z : Int) : ∃ l, (goF s wh z).tr = s.tr ++ l /\ ∀ r ∈ l, r.k = 6 ∨ r.k = 7 := by
 have hw : ∀ p e, (jQ s p e wh z).tr = s.tr := by intro p e; unfold jQ; split <;> rfl
 unfold goF
 split
 ·exact ⟨[], (List.append_nil _).symm, fun r hr => by cases hr⟩
 ·rename_i i x e _
  split
  ·generalize (burnF x.j z).fault = fa
   have key : ∀ S p fs n e', S.tr = s.tr -> ∃ l, (endF S p fs n e' fa).tr = s.tr ++ l /\ ∀ r ∈ l, r.k = 6 ∨ r.k = 7 := by
    intro S p fs n e' hS
    cases fa
    ·exact ⟨[⟨S.now, 6, e'.ta, e'.jb, 0, 0, 0⟩], by rw [<- hS]; rfl, fun r hr => by rw [List.mem_singleton.1 hr]; exact .inl rfl⟩
    ·exact ⟨[⟨S.now, 7, e'.ta, e'.jb, 0, 11, 0⟩], by rw [<- hS]; rfl, fun r hr => by rw [List.mem_singleton.1 hr]; exact .inr rfl⟩
   exact key _ _ _ _ _ (hw _ _)
  ·refine ⟨[], ?_, fun r hr => by cases hr⟩
   show (jQ s x.p e wh z).tr = _
   rw [hw, List.append_nil]
theorem zR7 (h : KOk c E s) (hc : CfgOk c) (ht : s.now < till) : ∃ l, (stepF c till s).tr = s.tr ++ l /\ ∀ r ∈ l, r.k = 4 -> ∃ u, Dis c s r u /\ (∃ r' ∈ l, r'.k = 3) /\ ∀ r' ∈ l, r'.k = 3 -> r'.ta = (u : Int) := by
 obtain ⟨hd, hf, hC, hq, hN⟩ := h.phases hc ht
 obtain ⟨l1, e1, a1⟩ := hd.st.tr
 obtain ⟨l2, e2, a2⟩ := zNF hd.ki
 have xE : ∃ l3, (stepF c till s).tr = (chF c (dueF c s)).1.tr ++ l3 /\ ∀ r ∈ l3, r.k ≠ 3 /\ r.k ≠ 4 := by
  unfold stepF tickF
  split
  ·exact ⟨[], (List.append_nil _).symm, fun r hr => by cases hr⟩
  ·obtain ⟨l3, e3, a3⟩ := zR6 hC.ki
   obtain ⟨l4, e4, a4⟩ := zUD (nextF c (chF c (dueF c s)).1) (chF c (dueF c s)).2 (goZ (nextF c (chF c (dueF c s)).1) (chF c (dueF c s)).2 (quietZ (chF c (dueF c s)).1 till))
   refine ⟨l3 ++ l4, by rw [e4, e3, List.append_assoc], fun r hr => ?_⟩
   rcases List.mem_append.1 hr with hr | hr
   ·have := a3 r hr; omega
   ·have := a4 r hr; omega
 obtain ⟨l3, e3, a3⟩ := xE
 refine ⟨l1 ++ (l2 ++ l3), by rw [e3, e2, e1]; simp [List.append_assoc], fun r hr hk => ?_⟩
 have h3 : ∀ r' ∈ l1 ++ (l2 ++ l3), r'.k = 3 -> r' ∈ l2 := by
  intro r' hr' hk'
  rcases List.mem_append.1 hr' with hr' | hr'
  ·have := a1 r' hr'; omega
  ·rcases List.mem_append.1 hr' with hr' | hr'
   ·exact hr'
   ·exact absurd hk' (a3 r' hr').1
 have hr2 : r ∈ l2 := by
  rcases List.mem_append.1 hr with hr | hr
  ·have := a1 r hr; omega
  ·rcases List.mem_append.1 hr with hr | hr
   ·exact hr
   ·exact absurd hk (a3 r hr).2
 rcases a2 r hr2 with h4 | h4 | ⟨-, u, ⟨⟨i, x, e, t, tv, g1, g2, g3, g4, g5, g6, g7, g8⟩, gu⟩, ⟨r', hr', hk'⟩, hall⟩
 ·omega
 ·omega
 ·rw [hd.st.top h.i] at g1
  rw [hd.st.lev] at g8
  exact ⟨u, ⟨⟨i, x, e, t, tv, g1, g2, g3, g4, g5, g6, g7, g8⟩, gu⟩, ⟨r', List.mem_append_right _ (List.mem_append_left _ hr'), hk'⟩, fun r' hr' hk' => hall r' (h3 r' hr' hk') hk'⟩
end
