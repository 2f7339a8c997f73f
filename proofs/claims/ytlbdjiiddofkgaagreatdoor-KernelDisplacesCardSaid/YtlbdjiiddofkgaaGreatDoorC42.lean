import Derived.Test.YtlbdjiiddofkgaaGreatDoorC41
namespace Go.Proofs.YtlbdjiiddofkgaaGreatDoor
namespace Krn
open Go Go.RowKit Go.Maps Ring Band
structure KI (c : KC) (s : KS) (K : Int) (B : Nat) (T : Jz -> Et -> Prop) : Prop where
 n0 : 0 <= s.now /\ s.now <= 3000
 si : SI c s.jobs s.fs s.pk s.ents T
 wi : WI c.ts.length s.q s.ps s.ents s.nx s.now
 ei : EI c.ts.length s.ents s.nx K
 nx : ∀ t, s.nx t <= B
 el : s.ents.length <= B
 tr : s.tr.length <= B
structure EvIn (c : KC) (x : Pil.Ev) : Prop where
 k : 1 <= x.k /\ x.k <= 5
 a : 0 <= x.a
 t : x.k = 1 ∨ x.k = 5 -> x.a.toNat < c.ts.length
 l : x.k = 2 ∨ x.k = 3 ∨ x.k = 4 -> x.a.toNat < c.li.length
 n : x.k = 5 -> (1 <= x.b /\ x.b <= 1048576) /\ 1 <= x.c /\ x.c <= 256
def AgI (c : KC) (lo : Int) (ag : List Pil.En) : Prop := ∀ x ∈ ag, lo <= x.e.t /\ x.e.t <= 16777216 /\ EvIn c x.e
structure Stays (s s' : KS) : Prop where
 jobs : s'.jobs = s.jobs
 fs : s'.fs = s.fs
 pk : s'.pk = s.pk
 lkh : s'.lkh = s.lkh
 lkd : s'.lkd = s.lkd
 cg : s'.cg = s.cg
 box : s'.box = s.box
 grp : s'.grp = s.grp
 cnt : s'.cnt = s.cnt
 now : s'.now = s.now
 ents : ∃ l, s'.ents = s.ents ++ l
 tr : ∃ l, s'.tr = s.tr ++ l /\ ∀ r ∈ l, r.k = 1 ∨ r.k = 2
theorem Stays.refl (s : KS) : Stays s s := ⟨rfl, rfl, rfl, rfl, rfl, rfl, rfl, rfl, rfl, rfl, ⟨[], by simp⟩, ⟨[], by simp⟩⟩
theorem Stays.trans {s s1 s2 : KS} (h : Stays s s1) (g : Stays s1 s2) : Stays s s2 := by
 obtain ⟨l1, e1⟩ := h.ents
 obtain ⟨l2, e2⟩ := g.ents
 obtain ⟨t1, f1, a1⟩ := h.tr
 obtain ⟨t2, f2, a2⟩ := g.tr
 refine ⟨g.jobs.trans h.jobs, g.fs.trans h.fs, g.pk.trans h.pk, g.lkh.trans h.lkh, g.lkd.trans h.lkd, g.cg.trans h.cg, g.box.trans h.box, g.grp.trans h.grp, g.cnt.trans h.cnt, g.now.trans h.now, ⟨l1 ++ l2, by rw [e2, e1, List.append_assoc]⟩, ⟨t1 ++ t2, by rw [f2, f1, List.append_assoc], fun r hr => ?_⟩⟩
 rcases List.mem_append.1 hr with hr | hr
 ·exact a1 r hr
 ·exact a2 r hr
section
variable {c : KC} {s : KS} {K : Int} {B : Nat} {T : Jz -> Et -> Prop}
theorem zAV (s : KS) (t : Nat) : Stays s (relF s t) /\ (relF s t).ag = s.ag /\ (relF s t).tn = s.tn := by
 unfold relF
 split
 ·exact ⟨⟨rfl, rfl, rfl, rfl, rfl, rfl, rfl, rfl, rfl, rfl, ⟨_, rfl⟩, ⟨[⟨s.now, 1, t, s.nx t, 0, 0, 0⟩], rfl, fun r hr => by rw [List.mem_singleton.1 hr]; exact .inl rfl⟩⟩, rfl, rfl⟩
 ·exact ⟨⟨rfl, rfl, rfl, rfl, rfl, rfl, rfl, rfl, rfl, rfl, ⟨[], by simp [vD, relN]⟩, ⟨[⟨s.now, 2, t, s.nx t, 0, 7, 0⟩], rfl, fun r hr => by rw [List.mem_singleton.1 hr]; exact .inr rfl⟩⟩, rfl, rfl⟩
theorem zTH {nx : Nat -> Nat} (h : ∀ t, nx t <= B) (t : Nat) : ∀ u, upd nx t (nx t + 1) u <= B + 1 := by
 intro u
 by_cases hu : u = t
 ·subst hu
  rw [upd_self]
  have := h u
  omega
 ·rw [upd_ne _ _ hu]
  have := h u
  omega
theorem KI.rel (h : KI c s K B T) (hK : 0 <= K) {t : Nat} (ht : t < c.ts.length) : KI c (relF s t) K (B + 1) T := by
 have h1 := h.el
 have h2 := h.tr
 unfold relF
 split
 ·refine ⟨h.n0, h.si.more fun p e he _ => ?_, h.wi.add ht rfl h.n0.1, h.ei.add ht hK, zTH h.nx t, ?_, ?_⟩
  ·show (s.ents ++ _)[p]? = some e
   rw [List.getElem?_append_left (List.getElem?_eq_some_iff.1 he).1]
   exact he
  ·show (s.ents ++ [_]).length <= _
   rw [List.length_append, List.length_singleton]
   omega
  ·show (s.tr ++ [_]).length <= _
   rw [List.length_append, List.length_singleton]
   omega
 ·refine ⟨h.n0, h.si, h.wi.lost t, h.ei.lost t, zTH h.nx t, Nat.le_succ_of_le h1, ?_⟩
  show (s.tr ++ [_]).length <= _
  rw [List.length_append, List.length_singleton]
  omega
theorem KI.more (h : KI c s K B T) {B' : Nat} (hB : B <= B') : KI c s K B' T := ⟨h.n0, h.si, h.wi, h.ei, fun t => Nat.le_trans (h.nx t) hB, Nat.le_trans h.el hB, Nat.le_trans h.tr hB⟩
theorem KI.high (h : KI c s K B T) {K' : Int} (hK : K <= K') : KI c s K' B T := ⟨h.n0, h.si, h.wi, h.ei.mono hK, h.nx, h.el, h.tr⟩
theorem KI.relOk (h : KI c s K B T) (hc : CfgOk c) (hB : B <= 1000000) {t : Nat} (ht : t < c.ts.length) : RelOk c s t := by
 have hn := hc.n
 have h0 := h.n0
 refine ⟨ht, Nat.le_trans (h.nx t) hB, fun y hy => ?_, fun y hy e => ?_, by omega, Nat.le_trans h.el (by omega), Nat.le_trans h.tr (by omega), by omega⟩
 ·obtain ⟨u, h1, h2, h3, h4, h5, h6⟩ := h.wi.pm y hy
  have := h.nx u
  unfold Jb.fine
  omega
 ·obtain ⟨u, h1, h2, h3, h4, h5, h6⟩ := h.wi.pm y hy
  rw [e] at h1 h4
  simp only [relJ] at h1 h4
  have : u = t := by omega
  subst this
  omega
theorem KI.evOk (h : KI c s K B T) (hc : CfgOk c) (hB : B <= 1000000) {x : Pil.Ev} (hx : EvIn c x) (ht : 0 <= x.t /\ x.t <= 16777216) : EvOk c s x := by
 refine ⟨hx.k, hx.a, fun hk => h.relOk hc hB (hx.t hk), fun hk => ?_, fun hk => ?_⟩
 ·obtain ⟨z, hz⟩ : ∃ z, c.li[x.a.toNat]? = some z := ⟨_, List.getElem?_eq_getElem (hx.l hk)⟩
  obtain ⟨t, rfl, h1⟩ := hc.li _ z hz
  exact ⟨t, hz, h.relOk hc hB h1⟩
 ·obtain ⟨h1, h2⟩ := hx.n hk
  omega
theorem KI.meet (h : KI c s K B T) (hK : 0 <= K) (hc : CfgOk c) {x : Pil.Ev} (hx : EvIn c x) : KI c (meetF c s x) K (B + 1) T := by
 have hli : x.k = 2 ∨ x.k = 3 ∨ x.k = 4 -> (c.li.getD x.a.toNat 0).toNat < c.ts.length := by
  intro hk
  obtain ⟨z, hz⟩ : ∃ z, c.li[x.a.toNat]? = some z := ⟨_, List.getElem?_eq_getElem (hx.l hk)⟩
  obtain ⟨t, rfl, h1⟩ := hc.li _ z hz
  rw [List.getD_eq_getElem?_getD, hz]
  simpa using h1
 unfold meetF
 split
 ·rename_i hk
  exact h.rel hK (hx.t (.inl hk))
 ·split
  ·rename_i hk
   unfold raiseF
   split
   ·exact ⟨h.n0, h.si, h.wi, h.ei, fun t => Nat.le_succ_of_le (h.nx t), Nat.le_succ_of_le h.el, Nat.le_succ_of_le h.tr⟩
   ·exact KI.rel (s := { s with lnl := upd s.lnl x.a.toNat false }) ⟨h.n0, h.si, h.wi, h.ei, h.nx, h.el, h.tr⟩ hK (hli (.inl hk))
  ·split
   ·exact ⟨h.n0, h.si, h.wi, h.ei, fun t => Nat.le_succ_of_le (h.nx t), Nat.le_succ_of_le h.el, Nat.le_succ_of_le h.tr⟩
   ·split
    ·rename_i hk
     unfold openF
     split
     ·exact KI.rel (s := { s with lnm := upd s.lnm x.a.toNat false, lnl := upd s.lnl x.a.toNat false }) ⟨h.n0, h.si, h.wi, h.ei, h.nx, h.el, h.tr⟩ hK (hli (.inr (.inr hk)))
     ·exact ⟨h.n0, h.si, h.wi, h.ei, fun t => Nat.le_succ_of_le (h.nx t), Nat.le_succ_of_le h.el, Nat.le_succ_of_le h.tr⟩
    ·split
     ·rename_i hk
      have hr := h.rel hK (hx.t (.inr hk))
      unfold timeF
      split
      ·exact ⟨hr.n0, hr.si, hr.wi, hr.ei, hr.nx, hr.el, hr.tr⟩
      ·exact hr
     ·exact h.more (Nat.le_succ B)
theorem zK5 (c : KC) (s : KS) (x : Pil.Ev) : Stays s (meetF c s x) := by
 unfold meetF
 split
 ·exact (zAV s _).1
 ·split
  ·unfold raiseF
   split
   ·exact ⟨rfl, rfl, rfl, rfl, rfl, rfl, rfl, rfl, rfl, rfl, ⟨[], by simp⟩, ⟨[], by simp⟩⟩
   ·exact Stays.trans (s1 := { s with lnl := upd s.lnl x.a.toNat false }) ⟨rfl, rfl, rfl, rfl, rfl, rfl, rfl, rfl, rfl, rfl, ⟨[], by simp⟩, ⟨[], by simp⟩⟩ (zAV _ _).1
  ·split
   ·exact ⟨rfl, rfl, rfl, rfl, rfl, rfl, rfl, rfl, rfl, rfl, ⟨[], by simp [maskF]⟩, ⟨[], by simp [maskF]⟩⟩
   ·split
    ·unfold openF
     split
     ·exact Stays.trans (s1 := { s with lnm := upd s.lnm x.a.toNat false, lnl := upd s.lnl x.a.toNat false }) ⟨rfl, rfl, rfl, rfl, rfl, rfl, rfl, rfl, rfl, rfl, ⟨[], by simp⟩, ⟨[], by simp⟩⟩ (zAV _ _).1
     ·exact ⟨rfl, rfl, rfl, rfl, rfl, rfl, rfl, rfl, rfl, rfl, ⟨[], by simp⟩, ⟨[], by simp⟩⟩
    ·split
     ·unfold timeF
      split
      ·exact (zAV s _).1.trans ⟨rfl, rfl, rfl, rfl, rfl, rfl, rfl, rfl, rfl, rfl, ⟨[], by simp [putF]⟩, ⟨[], by simp [putF]⟩⟩
      ·exact (zAV s _).1
     ·exact Stays.refl s
theorem zRZ {lo : Int} {x : Pil.Ev} (hx : EvIn c x) (hA : AgI c lo s.ag) (ht : x.t <= 3000) (hlo : lo <= x.t + 1) : AgI c lo (meetF c s x).ag /\ (meetF c s x).ag.length <= s.ag.length + 1 /\ (meetF c s x).tn <= s.tn + 1 := by
 have same : ∀ s1 : KS, s1.ag = s.ag -> s1.tn = s.tn -> AgI c lo s1.ag /\ s1.ag.length <= s.ag.length + 1 /\ s1.tn <= s.tn + 1 := fun s1 h1 h2 => by
  rw [h1, h2]
  exact ⟨hA, Nat.le_succ _, Nat.le_succ _⟩
 unfold meetF
 split
 ·exact same _ (zAV s _).2.1 (zAV s _).2.2
 ·split
  ·unfold raiseF
   split
   ·exact same _ rfl rfl
   ·exact same _ (zAV _ _).2.1 (zAV _ _).2.2
  ·split
   ·exact same _ rfl rfl
   ·split
    ·unfold openF
     split
     ·exact same _ (zAV _ _).2.1 (zAV _ _).2.2
     ·exact same _ rfl rfl
    ·split
     ·rename_i hk
      unfold timeF
      split
      ·rename_i hc
       obtain ⟨hb, hcc⟩ := hx.n hk
       refine ⟨fun y hy => ?_, ?_, ?_⟩
       ·have hy' : y ∈ (relF s x.a.toNat).ag ++ [⟨{ x with t := x.t + x.b, c := x.c - 1 }, (relF s x.a.toNat).tn⟩] := hy
        rw [(zAV s _).2.1] at hy'
        rcases List.mem_append.1 hy' with hy' | hy'
        ·exact hA y hy'
        ·rw [List.mem_singleton.1 hy']
         refine ⟨by show lo <= x.t + x.b; omega, by show x.t + x.b <= _; omega, hx.k, hx.a, hx.t, hx.l, fun _ => ⟨hb, ?_⟩⟩
         show 1 <= x.c - 1 /\ x.c - 1 <= 256
         omega
       ·show ((relF s x.a.toNat).ag ++ [_]).length <= _
        rw [(zAV s _).2.1, List.length_append, List.length_singleton]
        exact Nat.le_refl _
       ·show (relF s x.a.toNat).tn + 1 <= _
        rw [(zAV s _).2.2]
        exact Nat.le_refl _
      ·exact same _ (zAV s _).2.1 (zAV s _).2.2
     ·exact same _ rfl rfl
structure Due (c : KC) (s s' : KS) (K : Int) (B i : Nat) : Prop where
 ki : KI c s' K (B + i) Lo
 st : Stays s s'
 ag : AgI c (s.now + 1) s'.ag
 al : s'.ag.length + (tak s.now s.ag).1.length <= s.ag.length + i
 tn : s'.tn <= s.tn + i
theorem zI5 (a : Int) (rs : List Pil.En) : (tak a rs).1.length + (tak a rs).2.length = rs.length := (zDW a rs.length rs).len.symm
theorem zI6 (h : KI c s K B Lo) (hK : 0 <= K) (hc : CfgOk c) (hA : AgI c s.now s.ag) : ∀ i, i <= (tak s.now s.ag).1.length -> Due c s (meets c s (tak s.now s.ag).2 (tak s.now s.ag).1 i) K B i
 | 0, _ => by
  refine ⟨⟨h.n0, h.si, h.wi, h.ei, h.nx, h.el, h.tr⟩, ⟨rfl, rfl, rfl, rfl, rfl, rfl, rfl, rfl, rfl, rfl, ⟨[], by simp [meets]⟩, ⟨[], by simp [meets]⟩⟩, fun x hx => ?_, ?_, Nat.le_refl _⟩
  ·have hx' : x ∈ (tak s.now s.ag).2 := hx
   obtain ⟨h1, h2, h3⟩ := hA x (zJZ _ _ _ x hx')
   have := zEZ s.now s.ag.length s.ag (Nat.le_refl _) x hx'
   exact ⟨by omega, h2, h3⟩
  ·show (tak s.now s.ag).2.length + _ <= _
   have := zI5 s.now s.ag
   omega
 | i + 1, hi => by
  have hd := zI6 h hK hc hA i (by omega)
  obtain ⟨x, hx⟩ : ∃ x, (tak s.now s.ag).1[i]? = some x := ⟨_, List.getElem?_eq_getElem (by omega)⟩
  rw [zFL c s _ hx]
  obtain ⟨y, h1, rfl, h2⟩ := zGN s.now s.ag.length s.ag x (List.mem_of_getElem? hx)
  obtain ⟨h3, h4, h5⟩ := hA y h1
  have h0 := h.n0
  obtain ⟨g1, g2, g3⟩ := zRZ (s := meets c s (tak s.now s.ag).2 (tak s.now s.ag).1 i) h5 hd.ag (by omega) (by omega)
  have := hd.al
  have := hd.tn
  exact ⟨hd.ki.meet hK hc h5, hd.st.trans (zK5 c _ _), g1, by omega, by omega⟩
theorem zPI (hA : AgI c s.now s.ag) {i : Nat} {x : Pil.Ev} (hx : (tak s.now s.ag).1[i]? = some x) : EvIn c x /\ x.t = s.now := by
 obtain ⟨y, h1, rfl, h2⟩ := zGN s.now s.ag.length s.ag x (List.mem_of_getElem? hx)
 obtain ⟨h3, h4, h5⟩ := hA y h1
 exact ⟨h5, by omega⟩
end
section
variable {c : KC} {s : KS} {K : Int} {B : Nat} {T : Jz -> Et -> Prop}
theorem zBF (h : s.jobs = []) : topU s = none := by unfold topU; rw [h]; rfl
theorem KI.top (h : KI c s K B T) {i : Nat} (hl : s.jobs.length = i + 1) : ∃ x f t tv e, topU s = some (i, x, e) /\ s.jobs[i]? = some x /\ s.fs[i]? = some f /\ i <= c.P t /\ JOk c s.ents T x f t tv e := by
 obtain ⟨x, hx⟩ : ∃ x, s.jobs[i]? = some x := ⟨_, List.getElem?_eq_getElem (by omega)⟩
 obtain ⟨f, t, tv, e, h1, h2, h3⟩ := h.si.top i x hx hl.symm
 refine ⟨x, f, t, tv, e, ?_, hx, h1, h2, h3⟩
 unfold topU
 rw [hl, Nat.add_sub_cancel, hx]
 dsimp only
 rw [h3.en]
theorem KI.res (h : KI c s K B T) {i : Nat} {x : Bj} (e : Et) (hl : s.jobs.length = i + 1) (hx : s.jobs[i]? = some x) : KI c (resF s i x e) K (B + 1) T := by
 unfold resF
 split
 ·refine ⟨h.n0, h.si.turn (x' := { x with cov := false }) hl.symm hx rfl (fun _ _ => rfl) ?_, h.wi, h.ei, fun t => Nat.le_succ_of_le (h.nx t), Nat.le_succ_of_le h.el, ?_⟩
  ·obtain ⟨f, t, tv, e, h1, h2, h3⟩ := h.si.top i x hx hl.symm
   exact ⟨f, t, tv, e, h1, h2, h3.ts, h3.en, h3.ta, h3.ok, h3.st, h3.ed, h3.wi, h3.un, h3.ar, h3.who, h3.size, h3.base, h3.T⟩
  ·have := h.tr
   show (s.tr ++ [_]).length <= _
   rw [List.length_append, List.length_singleton]
   omega
 ·exact h.more (Nat.le_succ B)
def T2 : Bool -> Jz -> Et -> Prop
 | true, j, _ => overB j = false /\ j.armed = true /\ 0 < j.left
 | false, j, e => Lo j e
theorem KI.held (h : KI c s K B Lo) {i : Nat} {x : Bj} {e : Et} (hl : s.jobs.length = i + 1) (hx : s.jobs[i]? = some x) (hw : whB x.j = true) : KI c (heldS s (some (i, x, e))) K (B + 1) (T2 true) := by
 have h1 : KI c { s with jobs := s.jobs.set i { x with j := { x.j with armed := true } } } K B (T2 true) := by
  refine ⟨h.n0, h.si.turn (x' := { x with j := { x.j with armed := true } }) hl.symm hx rfl (fun _ _ => rfl) ?_, h.wi, h.ei, h.nx, h.el, h.tr⟩
  obtain ⟨f, t, tv, e, h1, h2, h3⟩ := h.si.top i x hx hl.symm
  unfold whB at hw
  rw [Bool.and_eq_true, Bool.not_eq_true', decide_eq_true_eq] at hw
  have hk := h3.ok
  refine ⟨f, t, tv, e, h1, h2, h3.ts, h3.en, h3.ta, ⟨hk.r, hk.l, hk.n, hk.u⟩, h3.st, h3.ed, h3.wi, (fun q => by cases q), fun _ => ?_, h3.who, h3.size, h3.base, hw.1, rfl, ?_⟩
  ·show e.wi + x.j.left <= tv.fl
   cases ha : x.j.armed with
   | true => exact h3.ar ha
   | false =>
    have := h3.un ha
    omega
  ·show 0 < x.j.left
   have := hk.l.1
   have := hw.2
   omega
 exact h1.res e (by show (s.jobs.set i _).length = _; rw [List.length_set]; exact hl) (List.getElem?_set_self (by omega))
theorem KI.cov (h : KI c s K B Lo) {i : Nat} {x : Bj} {e : Et} (hl : s.jobs.length = i + 1) (hx : s.jobs[i]? = some x) (he : s.ents[x.p]? = some e) (hst : 0 <= e.st) : KI c (kB s (some (i, x, e))) (K + 1) (B + 1) Lo := by
 have hp := (List.getElem?_eq_some_iff.1 he).1
 refine ⟨h.n0, h.si.turn (x' := { x with cov := true }) (ents' := s.ents.set x.p { e with di := e.di + 1 }) hl.symm hx rfl (fun p hpp => List.getElem?_set_ne (fun e => hpp e.symm)) ?_, h.wi.turn he hst, h.ei.turn he (by omega) rfl rfl ?_, fun t => Nat.le_succ_of_le (h.nx t), ?_, ?_⟩
 ·obtain ⟨f, t, tv, e', h1, h2, h3⟩ := h.si.top i x hx hl.symm
  obtain rfl : e = e' := by have := h3.en; rw [he] at this; exact Option.some.inj this
  exact ⟨f, t, tv, { e with di := e.di + 1 }, h1, h2, h3.ts, List.getElem?_set_self hp, h3.ta, h3.ok, h3.st, h3.ed, h3.wi, h3.un, h3.ar, h3.who, h3.size, h3.base, h3.T⟩
 ·have := h.ei.eb _ _ he
  unfold EB at *
  dsimp only
  omega
 ·show (s.ents.set _ _).length <= _
  rw [List.length_set]
  exact Nat.le_succ_of_le h.el
 ·have := h.tr
  show (s.tr ++ [_]).length <= _
  rw [List.length_append, List.length_singleton]
  omega
theorem zGO (base : Int) (z : Nat -> Int) (p : Nat -> Bool) : ∀ n, base <= Lck.lev base z p n
 | 0 => Int.le_refl _
 | n + 1 => by
  have := zGO base z p n
  unfold Lck.lev
  split <;> omega
theorem KI.above (h : KI c s K B T) (hc : CfgOk c) {t p : Nat} {x : Jb} {l : List (Jb × Nat)} (ht : t < c.ts.length) (hd : dispB c s (topU s) (some (t, x, p, l)) = true) : s.jobs.length <= c.P t := by
 have hd' : levU c s (topU s) < (c.P t : Int) := of_decide_eq_true hd
 rcases Nat.eq_zero_or_pos s.jobs.length with h0 | h0
 ·omega
 ·obtain ⟨i, hi⟩ : ∃ i, s.jobs.length = i + 1 := ⟨s.jobs.length - 1, by omega⟩
  obtain ⟨y, f, u, tv, e, h1, h2, h3, h4, h5⟩ := h.top hi
  rw [h1] at hd'
  have hP := (hc.t u tv _ h5.ts).p
  obtain ⟨tv2, ops2, hts⟩ : ∃ tv2 ops2, c.ts[t]? = some (tv2, ops2) := ⟨_, _, List.getElem?_eq_getElem ht⟩
  have hP2 := (hc.t t tv2 _ hts).p.2.1
  have wF : levF c s tv y < (c.P t : Int) := by
   unfold levU at hd'
   dsimp only at hd'
   rw [h5.ta, Int.toNat_natCast, h5.ts] at hd'
   exact hd'
  unfold levF at wF
  split at wF
  ·omega
  ·have := zGO tv.th c.ceil (Lck.mine s.lkh s.lkd y.p) c.nl
   omega
theorem KI.start (h : KI c s K B Lo) (hc : CfgOk c) {t p : Nat} {x : Jb} {l : List (Jb × Nat)} {tv : jA} {ops : List Opn} (hq : s.q t = (x, p) :: l) (hts : c.ts[t]? = some (tv, ops)) (hP : s.jobs.length <= c.P t) : KI c (startF c s t p x l tv ops (jM x)) K (B + 1) Lo := by
 obtain ⟨x1, x2, x3⟩ := h.wi.qm t (x, p) (by rw [hq]; exact List.mem_cons_self)
 have x3' : s.ents[p]? = some (jM x) := x3
 have hp := (List.getElem?_eq_some_iff.1 x3').1
 have hk := hc.t t tv ops hts
 have hfl := hk.fl
 refine ⟨h.n0, h.si.push (x := ⟨newJ tv ops, p, false⟩) (f := ⟨(p : Int), deep s.fs, tv.fr⟩) (fun r hr => List.getElem?_set_ne (fun e => hr e.symm)) (fun y hy e => ?_) ?_ rfl hk.fr ?_, h.wi.start hq _, h.ei.turn (e := jM x) x3' (Int.le_refl _) rfl rfl (h.ei.eb p (jM x) x3'), fun t => Nat.le_succ_of_le (h.nx t), ?_, ?_⟩
 ·obtain ⟨i, hi⟩ := List.mem_iff_getElem?.1 hy
  obtain ⟨f, t, tv, e0, h1, h2, h3⟩ := h.si.any hi
  have h4 := h3.en
  have h5 := h3.st
  rw [show y.p = p from e, x3'] at h4
  rw [<- Option.some.inj h4] at h5
  simp [jM] at h5
 ·refine ⟨⟨(p : Int), deep s.fs, tv.fr⟩, t, tv, _, ?_, hP, hts, List.getElem?_set_self hp, x1, zMD hk.ol.2 (by omega), h.n0.1, rfl, Int.le_refl _, fun _ => ⟨?_, rfl⟩, (fun q => by cases q), rfl, rfl, rfl, ?_, (fun q => by cases q)⟩
  ·rw [<- h.si.len, List.getElem?_append_right (Nat.le_refl _), Nat.sub_self]
   rfl
  ·show max tv.fl 0 = tv.fl
   omega
  ·show (decide ((0 : Int) = 0) && (false || decide (ops.length <= 0))) = false
   have := hk.ol.1
   rw [decide_eq_false (by omega : ¬ ops.length <= 0)]
   rfl
 ·show s.pk <= max s.pk (deep s.fs + tv.fr) /\ deep s.fs + tv.fr <= max s.pk (deep s.fs + tv.fr)
  omega
 ·show (s.ents.set _ _).length <= _
  rw [List.length_set]
  exact Nat.le_succ_of_le h.el
 ·have := h.tr
  show (s.tr ++ [_]).length <= _
  rw [List.length_append, List.length_singleton]
  omega
end
section
variable {c : KC} {s : KS} {K : Int} {B : Nat} {T : Jz -> Et -> Prop}
theorem zHY (s : KS) (i : Nat) (x : Bj) (e : Et) : (resF s i x e).now = s.now /\ (resF s i x e).ag = s.ag /\ (resF s i x e).tn = s.tn /\ (resF s i x e).jobs.length = s.jobs.length := by
 unfold resF
 split
 ·exact ⟨rfl, rfl, rfl, List.length_set⟩
 ·exact ⟨rfl, rfl, rfl, rfl⟩
structure NewOk (c : KC) (s : KS) (t p : Nat) (x : Jb) (l : List (Jb × Nat)) (tv : jA) (ops : List Opn) : Prop where
 lt : t < c.ts.length
 q : s.q t = (x, p) :: l
 top : IsTop c.ts.length c.P (qj s) t
 ts : c.ts[t]? = some (tv, ops)
 e : (kB s (topU s)).ents[p]? = some (jM x)
 new : newS c s (topU s) (some (t, x, p, l)) = startF c (kB s (topU s)) t p x l tv ops (jM x)
theorem KI.newOk (h : KI c s K B Lo) {t p : Nat} {x : Jb} {l : List (Jb × Nat)} (hf : topQ c s = some (t, x, p, l)) : ∃ tv ops, NewOk c s t p x l tv ops := by
 have hF := zI4 c s
 rw [hf] at hF
 obtain ⟨hT, hq⟩ := hF
 obtain ⟨⟨tv, ops⟩, hts⟩ : ∃ y, c.ts[t]? = some y := ⟨_, List.getElem?_eq_getElem hT.1⟩
 obtain ⟨x1, x2, x3⟩ := h.wi.qm t (x, p) (by rw [hq]; exact List.mem_cons_self)
 have x3' : s.ents[p]? = some (jM x) := x3
 have he : (kB s (topU s)).ents[p]? = some (jM x) := by
  rcases Nat.eq_zero_or_pos s.jobs.length with h0 | h0
  ·rw [zBF (List.eq_nil_of_length_eq_zero h0)]
   exact x3'
  ·obtain ⟨i, hi⟩ : ∃ i, s.jobs.length = i + 1 := ⟨s.jobs.length - 1, by omega⟩
   obtain ⟨y, f, u, tv, e, h1, h2, h3, h4, h5⟩ := h.top hi
   rw [h1]
   show (s.ents.set y.p _)[p]? = _
   rw [List.getElem?_set_ne]
   ·exact x3'
   ·intro e1
    have h6 := h5.en
    have h7 := h5.st
    rw [e1, x3'] at h6
    rw [<- Option.some.inj h6] at h7
    simp [jM] at h7
 refine ⟨tv, ops, hT.1, hq, hT, hts, he, ?_⟩
 unfold newS
 dsimp only
 rw [hts, he]
theorem KI.new (h : KI c s K B Lo) (hc : CfgOk c) {t p : Nat} {x : Jb} {l : List (Jb × Nat)} (hf : topQ c s = some (t, x, p, l)) (hd : dispB c s (topU s) (some (t, x, p, l)) = true) : KI c (newS c s (topU s) (some (t, x, p, l))) (K + 1) (B + 2) Lo := by
 obtain ⟨tv, ops, hN⟩ := h.newOk hf
 rw [hN.new]
 have hP := h.above hc hN.lt hd
 rcases Nat.eq_zero_or_pos s.jobs.length with h0 | h0
 ·rw [zBF (List.eq_nil_of_length_eq_zero h0)]
  exact ((h.start hc hN.q hN.ts hP).high (by omega)).more (Nat.le_succ _)
 ·obtain ⟨i, hi⟩ : ∃ i, s.jobs.length = i + 1 := ⟨s.jobs.length - 1, by omega⟩
  obtain ⟨y, f, u, tv2, e, h1, h2, h3, h4, h5⟩ := h.top hi
  rw [h1]
  refine (h.cov hi h2 h5.en h5.st).start hc hN.q hN.ts ?_
  show (s.jobs.set i _).length <= _
  rw [List.length_set]
  exact hP
structure Chosen (c : KC) (s s' : KS) (wh : Bool) (K : Int) (B : Nat) : Prop where
 ki : KI c s' (K + 1) (B + 2) (T2 wh)
 now : s'.now = s.now
 ag : s'.ag = s.ag
 tn : s'.tn = s.tn
 wh : wh = true -> s'.jobs ≠ []
theorem KI.choose (h : KI c s K B Lo) (hc : CfgOk c) : Chosen c s (chF c s).1 (chF c s).2 K B := by
 unfold chF
 by_cases hd : dispB c s (topU s) (topQ c s) = true
 ·rw [if_pos hd]
  by_cases hw : whU (topU s) = true
  ·rw [if_pos hw]
   rcases Nat.eq_zero_or_pos s.jobs.length with h0 | h0
   ·rw [zBF (List.eq_nil_of_length_eq_zero h0)] at hw
    cases hw
   ·obtain ⟨i, hi⟩ : ∃ i, s.jobs.length = i + 1 := ⟨s.jobs.length - 1, by omega⟩
    obtain ⟨y, f, u, tv2, e, h1, h2, h3, h4, h5⟩ := h.top hi
    rw [h1] at hw ⊢
    have hk := h.held (e := e) hi h2 hw
    obtain ⟨q1, q2, q3, q4⟩ := zHY { s with jobs := s.jobs.set i { y with j := { y.j with armed := true } } } i { y with j := { y.j with armed := true } } e
    refine ⟨(hk.high (by omega)).more (Nat.le_succ _), q1, q2, q3, fun _ e0 => ?_⟩
    have := q4
    rw [show (resF _ _ _ _).jobs = [] from e0] at this
    have h9 : (s.jobs.set i { y with j := { y.j with armed := true } }).length = 0 := this.symm
    rw [List.length_set] at h9
    omega
  ·rw [if_neg hw]
   obtain ⟨⟨t, x, p, l⟩, hf⟩ : ∃ y, topQ c s = some y := by
    cases hq : topQ c s with
    | none => rw [hq] at hd; cases hd
    | some y => exact ⟨y, rfl⟩
   rw [hf] at hd ⊢
   obtain ⟨tv, ops, hN⟩ := h.newOk hf
   have hk := h.new hc hf hd
   rw [hN.new] at hk ⊢
   refine ⟨hk, ?_, ?_, ?_, (fun e => by cases e)⟩
   ·show (kB s (topU s)).now = _
    exact (zEX _).2.2.2.1
   ·show (kB s (topU s)).ag = _
    cases topU s <;> rfl
   ·show (kB s (topU s)).tn = _
    cases topU s <;> rfl
 ·rw [if_neg hd]
  rcases Nat.eq_zero_or_pos s.jobs.length with h0 | h0
  ·rw [zBF (List.eq_nil_of_length_eq_zero h0)]
   exact ⟨(h.high (by omega)).more (by omega), rfl, rfl, rfl, (fun e => by cases e)⟩
  ·obtain ⟨i, hi⟩ : ∃ i, s.jobs.length = i + 1 := ⟨s.jobs.length - 1, by omega⟩
   obtain ⟨y, f, u, tv2, e, h1, h2, h3, h4, h5⟩ := h.top hi
   rw [h1]
   obtain ⟨q1, q2, q3, q4⟩ := zHY s i y e
   exact ⟨((h.res e hi h2).high (by omega)).more (Nat.le_succ _), q1, q2, q3, (fun e => by cases e)⟩
end
