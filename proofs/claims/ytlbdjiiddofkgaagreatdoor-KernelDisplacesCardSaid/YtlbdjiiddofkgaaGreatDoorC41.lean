import Derived.Test.YtlbdjiiddofkgaaGreatDoorC40
namespace Go.Proofs.YtlbdjiiddofkgaaGreatDoor
namespace Krn
open Go Go.RowKit Go.Maps Ring Band
def runN (F : KS -> KS) (till : Int) : Nat -> KS -> KS
 | 0, s => s
 | n + 1, s => if s.now < till then runN F till n (F s) else s
structure StepOk (c : KC) (Inv : KS -> Prop) (F : KS -> KS) (till : Int) : Prop where
 inv : ∀ S, Inv S -> S.now < till -> Inv (F S)
 now : ∀ S, Inv S -> S.now < till -> S.now < (F S).now /\ (F S).now <= till
 run : ∀ S, Inv S -> S.now < till -> ∀ W m1, KAt W c m1 S -> Calls Tryz.prog 54 #[ptr m1.k, .int .i64 till] W (ResV (KGo W c m1 (F S)))
theorem zHW {c : KC} {Inv : KS -> Prop} {F : KS -> KS} {till : Int} (h : StepOk c Inv F till) : ∀ (n d : Nat) (S : KS), Inv S -> S.now <= till -> (till - S.now).toNat <= n -> runN F till (n + d) S = runN F till n S
 | 0, d, S, _, hle, hn => by
  cases d with
  | zero => rfl
  | succ d =>
   show (if S.now < till then _ else S) = S
   rw [if_neg (by omega)]
 | n + 1, d, S, hi, hle, hn => by
  rw [Nat.add_right_comm]
  show (if S.now < till then runN F till (n + d) (F S) else S) = if S.now < till then runN F till n (F S) else S
  by_cases hlt : S.now < till
  ·have hb := h.now S hi hlt
   rw [if_pos hlt, if_pos hlt, zHW h n d (F S) (h.inv S hi hlt) hb.2 (by omega)]
  ·rw [if_neg hlt, if_neg hlt]
def runF (F : KS -> KS) (till : Int) (s : KS) : KS := runN F till (till - s.now).toNat s
theorem zM3 {c : KC} {Inv : KS -> Prop} {F : KS -> KS} {till : Int} (h : StepOk c Inv F till) {S : KS} (hi : Inv S) (hlt : S.now < till) : runF F till S = runF F till (F S) := by
 have hb := h.now S hi hlt
 unfold runF
 obtain ⟨n, hn⟩ : ∃ n, (till - S.now).toNat = n + 1 := ⟨(till - S.now).toNat - 1, by omega⟩
 rw [hn]
 show (if S.now < till then runN F till n (F S) else S) = _
 rw [if_pos hlt]
 obtain ⟨d, hd⟩ : ∃ d, n = (till - (F S).now).toNat + d := ⟨n - (till - (F S).now).toNat, by omega⟩
 rw [hd]
 exact zHW h _ d (F S) (h.inv S hi hlt) hb.2 (Nat.le_refl _)
theorem zM4 {F : KS -> KS} {till : Int} {S : KS} (h : ¬ S.now < till) : runF F till S = S := by
 unfold runF
 rw [show (till - S.now).toNat = 0 by omega]
 rfl
section
variable {w w' : World} {c : KC} {m : KM} {s : KS}
theorem run_any (h : KAt w c m s) {Inv : KS -> Prop} {F : KS -> KS} {till : Int} (hF : StepOk c Inv F till) (hi : Inv s) (h1 : s.now <= till) (h2 : till <= 16777216) :
  Calls Tryz.prog 16 #[ptr m.k, .int .i64 till] w (fun e w' => e = .returned (.int .i64 0) /\ KGo w c m (runF F till s) w') := by
 have c19 := zAA h.root (i := 19) rfl
 have hlt := (h.lt 0 m.k rfl).1
 have hk := zh (fun q => show KGo w c m s (w.drewN q) from ⟨m, h.ktNew ((Only.refl _ w).drewN q), rfl⟩)
 have hF' := zh hF
 have hi' := zh hi
 unfold ptr
 clear h hF hi
 go_enter Tryz.func16, Tryz.ntmps16
 go_wp2
 go_loopg [] (till - s.now).toNat (fun n wr => ∃ S, KGo w c m S wr /\ Inv S /\ S.now <= till /\ n = (till - S.now).toNat /\ runF F till S = runF F till s)
 case atStart => exact ⟨s, by first | exact hk.out 0 | exact hk.out _, hi'.out, h1, rfl, rfl⟩
 case round =>
  obtain ⟨S, ⟨m1, k1, e1⟩, hiS, hle, hn, hrun⟩ := hrel
  have jGr := zAA k1.1.root (i := 19) rfl
  have kM := (k1.1.lt 0 m1.k rfl).1
  rw [e1] at jGr kM
  by_cases hgo : S.now < till
  ·have hst := zh (show Calls Tryz.prog 54 #[ptr m.k, .int .i64 till] wr (ResV (KGo w c m (F S))) from by
    have := hF'.out.run S hiS hgo wr m1 k1.1
    rw [e1] at this
    refine this.mono ?_
    rintro e w9 ⟨he, m9, k9, e9⟩
    exact ⟨he, m9, k1.trans k9, e9.trans e1⟩)
   have hb := zh (And.intro (hF'.out.inv S hiS hgo) (And.intro (hF'.out.now S hiS hgo) ((zM3 hF'.out hiS hgo).symm.trans hrun)))
   have hn' := zh hn
   unfold ptr at hst
   clear k1 e1 hiS hn hrun c19
   go_wp2_with fail
   refine hst.out.mono ?_
   rintro e w9 ⟨rfl, hk9⟩
   have zO := zh hk9
   clear hk9
   go_wp2
   go_roundg (till - (F S).now).toNat
   case measure => have := hb.out; have := hn'.out; omega
   case rel => exact ⟨F S, zO.out, hb.out.1, hb.out.2.1.2, rfl, hb.out.2.2⟩
  ·have jE := zh (show KGo w c m (runF F till s) wr from by
    rw [<- hrun, zM4 hgo]
    exact ⟨m1, k1, e1⟩)
   have jI2 : till <= S.now := by omega
   clear k1 e1 hiS hn hrun c19
   go_wp2
   go_ret
   exact ⟨rfl, jE.out⟩
end
def zS : List Pil.En -> Option (Nat × Pil.En)
 | [] => none
 | x :: r => match zS r with
  | none => some (0, x)
  | some (k, y) => if x.e.t <= y.e.t then some (0, x) else some (k + 1, y)
theorem zHX : ∀ {l : List Pil.En}, zS l = none -> l = []
 | [], _ => rfl
 | x :: r, h => by
  unfold zS at h
  split at h
  ·cases h
  ·split at h <;> cases h
theorem zBX : ∀ {l : List Pil.En} {k : Nat} {x : Pil.En}, zS l = some (k, x) -> Pil.IsFirst l k x
 | [], _, _, h => by cases h
 | y :: r, k, x, h => by
  unfold zS at h
  split at h
  ·rename_i hn
   cases h
   rw [zHX hn]
   refine ⟨rfl, fun j z hz => ?_⟩
   cases j with
   | zero =>
    obtain rfl : y = z := by simpa using hz
    exact ⟨Int.le_refl _, fun h => absurd h (Nat.lt_irrefl _)⟩
   | succ j => simp at hz
  ·rename_i k' z hz
   obtain ⟨h1, h2⟩ := zBX hz
   split at h
   ·rename_i hle
    cases h
    refine ⟨rfl, fun j z' hz' => ?_⟩
    cases j with
    | zero =>
     obtain rfl : y = z' := by simpa using hz'
     exact ⟨Int.le_refl _, fun h => absurd h (Nat.lt_irrefl _)⟩
    | succ j =>
     have := (h2 j z' (by simpa using hz')).1
     exact ⟨by omega, fun h => absurd h (Nat.not_lt_zero _)⟩
   ·rename_i hle
    cases h
    refine ⟨by simpa using h1, fun j z' hz' => ?_⟩
    cases j with
    | zero =>
     obtain rfl : y = z' := by simpa using hz'
     exact ⟨by omega, fun _ => by omega⟩
    | succ j =>
     have := h2 j z' (by simpa using hz')
     exact ⟨this.1, fun h => this.2 (by omega)⟩
def takN (a : Int) : Nat -> List Pil.En -> List Pil.Ev × List Pil.En
 | 0, rs => ([], rs)
 | n + 1, rs => match zS rs with
  | none => ([], rs)
  | some (k, x) => if x.e.t <= a then (x.e :: (takN a n (rs.eraseIdx k)).1, (takN a n (rs.eraseIdx k)).2) else ([], rs)
theorem zDW (a : Int) : ∀ (n : Nat) (rs : List Pil.En), Pil.Takes a rs (takN a n rs).1 (takN a n rs).2
 | 0, rs => rfl
 | n + 1, rs => by
  unfold takN
  split
  ·exact rfl
  ·rename_i k x h
   split
   ·rename_i hle
    exact ⟨k, x, zBX h, rfl, hle, zDW a n _⟩
   ·exact rfl
theorem zEZ (a : Int) : ∀ (n : Nat) (rs : List Pil.En), rs.length <= n -> ∀ x ∈ (takN a n rs).2, a < x.e.t
 | 0, rs, hn, x, hx => by
  have : rs = [] := List.eq_nil_of_length_eq_zero (by omega)
  subst this
  cases hx
 | n + 1, rs, hn, x, hx => by
  unfold takN at hx
  split at hx
  ·rename_i h
   rw [zHX h] at hx
   cases hx
  ·rename_i k y h
   have hf := zBX h
   have hk := (List.getElem?_eq_some_iff.1 hf.1).1
   split at hx
   ·rename_i hle
    refine zEZ a n _ ?_ x hx
    rw [List.length_eraseIdx, if_pos hk]
    omega
   ·rename_i hle
    obtain ⟨j, hj⟩ := List.mem_iff_getElem?.1 hx
    have := (hf.2 j x hj).1
    omega
theorem zJZ (a : Int) : ∀ (n : Nat) (rs : List Pil.En), ∀ x ∈ (takN a n rs).2, x ∈ rs
 | 0, rs, x, hx => hx
 | n + 1, rs, x, hx => by
  unfold takN at hx
  split at hx
  ·exact hx
  ·split at hx
   ·exact List.mem_of_mem_eraseIdx (zJZ a n _ x hx)
   ·exact hx
theorem zGN (a : Int) : ∀ (n : Nat) (rs : List Pil.En), ∀ e ∈ (takN a n rs).1, ∃ x ∈ rs, x.e = e /\ e.t <= a
 | 0, rs, e, he => by cases he
 | n + 1, rs, e, he => by
  unfold takN at he
  split at he
  ·cases he
  ·rename_i k y h
   split at he
   ·rename_i hle
    rcases List.mem_cons.1 he with rfl | he
    ·exact ⟨y, List.mem_of_getElem? (zBX h).1, rfl, hle⟩
    ·obtain ⟨x, h1, h2⟩ := zGN a n _ e he
     exact ⟨x, List.mem_of_mem_eraseIdx h1, h2⟩
   ·cases he
def tak (a : Int) (rs : List Pil.En) : List Pil.Ev × List Pil.En := takN a rs.length rs
def fstQ (P : Nat -> Nat) (q : Nat -> List (Jb × Nat)) : Nat -> Option Nat
 | 0 => none
 | n + 1 => if (q n).isEmpty = true then fstQ P q n else match fstQ P q n with
  | none => some n
  | some t => if P t <= P n then some n else some t
theorem zE0 {P : Nat -> Nat} {q : Nat -> List (Jb × Nat)} : ∀ {n : Nat}, fstQ P q n = none -> ∀ i, i < n -> q i = []
 | 0, _, i, hi => absurd hi (Nat.not_lt_zero _)
 | n + 1, h, i, hi => by
  unfold fstQ at h
  split at h
  ·rename_i h0
   rcases Nat.lt_or_ge i n with hl | hl
   ·exact zE0 h i hl
   ·have : i = n := by omega
    subst this
    exact List.isEmpty_iff.1 h0
  ·split at h
   ·cases h
   ·split at h <;> cases h
theorem zE1 {P : Nat -> Nat} {q : Nat -> List (Jb × Nat)} : ∀ {n t : Nat}, fstQ P q n = some t -> t < n /\ q t ≠ [] /\ ∀ i, i < n -> q i ≠ [] -> P i <= P t
 | 0, t, h => by cases h
 | n + 1, t, h => by
  unfold fstQ at h
  split at h
  ·rename_i h0
   obtain ⟨h1, h2, h3⟩ := zE1 h
   refine ⟨by omega, h2, fun i hi hq => ?_⟩
   rcases Nat.lt_or_ge i n with hl | hl
   ·exact h3 i hl hq
   ·have : i = n := by omega
    subst this
    exact absurd (List.isEmpty_iff.1 h0) hq
  ·rename_i h0
   have h0' : q n ≠ [] := fun e => h0 (List.isEmpty_iff.2 e)
   split at h
   ·rename_i hn
    cases h
    refine ⟨Nat.lt_succ_self _, h0', fun i hi hq => ?_⟩
    rcases Nat.lt_or_ge i n with hl | hl
    ·exact absurd (zE0 hn i hl) hq
    ·have : i = n := by omega
     subst this
     exact Nat.le_refl _
   ·rename_i t' hs
    obtain ⟨h1, h2, h3⟩ := zE1 hs
    split at h
    ·rename_i hle
     cases h
     refine ⟨Nat.lt_succ_self _, h0', fun i hi hq => ?_⟩
     rcases Nat.lt_or_ge i n with hl | hl
     ·exact Nat.le_trans (h3 i hl hq) hle
     ·have : i = n := by omega
      subst this
      exact Nat.le_refl _
    ·rename_i hle
     cases h
     refine ⟨by omega, h2, fun i hi hq => ?_⟩
     rcases Nat.lt_or_ge i n with hl | hl
     ·exact h3 i hl hq
     ·have : i = n := by omega
      subst this
      omega
def topU (s : KS) : Option (Nat × Bj × Et) := match s.jobs[s.jobs.length - 1]? with
 | none => none
 | some x => match s.ents[x.p]? with
  | none => none
  | some e => some (s.jobs.length - 1, x, e)
def topQ (c : KC) (s : KS) : Option (Nat × Jb × Nat × List (Jb × Nat)) := match fstQ c.P s.q c.ts.length with
 | none => none
 | some t => match s.q t with
  | [] => none
  | (x, p) :: l => some (t, x, p, l)
theorem zI4 (c : KC) (s : KS) : FOk c s (topQ c s) := by
 unfold topQ
 split
 ·rename_i h
  exact fun i hi => zE0 h i hi
 ·rename_i t h
  obtain ⟨h1, h2, h3⟩ := zE1 h
  split
  ·rename_i h0
   exact absurd h0 h2
  ·rename_i x p l h0
   refine ⟨⟨h1, fun e => h2 (List.map_eq_nil_iff.1 e), fun i hi hq => h3 i hi fun e => hq (by unfold qj; rw [e]; rfl)⟩, h0⟩
def heldS (s : KS) : Option (Nat × Bj × Et) -> KS
 | none => s
 | some (i, x, e) => resF { s with jobs := s.jobs.set i { x with j := { x.j with armed := true } } } i { x with j := { x.j with armed := true } } e
def newS (c : KC) (s : KS) (u : Option (Nat × Bj × Et)) : Option (Nat × Jb × Nat × List (Jb × Nat)) -> KS
 | none => s
 | some (t, x, p, l) => match c.ts[t]?, (kB s u).ents[p]? with
  | some (tv, ops), some e => startF c (kB s u) t p x l tv ops e
  | _, _ => s
def chF (c : KC) (s : KS) : KS × Bool :=
 if dispB c s (topU s) (topQ c s) = true then (if whU (topU s) = true then (heldS s (topU s), true) else (newS c s (topU s) (topQ c s), false)) else (resU s (topU s), false)
def dueF (c : KC) (s : KS) : KS := meets c s (tak s.now s.ag).2 (tak s.now s.ag).1 (tak s.now s.ag).1.length
def nextF (c : KC) (s : KS) : KS := match topU s with
 | none => s
 | some (i, x, e) => match opOf x.j with
  | none => s
  | some o => begC c s o i x e
def goF (s : KS) (wh : Bool) (z : Int) : KS := match topU s with
 | none => s
 | some (i, x, e) =>
  if overB (burnF x.j z) = true then endF (kT (vJ (jQ s x.p e wh z) i x z) z) x.p s.fs.dropLast i (jR e wh z) (burnF x.j z).fault
  else kT (vJ (jQ s x.p e wh z) i x z) z
def goZ (s : KS) (wh : Bool) (q : Int) : Int := match topU s with
 | none => q
 | some (_, x, _) => spanZ x wh q
def tickF (c : KC) (s : KS) (wh : Bool) (q : Int) : KS := if s.jobs.isEmpty = true then kT s q else goF (nextF c s) wh (goZ (nextF c s) wh q)
def stepF (c : KC) (till : Int) (s : KS) : KS := tickF c (chF c (dueF c s)).1 (chF c (dueF c s)).2 (quietZ (chF c (dueF c s)).1 till)
structure TOk (c : KC) (t : Nat) (tv : jA) (ops : List Opn) : Prop where
 fr : 0 <= tv.fr /\ tv.fr <= 4096
 fl : 0 <= tv.fl /\ tv.fl <= 1048576
 ol : 0 < ops.length /\ ops.length <= 1000
 oi : ∀ o ∈ ops, ∃ q, OpIn c o q /\ (o.k = 2 -> q <= 255)
 p : tv.p = (c.P t : Int) /\ c.P t < 64 /\ (c.P t : Int) <= tv.th
structure CfgOk (c : KC) : Prop where
 n : c.ts.length <= 64
 nl : c.nl <= 4096
 li : ∀ (i : Nat) z, c.li[i]? = some z -> ∃ t : Nat, z = (t : Int) /\ t < c.ts.length
 inj : ∀ t u, t < c.ts.length -> u < c.ts.length -> c.P t = c.P u -> t = u
 t : ∀ (t : Nat) tv ops, c.ts[t]? = some (tv, ops) -> TOk c t tv ops
def Lo (j : Jz) (e : Et) : Prop := overB j = false /\ (j.armed = true -> 1 <= e.wi)
structure JOk (c : KC) (ents : List Et) (T : Jz -> Et -> Prop) (x : Bj) (f : Fr) (t : Nat) (tv : jA) (e : Et) : Prop where
 ts : c.ts[t]? = some (tv, x.j.ops)
 en : ents[x.p]? = some e
 ta : e.ta = (t : Int)
 ok : x.j.Ok
 st : 0 <= e.st
 ed : e.en = -1
 wi : 0 <= e.wi
 un : x.j.armed = false -> x.j.left = tv.fl /\ e.wi = 0
 ar : x.j.armed = true -> e.wi + x.j.left <= tv.fl
 who : f.who = (x.p : Int)
 size : f.size = tv.fr
 base : e.ba = f.base
 T : T x.j e
def JAt (c : KC) (ents : List Et) (fs : List Fr) (T : Jz -> Et -> Prop) (i : Nat) (x : Bj) : Prop := ∃ f t tv e, fs[i]? = some f /\ i <= c.P t /\ JOk c ents T x f t tv e
structure SI (c : KC) (jobs : List Bj) (fs : List Fr) (pk : Int) (ents : List Et) (T : Jz -> Et -> Prop) : Prop where
 len : fs.length = jobs.length
 low : ∀ i x, jobs[i]? = some x -> i + 1 < jobs.length -> JAt c ents fs Lo i x
 top : ∀ i x, jobs[i]? = some x -> i + 1 = jobs.length -> JAt c ents fs T i x
 nod : ∀ (i j : Nat) x y, jobs[i]? = some x -> jobs[j]? = some y -> x.p = y.p -> i = j
 std : vO 0 fs
 pk : deep fs <= pk
section
variable {c : KC} {jobs : List Bj} {fs : List Fr} {pk : Int} {ents : List Et} {T T' : Jz -> Et -> Prop}
theorem JOk.mono {x : Bj} {f : Fr} {t : Nat} {tv : jA} {e : Et} (h : JOk c ents T x f t tv e) (hT : T x.j e -> T' x.j e) : JOk c ents T' x f t tv e :=
 ⟨h.ts, h.en, h.ta, h.ok, h.st, h.ed, h.wi, h.un, h.ar, h.who, h.size, h.base, hT h.T⟩
theorem JOk.ents' {ents' : List Et} {x : Bj} {f : Fr} {t : Nat} {tv : jA} {e : Et} (h : JOk c ents T x f t tv e) (hE : ents'[x.p]? = some e) : JOk c ents' T x f t tv e :=
 ⟨h.ts, hE, h.ta, h.ok, h.st, h.ed, h.wi, h.un, h.ar, h.who, h.size, h.base, h.T⟩
theorem JAt.ents' {ents' : List Et} {i : Nat} {x : Bj} (h : JAt c ents fs T i x) (hE : ∀ e, ents[x.p]? = some e -> ents'[x.p]? = some e) : JAt c ents' fs T i x := by
 obtain ⟨f, t, tv, e, h1, h2, h3⟩ := h
 exact ⟨f, t, tv, e, h1, h2, h3.ents' (hE e h3.en)⟩
theorem SI.any (h : SI c jobs fs pk ents T) {i : Nat} {x : Bj} (hx : jobs[i]? = some x) : JAt c ents fs (fun _ _ => True) i x := by
 have hi := (List.getElem?_eq_some_iff.1 hx).1
 rcases Nat.lt_or_ge (i + 1) jobs.length with hl | hl
 ·obtain ⟨f, t, tv, e, h1, h2, h3⟩ := h.low i x hx hl
  exact ⟨f, t, tv, e, h1, h2, h3.mono fun _ => trivial⟩
 ·obtain ⟨f, t, tv, e, h1, h2, h3⟩ := h.top i x hx (by omega)
  exact ⟨f, t, tv, e, h1, h2, h3.mono fun _ => trivial⟩
theorem SI.few (h : SI c jobs fs pk ents T) (hc : CfgOk c) : jobs.length <= 64 := by
 rcases Nat.eq_zero_or_pos jobs.length with h0 | h0
 ·omega
 ·obtain ⟨x, hx⟩ : ∃ x, jobs[jobs.length - 1]? = some x := ⟨_, List.getElem?_eq_getElem (by omega)⟩
  obtain ⟨f, t, tv, e, h1, h2, h3⟩ := h.any hx
  have := (hc.t t tv _ h3.ts).p.2.1
  omega
theorem SI.more {ents' : List Et} (h : SI c jobs fs pk ents T) (hE : ∀ (p : Nat) e, ents[p]? = some e -> 0 <= e.st -> ents'[p]? = some e) : SI c jobs fs pk ents' T := by
 refine ⟨h.len, fun i x hx hi => ?_, fun i x hx hi => ?_, h.nod, h.std, h.pk⟩
 ·obtain ⟨f, t, tv, e, h1, h2, h3⟩ := h.low i x hx hi
  exact ⟨f, t, tv, e, h1, h2, h3.ents' (hE _ e h3.en h3.st)⟩
 ·obtain ⟨f, t, tv, e, h1, h2, h3⟩ := h.top i x hx hi
  exact ⟨f, t, tv, e, h1, h2, h3.ents' (hE _ e h3.en h3.st)⟩
theorem SI.turn (h : SI c jobs fs pk ents T) {i : Nat} {x x' : Bj} {ents' : List Et} (hi : i + 1 = jobs.length) (hx : jobs[i]? = some x) (hp : x'.p = x.p) (hE : ∀ p, p ≠ x.p -> ents'[p]? = ents[p]?) (hJ : JAt c ents' fs T' i x') : SI c (jobs.set i x') fs pk ents' T' := by
 have hil : i < jobs.length := by omega
 refine ⟨by rw [List.length_set]; exact h.len, fun j y hy hj => ?_, fun j y hy hj => ?_, fun j k y z hy hz e => ?_, h.std, h.pk⟩
 ·rw [List.length_set] at hj
  have hne : i ≠ j := by omega
  rw [List.getElem?_set_ne hne] at hy
  refine (h.low j y hy hj).ents' fun e he => ?_
  rw [hE _ fun e => hne (h.nod j i y x hy hx e).symm]
  exact he
 ·rw [List.length_set] at hj
  obtain rfl : i = j := by omega
  rw [List.getElem?_set_self hil] at hy
  cases hy
  exact hJ
 ·have hP : ∀ (j : Nat) y, (jobs.set i x')[j]? = some y -> ∃ y', jobs[j]? = some y' /\ y'.p = y.p := by
   intro j y hy
   by_cases hij : i = j
   ·subst hij
    rw [List.getElem?_set_self hil] at hy
    cases hy
    exact ⟨x, hx, hp.symm⟩
   ·rw [List.getElem?_set_ne hij] at hy
    exact ⟨y, hy, rfl⟩
  obtain ⟨y', h1, h2⟩ := hP j y hy
  obtain ⟨z', h3, h4⟩ := hP k z hz
  exact h.nod j k y' z' h1 h3 (by rw [h2, h4, e])
theorem SI.push (h : SI c jobs fs pk ents Lo) {x : Bj} {f : Fr} {ents' : List Et} {pk' : Int} (hE : ∀ p, p ≠ x.p -> ents'[p]? = ents[p]?) (hp : ∀ y ∈ jobs, y.p ≠ x.p) (hJ : JAt c ents' (fs ++ [f]) T jobs.length x)
  (hb : f.base = deep fs) (hs : 0 <= f.size /\ f.size <= 4096) (hpk : pk <= pk' /\ deep fs + f.size <= pk') : SI c (jobs ++ [x]) (fs ++ [f]) pk' ents' T := by
 have old : ∀ (j : Nat) y, jobs[j]? = some y -> JAt c ents fs Lo j y -> JAt c ents' (fs ++ [f]) Lo j y := by
  rintro j y hy ⟨g, t, tv, e, h1, h2, h3⟩
  refine ⟨g, t, tv, e, ?_, h2, h3.ents' ?_⟩
  ·rw [List.getElem?_append_left (List.getElem?_eq_some_iff.1 h1).1]
   exact h1
  ·rw [hE _ (hp y (List.mem_of_getElem? hy))]
   exact h3.en
 have new : ∀ (j : Nat) y, (jobs ++ [x])[j]? = some y -> (jobs[j]? = some y /\ j < jobs.length) ∨ (j = jobs.length /\ y = x) := by
  intro j y hy
  rcases Nat.lt_or_ge j jobs.length with hl | hl
  ·rw [List.getElem?_append_left hl] at hy
   exact .inl ⟨hy, hl⟩
  ·rw [List.getElem?_append_right hl] at hy
   have hj : j = jobs.length := by
    have := (List.getElem?_eq_some_iff.1 hy).1
    simp only [List.length_singleton] at this
    omega
   subst hj
   rw [Nat.sub_self] at hy
   exact .inr ⟨rfl, by simpa using hy.symm⟩
 refine ⟨by simp [h.len], fun j y hy hj => ?_, fun j y hy hj => ?_, fun j k y z hy hz e => ?_, ?_, ?_⟩
 ·rw [List.length_append, List.length_singleton] at hj
  rcases new j y hy with ⟨h1, h2⟩ | ⟨h1, -⟩
  ·refine old j y h1 ?_
   rcases Nat.lt_or_ge (j + 1) jobs.length with hl | hl
   ·exact h.low j y h1 hl
   ·exact h.top j y h1 (by omega)
  ·omega
 ·rw [List.length_append, List.length_singleton] at hj
  rcases new j y hy with ⟨h1, h2⟩ | ⟨rfl, rfl⟩
  ·omega
  ·exact hJ
 ·rcases new j y hy with ⟨h1, h2⟩ | ⟨rfl, rfl⟩
  ·rcases new k z hz with ⟨h3, h4⟩ | ⟨rfl, rfl⟩
   ·exact h.nod j k y z h1 h3 e
   ·exact absurd e (hp y (List.mem_of_getElem? h1))
  ·rcases new k z hz with ⟨h3, h4⟩ | ⟨rfl, rfl⟩
   ·exact absurd e.symm (hp z (List.mem_of_getElem? h3))
   ·rfl
 ·rw [zBS]
  exact ⟨h.std, by show f.base = _ /\ _ /\ True; rw [hb]; exact ⟨by omega, hs, trivial⟩⟩
 ·rw [zC5, zGI]
  exact hpk.2
theorem SI.pop (h : SI c jobs fs pk ents T) {i : Nat} {x : Bj} {ents' : List Et} (hi : i + 1 = jobs.length) (hx : jobs[i]? = some x) (hE : ∀ p, p ≠ x.p -> ents'[p]? = ents[p]?) : SI c (jobs.take i) fs.dropLast pk ents' Lo := by
 have hl : (jobs.take i).length = i := by rw [List.length_take]; omega
 have hfl : fs.dropLast.length = i := by rw [List.length_dropLast, h.len]; omega
 have old : ∀ (j : Nat) y, (jobs.take i)[j]? = some y -> jobs[j]? = some y /\ j < i := by
  intro j y hy
  have hj := (List.getElem?_eq_some_iff.1 hy).1
  rw [hl] at hj
  rw [List.getElem?_take, if_pos hj] at hy
  exact ⟨hy, hj⟩
 have at' : ∀ (j : Nat) y, (jobs.take i)[j]? = some y -> JAt c ents' fs.dropLast Lo j y := by
  intro j y hy
  obtain ⟨h1, h2⟩ := old j y hy
  obtain ⟨f, t, tv, e, g1, g2, g3⟩ := h.low j y h1 (by omega)
  refine ⟨f, t, tv, e, ?_, g2, g3.ents' ?_⟩
  ·rw [List.dropLast_eq_take, List.getElem?_take, if_pos (by rw [h.len]; omega)]
   exact g1
  ·rw [hE _ fun e => by have := h.nod j i y x h1 hx e; omega]
   exact g3.en
 have hfs : fs = fs.dropLast ++ [fs.getLast (by intro e; rw [e] at h; have := h.len; simp at this; omega)] := (List.dropLast_concat_getLast _).symm
 refine ⟨by rw [hl, hfl], fun j y hy _ => at' j y hy, fun j y hy _ => at' j y hy, fun j k y z hy hz e => h.nod j k y z (old j y hy).1 (old k z hz).1 e, ?_, ?_⟩
 ·have := h.std
  rw [hfs, zBS] at this
  exact this.1
 ·have h1 := h.pk
  have h2 := h.std
  rw [hfs, zC5, zGI] at h1
  rw [hfs, zBS] at h2
  have := h2.2.2.1
  omega
end
structure WI (n : Nat) (q : Nat -> List (Jb × Nat)) (ps : List (Jb × Nat)) (ents : List Et) (nx : Nat -> Nat) (now : Int) : Prop where
 qo : ∀ t, n <= t -> q t = []
 qm : ∀ t y, y ∈ q t -> y.1.t = (t : Int) /\ y ∈ ps /\ ents[y.2]? = some (jM y.1)
 qn : ∀ t, (q t).Pairwise fun a b => a.1.n < b.1.n
 pm : ∀ y ∈ ps, ∃ t : Nat, y.1.t = (t : Int) /\ t < n /\ 0 <= y.1.n /\ y.1.n < (nx t : Int) /\ 0 <= y.1.r /\ y.1.r <= now
 pd : (ps.map Prod.fst).Pairwise (· ≠ ·)
theorem zM5 {x y : Jb} (h : jM x = jM y) : x = y := by
 obtain ⟨a, b, c⟩ := x
 obtain ⟨d, e, f⟩ := y
 simp only [jM, Et.mk.injEq] at h
 obtain ⟨rfl, rfl, rfl, -⟩ := h
 rfl
section
variable {n : Nat} {q : Nat -> List (Jb × Nat)} {ps : List (Jb × Nat)} {ents : List Et} {nx : Nat -> Nat} {now : Int}
theorem WI.later (h : WI n q ps ents nx now) {jEb : Int} (hn : now <= jEb) : WI n q ps ents nx jEb :=
 ⟨h.qo, h.qm, h.qn, fun y hy => by obtain ⟨t, h1, h2, h3, h4, h5, h6⟩ := h.pm y hy; exact ⟨t, h1, h2, h3, h4, h5, by omega⟩, h.pd⟩
theorem WI.turn (h : WI n q ps ents nx now) {p : Nat} {e e' : Et} (he : ents[p]? = some e) (hst : 0 <= e.st) : WI n q ps (ents.set p e') nx now := by
 refine ⟨h.qo, fun t y hy => ?_, h.qn, h.pm, h.pd⟩
 obtain ⟨h1, h2, h3⟩ := h.qm t y hy
 refine ⟨h1, h2, ?_⟩
 rw [List.getElem?_set_ne]
 ·exact h3
 ·rintro rfl
  rw [he] at h3
  rw [Option.some.inj h3] at hst
  simp [jM] at hst
theorem WI.lost (h : WI n q ps ents nx now) (t : Nat) : WI n q ps ents (upd nx t (nx t + 1)) now := by
 refine ⟨h.qo, h.qm, h.qn, fun y hy => ?_, h.pd⟩
 obtain ⟨u, h1, h2, h3, h4, h5⟩ := h.pm y hy
 refine ⟨u, h1, h2, h3, ?_, h5⟩
 by_cases hu : u = t
 ·subst hu
  rw [upd_self]
  omega
 ·rw [upd_ne _ _ hu]
  exact h4
theorem WI.add (h : WI n q ps ents nx now) {t : Nat} (ht : t < n) {x : Jb} (hx : x = ⟨t, nx t, now⟩) (hnow : 0 <= now) : WI n (upd q t (q t ++ [(x, ents.length)])) (ps ++ [(x, ents.length)]) (ents ++ [jM x]) (upd nx t (nx t + 1)) now := by
 have hnew : ∀ y ∈ ps, y.1 ≠ x := by
  intro y hy e
  obtain ⟨u, h1, h2, h3, h4, h5⟩ := h.pm y hy
  rw [e, hx] at h1 h4
  have : u = t := by have := h1; simp only at this; omega
  subst this
  simp only at h4
  omega
 have hl := h.lost t
 refine ⟨fun u hu => ?_, fun u y hy => ?_, fun u => ?_, fun y hy => ?_, ?_⟩
 ·rw [upd_ne _ _ (by omega)]
  exact h.qo u hu
 ·by_cases hu : u = t
  ·subst hu
   rw [upd_self] at hy
   rcases List.mem_append.1 hy with hy | hy
   ·obtain ⟨h1, h2, h3⟩ := h.qm u y hy
    exact ⟨h1, List.mem_append_left _ h2, by rw [List.getElem?_append_left (List.getElem?_eq_some_iff.1 h3).1]; exact h3⟩
   ·obtain rfl := List.mem_singleton.1 hy
    exact ⟨by rw [hx], List.mem_append_right _ (List.mem_singleton.2 rfl), by simp⟩
  ·rw [upd_ne _ _ hu] at hy
   obtain ⟨h1, h2, h3⟩ := h.qm u y hy
   exact ⟨h1, List.mem_append_left _ h2, by rw [List.getElem?_append_left (List.getElem?_eq_some_iff.1 h3).1]; exact h3⟩
 ·by_cases hu : u = t
  ·subst hu
   rw [upd_self, List.pairwise_append]
   refine ⟨h.qn u, List.pairwise_singleton _ _, fun a ha b hb => ?_⟩
   obtain rfl := List.mem_singleton.1 hb
   obtain ⟨h1, h2, -⟩ := h.qm u a ha
   obtain ⟨v, g1, -, -, g4, -⟩ := h.pm a h2
   have : v = u := by omega
   subst this
   rw [hx]
   exact g4
  ·rw [upd_ne _ _ hu]
   exact h.qn u
 ·rcases List.mem_append.1 hy with hy | hy
  ·exact hl.pm y hy
  ·obtain rfl := List.mem_singleton.1 hy
   refine ⟨t, by rw [hx], ht, ?_⟩
   rw [upd_self, hx]
   simp only
   omega
 ·rw [List.map_append, List.pairwise_append]
  refine ⟨h.pd, List.pairwise_singleton _ _, fun a ha b hb => ?_⟩
  obtain ⟨y, hy, rfl⟩ := List.mem_map.1 ha
  obtain rfl : b = x := by simpa using hb
  exact hnew y hy
theorem zM6 {ps : List (Jb × Nat)} (h : (ps.map Prod.fst).Pairwise (· ≠ ·)) {x : Jb} {p p' : Nat} (h1 : (x, p) ∈ ps) (h2 : (x, p') ∈ ps) : p = p' := by
 induction ps with
 | nil => cases h1
 | cons y ps ih =>
  rw [List.map_cons, List.pairwise_cons] at h
  rcases List.mem_cons.1 h1 with g1 | g1
  ·rcases List.mem_cons.1 h2 with g2 | g2
   ·rw [<- g1] at g2
    exact (congrArg Prod.snd g2).symm
   ·rw [<- g1] at h
    exact absurd rfl (h.1 x (List.mem_map.2 ⟨(x, p'), g2, rfl⟩))
  ·rcases List.mem_cons.1 h2 with g2 | g2
   ·rw [<- g2] at h
    exact absurd rfl (h.1 x (List.mem_map.2 ⟨(x, p), g1, rfl⟩))
   ·exact ih h.2 g1 g2
theorem WI.start (h : WI n q ps ents nx now) {t p : Nat} {x : Jb} {l : List (Jb × Nat)} (hq : q t = (x, p) :: l) (e' : Et) : WI n (upd q t l) (ps.filter fun y => decide (y.1 ≠ x)) (ents.set p e') nx now := by
 have hxm : (x, p) ∈ q t := by rw [hq]; exact List.mem_cons_self
 obtain ⟨x1, x2, x3⟩ := h.qm t (x, p) hxm
 have key : ∀ u y, y ∈ upd q t l u -> y ∈ q u /\ y.1 ≠ x := by
  intro u y hy
  by_cases hu : u = t
  ·subst hu
   rw [upd_self] at hy
   refine ⟨by rw [hq]; exact List.mem_cons_of_mem _ hy, fun e => ?_⟩
   have hn := h.qn u
   rw [hq, List.pairwise_cons] at hn
   have := hn.1 y hy
   rw [e] at this
   exact absurd this (Int.lt_irrefl _)
  ·rw [upd_ne _ _ hu] at hy
   refine ⟨hy, fun e => hu ?_⟩
   have h1 := (h.qm u y hy).1
   rw [e] at h1
   have h2 : x.t = (t : Int) := x1
   omega
 refine ⟨fun u hu => ?_, fun u y hy => ?_, fun u => ?_, fun y hy => h.pm y (List.mem_filter.1 hy).1, ?_⟩
 ·rw [upd_ne]
  ·exact h.qo u hu
  ·rintro rfl
   rw [h.qo u hu] at hq
   cases hq
 ·obtain ⟨h1, h2⟩ := key u y hy
  obtain ⟨g1, g2, g3⟩ := h.qm u y h1
  refine ⟨g1, List.mem_filter.2 ⟨g2, decide_eq_true h2⟩, ?_⟩
  rw [List.getElem?_set_ne]
  ·exact g3
  ·intro e
   apply h2
   have x3' : ents[p]? = some (jM x) := x3
   rw [<- e, x3'] at g3
   exact (zM5 (Option.some.inj g3)).symm
 ·by_cases hu : u = t
  ·subst hu
   rw [upd_self]
   have hn := h.qn u
   rw [hq, List.pairwise_cons] at hn
   exact hn.2
  ·rw [upd_ne _ _ hu]
   exact h.qn u
 ·exact h.pd.sublist (List.Sublist.map _ List.filter_sublist)
end
def EB (K : Int) (e : Et) : Prop := (0 <= e.di /\ e.di <= K) /\ (0 <= e.hi /\ e.hi <= K) /\ (0 <= e.mi /\ e.mi <= K) /\ 0 <= e.wi /\ e.wi <= K
theorem EB.mono {K K' : Int} {e : Et} (h : EB K e) (hK : K <= K') : EB K' e := by
 unfold EB at *
 omega
structure EI (n : Nat) (ents : List Et) (nx : Nat -> Nat) (K : Int) : Prop where
 eb : ∀ (p : Nat) e, ents[p]? = some e -> EB K e
 kb : ∀ (p : Nat) e, ents[p]? = some e -> ∃ t : Nat, e.ta = (t : Int) /\ t < n /\ 0 <= e.jb /\ e.jb < (nx t : Int)
 kd : ∀ (p p' : Nat) e e', ents[p]? = some e -> ents[p']? = some e' -> e.ta = e'.ta -> e.jb = e'.jb -> p = p'
section
variable {n : Nat} {ents : List Et} {nx : Nat -> Nat} {K K' : Int}
theorem EI.mono (h : EI n ents nx K) (hK : K <= K') : EI n ents nx K' := ⟨fun p e he => (h.eb p e he).mono hK, h.kb, h.kd⟩
theorem EI.turn (h : EI n ents nx K) {p : Nat} {e e' : Et} (he : ents[p]? = some e) (hK : K <= K') (h1 : e'.ta = e.ta) (h2 : e'.jb = e.jb) (hb : EB K' e') : EI n (ents.set p e') nx K' := by
 have hp := (List.getElem?_eq_some_iff.1 he).1
 have old : ∀ (r : Nat) y, (ents.set p e')[r]? = some y -> ∃ y', ents[r]? = some y' /\ y.ta = y'.ta /\ y.jb = y'.jb /\ EB K' y := by
  intro r y hy
  by_cases hr : p = r
  ·subst hr
   rw [List.getElem?_set_self hp] at hy
   cases hy
   exact ⟨e, he, h1, h2, hb⟩
  ·rw [List.getElem?_set_ne hr] at hy
   exact ⟨y, hy, rfl, rfl, (h.eb r y hy).mono hK⟩
 refine ⟨fun r y hy => ?_, fun r y hy => ?_, fun r r' y y' hy hy' g1 g2 => ?_⟩
 ·obtain ⟨z, -, -, -, h5⟩ := old r y hy
  exact h5
 ·obtain ⟨z, h3, h4, h5, -⟩ := old r y hy
  rw [h4, h5]
  exact h.kb r z h3
 ·obtain ⟨z, a1, a2, a3, -⟩ := old r y hy
  obtain ⟨z', b1, b2, b3, -⟩ := old r' y' hy'
  exact h.kd r r' z z' a1 b1 (by rw [<- a2, <- b2, g1]) (by rw [<- a3, <- b3, g2])
theorem EI.lost (h : EI n ents nx K) (t : Nat) : EI n ents (upd nx t (nx t + 1)) K := by
 refine ⟨h.eb, fun p e he => ?_, h.kd⟩
 obtain ⟨u, h1, h2, h3, h4⟩ := h.kb p e he
 refine ⟨u, h1, h2, h3, ?_⟩
 by_cases hu : u = t
 ·subst hu
  rw [upd_self]
  omega
 ·rw [upd_ne _ _ hu]
  exact h4
theorem EI.add (h : EI n ents nx K) {t : Nat} (ht : t < n) {now : Int} (hK : 0 <= K) : EI n (ents ++ [jM ⟨t, nx t, now⟩]) (upd nx t (nx t + 1)) K := by
 have hl := h.lost t
 have old : ∀ (r : Nat) y, (ents ++ [jM ⟨t, nx t, now⟩])[r]? = some y -> ents[r]? = some y ∨ r = ents.length /\ y = jM ⟨t, nx t, now⟩ := by
  intro r y hy
  rcases Nat.lt_or_ge r ents.length with hr | hr
  ·rw [List.getElem?_append_left hr] at hy
   exact .inl hy
  ·rw [List.getElem?_append_right hr] at hy
   have hj := (List.getElem?_eq_some_iff.1 hy).1
   simp only [List.length_singleton] at hj
   have hr' : r = ents.length := by omega
   subst hr'
   rw [Nat.sub_self] at hy
   exact .inr ⟨rfl, by simpa using hy.symm⟩
 have new : ∀ (r : Nat) y, ents[r]? = some y -> y.ta = (t : Int) -> y.jb = (nx t : Int) -> False := by
  intro r y hy h1 h2
  obtain ⟨u, g1, g2, g3, g4⟩ := h.kb r y hy
  have : u = t := by omega
  subst this
  omega
 refine ⟨fun r y hy => ?_, fun r y hy => ?_, fun r r' y y' hy hy' g1 g2 => ?_⟩
 ·rcases old r y hy with hy | ⟨-, rfl⟩
  ·exact h.eb r y hy
  ·unfold EB jM
   simp only
   omega
 ·rcases old r y hy with hy | ⟨-, rfl⟩
  ·exact hl.kb r y hy
  ·refine ⟨t, rfl, ht, ?_⟩
   rw [upd_self]
   simp only [jM]
   omega
 ·rcases old r y hy with hy | ⟨rfl, rfl⟩
  ·rcases old r' y' hy' with hy' | ⟨rfl, rfl⟩
   ·exact h.kd r r' y y' hy hy' g1 g2
   ·exact (new r y hy (by simpa [jM] using g1) (by simpa [jM] using g2)).elim
  ·rcases old r' y' hy' with hy' | ⟨rfl, rfl⟩
   ·exact (new r' y' hy' (by simpa [jM] using g1.symm) (by simpa [jM] using g2.symm)).elim
   ·rfl
end
