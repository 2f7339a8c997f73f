import Derived.Test.YtkggimgechhjnaaGreatDoorC41
namespace Go.Proofs.YtkggimgechhjnaaGreatDoor
namespace Krn
open Go Go.RowKit Go.Maps Ring Band
def fstK : List Pil.En -> Option (Nat × Pil.En)
 | [] => none
 | x :: r => match fstK r with
  | none => some (0, x)
  | some (k, y) => if x.e.t <= y.e.t then some (0, x) else some (k + 1, y)
theorem zHQ : ∀ {l : List Pil.En}, fstK l = none -> l = []
 | [], _ => rfl
 | x :: r, h => by
  unfold fstK at h
  split at h
  ·cases h
  ·split at h <;> cases h
theorem zBU : ∀ {l : List Pil.En} {k : Nat} {x : Pil.En}, fstK l = some (k, x) -> Pil.IsFirst l k x
 | [], _, _, h => by cases h
 | y :: r, k, x, h => by
  unfold fstK at h
  split at h
  ·rename_i hn
   cases h
   rw [zHQ hn]
   refine ⟨rfl, fun j z hz => ?_⟩
   cases j with
   | zero =>
    obtain rfl : y = z := by simpa using hz
    exact ⟨Int.le_refl _, fun h => absurd h (Nat.lt_irrefl _)⟩
   | succ j => simp at hz
  ·rename_i k' z hz
   obtain ⟨h1, h2⟩ := zBU hz
   split at h
   ·rename_i hle
    cases h
    refine ⟨rfl, fun j z' hz' => ?_⟩
    cases j with
    | zero =>
     obtain rfl : y = z' := by simpa using hz'
     exact ⟨Int.le_refl _, fun h => absurd h (Nat.lt_irrefl _)⟩
    | succ j =>
     have := (h2 j z' (by simpa using hz')).1
     exact ⟨by omega, fun h => absurd h (Nat.not_lt_zero _)⟩
   ·rename_i hle
    cases h
    refine ⟨by simpa using h1, fun j z' hz' => ?_⟩
    cases j with
    | zero =>
     obtain rfl : y = z' := by simpa using hz'
     exact ⟨by omega, fun _ => by omega⟩
    | succ j =>
     have := h2 j z' (by simpa using hz')
     exact ⟨this.1, fun h => this.2 (by omega)⟩
def takN (a : Int) : Nat -> List Pil.En -> List Pil.Ev × List Pil.En
 | 0, rs => ([], rs)
 | n + 1, rs => match fstK rs with
  | none => ([], rs)
  | some (k, x) => if x.e.t <= a then (x.e :: (takN a n (rs.eraseIdx k)).1, (takN a n (rs.eraseIdx k)).2) else ([], rs)
theorem zDX (a : Int) : ∀ (n : Nat) (rs : List Pil.En), Pil.Takes a rs (takN a n rs).1 (takN a n rs).2
 | 0, rs => rfl
 | n + 1, rs => by
  unfold takN
  split
  ·exact rfl
  ·rename_i k x h
   split
   ·rename_i hle
    exact ⟨k, x, zBU h, rfl, hle, zDX a n _⟩
   ·exact rfl
theorem zEZ (a : Int) : ∀ (n : Nat) (rs : List Pil.En), rs.length <= n -> ∀ x ∈ (takN a n rs).2, a < x.e.t
 | 0, rs, hn, x, hx => by
  have : rs = [] := List.eq_nil_of_length_eq_zero (by omega)
  subst this
  cases hx
 | n + 1, rs, hn, x, hx => by
  unfold takN at hx
  split at hx
  ·rename_i h
   rw [zHQ h] at hx
   cases hx
  ·rename_i k y h
   have hf := zBU h
   have hk := (List.getElem?_eq_some_iff.1 hf.1).1
   split at hx
   ·rename_i hle
    refine zEZ a n _ ?_ x hx
    rw [List.length_eraseIdx, if_pos hk]
    omega
   ·rename_i hle
    obtain ⟨j, hj⟩ := List.mem_iff_getElem?.1 hx
    have := (hf.2 j x hj).1
    omega
theorem zJP (a : Int) : ∀ (n : Nat) (rs : List Pil.En), ∀ x ∈ (takN a n rs).2, x ∈ rs
 | 0, rs, x, hx => hx
 | n + 1, rs, x, hx => by
  unfold takN at hx
  split at hx
  ·exact hx
  ·split at hx
   ·exact List.mem_of_mem_eraseIdx (zJP a n _ x hx)
   ·exact hx
theorem zGJ (a : Int) : ∀ (n : Nat) (rs : List Pil.En), ∀ e ∈ (takN a n rs).1, ∃ x ∈ rs, x.e = e /\ e.t <= a
 | 0, rs, e, he => by cases he
 | n + 1, rs, e, he => by
  unfold takN at he
  split at he
  ·cases he
  ·rename_i k y h
   split at he
   ·rename_i hle
    rcases List.mem_cons.1 he with rfl | he
    ·exact ⟨y, List.mem_of_getElem? (zBU h).1, rfl, hle⟩
    ·obtain ⟨x, h1, h2⟩ := zGJ a n _ e he
     exact ⟨x, List.mem_of_mem_eraseIdx h1, h2⟩
   ·cases he
def tak (a : Int) (rs : List Pil.En) : List Pil.Ev × List Pil.En := takN a rs.length rs
def fstQ (P : Nat -> Nat) (q : Nat -> List (Jb × Nat)) : Nat -> Option Nat
 | 0 => none
 | n + 1 => if (q n).isEmpty = true then fstQ P q n else match fstQ P q n with
  | none => some n
  | some t => if P t <= P n then some n else some t
theorem zE0 {P : Nat -> Nat} {q : Nat -> List (Jb × Nat)} : ∀ {n : Nat}, fstQ P q n = none -> ∀ i, i < n -> q i = []
 | 0, _, i, hi => absurd hi (Nat.not_lt_zero _)
 | n + 1, h, i, hi => by
  unfold fstQ at h
  split at h
  ·rename_i h0
   rcases Nat.lt_or_ge i n with hl | hl
   ·exact zE0 h i hl
   ·have : i = n := by omega
    subst this
    exact List.isEmpty_iff.1 h0
  ·split at h
   ·cases h
   ·split at h <;> cases h
theorem zE1 {P : Nat -> Nat} {q : Nat -> List (Jb × Nat)} : ∀ {n t : Nat}, fstQ P q n = some t -> t < n /\ q t ≠ [] /\ ∀ i, i < n -> q i ≠ [] -> P i <= P t
 | 0, t, h => by cases h
 | n + 1, t, h => by
  unfold fstQ at h
  split at h
  ·rename_i h0
   obtain ⟨h1, h2, h3⟩ := zE1 h
   refine ⟨by omega, h2, fun i hi hq => ?_⟩
   rcases Nat.lt_or_ge i n with hl | hl
   ·exact h3 i hl hq
   ·have : i = n := by omega
    subst this
    exact absurd (List.isEmpty_iff.1 h0) hq
  ·rename_i h0
   have h0' : q n ≠ [] := fun e => h0 (List.isEmpty_iff.2 e)
   split at h
   ·rename_i hn
    cases h
    refine ⟨Nat.lt_succ_self _, h0', fun i hi hq => ?_⟩
    rcases Nat.lt_or_ge i n with hl | hl
    ·exact absurd (zE0 hn i hl) hq
    ·have : i = n := by omega
     subst this
     exact Nat.le_refl _
   ·rename_i t' hs
    obtain ⟨h1, h2, h3⟩ := zE1 hs
    split at h
    ·rename_i hle
     cases h
     refine ⟨Nat.lt_succ_self _, h0', fun i hi hq => ?_⟩
     rcases Nat.lt_or_ge i n with hl | hl
     ·exact Nat.le_trans (h3 i hl hq) hle
     ·have : i = n := by omega
      subst this
      exact Nat.le_refl _
    ·rename_i hle
     cases h
     refine ⟨by omega, h2, fun i hi hq => ?_⟩
     rcases Nat.lt_or_ge i n with hl | hl
     ·exact h3 i hl hq
     ·have : i = n := by omega
      subst this
      omega
def topU (s : KS) : Option (Nat × Bj × Et) := match s.jobs[s.jobs.length - 1]? with
 | none => none
 | some x => match s.ents[x.p]? with
  | none => none
  | some e => some (s.jobs.length - 1, x, e)
def topQ (c : KC) (s : KS) : Option (Nat × Jb × Nat × List (Jb × Nat)) := match fstQ c.P s.q c.ts.length with
 | none => none
 | some t => match s.q t with
  | [] => none
  | (x, p) :: l => some (t, x, p, l)
theorem zIW (c : KC) (s : KS) : FOk c s (topQ c s) := by
 unfold topQ
 split
 ·rename_i h
  exact fun i hi => zE0 h i hi
 ·rename_i t h
  obtain ⟨h1, h2, h3⟩ := zE1 h
  split
  ·rename_i h0
   exact absurd h0 h2
  ·rename_i x p l h0
   refine ⟨⟨h1, fun e => h2 (List.map_eq_nil_iff.1 e), fun i hi hq => h3 i hi fun e => hq (by unfold qj; rw [e]; rfl)⟩, h0⟩
def heldS (s : KS) : Option (Nat × Bj × Et) -> KS
 | none => s
 | some (i, x, e) => resF { s with jobs := s.jobs.set i { x with j := { x.j with armed := true } } } i { x with j := { x.j with armed := true } } e
def newS (c : KC) (s : KS) (u : Option (Nat × Bj × Et)) : Option (Nat × Jb × Nat × List (Jb × Nat)) -> KS
 | none => s
 | some (t, x, p, l) => match c.ts[t]?, (covS s u).ents[p]? with
  | some (tv, ops), some e => startF c (covS s u) t p x l tv ops e
  | _, _ => s
def chF (c : KC) (s : KS) : KS × Bool :=
 if dispB c s (topU s) (topQ c s) = true then (if whU (topU s) = true then (heldS s (topU s), true) else (newS c s (topU s) (topQ c s), false)) else (resU s (topU s), false)
def dueF (c : KC) (s : KS) : KS := meets c s (tak s.now s.ag).2 (tak s.now s.ag).1 (tak s.now s.ag).1.length
def nextF (c : KC) (s : KS) : KS := match topU s with
 | none => s
 | some (i, x, e) => match opOf x.j with
  | none => s
  | some o => begC c s o i x e
def goF (s : KS) (wh : Bool) (z : Int) : KS := match topU s with
 | none => s
 | some (i, x, e) =>
  if overB (burnF x.j z) = true then endF (nowS (burnS (withS s x.p e wh z) i x z) z) x.p s.fs.dropLast i (withE e wh z) (burnF x.j z).fault
  else nowS (burnS (withS s x.p e wh z) i x z) z
def goZ (s : KS) (wh : Bool) (q : Int) : Int := match topU s with
 | none => q
 | some (_, x, _) => spanZ x wh q
def tickF (c : KC) (s : KS) (wh : Bool) (q : Int) : KS := if s.jobs.isEmpty = true then nowS s q else goF (nextF c s) wh (goZ (nextF c s) wh q)
def stepF (c : KC) (till : Int) (s : KS) : KS := tickF c (chF c (dueF c s)).1 (chF c (dueF c s)).2 (quietZ (chF c (dueF c s)).1 till)
structure TOk (c : KC) (t : Nat) (tv : TaskV) (ops : List Opn) : Prop where
 fr : 0 <= tv.fr /\ tv.fr <= 4096
 fl : 0 <= tv.fl /\ tv.fl <= 1048576
 ol : 0 < ops.length /\ ops.length <= 1000
 oi : ∀ o ∈ ops, ∃ q, OpIn c o q /\ (o.k = 2 -> q <= 255)
 p : tv.p = (c.P t : Int) /\ c.P t < 64 /\ (c.P t : Int) <= tv.th
structure CfgOk (c : KC) : Prop where
 n : c.ts.length <= 64
 nl : c.nl <= 4096
 li : ∀ (i : Nat) z, c.li[i]? = some z -> ∃ t : Nat, z = (t : Int) /\ t < c.ts.length
 inj : ∀ t u, t < c.ts.length -> u < c.ts.length -> c.P t = c.P u -> t = u
 t : ∀ (t : Nat) tv ops, c.ts[t]? = some (tv, ops) -> TOk c t tv ops
def Lo (j : Jz) (e : Et) : Prop := overB j = false /\ (j.armed = true -> 1 <= e.wi)
structure JOk (c : KC) (ents : List Et) (T : Jz -> Et -> Prop) (x : Bj) (f : Fr) (t : Nat) (tv : TaskV) (e : Et) : Prop where
 ts : c.ts[t]? = some (tv, x.j.ops)
 en : ents[x.p]? = some e
 ta : e.ta = (t : Int)
 ok : x.j.Ok
 st : 0 <= e.st
 ed : e.en = -1
 wi : 0 <= e.wi
 un : x.j.armed = false -> x.j.left = tv.fl /\ e.wi = 0
 ar : x.j.armed = true -> e.wi + x.j.left <= tv.fl
 who : f.who = (x.p : Int)
 size : f.size = tv.fr
 base : e.ba = f.base
 T : T x.j e
def JAt (c : KC) (ents : List Et) (fs : List Fr) (T : Jz -> Et -> Prop) (i : Nat) (x : Bj) : Prop := ∃ f t tv e, fs[i]? = some f /\ i <= c.P t /\ JOk c ents T x f t tv e
structure SI (c : KC) (jobs : List Bj) (fs : List Fr) (pk : Int) (ents : List Et) (T : Jz -> Et -> Prop) : Prop where
 len : fs.length = jobs.length
 low : ∀ i x, jobs[i]? = some x -> i + 1 < jobs.length -> JAt c ents fs Lo i x
 top : ∀ i x, jobs[i]? = some x -> i + 1 = jobs.length -> JAt c ents fs T i x
 nod : ∀ (i j : Nat) x y, jobs[i]? = some x -> jobs[j]? = some y -> x.p = y.p -> i = j
 std : Stand 0 fs
 pk : deep fs <= pk
section
variable {c : KC} {jobs : List Bj} {fs : List Fr} {pk : Int} {ents : List Et} {T T' : Jz -> Et -> Prop}
theorem JOk.mono {x : Bj} {f : Fr} {t : Nat} {tv : TaskV} {e : Et} (h : JOk c ents T x f t tv e) (hT : T x.j e -> T' x.j e) : JOk c ents T' x f t tv e :=
 ⟨h.ts, h.en, h.ta, h.ok, h.st, h.ed, h.wi, h.un, h.ar, h.who, h.size, h.base, hT h.T⟩
theorem JOk.ents' {ents' : List Et} {x : Bj} {f : Fr} {t : Nat} {tv : TaskV} {e : Et} (h : JOk c ents T x f t tv e) (hE : ents'[x.p]? = some e) : JOk c ents' T x f t tv e :=
 ⟨h.ts, hE, h.ta, h.ok, h.st, h.ed, h.wi, h.un, h.ar, h.who, h.size, h.base, h.T⟩
theorem JAt.ents' {ents' : List Et} {i : Nat} {x : Bj} (h : JAt c ents fs T i x) (hE : ∀ e, ents[x.p]? = some e -> ents'[x.p]? = some e) : JAt c ents' fs T i x := by
 obtain ⟨f, t, tv, e, h1, h2, h3⟩ := h
 exact ⟨f, t, tv, e, h1, h2, h3.ents' (hE e h3.en)⟩
theorem SI.any (h : SI c jobs fs pk ents T) {i : Nat} {x : Bj} (hx : jobs[i]? = some x) : JAt c ents fs (fun _ _ => True) i x := by
 have hi := (List.getElem?_eq_some_iff.1 hx).1
 rcases Nat.lt_or_ge (i + 1) jobs.length with hl | hl
 ·obtain ⟨f, t, tv, e, h1, h2, h3⟩ := h.low i x hx hl
  exact ⟨f, t, tv, e, h1, h2, h3.mono fun _ => trivial⟩
 ·obtain ⟨f, t, tv, e, h1, h2, h3⟩ := h.top i x hx (by omega)
  exact ⟨f, t, tv, e, h1, h2, h3.mono fun _ => trivial⟩
theorem SI.few (h : SI c jobs fs pk ents T) (hc : CfgOk c) : jobs.length <= 64 := by
 rcases Nat.eq_zero_or_pos jobs.length with h0 | h0
 ·omega
 ·obtain ⟨x, hx⟩ : ∃ x, jobs[jobs.length - 1]? = some x := ⟨_, List.getElem?_eq_getElem (by omega)⟩
  obtain ⟨f, t, tv, e, h1, h2, h3⟩ := h.any hx
  have := (hc.t t tv _ h3.ts).p.2.1
  omega
theorem SI.more {ents' : List Et} (h : SI c jobs fs pk ents T) (hE : ∀ (p : Nat) e, ents[p]? = some e -> 0 <= e.st -> ents'[p]? = some e) : SI c jobs fs pk ents' T := by
 refine ⟨h.len, fun i x hx hi => ?_, fun i x hx hi => ?_, h.nod, h.std, h.pk⟩
 ·obtain ⟨f, t, tv, e, h1, h2, h3⟩ := h.low i x hx hi
  exact ⟨f, t, tv, e, h1, h2, h3.ents' (hE _ e h3.en h3.st)⟩
 ·obtain ⟨f, t, tv, e, h1, h2, h3⟩ := h.top i x hx hi
  exact ⟨f, t, tv, e, h1, h2, h3.ents' (hE _ e h3.en h3.st)⟩
theorem SI.turn (h : SI c jobs fs pk ents T) {i : Nat} {x x' : Bj} {ents' : List Et} (hi : i + 1 = jobs.length) (hx : jobs[i]? = some x) (hp : x'.p = x.p) (hE : ∀ p, p ≠ x.p -> ents'[p]? = ents[p]?) (hJ : JAt c ents' fs T' i x') : SI c (jobs.set i x') fs pk ents' T' := by
 have hil : i < jobs.length := by omega
 refine ⟨by rw [List.length_set]; exact h.len, fun j y hy hj => ?_, fun j y hy hj => ?_, fun j k y z hy hz e => ?_, h.std, h.pk⟩
 ·rw [List.length_set] at hj
  have hne : i ≠ j := by omega
  rw [List.getElem?_set_ne hne] at hy
  refine (h.low j y hy hj).ents' fun e he => ?_
  rw [hE _ fun e => hne (h.nod j i y x hy hx e).symm]
  exact he
 ·rw [List.length_set] at hj
  obtain rfl : i = j := by omega
  rw [List.getElem?_set_self hil] at hy
  cases hy
  exact hJ
 ·have hP : ∀ (j : Nat) y, (jobs.set i x')[j]? = some y -> ∃ y', jobs[j]? = some y' /\ y'.p = y.p := by
   intro j y hy
   by_cases hij : i = j
   ·subst hij
    rw [List.getElem?_set_self hil] at hy
    cases hy
    exact ⟨x, hx, hp.symm⟩
   ·rw [List.getElem?_set_ne hij] at hy
    exact ⟨y, hy, rfl⟩
  obtain ⟨y', h1, h2⟩ := hP j y hy
  obtain ⟨z', h3, h4⟩ := hP k z hz
  exact h.nod j k y' z' h1 h3 (by rw [h2, h4, e])
theorem SI.push (h : SI c jobs fs pk ents Lo) {x : Bj} {f : Fr} {ents' : List Et} {pk' : Int} (hE : ∀ p, p ≠ x.p -> ents'[p]? = ents[p]?) (hp : ∀ y ∈ jobs, y.p ≠ x.p) (hJ : JAt c ents' (fs ++ [f]) T jobs.length x)
  (hb : f.base = deep fs) (hs : 0 <= f.size /\ f.size <= 4096) (hpk : pk <= pk' /\ deep fs + f.size <= pk') : SI c (jobs ++ [x]) (fs ++ [f]) pk' ents' T := by
 have old : ∀ (j : Nat) y, jobs[j]? = some y -> JAt c ents fs Lo j y -> JAt c ents' (fs ++ [f]) Lo j y := by
  rintro j y hy ⟨g, t, tv, e, h1, h2, h3⟩
  refine ⟨g, t, tv, e, ?_, h2, h3.ents' ?_⟩
  ·rw [List.getElem?_append_left (List.getElem?_eq_some_iff.1 h1).1]
   exact h1
  ·rw [hE _ (hp y (List.mem_of_getElem? hy))]
   exact h3.en
 have new : ∀ (j : Nat) y, (jobs ++ [x])[j]? = some y -> (jobs[j]? = some y /\ j < jobs.length) ∨ (j = jobs.length /\ y = x) := by
  intro j y hy
  rcases Nat.lt_or_ge j jobs.length with hl | hl
  ·rw [List.getElem?_append_left hl] at hy
   exact .inl ⟨hy, hl⟩
  ·rw [List.getElem?_append_right hl] at hy
   have hj : j = jobs.length := by
    have := (List.getElem?_eq_some_iff.1 hy).1
    simp only [List.length_singleton] at this
    omega
   subst hj
   rw [Nat.sub_self] at hy
   exact .inr ⟨rfl, by simpa using hy.symm⟩
 refine ⟨by simp [h.len], fun j y hy hj => ?_, fun j y hy hj => ?_, fun j k y z hy hz e => ?_, ?_, ?_⟩
 ·rw [List.length_append, List.length_singleton] at hj
  rcases new j y hy with ⟨h1, h2⟩ | ⟨h1, -⟩
  ·refine old j y h1 ?_
   rcases Nat.lt_or_ge (j + 1) jobs.length with hl | hl
   ·exact h.low j y h1 hl
   ·exact h.top j y h1 (by omega)
  ·omega
 ·rw [List.length_append, List.length_singleton] at hj
  rcases new j y hy with ⟨h1, h2⟩ | ⟨rfl, rfl⟩
  ·omega
  ·exact hJ
 ·rcases new j y hy with ⟨h1, h2⟩ | ⟨rfl, rfl⟩
  ·rcases new k z hz with ⟨h3, h4⟩ | ⟨rfl, rfl⟩
   ·exact h.nod j k y z h1 h3 e
   ·exact absurd e (hp y (List.mem_of_getElem? h1))
  ·rcases new k z hz with ⟨h3, h4⟩ | ⟨rfl, rfl⟩
   ·exact absurd e.symm (hp z (List.mem_of_getElem? h3))
   ·rfl
 ·rw [zBE]
  exact ⟨h.std, by show f.base = _ /\ _ /\ True; rw [hb]; exact ⟨by omega, hs, trivial⟩⟩
 ·rw [zB1, zEA]
  exact hpk.2
theorem SI.pop (h : SI c jobs fs pk ents T) {i : Nat} {x : Bj} {ents' : List Et} (hi : i + 1 = jobs.length) (hx : jobs[i]? = some x) (hE : ∀ p, p ≠ x.p -> ents'[p]? = ents[p]?) : SI c (jobs.take i) fs.dropLast pk ents' Lo := by
 have hl : (jobs.take i).length = i := by rw [List.length_take]; omega
 have hfl : fs.dropLast.length = i := by rw [List.length_dropLast, h.len]; omega
 have old : ∀ (j : Nat) y, (jobs.take i)[j]? = some y -> jobs[j]? = some y /\ j < i := by
  intro j y hy
  have hj := (List.getElem?_eq_some_iff.1 hy).1
  rw [hl] at hj
  rw [List.getElem?_take, if_pos hj] at hy
  exact ⟨hy, hj⟩
 have at' : ∀ (j : Nat) y, (jobs.take i)[j]? = some y -> JAt c ents' fs.dropLast Lo j y := by
  intro j y hy
  obtain ⟨h1, h2⟩ := old j y hy
  obtain ⟨f, t, tv, e, g1, g2, g3⟩ := h.low j y h1 (by omega)
  refine ⟨f, t, tv, e, ?_, g2, g3.ents' ?_⟩
  ·rw [List.dropLast_eq_take, List.getElem?_take, if_pos (by rw [h.len]; omega)]
   exact g1
  ·rw [hE _ fun e => by have := h.nod j i y x h1 hx e; omega]
   exact g3.en
 have hfs : fs = fs.dropLast ++ [fs.getLast (by intro e; rw [e] at h; have := h.len; simp at this; omega)] := (List.dropLast_concat_getLast _).symm
 refine ⟨by rw [hl, hfl], fun j y hy _ => at' j y hy, fun j y hy _ => at' j y hy, fun j k y z hy hz e => h.nod j k y z (old j y hy).1 (old k z hz).1 e, ?_, ?_⟩
 ·have := h.std
  rw [hfs, zBE] at this
  exact this.1
 ·have h1 := h.pk
  have h2 := h.std
  rw [hfs, zB1, zEA] at h1
  rw [hfs, zBE] at h2
  have := h2.2.2.1
  omega
end
structure WI (n : Nat) (q : Nat -> List (Jb × Nat)) (ps : List (Jb × Nat)) (ents : List Et) (nx : Nat -> Nat) (now : Int) : Prop where
 qo : ∀ t, n <= t -> q t = []
 qm : ∀ t y, y ∈ q t -> y.1.t = (t : Int) /\ y ∈ ps /\ ents[y.2]? = some (waitE y.1)
 qn : ∀ t, (q t).Pairwise fun a b => a.1.n < b.1.n
 pm : ∀ y ∈ ps, ∃ t : Nat, y.1.t = (t : Int) /\ t < n /\ 0 <= y.1.n /\ y.1.n < (nx t : Int) /\ 0 <= y.1.r /\ y.1.r <= now
 pd : (ps.map Prod.fst).Pairwise (· ≠ ·)
theorem zMY {x y : Jb} (h : waitE x = waitE y) : x = y := by
 obtain ⟨a, b, c⟩ := x
 obtain ⟨d, e, f⟩ := y
 simp only [waitE, Et.mk.injEq] at h
 obtain ⟨rfl, rfl, rfl, -⟩ := h
 rfl
section
variable {n : Nat} {q : Nat -> List (Jb × Nat)} {ps : List (Jb × Nat)} {ents : List Et} {nx : Nat -> Nat} {now : Int}
theorem WI.later (h : WI n q ps ents nx now) {now' : Int} (hn : now <= now') : WI n q ps ents nx now' :=
 ⟨h.qo, h.qm, h.qn, fun y hy => by obtain ⟨t, h1, h2, h3, h4, h5, h6⟩ := h.pm y hy; exact ⟨t, h1, h2, h3, h4, h5, by omega⟩, h.pd⟩
theorem WI.turn (h : WI n q ps ents nx now) {p : Nat} {e e' : Et} (he : ents[p]? = some e) (hst : 0 <= e.st) : WI n q ps (ents.set p e') nx now := by
 refine ⟨h.qo, fun t y hy => ?_, h.qn, h.pm, h.pd⟩
 obtain ⟨h1, h2, h3⟩ := h.qm t y hy
 refine ⟨h1, h2, ?_⟩
 rw [List.getElem?_set_ne]
 ·exact h3
 ·rintro rfl
  rw [he] at h3
  rw [Option.some.inj h3] at hst
  simp [waitE] at hst
theorem WI.lost (h : WI n q ps ents nx now) (t : Nat) : WI n q ps ents (upd nx t (nx t + 1)) now := by
 refine ⟨h.qo, h.qm, h.qn, fun y hy => ?_, h.pd⟩
 obtain ⟨u, h1, h2, h3, h4, h5⟩ := h.pm y hy
 refine ⟨u, h1, h2, h3, ?_, h5⟩
 by_cases hu : u = t
 ·subst hu
  rw [upd_self]
  omega
 ·rw [upd_ne _ _ hu]
  exact h4
theorem WI.add (h : WI n q ps ents nx now) {t : Nat} (ht : t < n) {x : Jb} (hx : x = ⟨t, nx t, now⟩) (hnow : 0 <= now) : WI n (upd q t (q t ++ [(x, ents.length)])) (ps ++ [(x, ents.length)]) (ents ++ [waitE x]) (upd nx t (nx t + 1)) now := by
 have hnew : ∀ y ∈ ps, y.1 ≠ x := by
  intro y hy e
  obtain ⟨u, h1, h2, h3, h4, h5⟩ := h.pm y hy
  rw [e, hx] at h1 h4
  have : u = t := by have := h1; simp only at this; omega
  subst this
  simp only at h4
  omega
 have hl := h.lost t
 refine ⟨fun u hu => ?_, fun u y hy => ?_, fun u => ?_, fun y hy => ?_, ?_⟩
 ·rw [upd_ne _ _ (by omega)]
  exact h.qo u hu
 ·by_cases hu : u = t
  ·subst hu
   rw [upd_self] at hy
   rcases List.mem_append.1 hy with hy | hy
   ·obtain ⟨h1, h2, h3⟩ := h.qm u y hy
    exact ⟨h1, List.mem_append_left _ h2, by rw [List.getElem?_append_left (List.getElem?_eq_some_iff.1 h3).1]; exact h3⟩
   ·obtain rfl := List.mem_singleton.1 hy
    exact ⟨by rw [hx], List.mem_append_right _ (List.mem_singleton.2 rfl), by simp⟩
  ·rw [upd_ne _ _ hu] at hy
   obtain ⟨h1, h2, h3⟩ := h.qm u y hy
   exact ⟨h1, List.mem_append_left _ h2, by rw [List.getElem?_append_left (List.getElem?_eq_some_iff.1 h3).1]; exact h3⟩
 ·by_cases hu : u = t
  ·subst hu
   rw [upd_self, List.pairwise_append]
   refine ⟨h.qn u, List.pairwise_singleton _ _, fun a ha b hb => ?_⟩
   obtain rfl := List.mem_singleton.1 hb
   obtain ⟨h1, h2, -⟩ := h.qm u a ha
   obtain ⟨v, g1, -, -, g4, -⟩ := h.pm a h2
   have : v = u := by omega
   subst this
   rw [hx]
   exact g4
  ·rw [upd_ne _ _ hu]
   exact h.qn u
 ·rcases List.mem_append.1 hy with hy | hy
  ·exact hl.pm y hy
  ·obtain rfl := List.mem_singleton.1 hy
   refine ⟨t, by rw [hx], ht, ?_⟩
   rw [upd_self, hx]
   simp only
   omega
 ·rw [List.map_append, List.pairwise_append]
  refine ⟨h.pd, List.pairwise_singleton _ _, fun a ha b hb => ?_⟩
  obtain ⟨y, hy, rfl⟩ := List.mem_map.1 ha
  obtain rfl : b = x := by simpa using hb
  exact hnew y hy
theorem zMZ {ps : List (Jb × Nat)} (h : (ps.map Prod.fst).Pairwise (· ≠ ·)) {x : Jb} {p p' : Nat} (h1 : (x, p) ∈ ps) (h2 : (x, p') ∈ ps) : p = p' := by
 induction ps with
 | nil => cases h1
 | cons y ps ih =>
  rw [List.map_cons, List.pairwise_cons] at h
  rcases List.mem_cons.1 h1 with g1 | g1
  ·rcases List.mem_cons.1 h2 with g2 | g2
   ·rw [<- g1] at g2
    exact (congrArg Prod.snd g2).symm
   ·rw [<- g1] at h
    exact absurd rfl (h.1 x (List.mem_map.2 ⟨(x, p'), g2, rfl⟩))
  ·rcases List.mem_cons.1 h2 with g2 | g2
   ·rw [<- g2] at h
    exact absurd rfl (h.1 x (List.mem_map.2 ⟨(x, p), g1, rfl⟩))
   ·exact ih h.2 g1 g2
theorem WI.start (h : WI n q ps ents nx now) {t p : Nat} {x : Jb} {l : List (Jb × Nat)} (hq : q t = (x, p) :: l) (e' : Et) : WI n (upd q t l) (ps.filter fun y => decide (y.1 ≠ x)) (ents.set p e') nx now := by
 have hxm : (x, p) ∈ q t := by rw [hq]; exact List.mem_cons_self
 obtain ⟨x1, x2, x3⟩ := h.qm t (x, p) hxm
 have key : ∀ u y, y ∈ upd q t l u -> y ∈ q u /\ y.1 ≠ x := by
  intro u y hy
  by_cases hu : u = t
  ·subst hu
   rw [upd_self] at hy
   refine ⟨by rw [hq]; exact List.mem_cons_of_mem _ hy, fun e => ?_⟩
   have hn := h.qn u
   rw [hq, List.pairwise_cons] at hn
   have := hn.1 y hy
   rw [e] at this
   exact absurd this (Int.lt_irrefl _)
  ·rw [upd_ne _ _ hu] at hy
   refine ⟨hy, fun e => hu ?_⟩
   have h1 := (h.qm u y hy).1
   rw [e] at h1
   have h2 : x.t = (t : Int) := x1
   omega
 refine ⟨fun u hu => ?_, fun u y hy => ?_, fun u => ?_, fun y hy => h.pm y (List.mem_filter.1 hy).1, ?_⟩
 ·rw [upd_ne]
  ·exact h.qo u hu
  ·rintro rfl
   rw [h.qo u hu] at hq
   cases hq
 ·obtain ⟨h1, h2⟩ := key u y hy
  obtain ⟨g1, g2, g3⟩ := h.qm u y h1
  refine ⟨g1, List.mem_filter.2 ⟨g2, decide_eq_true h2⟩, ?_⟩
  rw [List.getElem?_set_ne]
  ·exact g3
  ·intro e
   apply h2
   have x3' : ents[p]? = some (waitE x) := x3
   rw [<- e, x3'] at g3
   exact (zMY (Option.some.inj g3)).symm
 ·by_cases hu : u = t
  ·subst hu
   rw [upd_self]
   have hn := h.qn u
   rw [hq, List.pairwise_cons] at hn
   exact hn.2
  ·rw [upd_ne _ _ hu]
   exact h.qn u
 ·exact h.pd.sublist (List.Sublist.map _ List.filter_sublist)
end
def EB (K : Int) (e : Et) : Prop := (0 <= e.di /\ e.di <= K) /\ (0 <= e.hi /\ e.hi <= K) /\ (0 <= e.mi /\ e.mi <= K) /\ 0 <= e.wi /\ e.wi <= K
theorem EB.mono {K K' : Int} {e : Et} (h : EB K e) (hK : K <= K') : EB K' e := by
 unfold EB at *
 omega
structure EI (n : Nat) (ents : List Et) (nx : Nat -> Nat) (K : Int) : Prop where
 eb : ∀ (p : Nat) e, ents[p]? = some e -> EB K e
 kb : ∀ (p : Nat) e, ents[p]? = some e -> ∃ t : Nat, e.ta = (t : Int) /\ t < n /\ 0 <= e.jb /\ e.jb < (nx t : Int)
 kd : ∀ (p p' : Nat) e e', ents[p]? = some e -> ents[p']? = some e' -> e.ta = e'.ta -> e.jb = e'.jb -> p = p'
section
variable {n : Nat} {ents : List Et} {nx : Nat -> Nat} {K K' : Int}
theorem EI.mono (h : EI n ents nx K) (hK : K <= K') : EI n ents nx K' := ⟨fun p e he => (h.eb p e he).mono hK, h.kb, h.kd⟩
theorem EI.turn (h : EI n ents nx K) {p : Nat} {e e' : Et} (he : ents[p]? = some e) (hK : K <= K') (h1 : e'.ta = e.ta) (h2 : e'.jb = e.jb) (hb : EB K' e') : EI n (ents.set p e') nx K' := by
 have hp := (List.getElem?_eq_some_iff.1 he).1
 have old : ∀ (r : Nat) y, (ents.set p e')[r]? = some y -> ∃ y', ents[r]? = some y' /\ y.ta = y'.ta /\ y.jb = y'.jb /\ EB K' y := by
  intro r y hy
  by_cases hr : p = r
  ·subst hr
   rw [List.getElem?_set_self hp] at hy
   cases hy
   exact ⟨e, he, h1, h2, hb⟩
  ·rw [List.getElem?_set_ne hr] at hy
   exact ⟨y, hy, rfl, rfl, (h.eb r y hy).mono hK⟩
 refine ⟨fun r y hy => ?_, fun r y hy => ?_, fun r r' y y' hy hy' g1 g2 => ?_⟩
 ·obtain ⟨z, -, -, -, h5⟩ := old r y hy
  exact h5
 ·obtain ⟨z, h3, h4, h5, -⟩ := old r y hy
  rw [h4, h5]
  exact h.kb r z h3
 ·obtain ⟨z, a1, a2, a3, -⟩ := old r y hy
  obtain ⟨z', b1, b2, b3, -⟩ := old r' y' hy'
  exact h.kd r r' z z' a1 b1 (by rw [<- a2, <- b2, g1]) (by rw [<- a3, <- b3, g2])
theorem EI.lost (h : EI n ents nx K) (t : Nat) : EI n ents (upd nx t (nx t + 1)) K := by
 refine ⟨h.eb, fun p e he => ?_, h.kd⟩
 obtain ⟨u, h1, h2, h3, h4⟩ := h.kb p e he
 refine ⟨u, h1, h2, h3, ?_⟩
 by_cases hu : u = t
 ·subst hu
  rw [upd_self]
  omega
 ·rw [upd_ne _ _ hu]
  exact h4
theorem EI.add (h : EI n ents nx K) {t : Nat} (ht : t < n) {now : Int} (hK : 0 <= K) : EI n (ents ++ [waitE ⟨t, nx t, now⟩]) (upd nx t (nx t + 1)) K := by
 have hl := h.lost t
 have old : ∀ (r : Nat) y, (ents ++ [waitE ⟨t, nx t, now⟩])[r]? = some y -> ents[r]? = some y ∨ r = ents.length /\ y = waitE ⟨t, nx t, now⟩ := by
  intro r y hy
  rcases Nat.lt_or_ge r ents.length with hr | hr
  ·rw [List.getElem?_append_left hr] at hy
   exact .inl hy
  ·rw [List.getElem?_append_right hr] at hy
   have hj := (List.getElem?_eq_some_iff.1 hy).1
   simp only [List.length_singleton] at hj
   have hr' : r = ents.length := by omega
   subst hr'
   rw [Nat.sub_self] at hy
   exact .inr ⟨rfl, by simpa using hy.symm⟩
 have new : ∀ (r : Nat) y, ents[r]? = some y -> y.ta = (t : Int) -> y.jb = (nx t : Int) -> False := by
  intro r y hy h1 h2
  obtain ⟨u, g1, g2, g3, g4⟩ := h.kb r y hy
  have : u = t := by omega
  subst this
  omega
 refine ⟨fun r y hy => ?_, fun r y hy => ?_, fun r r' y y' hy hy' g1 g2 => ?_⟩
 ·rcases old r y hy with hy | ⟨-, rfl⟩
  ·exact h.eb r y hy
  ·unfold EB waitE
   simp only
   omega
 ·rcases old r y hy with hy | ⟨-, rfl⟩
  ·exact hl.kb r y hy
  ·refine ⟨t, rfl, ht, ?_⟩
   rw [upd_self]
   simp only [waitE]
   omega
 ·rcases old r y hy with hy | ⟨rfl, rfl⟩
  ·rcases old r' y' hy' with hy' | ⟨rfl, rfl⟩
   ·exact h.kd r r' y y' hy hy' g1 g2
   ·exact (new r y hy (by simpa [waitE] using g1) (by simpa [waitE] using g2)).elim
  ·rcases old r' y' hy' with hy' | ⟨rfl, rfl⟩
   ·exact (new r' y' hy' (by simpa [waitE] using g1.symm) (by simpa [waitE] using g2.symm)).elim
   ·rfl
end
structure KI (c : KC) (s : KS) (K : Int) (B : Nat) (T : Jz -> Et -> Prop) : Prop where
 n0 : 0 <= s.now /\ s.now <= 3000
 si : SI c s.jobs s.fs s.pk s.ents T
 wi : WI c.ts.length s.q s.ps s.ents s.nx s.now
 ei : EI c.ts.length s.ents s.nx K
 nx : ∀ t, s.nx t <= B
 el : s.ents.length <= B
 tr : s.tr.length <= B
structure EvIn (c : KC) (x : Pil.Ev) : Prop where
 k : 1 <= x.k /\ x.k <= 5
 a : 0 <= x.a
 t : x.k = 1 ∨ x.k = 5 -> x.a.toNat < c.ts.length
 l : x.k = 2 ∨ x.k = 3 ∨ x.k = 4 -> x.a.toNat < c.li.length
 n : x.k = 5 -> (1 <= x.b /\ x.b <= 1048576) /\ 1 <= x.c /\ x.c <= 256
def AgI (c : KC) (lo : Int) (ag : List Pil.En) : Prop := ∀ x ∈ ag, lo <= x.e.t /\ x.e.t <= 16777216 /\ EvIn c x.e
structure Stays (s s' : KS) : Prop where
 jobs : s'.jobs = s.jobs
 fs : s'.fs = s.fs
 pk : s'.pk = s.pk
 lkh : s'.lkh = s.lkh
 lkd : s'.lkd = s.lkd
 cg : s'.cg = s.cg
 box : s'.box = s.box
 grp : s'.grp = s.grp
 cnt : s'.cnt = s.cnt
 now : s'.now = s.now
 ents : ∃ l, s'.ents = s.ents ++ l
 tr : ∃ l, s'.tr = s.tr ++ l /\ ∀ r ∈ l, r.k = 1 ∨ r.k = 2
theorem Stays.refl (s : KS) : Stays s s := ⟨rfl, rfl, rfl, rfl, rfl, rfl, rfl, rfl, rfl, rfl, ⟨[], by simp⟩, ⟨[], by simp⟩⟩
theorem Stays.trans {s s1 s2 : KS} (h : Stays s s1) (g : Stays s1 s2) : Stays s s2 := by
 obtain ⟨l1, e1⟩ := h.ents
 obtain ⟨l2, e2⟩ := g.ents
 obtain ⟨t1, f1, a1⟩ := h.tr
 obtain ⟨t2, f2, a2⟩ := g.tr
 refine ⟨g.jobs.trans h.jobs, g.fs.trans h.fs, g.pk.trans h.pk, g.lkh.trans h.lkh, g.lkd.trans h.lkd, g.cg.trans h.cg, g.box.trans h.box, g.grp.trans h.grp, g.cnt.trans h.cnt, g.now.trans h.now, ⟨l1 ++ l2, by rw [e2, e1, List.append_assoc]⟩, ⟨t1 ++ t2, by rw [f2, f1, List.append_assoc], fun r hr => ?_⟩⟩
 rcases List.mem_append.1 hr with hr | hr
 ·exact a1 r hr
 ·exact a2 r hr
section
variable {c : KC} {s : KS} {K : Int} {B : Nat} {T : Jz -> Et -> Prop}
theorem zAV (s : KS) (t : Nat) : Stays s (relF s t) /\ (relF s t).ag = s.ag /\ (relF s t).tn = s.tn := by
 unfold relF
 split
 ·exact ⟨⟨rfl, rfl, rfl, rfl, rfl, rfl, rfl, rfl, rfl, rfl, ⟨_, rfl⟩, ⟨[⟨s.now, 1, t, s.nx t, 0, 0, 0⟩], rfl, fun r hr => by rw [List.mem_singleton.1 hr]; exact .inl rfl⟩⟩, rfl, rfl⟩
 ·exact ⟨⟨rfl, rfl, rfl, rfl, rfl, rfl, rfl, rfl, rfl, rfl, ⟨[], by simp [recF, relN]⟩, ⟨[⟨s.now, 2, t, s.nx t, 0, 7, 0⟩], rfl, fun r hr => by rw [List.mem_singleton.1 hr]; exact .inr rfl⟩⟩, rfl, rfl⟩
theorem zTD {nx : Nat -> Nat} (h : ∀ t, nx t <= B) (t : Nat) : ∀ u, upd nx t (nx t + 1) u <= B + 1 := by
 intro u
 by_cases hu : u = t
 ·subst hu
  rw [upd_self]
  have := h u
  omega
 ·rw [upd_ne _ _ hu]
  have := h u
  omega
theorem KI.rel (h : KI c s K B T) (hK : 0 <= K) {t : Nat} (ht : t < c.ts.length) : KI c (relF s t) K (B + 1) T := by
 have h1 := h.el
 have h2 := h.tr
 unfold relF
 split
 ·refine ⟨h.n0, h.si.more fun p e he _ => ?_, h.wi.add ht rfl h.n0.1, h.ei.add ht hK, zTD h.nx t, ?_, ?_⟩
  ·show (s.ents ++ _)[p]? = some e
   rw [List.getElem?_append_left (List.getElem?_eq_some_iff.1 he).1]
   exact he
  ·show (s.ents ++ [_]).length <= _
   rw [List.length_append, List.length_singleton]
   omega
  ·show (s.tr ++ [_]).length <= _
   rw [List.length_append, List.length_singleton]
   omega
 ·refine ⟨h.n0, h.si, h.wi.lost t, h.ei.lost t, zTD h.nx t, Nat.le_succ_of_le h1, ?_⟩
  show (s.tr ++ [_]).length <= _
  rw [List.length_append, List.length_singleton]
  omega
theorem KI.more (h : KI c s K B T) {B' : Nat} (hB : B <= B') : KI c s K B' T := ⟨h.n0, h.si, h.wi, h.ei, fun t => Nat.le_trans (h.nx t) hB, Nat.le_trans h.el hB, Nat.le_trans h.tr hB⟩
theorem KI.high (h : KI c s K B T) {K' : Int} (hK : K <= K') : KI c s K' B T := ⟨h.n0, h.si, h.wi, h.ei.mono hK, h.nx, h.el, h.tr⟩
theorem KI.relOk (h : KI c s K B T) (hc : CfgOk c) (hB : B <= 1000000) {t : Nat} (ht : t < c.ts.length) : RelOk c s t := by
 have hn := hc.n
 have h0 := h.n0
 refine ⟨ht, Nat.le_trans (h.nx t) hB, fun y hy => ?_, fun y hy e => ?_, by omega, Nat.le_trans h.el (by omega), Nat.le_trans h.tr (by omega), by omega⟩
 ·obtain ⟨u, h1, h2, h3, h4, h5, h6⟩ := h.wi.pm y hy
  have := h.nx u
  unfold Jb.fine
  omega
 ·obtain ⟨u, h1, h2, h3, h4, h5, h6⟩ := h.wi.pm y hy
  rw [e] at h1 h4
  simp only [relJ] at h1 h4
  have : u = t := by omega
  subst this
  omega
theorem KI.evOk (h : KI c s K B T) (hc : CfgOk c) (hB : B <= 1000000) {x : Pil.Ev} (hx : EvIn c x) (ht : 0 <= x.t /\ x.t <= 16777216) : EvOk c s x := by
 refine ⟨hx.k, hx.a, fun hk => h.relOk hc hB (hx.t hk), fun hk => ?_, fun hk => ?_⟩
 ·obtain ⟨z, hz⟩ : ∃ z, c.li[x.a.toNat]? = some z := ⟨_, List.getElem?_eq_getElem (hx.l hk)⟩
  obtain ⟨t, rfl, h1⟩ := hc.li _ z hz
  exact ⟨t, hz, h.relOk hc hB h1⟩
 ·obtain ⟨h1, h2⟩ := hx.n hk
  omega
theorem KI.meet (h : KI c s K B T) (hK : 0 <= K) (hc : CfgOk c) {x : Pil.Ev} (hx : EvIn c x) : KI c (meetF c s x) K (B + 1) T := by
 have hli : x.k = 2 ∨ x.k = 3 ∨ x.k = 4 -> (c.li.getD x.a.toNat 0).toNat < c.ts.length := by
  intro hk
  obtain ⟨z, hz⟩ : ∃ z, c.li[x.a.toNat]? = some z := ⟨_, List.getElem?_eq_getElem (hx.l hk)⟩
  obtain ⟨t, rfl, h1⟩ := hc.li _ z hz
  rw [List.getD_eq_getElem?_getD, hz]
  simpa using h1
 unfold meetF
 split
 ·rename_i hk
  exact h.rel hK (hx.t (.inl hk))
 ·split
  ·rename_i hk
   unfold raiseF
   split
   ·exact ⟨h.n0, h.si, h.wi, h.ei, fun t => Nat.le_succ_of_le (h.nx t), Nat.le_succ_of_le h.el, Nat.le_succ_of_le h.tr⟩
   ·exact KI.rel (s := { s with lnl := upd s.lnl x.a.toNat false }) ⟨h.n0, h.si, h.wi, h.ei, h.nx, h.el, h.tr⟩ hK (hli (.inl hk))
  ·split
   ·exact ⟨h.n0, h.si, h.wi, h.ei, fun t => Nat.le_succ_of_le (h.nx t), Nat.le_succ_of_le h.el, Nat.le_succ_of_le h.tr⟩
   ·split
    ·rename_i hk
     unfold openF
     split
     ·exact KI.rel (s := { s with lnm := upd s.lnm x.a.toNat false, lnl := upd s.lnl x.a.toNat false }) ⟨h.n0, h.si, h.wi, h.ei, h.nx, h.el, h.tr⟩ hK (hli (.inr (.inr hk)))
     ·exact ⟨h.n0, h.si, h.wi, h.ei, fun t => Nat.le_succ_of_le (h.nx t), Nat.le_succ_of_le h.el, Nat.le_succ_of_le h.tr⟩
    ·split
     ·rename_i hk
      have hr := h.rel hK (hx.t (.inr hk))
      unfold timeF
      split
      ·exact ⟨hr.n0, hr.si, hr.wi, hr.ei, hr.nx, hr.el, hr.tr⟩
      ·exact hr
     ·exact h.more (Nat.le_succ B)
theorem zKW (c : KC) (s : KS) (x : Pil.Ev) : Stays s (meetF c s x) := by
 unfold meetF
 split
 ·exact (zAV s _).1
 ·split
  ·unfold raiseF
   split
   ·exact ⟨rfl, rfl, rfl, rfl, rfl, rfl, rfl, rfl, rfl, rfl, ⟨[], by simp⟩, ⟨[], by simp⟩⟩
   ·exact Stays.trans (s1 := { s with lnl := upd s.lnl x.a.toNat false }) ⟨rfl, rfl, rfl, rfl, rfl, rfl, rfl, rfl, rfl, rfl, ⟨[], by simp⟩, ⟨[], by simp⟩⟩ (zAV _ _).1
  ·split
   ·exact ⟨rfl, rfl, rfl, rfl, rfl, rfl, rfl, rfl, rfl, rfl, ⟨[], by simp [maskF]⟩, ⟨[], by simp [maskF]⟩⟩
   ·split
    ·unfold openF
     split
     ·exact Stays.trans (s1 := { s with lnm := upd s.lnm x.a.toNat false, lnl := upd s.lnl x.a.toNat false }) ⟨rfl, rfl, rfl, rfl, rfl, rfl, rfl, rfl, rfl, rfl, ⟨[], by simp⟩, ⟨[], by simp⟩⟩ (zAV _ _).1
     ·exact ⟨rfl, rfl, rfl, rfl, rfl, rfl, rfl, rfl, rfl, rfl, ⟨[], by simp⟩, ⟨[], by simp⟩⟩
    ·split
     ·unfold timeF
      split
      ·exact (zAV s _).1.trans ⟨rfl, rfl, rfl, rfl, rfl, rfl, rfl, rfl, rfl, rfl, ⟨[], by simp [putF]⟩, ⟨[], by simp [putF]⟩⟩
      ·exact (zAV s _).1
     ·exact Stays.refl s
theorem zRY {lo : Int} {x : Pil.Ev} (hx : EvIn c x) (hA : AgI c lo s.ag) (ht : x.t <= 3000) (hlo : lo <= x.t + 1) : AgI c lo (meetF c s x).ag /\ (meetF c s x).ag.length <= s.ag.length + 1 /\ (meetF c s x).tn <= s.tn + 1 := by
 have same : ∀ s1 : KS, s1.ag = s.ag -> s1.tn = s.tn -> AgI c lo s1.ag /\ s1.ag.length <= s.ag.length + 1 /\ s1.tn <= s.tn + 1 := fun s1 h1 h2 => by
  rw [h1, h2]
  exact ⟨hA, Nat.le_succ _, Nat.le_succ _⟩
 unfold meetF
 split
 ·exact same _ (zAV s _).2.1 (zAV s _).2.2
 ·split
  ·unfold raiseF
   split
   ·exact same _ rfl rfl
   ·exact same _ (zAV _ _).2.1 (zAV _ _).2.2
  ·split
   ·exact same _ rfl rfl
   ·split
    ·unfold openF
     split
     ·exact same _ (zAV _ _).2.1 (zAV _ _).2.2
     ·exact same _ rfl rfl
    ·split
     ·rename_i hk
      unfold timeF
      split
      ·rename_i hc
       obtain ⟨hb, hcc⟩ := hx.n hk
       refine ⟨fun y hy => ?_, ?_, ?_⟩
       ·have hy' : y ∈ (relF s x.a.toNat).ag ++ [⟨{ x with t := x.t + x.b, c := x.c - 1 }, (relF s x.a.toNat).tn⟩] := hy
        rw [(zAV s _).2.1] at hy'
        rcases List.mem_append.1 hy' with hy' | hy'
        ·exact hA y hy'
        ·rw [List.mem_singleton.1 hy']
         refine ⟨by show lo <= x.t + x.b; omega, by show x.t + x.b <= _; omega, hx.k, hx.a, hx.t, hx.l, fun _ => ⟨hb, ?_⟩⟩
         show 1 <= x.c - 1 /\ x.c - 1 <= 256
         omega
       ·show ((relF s x.a.toNat).ag ++ [_]).length <= _
        rw [(zAV s _).2.1, List.length_append, List.length_singleton]
        exact Nat.le_refl _
       ·show (relF s x.a.toNat).tn + 1 <= _
        rw [(zAV s _).2.2]
        exact Nat.le_refl _
      ·exact same _ (zAV s _).2.1 (zAV s _).2.2
     ·exact same _ rfl rfl
structure Due (c : KC) (s s' : KS) (K : Int) (B i : Nat) : Prop where
 ki : KI c s' K (B + i) Lo
 st : Stays s s'
 ag : AgI c (s.now + 1) s'.ag
 al : s'.ag.length + (tak s.now s.ag).1.length <= s.ag.length + i
 tn : s'.tn <= s.tn + i
theorem zIX (a : Int) (rs : List Pil.En) : (tak a rs).1.length + (tak a rs).2.length = rs.length := (zDX a rs.length rs).len.symm
theorem zIY (h : KI c s K B Lo) (hK : 0 <= K) (hc : CfgOk c) (hA : AgI c s.now s.ag) : ∀ i, i <= (tak s.now s.ag).1.length -> Due c s (meets c s (tak s.now s.ag).2 (tak s.now s.ag).1 i) K B i
 | 0, _ => by
  refine ⟨⟨h.n0, h.si, h.wi, h.ei, h.nx, h.el, h.tr⟩, ⟨rfl, rfl, rfl, rfl, rfl, rfl, rfl, rfl, rfl, rfl, ⟨[], by simp [meets]⟩, ⟨[], by simp [meets]⟩⟩, fun x hx => ?_, ?_, Nat.le_refl _⟩
  ·have hx' : x ∈ (tak s.now s.ag).2 := hx
   obtain ⟨h1, h2, h3⟩ := hA x (zJP _ _ _ x hx')
   have := zEZ s.now s.ag.length s.ag (Nat.le_refl _) x hx'
   exact ⟨by omega, h2, h3⟩
  ·show (tak s.now s.ag).2.length + _ <= _
   have := zIX s.now s.ag
   omega
 | i + 1, hi => by
  have hd := zIY h hK hc hA i (by omega)
  obtain ⟨x, hx⟩ : ∃ x, (tak s.now s.ag).1[i]? = some x := ⟨_, List.getElem?_eq_getElem (by omega)⟩
  rw [zFK c s _ hx]
  obtain ⟨y, h1, rfl, h2⟩ := zGJ s.now s.ag.length s.ag x (List.mem_of_getElem? hx)
  obtain ⟨h3, h4, h5⟩ := hA y h1
  have h0 := h.n0
  obtain ⟨g1, g2, g3⟩ := zRY (s := meets c s (tak s.now s.ag).2 (tak s.now s.ag).1 i) h5 hd.ag (by omega) (by omega)
  have := hd.al
  have := hd.tn
  exact ⟨hd.ki.meet hK hc h5, hd.st.trans (zKW c _ _), g1, by omega, by omega⟩
theorem zPG (hA : AgI c s.now s.ag) {i : Nat} {x : Pil.Ev} (hx : (tak s.now s.ag).1[i]? = some x) : EvIn c x /\ x.t = s.now := by
 obtain ⟨y, h1, rfl, h2⟩ := zGJ s.now s.ag.length s.ag x (List.mem_of_getElem? hx)
 obtain ⟨h3, h4, h5⟩ := hA y h1
 exact ⟨h5, by omega⟩
end
section
variable {c : KC} {s : KS} {K : Int} {B : Nat} {T : Jz -> Et -> Prop}
theorem zCN (h : s.jobs = []) : topU s = none := by unfold topU; rw [h]; rfl
theorem KI.top (h : KI c s K B T) {i : Nat} (hl : s.jobs.length = i + 1) : ∃ x f t tv e, topU s = some (i, x, e) /\ s.jobs[i]? = some x /\ s.fs[i]? = some f /\ i <= c.P t /\ JOk c s.ents T x f t tv e := by
 obtain ⟨x, hx⟩ : ∃ x, s.jobs[i]? = some x := ⟨_, List.getElem?_eq_getElem (by omega)⟩
 obtain ⟨f, t, tv, e, h1, h2, h3⟩ := h.si.top i x hx hl.symm
 refine ⟨x, f, t, tv, e, ?_, hx, h1, h2, h3⟩
 unfold topU
 rw [hl, Nat.add_sub_cancel, hx]
 dsimp only
 rw [h3.en]
theorem KI.res (h : KI c s K B T) {i : Nat} {x : Bj} (e : Et) (hl : s.jobs.length = i + 1) (hx : s.jobs[i]? = some x) : KI c (resF s i x e) K (B + 1) T := by
 unfold resF
 split
 ·refine ⟨h.n0, h.si.turn (x' := { x with cov := false }) hl.symm hx rfl (fun _ _ => rfl) ?_, h.wi, h.ei, fun t => Nat.le_succ_of_le (h.nx t), Nat.le_succ_of_le h.el, ?_⟩
  ·obtain ⟨f, t, tv, e, h1, h2, h3⟩ := h.si.top i x hx hl.symm
   exact ⟨f, t, tv, e, h1, h2, h3.ts, h3.en, h3.ta, h3.ok, h3.st, h3.ed, h3.wi, h3.un, h3.ar, h3.who, h3.size, h3.base, h3.T⟩
  ·have := h.tr
   show (s.tr ++ [_]).length <= _
   rw [List.length_append, List.length_singleton]
   omega
 ·exact h.more (Nat.le_succ B)
def T2 : Bool -> Jz -> Et -> Prop
 | true, j, _ => overB j = false /\ j.armed = true /\ 0 < j.left
 | false, j, e => Lo j e
theorem KI.held (h : KI c s K B Lo) {i : Nat} {x : Bj} {e : Et} (hl : s.jobs.length = i + 1) (hx : s.jobs[i]? = some x) (hw : whB x.j = true) : KI c (heldS s (some (i, x, e))) K (B + 1) (T2 true) := by
 have h1 : KI c { s with jobs := s.jobs.set i { x with j := { x.j with armed := true } } } K B (T2 true) := by
  refine ⟨h.n0, h.si.turn (x' := { x with j := { x.j with armed := true } }) hl.symm hx rfl (fun _ _ => rfl) ?_, h.wi, h.ei, h.nx, h.el, h.tr⟩
  obtain ⟨f, t, tv, e, h1, h2, h3⟩ := h.si.top i x hx hl.symm
  unfold whB at hw
  rw [Bool.and_eq_true, Bool.not_eq_true', decide_eq_true_eq] at hw
  have hk := h3.ok
  refine ⟨f, t, tv, e, h1, h2, h3.ts, h3.en, h3.ta, ⟨hk.r, hk.l, hk.n, hk.u⟩, h3.st, h3.ed, h3.wi, (fun q => by cases q), fun _ => ?_, h3.who, h3.size, h3.base, hw.1, rfl, ?_⟩
  ·show e.wi + x.j.left <= tv.fl
   cases ha : x.j.armed with
   | true => exact h3.ar ha
   | false =>
    have := h3.un ha
    omega
  ·show 0 < x.j.left
   have := hk.l.1
   have := hw.2
   omega
 exact h1.res e (by show (s.jobs.set i _).length = _; rw [List.length_set]; exact hl) (List.getElem?_set_self (by omega))
theorem KI.cov (h : KI c s K B Lo) {i : Nat} {x : Bj} {e : Et} (hl : s.jobs.length = i + 1) (hx : s.jobs[i]? = some x) (he : s.ents[x.p]? = some e) (hst : 0 <= e.st) : KI c (covS s (some (i, x, e))) (K + 1) (B + 1) Lo := by
 have hp := (List.getElem?_eq_some_iff.1 he).1
 refine ⟨h.n0, h.si.turn (x' := { x with cov := true }) (ents' := s.ents.set x.p { e with di := e.di + 1 }) hl.symm hx rfl (fun p hpp => List.getElem?_set_ne (fun e => hpp e.symm)) ?_, h.wi.turn he hst, h.ei.turn he (by omega) rfl rfl ?_, fun t => Nat.le_succ_of_le (h.nx t), ?_, ?_⟩
 ·obtain ⟨f, t, tv, e', h1, h2, h3⟩ := h.si.top i x hx hl.symm
  obtain rfl : e = e' := by have := h3.en; rw [he] at this; exact Option.some.inj this
  exact ⟨f, t, tv, { e with di := e.di + 1 }, h1, h2, h3.ts, List.getElem?_set_self hp, h3.ta, h3.ok, h3.st, h3.ed, h3.wi, h3.un, h3.ar, h3.who, h3.size, h3.base, h3.T⟩
 ·have := h.ei.eb _ _ he
  unfold EB at *
  dsimp only
  omega
 ·show (s.ents.set _ _).length <= _
  rw [List.length_set]
  exact Nat.le_succ_of_le h.el
 ·have := h.tr
  show (s.tr ++ [_]).length <= _
  rw [List.length_append, List.length_singleton]
  omega
theorem zGK (base : Int) (z : Nat -> Int) (p : Nat -> Bool) : ∀ n, base <= Lck.lev base z p n
 | 0 => Int.le_refl _
 | n + 1 => by
  have := zGK base z p n
  unfold Lck.lev
  split <;> omega
theorem KI.above (h : KI c s K B T) (hc : CfgOk c) {t p : Nat} {x : Jb} {l : List (Jb × Nat)} (ht : t < c.ts.length) (hd : dispB c s (topU s) (some (t, x, p, l)) = true) : s.jobs.length <= c.P t := by
 have hd' : levU c s (topU s) < (c.P t : Int) := of_decide_eq_true hd
 rcases Nat.eq_zero_or_pos s.jobs.length with h0 | h0
 ·omega
 ·obtain ⟨i, hi⟩ : ∃ i, s.jobs.length = i + 1 := ⟨s.jobs.length - 1, by omega⟩
  obtain ⟨y, f, u, tv, e, h1, h2, h3, h4, h5⟩ := h.top hi
  rw [h1] at hd'
  have hP := (hc.t u tv _ h5.ts).p
  obtain ⟨tv2, ops2, hts⟩ : ∃ tv2 ops2, c.ts[t]? = some (tv2, ops2) := ⟨_, _, List.getElem?_eq_getElem ht⟩
  have hP2 := (hc.t t tv2 _ hts).p.2.1
  have hlev : levF c s tv y < (c.P t : Int) := by
   unfold levU at hd'
   dsimp only at hd'
   rw [h5.ta, Int.toNat_natCast, h5.ts] at hd'
   exact hd'
  unfold levF at hlev
  split at hlev
  ·omega
  ·have := zGK tv.th c.ceil (Lck.mine s.lkh s.lkd y.p) c.nl
   omega
theorem KI.start (h : KI c s K B Lo) (hc : CfgOk c) {t p : Nat} {x : Jb} {l : List (Jb × Nat)} {tv : TaskV} {ops : List Opn} (hq : s.q t = (x, p) :: l) (hts : c.ts[t]? = some (tv, ops)) (hP : s.jobs.length <= c.P t) : KI c (startF c s t p x l tv ops (waitE x)) K (B + 1) Lo := by
 obtain ⟨x1, x2, x3⟩ := h.wi.qm t (x, p) (by rw [hq]; exact List.mem_cons_self)
 have x3' : s.ents[p]? = some (waitE x) := x3
 have hp := (List.getElem?_eq_some_iff.1 x3').1
 have hk := hc.t t tv ops hts
 have hfl := hk.fl
 refine ⟨h.n0, h.si.push (x := ⟨newJ tv ops, p, false⟩) (f := ⟨(p : Int), deep s.fs, tv.fr⟩) (fun r hr => List.getElem?_set_ne (fun e => hr e.symm)) (fun y hy e => ?_) ?_ rfl hk.fr ?_, h.wi.start hq _, h.ei.turn (e := waitE x) x3' (Int.le_refl _) rfl rfl (h.ei.eb p (waitE x) x3'), fun t => Nat.le_succ_of_le (h.nx t), ?_, ?_⟩
 ·obtain ⟨i, hi⟩ := List.mem_iff_getElem?.1 hy
  obtain ⟨f, t, tv, e0, h1, h2, h3⟩ := h.si.any hi
  have h4 := h3.en
  have h5 := h3.st
  rw [show y.p = p from e, x3'] at h4
  rw [<- Option.some.inj h4] at h5
  simp [waitE] at h5
 ·refine ⟨⟨(p : Int), deep s.fs, tv.fr⟩, t, tv, _, ?_, hP, hts, List.getElem?_set_self hp, x1, zL7 hk.ol.2 (by omega), h.n0.1, rfl, Int.le_refl _, fun _ => ⟨?_, rfl⟩, (fun q => by cases q), rfl, rfl, rfl, ?_, (fun q => by cases q)⟩
  ·rw [<- h.si.len, List.getElem?_append_right (Nat.le_refl _), Nat.sub_self]
   rfl
  ·show max tv.fl 0 = tv.fl
   omega
  ·show (decide ((0 : Int) = 0) && (false || decide (ops.length <= 0))) = false
   have := hk.ol.1
   rw [decide_eq_false (by omega : ¬ ops.length <= 0)]
   rfl
 ·show s.pk <= max s.pk (deep s.fs + tv.fr) /\ deep s.fs + tv.fr <= max s.pk (deep s.fs + tv.fr)
  omega
 ·show (s.ents.set _ _).length <= _
  rw [List.length_set]
  exact Nat.le_succ_of_le h.el
 ·have := h.tr
  show (s.tr ++ [_]).length <= _
  rw [List.length_append, List.length_singleton]
  omega
end
section
variable {c : KC} {s : KS} {K : Int} {B : Nat} {T : Jz -> Et -> Prop}
theorem zHR (s : KS) (i : Nat) (x : Bj) (e : Et) : (resF s i x e).now = s.now /\ (resF s i x e).ag = s.ag /\ (resF s i x e).tn = s.tn /\ (resF s i x e).jobs.length = s.jobs.length := by
 unfold resF
 split
 ·exact ⟨rfl, rfl, rfl, List.length_set⟩
 ·exact ⟨rfl, rfl, rfl, rfl⟩
structure NewOk (c : KC) (s : KS) (t p : Nat) (x : Jb) (l : List (Jb × Nat)) (tv : TaskV) (ops : List Opn) : Prop where
 lt : t < c.ts.length
 q : s.q t = (x, p) :: l
 top : IsTop c.ts.length c.P (qj s) t
 ts : c.ts[t]? = some (tv, ops)
 e : (covS s (topU s)).ents[p]? = some (waitE x)
 new : newS c s (topU s) (some (t, x, p, l)) = startF c (covS s (topU s)) t p x l tv ops (waitE x)
theorem KI.newOk (h : KI c s K B Lo) {t p : Nat} {x : Jb} {l : List (Jb × Nat)} (hf : topQ c s = some (t, x, p, l)) : ∃ tv ops, NewOk c s t p x l tv ops := by
 have hF := zIW c s
 rw [hf] at hF
 obtain ⟨hT, hq⟩ := hF
 obtain ⟨⟨tv, ops⟩, hts⟩ : ∃ y, c.ts[t]? = some y := ⟨_, List.getElem?_eq_getElem hT.1⟩
 obtain ⟨x1, x2, x3⟩ := h.wi.qm t (x, p) (by rw [hq]; exact List.mem_cons_self)
 have x3' : s.ents[p]? = some (waitE x) := x3
 have he : (covS s (topU s)).ents[p]? = some (waitE x) := by
  rcases Nat.eq_zero_or_pos s.jobs.length with h0 | h0
  ·rw [zCN (List.eq_nil_of_length_eq_zero h0)]
   exact x3'
  ·obtain ⟨i, hi⟩ : ∃ i, s.jobs.length = i + 1 := ⟨s.jobs.length - 1, by omega⟩
   obtain ⟨y, f, u, tv, e, h1, h2, h3, h4, h5⟩ := h.top hi
   rw [h1]
   show (s.ents.set y.p _)[p]? = _
   rw [List.getElem?_set_ne]
   ·exact x3'
   ·intro e1
    have h6 := h5.en
    have h7 := h5.st
    rw [e1, x3'] at h6
    rw [<- Option.some.inj h6] at h7
    simp [waitE] at h7
 refine ⟨tv, ops, hT.1, hq, hT, hts, he, ?_⟩
 unfold newS
 dsimp only
 rw [hts, he]
theorem KI.new (h : KI c s K B Lo) (hc : CfgOk c) {t p : Nat} {x : Jb} {l : List (Jb × Nat)} (hf : topQ c s = some (t, x, p, l)) (hd : dispB c s (topU s) (some (t, x, p, l)) = true) : KI c (newS c s (topU s) (some (t, x, p, l))) (K + 1) (B + 2) Lo := by
 obtain ⟨tv, ops, hN⟩ := h.newOk hf
 rw [hN.new]
 have hP := h.above hc hN.lt hd
 rcases Nat.eq_zero_or_pos s.jobs.length with h0 | h0
 ·rw [zCN (List.eq_nil_of_length_eq_zero h0)]
  exact ((h.start hc hN.q hN.ts hP).high (by omega)).more (Nat.le_succ _)
 ·obtain ⟨i, hi⟩ : ∃ i, s.jobs.length = i + 1 := ⟨s.jobs.length - 1, by omega⟩
  obtain ⟨y, f, u, tv2, e, h1, h2, h3, h4, h5⟩ := h.top hi
  rw [h1]
  refine (h.cov hi h2 h5.en h5.st).start hc hN.q hN.ts ?_
  show (s.jobs.set i _).length <= _
  rw [List.length_set]
  exact hP
structure Chosen (c : KC) (s s' : KS) (wh : Bool) (K : Int) (B : Nat) : Prop where
 ki : KI c s' (K + 1) (B + 2) (T2 wh)
 now : s'.now = s.now
 ag : s'.ag = s.ag
 tn : s'.tn = s.tn
 wh : wh = true -> s'.jobs ≠ []
theorem KI.choose (h : KI c s K B Lo) (hc : CfgOk c) : Chosen c s (chF c s).1 (chF c s).2 K B := by
 unfold chF
 by_cases hd : dispB c s (topU s) (topQ c s) = true
 ·rw [if_pos hd]
  by_cases hw : whU (topU s) = true
  ·rw [if_pos hw]
   rcases Nat.eq_zero_or_pos s.jobs.length with h0 | h0
   ·rw [zCN (List.eq_nil_of_length_eq_zero h0)] at hw
    cases hw
   ·obtain ⟨i, hi⟩ : ∃ i, s.jobs.length = i + 1 := ⟨s.jobs.length - 1, by omega⟩
    obtain ⟨y, f, u, tv2, e, h1, h2, h3, h4, h5⟩ := h.top hi
    rw [h1] at hw ⊢
    have hk := h.held (e := e) hi h2 hw
    obtain ⟨q1, q2, q3, q4⟩ := zHR { s with jobs := s.jobs.set i { y with j := { y.j with armed := true } } } i { y with j := { y.j with armed := true } } e
    refine ⟨(hk.high (by omega)).more (Nat.le_succ _), q1, q2, q3, fun _ e0 => ?_⟩
    have := q4
    rw [show (resF _ _ _ _).jobs = [] from e0] at this
    have h9 : (s.jobs.set i { y with j := { y.j with armed := true } }).length = 0 := this.symm
    rw [List.length_set] at h9
    omega
  ·rw [if_neg hw]
   obtain ⟨⟨t, x, p, l⟩, hf⟩ : ∃ y, topQ c s = some y := by
    cases hq : topQ c s with
    | none => rw [hq] at hd; cases hd
    | some y => exact ⟨y, rfl⟩
   rw [hf] at hd ⊢
   obtain ⟨tv, ops, hN⟩ := h.newOk hf
   have hk := h.new hc hf hd
   rw [hN.new] at hk ⊢
   refine ⟨hk, ?_, ?_, ?_, (fun e => by cases e)⟩
   ·show (covS s (topU s)).now = _
    exact (zEX _).2.2.2.1
   ·show (covS s (topU s)).ag = _
    cases topU s <;> rfl
   ·show (covS s (topU s)).tn = _
    cases topU s <;> rfl
 ·rw [if_neg hd]
  rcases Nat.eq_zero_or_pos s.jobs.length with h0 | h0
  ·rw [zCN (List.eq_nil_of_length_eq_zero h0)]
   exact ⟨(h.high (by omega)).more (by omega), rfl, rfl, rfl, (fun e => by cases e)⟩
  ·obtain ⟨i, hi⟩ : ∃ i, s.jobs.length = i + 1 := ⟨s.jobs.length - 1, by omega⟩
   obtain ⟨y, f, u, tv2, e, h1, h2, h3, h4, h5⟩ := h.top hi
   rw [h1]
   obtain ⟨q1, q2, q3, q4⟩ := zHR s i y e
   exact ⟨((h.res e hi h2).high (by omega)).more (Nat.le_succ _), q1, q2, q3, (fun e => by cases e)⟩
end
end Krn
end Go.Proofs.YtkggimgechhjnaaGreatDoor
