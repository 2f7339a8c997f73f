/- A configuration in new memory: twin.Config; tasks' numbers set in it. -/
import Derived.Test.YtlbinlhaejhobaaGreatDoorTw1
import Derived.Test.YtlbinlhaejhobaaGreatDoorAs1
namespace Go.Proofs.YtlbinlhaejhobaaGreatDoor
namespace Twn
open Go Go.RowKit Krn Asn Pre

/-- Tasks of the call's own, with numbers that f tells. -/
structure TwAt (w : World) (f : Nat → TaskV → TaskV) (pl us : Tks) (v : Value) (tb : Option Nat) (tp : List (Option Nat)) (W : World) : Prop where
  len : us.length = pl.length
  same : ∀ (i : Nat) t l, pl[i]? = some (t, l) → ∃ o, us[i]? = some ({ f i t with o := o }, l)
  win : Win W 49 7 v tb pl.length (rowC tkV us)
  tpl : tp.length = pl.length
  own : ∀ (i : Nat) t l o, us[i]? = some (t, l) → tp[i]? = some o → Win W 90 3 t.o.val o l.length (jopCells l) ∧ l.length = t.o.n
  fb : ∀ g, tb = some g → w.heap.size ≤ g
  fp : ∀ g, some g ∈ tp → w.heap.size ≤ g ∧ some g ≠ tb
  only : Only (fun _ => False) w W
theorem TkRel.tw {w W : World} {pl us : Tks} {v : Value} {tb : Option Nat} {tp : List (Option Nat)} (h : TkRel w pl v tb pl.length us tp W) : TwAt w (fun _ t => t) pl us v tb tp W :=
  ⟨h.len, fun i t l hi => by obtain ⟨o, ho, -⟩ := h.same i t l hi; exact ⟨o, ho⟩, h.win, h.tpl, h.own, h.fb, h.fp, h.only⟩
theorem TwAt.new {w W W' : World} {f : Nat → TaskV → TaskV} {pl us : Tks} {v : Value} {tb : Option Nat} {tp : List (Option Nat)} (h : TwAt w f pl us v tb tp W) (ho : Only (fun _ => False) W W') : TwAt w f pl us v tb tp W' :=
  ⟨h.len, h.same, h.win.kept ho (fun _ _ h => h), h.tpl, fun i t l o hi ho' => ⟨(h.own i t l o hi ho').1.kept ho (fun _ _ h => h), (h.own i t l o hi ho').2⟩, h.fb, h.fp, h.only.trans' ho⟩
theorem TwAt.congr {w W : World} {f g : Nat → TaskV → TaskV} {pl us : Tks} {v : Value} {tb : Option Nat} {tp : List (Option Nat)} (h : TwAt w f pl us v tb tp W) (hf : ∀ i t, i < pl.length → f i t = g i t) : TwAt w g pl us v tb tp W :=
  ⟨h.len, fun i t l hi => by rw [← hf i t (List.getElem?_eq_some_iff.1 hi).1]; exact h.same i t l hi, h.win, h.tpl, h.own, h.fb, h.fp, h.only⟩
/-- With blocks that were made ahead. -/
theorem TwAt.from {w0 w W : World} {f : Nat → TaskV → TaskV} {pl us : Tks} {v : Value} {tb : Option Nat} {tp : List (Option Nat)} (h : TwAt w f pl us v tb tp W) (ho : Only (fun _ => False) w0 w) : TwAt w0 f pl us v tb tp W :=
  ⟨h.len, h.same, h.win, h.tpl, h.own, fun g hg => Nat.le_trans ho.size (h.fb g hg), fun g hg => ⟨Nat.le_trans ho.size (h.fp g hg).1, (h.fp g hg).2⟩, ho.trans' h.only⟩
/-- Kept by what changes blocks of its own alone. -/
theorem TwAt.kept {w W W' : World} {S : Nat → Prop} {f : Nat → TaskV → TaskV} {pl us : Tks} {v : Value} {tb : Option Nat} {tp : List (Option Nat)} (h : TwAt w f pl us v tb tp W) (ho : Only S W W') (h1 : ∀ g, tb = some g → ¬ S g) (h2 : ∀ g, some g ∈ tp → ¬ S g) (h3 : ∀ k, S k → w.heap.size ≤ k) : TwAt w f pl us v tb tp W' :=
  ⟨h.len, h.same, h.win.kept ho h1, h.tpl, fun i t l o hi ho' => ⟨(h.own i t l o hi ho').1.kept ho (fun k hk => h2 k (by rw [← hk]; exact List.mem_of_getElem? ho')), (h.own i t l o hi ho').2⟩, h.fb, h.fp, h.only.trans ho (fun k hk hs => by have := h3 k hs; omega)⟩
/-- One number of one task set. -/
theorem TwAt.put {w W : World} {f : Nat → TaskV → TaskV} {pl us : Tks} {g off n cap k j : Nat} {tp : List (Option Nat)} (h : TwAt w f pl us (.slice (some ⟨g, off, none⟩) n cap) (some g) tp W) (hn : n = pl.length) (hk : k < pl.length) (m : TaskV → TaskV) (u : Value) (hj : j < 7)
    (hm : ∀ t l, tkV (m t, l) = (tkV (t, l)).set j u) (hmo : ∀ t o, m { t with o := o } = { m t with o := o }) (hmo2 : ∀ t, (m t).o = t.o) :
    ∃ us', TwAt w (fun i t => if i = k then m (f i t) else f i t) pl us' (.slice (some ⟨g, off, none⟩) n cap) (some g) tp (W.setCell ⟨g, off + k * 7 + j, none⟩ u) := by
  subst hn
  obtain ⟨⟨t, l⟩, hx⟩ : ∃ x, pl[k]? = some x := ⟨_, List.getElem?_eq_getElem hk⟩
  obtain ⟨o, ho⟩ := h.same k t l hx
  have hku : k < us.length := by rw [h.len]; exact hk
  have hO9 : Only (fun x => x = g) W (W.setCell ⟨g, off + k * 7 + j, none⟩ u) := (Only.refl (fun x => x = g) W).setCell (p := ⟨g, off + k * 7 + j, none⟩) (fun _ => rfl) _
  have hne : ∀ y, some y ∈ tp → y ≠ g := fun y hy e => (h.fp y hy).2 (by rw [e])
  refine ⟨us.set k (m { f k t with o := o }, l), ?_, fun i t1 l1 hi => ?_, ?_, h.tpl, fun i t1 l1 o1 hi ho1 => ?_, h.fb, h.fp, ?_⟩
  · rw [List.length_set]; exact h.len
  · by_cases e : i = k
    · subst e
      rw [hx] at hi
      cases hi
      rw [if_pos rfl]
      exact ⟨o, by rw [List.getElem?_set_self hku, hmo]⟩
    · rw [if_neg e]
      obtain ⟨o2, q1⟩ := h.same i t1 l1 hi
      exact ⟨o2, by rw [List.getElem?_set_ne (fun h => e h.symm)]; exact q1⟩
  · have hw0 := h.win
    rw [← h.len] at hw0
    have := win_turn (y := (m { f k t with o := o }, l)) (j := j) (u := u) tkV_len hw0 ho hj (hm _ _)
    rw [List.length_set, h.len] at this
    exact this
  · by_cases e : i = k
    · subst e
      rw [List.getElem?_set_self hku] at hi
      cases hi
      obtain ⟨q1, q2⟩ := h.own i _ l o1 ho ho1
      rw [hmo2]
      exact ⟨q1.kept hO9 (fun y hy => hne y (by rw [← hy]; exact List.mem_of_getElem? ho1)), q2⟩
    · rw [List.getElem?_set_ne (fun h => e h.symm)] at hi
      obtain ⟨q1, q2⟩ := h.own i t1 l1 o1 hi ho1
      exact ⟨q1.kept hO9 (fun y hy => hne y (by rw [← hy]; exact List.mem_of_getElem? ho1)), q2⟩
  · exact h.only.trans hO9 (fun x hx e => by have := h.fb g rfl; omega)
theorem TwAt.keyP {w W : World} {f : Nat → TaskV → TaskV} {pl us : Tks} {v : Value} {tb : Option Nat} {tp : List (Option Nat)} (h : TwAt w f pl us v tb tp W) : keyP us = keyP (chg f pl) := by
  refine List.ext_getElem? (fun i => ?_)
  rw [keyP_at, keyP_at, chg_at]
  cases hp : pl[i]? with
  | none =>
    have : us[i]? = none := by
      rw [List.getElem?_eq_none_iff] at hp ⊢
      rw [h.len]
      exact hp
    rw [this]
    rfl
  | some x =>
    obtain ⟨t, l⟩ := x
    obtain ⟨o, ho⟩ := h.same i t l hp
    rw [ho]
    rfl

def icells (l : List Int) : List Value := l.map (Value.int .i64)
theorem ints_of {W : World} {x : Sl} {l : List Int} {h : Option Nat} (hW : Win W 3 1 x.val h x.n (icells l)) : IntsAt W x l := by
  obtain ⟨A, n, cap⟩ := x
  have hl : l.length = n := by have := hW.1; simpa [icells] using this
  obtain ⟨p, cap', hv, h1, -⟩ := hW.form
  injection hv with e1 e2 e3
  subst e3
  refine ⟨hl, h1, fun k z hz => ?_⟩
  have hk := (List.getElem?_eq_some_iff.1 hz).1
  obtain ⟨g, off, cap2, -, e, -, -, hg, hc, -⟩ := hW.at_ (show 0 < n by omega)
  injection e with e4 e5 e6
  exact ⟨g, off, e4, hg, hc k _ (by unfold icells; rw [List.getElem?_map, hz]; rfl)⟩
theorem ints_src {w : World} {x : Sl} {l : List Int} (h : IntsAt w x l) (h0 : 0 < x.n) : ∃ ad, x.A = some ad ∧ ∀ j u, (icells l)[j]? = some u → w.cell? (ad.add j) = some u := by
  obtain ⟨z, hz⟩ : ∃ z, l[0]? = some z := ⟨_, List.getElem?_eq_getElem (by rw [h.len]; exact h0)⟩
  obtain ⟨b, off, hA, -, -⟩ := h.at_ 0 z hz
  refine ⟨_, hA, fun j u hu => ?_⟩
  unfold icells at hu
  rw [List.getElem?_map] at hu
  cases hj : l[j]? with
  | none => rw [hj] at hu; simp at hu
  | some y =>
    rw [hj] at hu
    obtain rfl : Value.int .i64 y = u := by simpa using hu
    obtain ⟨b', off', hA', -, hc⟩ := h.at_ j y hj
    rw [hA] at hA'
    cases hA'
    rw [Addr.add_lit]
    exact hc
theorem icells_one (l : List Int) : ∀ u ∈ icells l, u.oneCell' = true := by
  intro u hu
  obtain ⟨z, -, rfl⟩ := List.mem_map.1 hu
  rfl
theorem iclone_at {w : World} {x : Sl} {l : List Int} (h : IntsAt w x l) (hn : x.n ≤ 1000000000) : Calls Tryz.prog 90 #[.slice x.A x.n x.cap] w (CloneEnd w 3 1 x.n (icells l)) :=
  iclone_any (by unfold icells; rw [List.length_map, h.len]; omega) (ints_src h) (icells_one l) hn

/-- A configuration of the call's own, its tasks with numbers that f tells. -/
structure CfAt (w : World) (f : Nat → TaskV → TaskV) (c c' : ConfV) (d : ConfL) (pl us : Tks) (tb : Option Nat) (tp : List (Option Nat)) (W : World) : Prop where
  key : keyC c' = keyC c
  mb : ∃ h, Win W 3 1 c'.mb.val h c'.mb.n (icells d.mb)
  cn : ∃ h, Win W 3 1 c'.cn.val h c'.cn.n (icells d.cn)
  ce : ∃ h, Win W 3 1 c'.ce.val h c'.ce.n (icells d.ce)
  li : ∃ h, Win W 3 1 c'.li.val h c'.li.n (icells d.li)
  tw : TwAt w f pl us c'.ta.val tb tp W
theorem CfAt.new {w W W' : World} {f : Nat → TaskV → TaskV} {c c' : ConfV} {d : ConfL} {pl us : Tks} {tb : Option Nat} {tp : List (Option Nat)} (h : CfAt w f c c' d pl us tb tp W) (ho : Only (fun _ => False) W W') : CfAt w f c c' d pl us tb tp W' := by
  obtain ⟨k, ⟨h1, m1⟩, ⟨h2, m2⟩, ⟨h3, m3⟩, ⟨h4, m4⟩, t⟩ := h
  exact ⟨k, ⟨h1, m1.kept ho (fun _ _ h => h)⟩, ⟨h2, m2.kept ho (fun _ _ h => h)⟩, ⟨h3, m3.kept ho (fun _ _ h => h)⟩, ⟨h4, m4.kept ho (fun _ _ h => h)⟩, t.new ho⟩
theorem CfAt.from {w0 w W : World} {f : Nat → TaskV → TaskV} {c c' : ConfV} {d : ConfL} {pl us : Tks} {tb : Option Nat} {tp : List (Option Nat)} (h : CfAt w f c c' d pl us tb tp W) (ho : Only (fun _ => False) w0 w) : CfAt w0 f c c' d pl us tb tp W :=
  ⟨h.key, h.mb, h.cn, h.ce, h.li, h.tw.from ho⟩
theorem CfAt.congr {w W : World} {f g : Nat → TaskV → TaskV} {c c' : ConfV} {d : ConfL} {pl us : Tks} {tb : Option Nat} {tp : List (Option Nat)} (h : CfAt w f c c' d pl us tb tp W) (hf : ∀ i t, i < pl.length → f i t = g i t) : CfAt w g c c' d pl us tb tp W :=
  ⟨h.key, h.mb, h.cn, h.ce, h.li, h.tw.congr hf⟩
theorem key_nums {c c' : ConfV} (h : keyC c' = keyC c) : c'.s = c.s ∧ c'.wy = c.wy ∧ c'.h = c.h ∧ c'.mi = c.mi ∧ c'.g = c.g ∧ c'.mb.n = c.mb.n ∧ c'.cn.n = c.cn.n ∧ c'.ce.n = c.ce.n ∧ c'.ta.n = c.ta.n ∧ c'.li.n = c.li.n := by
  unfold keyC at h
  injection h with h1 h2 h3 h4 h5 h6 h7 h8 h9 h10
  injection h5 with _ h5 _
  injection h7 with _ h7 _
  injection h8 with _ h8 _
  injection h9 with _ h9 _
  injection h10 with _ h10 _
  exact ⟨h1, h2, h3, h4, h6, h5, h7, h8, h9, h10⟩
theorem CfAt.put {w W : World} {f : Nat → TaskV → TaskV} {c c' : ConfV} {d : ConfL} {pl us : Tks} {g off k j : Nat} {tp : List (Option Nat)} (h : CfAt w f c c' d pl us (some g) tp W) (hA : c'.ta.A = some ⟨g, off, none⟩) (hn : c'.ta.n = pl.length) (hk : k < pl.length) (m : TaskV → TaskV) (u : Value) (hj : j < 7)
    (hm : ∀ t l, tkV (m t, l) = (tkV (t, l)).set j u) (hmo : ∀ t o, m { t with o := o } = { m t with o := o }) (hmo2 : ∀ t, (m t).o = t.o) :
    ∃ us', CfAt w (fun i t => if i = k then m (f i t) else f i t) c c' d pl us' (some g) tp (W.setCell ⟨g, off + k * 7 + j, none⟩ u) := by
  obtain ⟨ke, ⟨h1, m1⟩, ⟨h2, m2⟩, ⟨h3, m3⟩, ⟨h4, m4⟩, t⟩ := h
  have e : c'.ta.val = .slice (some ⟨g, off, none⟩) c'.ta.n c'.ta.cap := by unfold Sl.val; rw [hA]
  rw [e] at t
  have hO9 : Only (fun x => x = g) W (W.setCell ⟨g, off + k * 7 + j, none⟩ u) := (Only.refl (fun x => x = g) W).setCell (p := ⟨g, off + k * 7 + j, none⟩) (fun _ => rfl) _
  have ne : ∀ {h : Option Nat} {n : Nat} {v : Value} {xs : List Value}, Win W 3 1 v h n xs → ∀ y, h = some y → ¬ y = g := fun hW y hy e => by
    have := hW.ne t.win (by decide) y hy
    exact this (by rw [e])
  obtain ⟨us', h'⟩ := t.put hn hk m u hj hm hmo hmo2
  exact ⟨us', ke, ⟨h1, m1.kept hO9 (ne m1)⟩, ⟨h2, m2.kept hO9 (ne m2)⟩, ⟨h3, m3.kept hO9 (ne m3)⟩, ⟨h4, m4.kept hO9 (ne m4)⟩, by rw [e]; exact h'⟩
theorem CfAt.len {w W : World} {f : Nat → TaskV → TaskV} {c c' : ConfV} {d : ConfL} {pl us : Tks} {tb : Option Nat} {tp : List (Option Nat)} (h : CfAt w f c c' d pl us tb tp W) : c'.ta.n = pl.length := by
  obtain ⟨p, cap, hv, -, -⟩ := h.tw.win.form
  injection hv
/-- Kept by what changes one block made ahead. -/
theorem CfAt.kept1 {w W W3 : World} {q : Nat} {f : Nat → TaskV → TaskV} {c c' : ConfV} {d : ConfL} {pl us : Tks} {tb : Option Nat} {tp : List (Option Nat)} (h : CfAt w f c c' d pl us tb tp W) (h1 : ∀ (h : Option Nat) (n : Nat) (v : Value) (xs : List Value), Win W 3 1 v h n xs → ∀ k, h = some k → k ≠ q) (h2 : ∀ g, tb = some g → g ≠ q) (h3 : ∀ g, some g ∈ tp → g ≠ q) (h4 : w.heap.size ≤ q) (ho : Only (fun k => k = q) W W3) : CfAt w f c c' d pl us tb tp W3 := by
  obtain ⟨k, ⟨g1, m1⟩, ⟨g2, m2⟩, ⟨g3, m3⟩, ⟨g4, m4⟩, t⟩ := h
  exact ⟨k, ⟨g1, m1.kept ho (h1 _ _ _ _ m1)⟩, ⟨g2, m2.kept ho (h1 _ _ _ _ m2)⟩, ⟨g3, m3.kept ho (h1 _ _ _ _ m3)⟩, ⟨g4, m4.kept ho (h1 _ _ _ _ m4)⟩, t.kept ho h2 h3 (fun k hk => by omega)⟩
/-- It is a configuration. -/
theorem CfAt.conf {w0 w W : World} {f : Nat → TaskV → TaskV} {c c' : ConfV} {d : ConfL} {pl us : Tks} {tb : Option Nat} {tp : List (Option Nat)} (h : CfAt w f c c' d pl us tb tp W) (hC : ConfIn w0 c d pl) : ConfIn W c' d us := by
  have hlen := h.len
  have hk := key_nums h.key
  obtain ⟨ke, ⟨h1, m1⟩, ⟨h2, m2⟩, ⟨h3, m3⟩, ⟨h4, m4⟩, t⟩ := h
  refine ⟨ints_of m1, ints_of m2, ints_of m3, ints_of m4, ⟨?_, ?_, fun k x hx => ?_⟩, fun i x l hi => ?_, ?_⟩
  · unfold Tks.ts; rw [List.length_map, t.len, hlen]
  · obtain ⟨p, cap, hv, hv1, -⟩ := t.win.form
    injection hv with _ e2 e3
    omega
  · unfold Tks.ts at hx
    rw [List.getElem?_map] at hx
    cases hu : us[k]? with
    | none => rw [hu] at hx; simp at hx
    | some y =>
      obtain ⟨x', l⟩ := y
      rw [hu] at hx
      obtain rfl : x' = x := by simpa using hx
      have hw := t.win
      rw [← t.len] at hw
      obtain ⟨g, off, cap, -, hv, -, -, -, hg, hc, -⟩ := win_row (f := tkV) tkV_len hw hu
      injection hv with e1 _ _
      exact ⟨g, off, e1, hg, hc 0 _ rfl, hc 1 _ rfl, hc 2 _ rfl, hc 3 _ rfl, hc 4 _ rfl, hc 5 _ rfl, hc 6 _ rfl⟩
  · obtain ⟨o, ho⟩ : ∃ o, tp[i]? = some o := ⟨_, List.getElem?_eq_getElem (by rw [t.tpl, ← t.len]; exact (List.getElem?_eq_some_iff.1 hi).1)⟩
    obtain ⟨q1, q2⟩ := t.own i x l o hi ho
    obtain ⟨p, cap, hv, hv1, -⟩ := q1.form
    unfold Sl.val at hv
    injection hv with e1 e2 e3
    refine ⟨fun j y hy => ?_, q2, by omega⟩
    obtain ⟨g, off, cap2, -, e, -, -, hg, hc, -⟩ := q1.at_ (by have := (List.getElem?_eq_some_iff.1 hy).1; omega)
    unfold Sl.val at e
    injection e with e4 _ _
    have q : ∀ a u, a < 3 → y.cells[a]? = some u → W.cell? ⟨g, off + j * 3 + a, none⟩ = some u := fun a u ha hu => by
      have := hc (j * 3 + a) u ((jopCells_at l j y hy a ha).trans hu)
      rwa [← Nat.add_assoc] at this
    exact ⟨g, off, e4, hg, q 0 _ (by omega) rfl, q 1 _ (by omega) rfl, q 2 _ (by omega) rfl⟩
  · have := hC.n; omega
theorem CfAt.confAt {w0 w W : World} {f : Nat → TaskV → TaskV} {c c' : ConfV} {d : ConfL} {pl us : Tks} {tb : Option Nat} {tp : List (Option Nat)} (h : CfAt w f c c' d pl us tb tp W) (hC : ConfIn w0 c d pl) (hA : ConfAt w0 c d pl) : ConfAt W c' d us := by
  have hI := h.conf hC
  have hk := key_nums h.key
  have hs := hA.o.s
  refine ⟨⟨hI.mb, hI.cn, hI.ce, hI.li, by omega⟩, hI.t, ⟨fun i t l hi => ?_⟩⟩
  obtain ⟨q1, q2, q3⟩ := hI.p i t l hi
  refine ⟨q1, q2, ?_, q3⟩
  have hi2 := (List.getElem?_eq_some_iff.1 hi).1
  rw [h.tw.len] at hi2
  obtain ⟨⟨t0, l0⟩, hp⟩ : ∃ x, pl[i]? = some x := ⟨_, List.getElem?_eq_getElem hi2⟩
  obtain ⟨o, ho⟩ := h.tw.same i t0 l0 hp
  rw [hi] at ho
  cases ho
  obtain ⟨_, r2, r3, _⟩ := hA.p.row i t0 l hp
  omega
theorem CfAt.confZ {w W : World} {f : Nat → TaskV → TaskV} {c c' : ConfV} {d : ConfL} {pl us : Tks} {tb : Option Nat} {tp : List (Option Nat)} (h : CfAt w f c c' d pl us tb tp W) : Go.Proofs.YtlbinlhaejhobaaGreatDoor.confZ c' d us = Go.Proofs.YtlbinlhaejhobaaGreatDoor.confZ c d (chg f pl) := confZ_same h.key h.tw.keyP
theorem CfAt.admB {w W : World} {f : Nat → TaskV → TaskV} {c c' : ConfV} {d : ConfL} {pl us : Tks} {tb : Option Nat} {tp : List (Option Nat)} (h : CfAt w f c c' d pl us tb tp W) : Adm.admB c' d us = Adm.admB c d (chg f pl) := admB_same h.key h.tw.keyP

/-- A configuration's ten cells set. -/
def st10 (W : World) (b : Nat) (v0 v1 v2 v3 v4 v5 v6 v7 v8 v9 : Value) : World := ((((((((((W).setCell ⟨b, 0, none⟩ v0).setCell ⟨b, 1, none⟩ v1).setCell ⟨b, 2, none⟩ v2).setCell ⟨b, 3, none⟩ v3).setCell ⟨b, 4, none⟩ v4).setCell ⟨b, 5, none⟩ v5).setCell ⟨b, 6, none⟩ v6).setCell ⟨b, 7, none⟩ v7).setCell ⟨b, 8, none⟩ v8).setCell ⟨b, 9, none⟩ v9
theorem st10_row {W : World} {b : Nat} {T : TypeId} {v0 v1 v2 v3 v4 v5 v6 v7 v8 v9 u0 u1 u2 u3 u4 u5 u6 u7 u8 u9 : Value} (h : W.heap[b]? = some (.cells [u0, u1, u2, u3, u4, u5, u6, u7, u8, u9].toArray T (0, 0))) : (st10 W b v0 v1 v2 v3 v4 v5 v6 v7 v8 v9).heap[b]? = some (.cells [v0, v1, v2, v3, v4, v5, v6, v7, v8, v9].toArray T (0, 0)) := row_set (row_set (row_set (row_set (row_set (row_set (row_set (row_set (row_set (row_set (h) 0 _) 1 _) 2 _) 3 _) 4 _) 5 _) 6 _) 7 _) 8 _) 9 _
theorem st10_only (W : World) (b : Nat) (v0 v1 v2 v3 v4 v5 v6 v7 v8 v9 : Value) : Only (fun k => k = b) W (st10 W b v0 v1 v2 v3 v4 v5 v6 v7 v8 v9) := ((((((((((Only.refl (fun k => k = b) W).setCell (p := ⟨b, 0, none⟩) (fun _ => rfl) _).setCell (p := ⟨b, 1, none⟩) (fun _ => rfl) _).setCell (p := ⟨b, 2, none⟩) (fun _ => rfl) _).setCell (p := ⟨b, 3, none⟩) (fun _ => rfl) _).setCell (p := ⟨b, 4, none⟩) (fun _ => rfl) _).setCell (p := ⟨b, 5, none⟩) (fun _ => rfl) _).setCell (p := ⟨b, 6, none⟩) (fun _ => rfl) _).setCell (p := ⟨b, 7, none⟩) (fun _ => rfl) _).setCell (p := ⟨b, 8, none⟩) (fun _ => rfl) _).setCell (p := ⟨b, 9, none⟩) (fun _ => rfl) _
/-- What twin.Config leaves. -/
def CfEnd (c : ConfV) (d : ConfL) (pl : Tks) (w : World) (e : Ending) (w' : World) : Prop :=
  ∃ c' us tb tp, e = .returned c'.val ∧ CfAt w (fun _ t => t) c c' d pl us tb tp w'
end Twn
end Go.Proofs.YtlbinlhaejhobaaGreatDoor
