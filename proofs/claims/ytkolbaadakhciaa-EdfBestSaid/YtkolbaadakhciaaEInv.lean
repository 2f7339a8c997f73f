/- edf: what holds between two stretches: plain mathematics. -/
import Derived.Test.YtkolbaadakhciaaEGo
namespace Go.Proofs.Ytkolbaadakhciaa
namespace Edf

/-- A stretch. -/
structure Str where
  p : Nat
  f : Nat
  e : Nat
def tot (l : List Wk) (t : Nat) : Nat := sm (fun _ => true) (lef l t) l.length
theorem sm_spend {f : Nat → Nat} {p m : Nat} (hm : m ≤ f p) : ∀ {n : Nat}, p < n → sm (fun _ => true) (fun q => if q = p then f q - m else f q) n + m = sm (fun _ => true) f n := by
  intro n
  induction n with
  | zero => intro h; omega
  | succ n ih =>
    intro h
    rw [sm, sm]
    by_cases e : p = n
    · subst e
      rw [if_pos rfl, sm_same (g := f) (fun q hq => if_neg (by omega)), if_pos rfl]
      simp only [if_true]
      omega
    · have h1 := ih (by omega)
      have e2 : (if n = p then f n - m else f n) = f n := if_neg (fun x => e x.symm)
      show sm (fun _ => true) (fun q => if q = p then f q - m else f q) n + (if true then (if n = p then f n - m else f n) else 0) + m = _
      rw [e2, if_pos rfl]
      omega
structure Told (l : List Wk) (t : Nat) (S : List Str) : Prop where
  ok : ∀ s ∈ S, s.f < s.e ∧ s.e ≤ t ∧ s.p < l.length ∧ ∀ j, s.f ≤ j → j < s.e → goes l j = some s.p
  all : ∀ j, j < t → ∀ p, goes l j = some p → ∃ s ∈ S, s.p = p ∧ s.f ≤ j ∧ j < s.e
  row : S.Pairwise fun a b => a.e ≤ b.f
theorem Told.first (l : List Wk) : Told l 0 [] := ⟨by simp, fun j hj => by omega, List.Pairwise.nil⟩
theorem Told.idle {l : List Wk} {t u : Nat} {S : List Str} (h : Told l t S) (htu : t ≤ u) (hi : ∀ j, t ≤ j → j < u → goes l j = none) : Told l u S :=
  ⟨fun s hs => by obtain ⟨h1, h2, h3, h4⟩ := h.ok s hs; exact ⟨h1, by omega, h3, h4⟩, (fun j hj p hp => by
    by_cases e : j < t
    · exact h.all j e p hp
    · rw [hi j (by omega) hj] at hp; cases hp), h.row⟩
theorem Told.more {l : List Wk} {t m p : Nat} {S : List Str} (h : Told l t S) (hm : 0 < m) (hp : p < l.length) (hg : ∀ j, t ≤ j → j < t + m → goes l j = some p) : Told l (t + m) (S ++ [⟨p, t, t + m⟩]) :=
  ⟨fun s hs => by
    rcases List.mem_append.1 hs with hs | hs
    · obtain ⟨h1, h2, h3, h4⟩ := h.ok s hs; exact ⟨h1, by omega, h3, h4⟩
    · rw [List.mem_singleton.1 hs]
      exact ⟨by show t < t + m; omega, Nat.le_refl _, hp, hg⟩, (fun j hj q hq => by
    by_cases e : j < t
    · obtain ⟨s, hs, h1⟩ := h.all j e q hq
      exact ⟨s, List.mem_append_left _ hs, h1⟩
    · have := hg j (by omega) hj
      rw [this] at hq
      cases hq
      exact ⟨⟨p, t, t + m⟩, by simp, rfl, by show t ≤ j; omega, hj⟩), List.pairwise_append.2 ⟨h.row, List.pairwise_singleton _ _, fun a ha b hb => by
    rw [List.mem_singleton.1 hb]
    exact (h.ok a ha).2.1⟩⟩

structure Inv (l : List Wk) (t : Nat) (T : Ws) (es : List En) (Cm : List Nat) (S : List Str) : Prop where
  len : T.l.length = l.length
  cur : ∀ q, rl T.l q = rl l q ∧ du T.l q = du l q ∧ cs T.l q = lef l t q
  inn : ∀ x ∈ es, x.n < l.length ∧ rl l x.n ≤ t ∧ 0 < lef l t x.n ∧ x.e.t = (du l x.n : Int)
  com : ∀ q ∈ Cm, q < l.length ∧ 0 < lef l t q ∧ t ≤ rl l q
  all : ∀ q, q < l.length → 0 < lef l t q → (∃ x ∈ es, x.n = q) ∨ q ∈ Cm
  nd : (es.map (·.n) ++ Cm).Nodup
  srt : Sorted (fun k => (rl l k : Int)) Cm
  told : Told l t S
  tb : t + tot l t ≤ 1048576 + tot l 0

theorem Inv.first {l : List Wk} {b : Nat} {L : List Nat} (hp : List.Perm L (busy l)) (hs : Sorted (fun k => (rl l k : Int)) L) : Inv l 0 ⟨b, l⟩ [] L [] where
  len := rfl
  cur := fun q => ⟨rfl, rfl, rfl⟩
  inn := by simp
  com := fun q hq => by
    have := busy_mem.1 (hp.subset hq)
    exact ⟨this.1, this.2, Nat.zero_le _⟩
  all := fun q hq hl => .inr (hp.symm.subset (busy_mem.2 ⟨hq, hl⟩))
  nd := by simpa using hp.symm.nodup (busy_nodup l)
  srt := hs
  told := Told.first l
  tb := by omega

/-- Nobody waits: on to the next release. -/
theorem Inv.jump {l : List Wk} {t i : Nat} {T : Ws} {Cr : List Nat} {S : List Str} (h : Inv l t T [] (i :: Cr) S) (hr : ∀ q, rl l q ≤ 1048576) : Inv l (rl l i) T [] (i :: Cr) S := by
  have hi := h.com i (by simp)
  have hmin : ∀ q ∈ i :: Cr, rl l i ≤ rl l q := fun q hq => by
    rcases List.mem_cons.1 hq with rfl | hq
    · exact Nat.le_refl _
    · have := (List.pairwise_cons.1 h.srt).1 q hq
      dsimp only at this
      omega
  have hid := idle (l := l) (t := t) (u := rl l i) (fun q hq hl => by
    rcases h.all q hq hl with ⟨x, hx, -⟩ | hq
    · simp at hx
    · exact hmin q hq) (rl l i - t) (by omega)
  have ht : t + (rl l i - t) = rl l i := by omega
  rw [ht] at hid
  refine ⟨h.len, fun q => ?_, by simp, fun q hq => ?_, fun q hq hl => ?_, h.nd, h.srt, h.told.idle (by omega) (fun j h1 h2 => ?_), ?_⟩
  · rw [hid.1]; exact h.cur q
  · rw [hid.1]
    exact ⟨(h.com q hq).1, (h.com q hq).2.1, hmin q hq⟩
  · rw [hid.1] at hl; exact h.all q hq hl
  · have := hid.2 (j - t) (by omega)
    rwa [show t + (j - t) = j by omega] at this
  · have e1 : tot l (rl l i) = tot l t := sm_same fun q _ => hid.1 q
    have e2 : tot l t ≤ tot l 0 := sm_le (fun q => lef_mono l (Nat.zero_le t) q) _
    have := hr i
    omega

/-- Some are let in. -/
theorem Inv.lets {l : List Wk} {t : Nat} {T : Ws} {es es' : List En} {Tk Cm' : List Nat} {S : List Str} (h : Inv l t T es (Tk ++ Cm') S) (hp : List.Perm es' (es ++ Tk.map (enOf T.l))) (hk : ∀ i ∈ Tk, rl T.l i ≤ t) : Inv l t T es' Cm' S where
  len := h.len
  cur := h.cur
  inn := fun x hx => by
    rcases List.mem_append.1 (hp.subset hx) with hx | hx
    · exact h.inn x hx
    · obtain ⟨i, hi, rfl⟩ := List.mem_map.1 hx
      have h1 := h.com i (by simp [hi])
      have h2 := hk i hi
      rw [(h.cur i).1] at h2
      exact ⟨h1.1, h2, h1.2.1, by unfold enOf; dsimp only; rw [(h.cur i).2.1]⟩
  com := fun q hq => h.com q (List.mem_append_right _ hq)
  all := fun q hq hl => by
    rcases h.all q hq hl with ⟨x, hx, e⟩ | hq
    · exact .inl ⟨x, hp.symm.subset (List.mem_append_left _ hx), e⟩
    · rcases List.mem_append.1 hq with hq | hq
      · exact .inl ⟨enOf T.l q, hp.symm.subset (List.mem_append_right _ (List.mem_map.2 ⟨q, hq, rfl⟩)), rfl⟩
      · exact .inr hq
  nd := by
    have h1 := h.nd
    rw [← List.append_assoc] at h1
    have e1 : es.map (·.n) ++ Tk = (es ++ Tk.map (enOf T.l)).map (·.n) := by
      rw [List.map_append, List.map_map]
      congr 1
      exact (List.map_id _).symm
    rw [e1] at h1
    exact ((hp.map (·.n)).append_right Cm').symm.nodup h1
  srt := (List.pairwise_append.1 h.srt).2.1
  told := h.told
  tb := h.tb

/-- The one that is ahead goes on for a stretch. -/
theorem Inv.goes {l : List Wk} {t m : Nat} {T : Ws} {es es2 es3 : List En} {x : En} {Cm : List Nat} {S : List Str} (h : Inv l t T es Cm S) (hp : List.Perm (es2 ++ [x]) es) (hmin : ∀ y ∈ es, le x y) (hm0 : 0 < m) (hm : m ≤ lef l t x.n) (hfar : ∀ q ∈ Cm, t + m ≤ rl l q)
    (hp3 : List.Perm es3 (if m < cs T.l x.n then es2 ++ [enOf T.l x.n] else es2)) : Inv l (t + m) (spend T x.n m) es3 Cm (S ++ [⟨x.n, t, t + m⟩]) ∧ tot l (t + m) + m = tot l t := by
  have hx := h.inn x (hp.subset (by simp))
  have hpl : x.n < T.l.length := by rw [h.len]; exact hx.1
  obtain ⟨h1, h2⟩ := stretch (l := l) (t := t) (p := x.n) (m := m) hx.1 hx.2.1 hm (fun q hq hl => by
    rcases h.all q hq hl with ⟨y, hy, rfl⟩ | hq
    · exact .inl (h.inn y hy).2.1
    · exact .inr (hfar q hq)) (fun q hq hr hl => by
    rcases h.all q hq hl with ⟨y, hy, rfl⟩ | hq
    · have h3 := hmin y hy
      have h4 := (h.inn y hy).2.2.2
      have h5 := hx.2.2.2
      unfold le at h3
      rw [h4, h5] at h3
      omega
    · have := hfar q hq; omega) m (Nat.le_refl _)
  have hnd : (es2.map (·.n) ++ [x.n] ++ Cm).Nodup := by
    have h3 := h.nd
    have e1 : List.Perm (es2.map (·.n) ++ [x.n]) (es.map (·.n)) := by
      have := hp.map (·.n)
      simpa using this
    exact (e1.append_right Cm).symm.nodup h3
  rw [List.append_assoc] at hnd
  have hx2 : x.n ∉ es2.map (·.n) := fun hin => by
    have := (List.nodup_append.1 hnd).2.2 x.n hin x.n (by simp)
    exact this rfl
  have hxC : x.n ∉ Cm := by
    have := (List.nodup_append.1 hnd).2.1
    rw [List.singleton_append, List.nodup_cons] at this
    exact this.1
  refine ⟨⟨by rw [spend_len]; exact h.len, fun q => ?_, fun y hy => ?_, fun q hq => ?_, fun q hq hl => ?_, ?_, h.srt, h.told.more hm0 hx.1 (fun j j1 j2 => ?_), ?_⟩, ?_⟩
  · obtain ⟨a1, a2, a3⟩ := spend_at (m := m) (q := q) hpl
    obtain ⟨b1, b2, b3⟩ := h.cur q
    rw [a1, a2, a3, b1, b2, h1]
    refine ⟨rfl, rfl, ?_⟩
    by_cases e : q = x.n
    · rw [if_pos e, if_pos e, b3]
    · rw [if_neg e, if_neg e, b3]
  · have hy' := hp3.subset hy
    have hold : ∀ z ∈ es2, z.n < l.length ∧ rl l z.n ≤ t + m ∧ 0 < lef l (t + m) z.n ∧ z.e.t = (du l z.n : Int) := fun z hz => by
      have h4 := h.inn z (hp.subset (List.mem_append_left _ hz))
      have hne : z.n ≠ x.n := fun e => hx2 (List.mem_map.2 ⟨z, hz, e⟩)
      rw [h1, if_neg hne]
      exact ⟨h4.1, by omega, h4.2.2.1, h4.2.2.2⟩
    by_cases hc : m < cs T.l x.n
    · rw [if_pos hc] at hy'
      rcases List.mem_append.1 hy' with hy' | hy'
      · exact hold y hy'
      · rw [List.mem_singleton.1 hy']
        have hc' := hc
        rw [(h.cur x.n).2.2] at hc'
        refine ⟨hx.1, by show rl l x.n ≤ t + m; omega, ?_, by unfold enOf; dsimp only; rw [(h.cur x.n).2.1]⟩
        show 0 < lef l (t + m) x.n
        rw [h1, if_pos rfl]
        omega
    · rw [if_neg hc] at hy'
      exact hold y hy'
  · have h4 := h.com q hq
    have hne : q ≠ x.n := fun e => hxC (e ▸ hq)
    rw [h1, if_neg hne]
    exact ⟨h4.1, h4.2.1, hfar q hq⟩
  · rw [h1] at hl
    by_cases e : q = x.n
    · rw [if_pos e] at hl
      have hc : m < cs T.l x.n := by rw [(h.cur x.n).2.2, ← e]; omega
      rw [if_pos hc] at hp3
      exact .inl ⟨enOf T.l x.n, hp3.symm.subset (by simp), by rw [e]; rfl⟩
    · rw [if_neg e] at hl
      rcases h.all q hq hl with ⟨y, hy, rfl⟩ | hq
      · refine .inl ⟨y, hp3.symm.subset ?_, rfl⟩
        have hy2 : y ∈ es2 := by
          rcases List.mem_append.1 (hp.symm.subset hy) with hy | hy
          · exact hy
          · exact absurd (by rw [List.mem_singleton.1 hy]) e
        by_cases hc : m < cs T.l x.n
        · rw [if_pos hc]; exact List.mem_append_left _ hy2
        · rw [if_neg hc]; exact hy2
      · exact .inr hq
  · by_cases hc : m < cs T.l x.n
    · rw [if_pos hc] at hp3
      have e1 : List.Perm (es3.map (·.n)) (es2.map (·.n) ++ [x.n]) := by
        have := hp3.map (·.n)
        simpa [enOf] using this
      rw [← List.append_assoc] at hnd
      exact (e1.append_right Cm).symm.nodup hnd
    · rw [if_neg hc] at hp3
      refine ((hp3.map (·.n)).append_right Cm).symm.nodup ?_
      obtain ⟨n1, n2, n3⟩ := List.nodup_append.1 hnd
      rw [List.singleton_append, List.nodup_cons] at n2
      exact List.nodup_append.2 ⟨n1, n2.2, fun a ha b hb => n3 a ha b (by simp [hb])⟩
  · have := h2 (j - t) (by omega)
    rwa [show t + (j - t) = j by omega] at this
  · have e1 : tot l (t + m) + m = tot l t := by
      unfold tot
      rw [sm_same (f := lef l (t + m)) fun q _ => h1 q]
      exact sm_spend hm hx.1
    have := h.tb
    omega
  · unfold tot
    rw [sm_same (f := lef l (t + m)) fun q _ => h1 q]
    exact sm_spend hm hx.1
theorem tot_bound {l : List Wk} (h : ∀ q, cs l q ≤ 1048576) : tot l 0 ≤ 1048576 * l.length := by
  unfold tot
  have : ∀ n, sm (fun _ => true) (lef l 0) n ≤ 1048576 * n := by
    intro n
    induction n with
    | zero => exact Nat.le_refl _
    | succ n ih =>
      rw [sm, if_pos rfl]
      have h1 : lef l 0 n ≤ 1048576 := h n
      omega
  exact this _
end Edf
end Go.Proofs.Ytkolbaadakhciaa
