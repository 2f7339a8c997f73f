/- Delta's Put, Drop as one, Due, Advance. -/
import Derived.Test.YtbmegpcdcbfjmaaDeltaW
namespace Go.Proofs.Ytbmegpcdcbfjmaa.Delta
open Go.RowKit

theorem put_end {w : World} {l B : Nat} {p q : List Nd} {key t c : Int} {o : Option Addr} (h : ListAt w l (p ++ q)) (hB : B = w.heap.size) (hc : c = ((p ++ q).length : Int)) (ho : ptrTo q (.pointer none) = .pointer o) :
    ListAt (((w.alloc (.cells #[.int .i64 key, .int .i64 t, .pointer o] 74)).setCell ⟨prevB l p, 2, none⟩ (.pointer (some ⟨B, 0, none⟩))).setCell ⟨l, 3, none⟩ (.int .i64 (c + 1))) l (p ++ (B, key, t) :: q) ∧
    Only (fp l (p ++ q)) w (((w.alloc (.cells #[.int .i64 key, .int .i64 t, .pointer o] 74)).setCell ⟨prevB l p, 2, none⟩ (.pointer (some ⟨B, 0, none⟩))).setCell ⟨l, 3, none⟩ (.int .i64 (c + 1))) := by
  obtain ⟨n1, n2, n3⟩ := nodup_split h.2
  have hlt := h.lt
  have o1 : Only (fun _ => False) w (w.alloc (.cells #[.int .i64 key, .int .i64 t, .pointer o] 74)) := (Only.refl _ w).alloc _
  have hBn : ∀ b, fp l (p ++ q) b → b ≠ B := fun b hb e => by have := hlt b hb; omega
  have hpq : ∀ b, fp l p b → fp l (p ++ q) b := by
    rintro b (rfl | hb)
    · exact .inl rfl
    · exact .inr (by simp [blocks] at hb ⊢; exact .inl hb)
  have hqq : ∀ b ∈ blocks q, fp l (p ++ q) b := fun b hb => .inr (by simp [blocks] at hb ⊢; exact .inr hb)
  have hprev : prevB l p ≠ B := hBn _ (hpq _ (prevB_mem l p))
  obtain ⟨h1, h2⟩ := Part.split.1 h.1
  have h1' := (h1.kept o1 (fun _ _ h => h)).setNext n1 (.pointer (some ⟨B, 0, none⟩))
  have h1'' := h1'.setCount n1 (c + 1)
  have hnew : (((w.alloc (.cells #[.int .i64 key, .int .i64 t, .pointer o] 74)).setCell ⟨prevB l p, 2, none⟩ (.pointer (some ⟨B, 0, none⟩))).setCell ⟨l, 3, none⟩ (.int .i64 (c + 1))).heap[B]? = some (.cells #[.int .i64 key, .int .i64 t, .pointer o] 74 (0, 0)) := by
    rw [Below.heap_setCell _ _ _ _ (by exact fun e => hBn l (.inl rfl) e.symm), Below.heap_setCell _ _ _ _ (by exact fun e => hprev e.symm), hB]
    exact heap_alloc_new _ _
  have hseg : Seg (((w.alloc (.cells #[.int .i64 key, .int .i64 t, .pointer o] 74)).setCell ⟨prevB l p, 2, none⟩ (.pointer (some ⟨B, 0, none⟩))).setCell ⟨l, 3, none⟩ (.int .i64 (c + 1))) q (.pointer none) := by
    have o2 : Only (fun k => k = prevB l p ∨ k = l) w (((w.alloc (.cells #[.int .i64 key, .int .i64 t, .pointer o] 74)).setCell ⟨prevB l p, 2, none⟩ (.pointer (some ⟨B, 0, none⟩))).setCell ⟨l, 3, none⟩ (.int .i64 (c + 1))) :=
      (((Only.refl _ w).alloc _).setCell (p := ⟨prevB l p, 2, none⟩) (fun _ => .inl rfl) _).setCell (p := ⟨l, 3, none⟩) (fun _ => .inr rfl) _
    refine h2.kept o2 (fun b hb => ?_)
    rintro (rfl | rfl)
    · exact prevB_not h.2 hb
    · exact (n3 _ hb).1 rfl
  refine ⟨⟨?_, ?_⟩, (((Only.refl _ w).alloc _).setCell (p := ⟨prevB l p, 2, none⟩) (fun _ => hpq _ (prevB_mem l p)) _).setCell (p := ⟨l, 3, none⟩) (fun _ => .inl rfl) _⟩
  · have e : (((p ++ (B, key, t) :: q).length : Nat) : Int) = c + 1 := by rw [hc]; simp; omega
    rw [e]
    refine Part.split.2 ⟨h1'', ?_, hseg⟩
    rw [hnew]
    simp only [ho]
  · have hb1 : B ∉ blocks p := fun hb => hBn B (hpq B (.inr hb)) rfl
    have hb2 : B ∉ blocks q := fun hb => hBn B (hqq B hb) rfl
    have hb3 : l ≠ B := hBn l (.inl rfl)
    have := h.2
    simp only [blocks, List.map_append, List.map_cons, List.nodup_cons, List.nodup_append, List.mem_append, List.mem_cons, not_or] at this hb1 hb2 ⊢
    obtain ⟨⟨a1, a2⟩, a3, a4, a5⟩ := this
    refine ⟨⟨a1, hb3, a2⟩, a3, ⟨hb2, a4⟩, fun x hx y hy => ?_⟩
    rcases hy with rfl | hy
    · exact fun e => hb1 (e ▸ hx)
    · exact a5 x hx y hy

/-- The same, spelled as the walk spells it. -/
theorem put_end' {w : World} {l B : Nat} {p q : List Nd} {key t c : Int} {o : Option Addr} (h : ListAt w l (p ++ q)) (hB : B = w.heap.size) (hc : c = ((p ++ q).length : Int)) (ho : ptrTo q (.pointer none) = .pointer o) :
    ListAt (((w.setCell ⟨prevB l p, 2, none⟩ (.pointer (some ⟨B, 0, none⟩))).setCell ⟨l, 3, none⟩ (.int .i64 (c + 1))).alloc (.cells #[.int .i64 key, .int .i64 t, .pointer o] 74)) l (p ++ (B, key, t) :: q) ∧
    Only (fp l (p ++ q)) w (((w.setCell ⟨prevB l p, 2, none⟩ (.pointer (some ⟨B, 0, none⟩))).setCell ⟨l, 3, none⟩ (.int .i64 (c + 1))).alloc (.cells #[.int .i64 key, .int .i64 t, .pointer o] 74)) := by
  have hlt := h.lt
  have hp : prevB l p < w.heap.size := by
    rcases prevB_mem l p with e | e
    · rw [e]; exact hlt l (.inl rfl)
    · exact hlt _ (.inr (by simp [blocks] at e ⊢; exact .inl e))
  have := put_end (key := key) (t := t) h hB hc ho
  rw [World.setCell_alloc_past _ _ _ _ hp, World.setCell_alloc_past _ _ _ _ (by simpa using hlt l (.inl rfl))] at this
  exact this

/-- What putting leaves. -/
def PutEnd (w : World) (l : Nat) (ns : List Nd) (key t : Int) (e : Ending) (w' : World) : Prop :=
  e = .returned (.int .i64 0) ∧ ∃ ns', ListAt w' l ns' ∧ dat ns' = gput (dat ns) key t ∧ (∀ b ∈ blocks ns', b ∈ blocks ns ∨ w.heap.size ≤ b) ∧ Only (fp l ns) w w'

theorem put_range {w : World} (l : Nat) (key t : Int) (ht : t < 0 ∨ 16777216 < t) : Calls Try.prog 23 #[.pointer (some ⟨l, 0, none⟩), .int .i64 key, .int .i64 t] w fun e w' => e = .returned (.int .i64 5) ∧ w = w' := by
  by_cases h0 : t < 0
  · clear ht
    go_enter Try.func23, Try.ntmps23
    go_wp2
    go_ret
    exact ⟨rfl, rfl⟩
  · have h1 : 16777216 < t := by omega
    clear ht
    go_enter Try.func23, Try.ntmps23
    go_wp2
    go_ret
    exact ⟨rfl, rfl⟩
set_option maxRecDepth 100000 in
theorem put_twice {w : World} {l : Nat} {p : List Nd} {n : Nd} {q : List Nd} (h : ListAt w l (p ++ n :: q)) (hk : ∀ m ∈ p, m.2.1 ≠ n.2.1) (t : Int) (ht : 0 ≤ t ∧ t ≤ 16777216) :
    Calls Try.prog 23 #[.pointer (some ⟨l, 0, none⟩), .int .i64 n.2.1, .int .i64 t] w fun e w' => e = .returned (.int .i64 10) ∧ w = w' := by
  have ha := Lib.hid (ahead_some h n.2.1 hk rfl)
  obtain ⟨ht0, ht1⟩ := ht
  clear h hk
  have h0 : ¬ t < 0 := by omega
  have h1 : ¬ 16777216 < t := by omega
  clear ht0 ht1
  go_enter Try.func23, Try.ntmps23
  go_wp2_with (go_at_call 39; refine ha.out.mono ?_; rintro e w' ⟨rfl, rfl⟩)
  go_ret
  exact ⟨rfl, rfl⟩

set_option maxRecDepth 100000 in
theorem put_ok {w : World} {l : Nat} {ns : List Nd} (h : ListAt w l ns) (hf : Fine (dat ns)) (hl : ns.length < 256) (key t : Int) (hk : ∀ m ∈ ns, m.2.1 ≠ key) (ht : 0 ≤ t ∧ t ≤ 16777216) :
    Calls Try.prog 23 #[.pointer (some ⟨l, 0, none⟩), .int .i64 key, .int .i64 t] w (PutEnd w l ns key t) := by
  have ha := Lib.hid (ahead_none h key hk)
  obtain ⟨ht0, ht1⟩ := ht
  obtain ⟨c3, f3, _⟩ := h.1.count
  obtain ⟨c, hc⟩ : ∃ c, c = ns.length := ⟨_, rfl⟩
  rw [← hc] at c3 hl
  have hcl : ¬ 256 ≤ (c : Int) := by omega
  have hwr : IntKind.i64.wrap ((c : Int) + 1) = (c : Int) + 1 := IntWalk.i64_in _ (by omega)
  have h0 : ¬ t < 0 := by omega
  have h1 : ¬ 16777216 < t := by omega
  obtain ⟨B, hB⟩ : ∃ B, B = w.heap.size := ⟨_, rfl⟩
  have hlB : l < B := hB ▸ h.lt l (.inl rfl)
  have h' := Lib.hid h
  have hA := Lib.hid (And.intro hc (And.intro hf hB))
  clear h hk hc hf hB
  go_enter Try.func23, Try.ntmps23
  go_wp2_with (go_at_call 39; refine ha.out.mono ?_; rintro e w' ⟨rfl, rfl⟩)
  go_loopg [2, 7] ns.length (fun n u at_ wr => w = wr ∧ ∃ p q, ∃ t' : Int, ns = p ++ q ∧ q.length = n ∧ at_ = .pointer (some ⟨prevB l p, 0, none⟩) ∧ u = .int .i64 t' ∧ 0 ≤ t' ∧ t' ≤ t ∧ t' = t - total (dat p) ∧ ∀ a b : Gaps, dat p = a ++ b → total a ≤ t)
  case atStart =>
    refine ⟨rfl, [], ns, t, rfl, rfl, rfl, rfl, ht0, Int.le_refl _, by simp [dat, total], fun a b e => ?_⟩
    have : a = [] := by
      have : a ++ b = [] := e.symm
      exact (List.append_eq_nil_iff.1 this).1
    rw [this]
    simpa [total] using ht0
  case round =>
    obtain ⟨rfl, p, q, t', hpq, hlen, rfl, rfl, ht0', ht1', htp, hpre⟩ := hrel
    have hall := h'.out
    rw [hpq] at hall
    have hpart := (Part.split.1 hall.1).1
    obtain ⟨c2, f2⟩ := hpart.next
    have hseg := (Part.split.1 hall.1).2
    have hprev := hall.lt _ (by rcases prevB_mem l p with e | e; exact .inl e; exact .inr (by simp [blocks] at e ⊢; exact .inl e) : fp l (p ++ q) (prevB l p))
    have hB := hA.out.2.2
    rw [← hB] at hprev
    have hE := Lib.hid (And.intro hpq (And.intro hlen (And.intro htp hpre)))
    have hB' := Lib.hid hB
    have hBe : w.heap.size = B := hB.symm
    clear hpq hlen htp hpre hall hpart hB
    cases q with
    | nil =>
      rw [ptrTo_nil] at c2
      clear hseg
      have hend := put_end' (key := key) (t := t') (c := c) (o := none) (hE.out.1 ▸ h'.out) hB'.out (by rw [hA.out.1, hE.out.1]) rfl
      have hend' := Lib.hid hend
      clear hend
      go_wp2
      go_ret
      refine ⟨rfl, _, hend'.out.1, ?_, ?_, ?_⟩
      · have e := hE.out.1
        rw [List.append_nil] at e
        have hp := gput_append (dat p) [] key t hE.out.2.2.2 (by rw [← e]; exact hA.out.2.1.1)
        rw [List.append_nil] at hp
        rw [e, hp, dat_append, hE.out.2.2.1]
        rfl
      · intro b hb
        have e := hE.out.1
        rw [List.append_nil] at e
        simp [blocks] at hb ⊢
        rcases hb with hb | rfl
        · rw [e]; exact .inl hb
        · exact .inr (by rw [hB'.out]; exact Nat.le_refl _)
      · have := hend'.out.2
        rw [← hE.out.1] at this
        exact this
    | cons m r =>
      obtain ⟨d0, d1, d2, fd⟩ := Seg.cells hseg
      have fd1 := fd 1
      rw [ptrTo_cons] at c2
      have hfin := hA.out.2.1
      rw [hE.out.1, dat_append] at hfin
      obtain ⟨s1, s2, s3, s4⟩ := Fine.split (p := dat p) (q := dat (m :: r)) hfin
      have s4' : 0 ≤ m.2.2 ∧ m.2.2 ≤ 16777216 := (Fine.tail (x := m.2) (r := dat r) s4).2
      obtain ⟨m0, m1⟩ := s4'
      clear fd hfin s1 s2 s3 s4
      by_cases hm : m.2.2 ≤ t'
      · clear hseg
        have hwr2 : IntKind.i64.wrap (t' - m.2.2) = t' - m.2.2 := IntWalk.i64_in _ (by omega)
        go_wp2
        go_roundg r.length
        case measure => have := hE.out.2.1; simp at this; omega
        case rel =>
          refine ⟨rfl, p ++ [m], r, t' - m.2.2, by rw [hE.out.1]; simp, rfl, by rw [prevB_concat], rfl, by omega, by omega, ?_, ?_⟩
          · rw [dat_append, total_append]
            have := hE.out.2.2.1
            simp [dat, total] at this ⊢
            omega
          · intro a b e
            rw [dat_append] at e
            rcases List.eq_nil_or_concat b with rfl | ⟨b', y, rfl⟩
            · rw [List.append_nil] at e
              rw [← e, total_append]
              have := hE.out.2.2.1
              simp [dat, total] at this ⊢
              omega
            · rw [List.concat_eq_append, ← List.append_assoc] at e
              have := (List.append_inj' e rfl).1
              exact hE.out.2.2.2 a b' this
      · have hwr2 : IntKind.i64.wrap (m.2.2 - t') = m.2.2 - t' := IntWalk.i64_in _ (by omega)
        have hall := h'.out
        rw [hE.out.1] at hall
        obtain ⟨n1, n2, n3⟩ := nodup_split hall.2
        have hmB : m.1 < B := hB'.out ▸ hall.lt m.1 (.inr (by simp [blocks]))
        have hmp : ¬ m.1 = prevB l p := fun e => by
          have := prevB_not hall.2
          rw [← e] at this
          exact this (by simp [blocks])
        have hml : ¬ m.1 = l := (n3 m.1 (by simp [blocks])).1
        have hmq : m.1 ∉ blocks r := by
          simp [blocks] at n2 ⊢
          exact n2.1
        have oS : Only (fun k => k = m.1) w (w.setCell ⟨m.1, 1, none⟩ (.int .i64 (m.2.2 - t'))) := (Only.refl (fun k => k = m.1) w).setCell (p := ⟨m.1, 1, none⟩) (fun _ => rfl) _
        have hL : ListAt (w.setCell ⟨m.1, 1, none⟩ (.int .i64 (m.2.2 - t'))) l (p ++ (m.1, m.2.1, m.2.2 - t') :: r) := by
          refine ⟨?_, ?_⟩
          · have e : ((p ++ (m.1, m.2.1, m.2.2 - t') :: r).length : Int) = ((p ++ m :: r).length : Int) := by simp
            rw [e]
            refine Part.split.2 ⟨?_, ?_⟩
            · refine (Part.split.1 hall.1).1.kept oS (fun b hb e => ?_)
              rcases hb with rfl | hb
              · exact hml e.symm
              · exact (n3 m.1 (by simp [blocks])).2 (e ▸ hb)
            · exact Seg.setGap hseg hmq _
          · have := hall.2
            simpa [blocks] using this
        have hend := put_end' (key := key) (t := t') (c := c) (B := B) (o := some ⟨m.1, 0, none⟩) hL (by rw [hB'.out]; simp) (by rw [hA.out.1, hE.out.1]; simp) rfl
        have hend' := Lib.hid (And.intro hend oS)
        clear hend hL oS hall n1 n2 n3 hmq hseg
        go_wp2
        go_ret
        refine ⟨rfl, _, hend'.out.1.1, ?_, ?_, ?_⟩
        · rw [hE.out.1, dat_append, dat_append, gput_append (dat p) _ key t hE.out.2.2.2 (fun x hx => hA.out.2.1.1 x (by rw [hE.out.1, dat_append]; simp [hx])), ← hE.out.2.2.1]
          have : ¬ m.2.2 ≤ t' := by omega
          simp [dat, gput, this]
        · intro b hb
          rw [hE.out.1]
          simp [blocks] at hb ⊢
          rcases hb with hb | rfl | rfl | hb
          · exact .inl (.inl hb)
          · exact .inr (by rw [hB'.out]; exact Nat.le_refl _)
          · exact .inl (.inr (.inl rfl))
          · exact .inl (.inr (.inr hb))
        · rw [hE.out.1]
          refine (hend'.out.2.mono (T := fp l (p ++ m :: r)) (fun x _ e => .inr (by rw [e]; simp [blocks]))).trans hend'.out.1.2 (fun x _ hx => ?_)
          rcases hx with rfl | hx
          · exact .inl rfl
          · exact .inr (by simpa [blocks] using hx)
end Go.Proofs.Ytbmegpcdcbfjmaa.Delta
