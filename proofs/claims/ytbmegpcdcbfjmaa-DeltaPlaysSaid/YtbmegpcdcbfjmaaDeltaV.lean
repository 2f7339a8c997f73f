/- Delta's Drop as one, Due, Advance. -/
import Derived.Test.YtbmegpcdcbfjmaaDeltaQ
namespace Go.Proofs.Ytbmegpcdcbfjmaa.Delta
open Go.RowKit

/-- What dropping leaves. -/
def DropEnd (w : World) (l : Nat) (ns : List Nd) (key : Int) (e : Ending) (w' : World) : Prop :=
  e = .returned (.bool true) ∧ ∃ ns', ListAt w' l ns' ∧ dat ns' = gdrop (dat ns) key ∧ (∀ b ∈ blocks ns', b ∈ blocks ns) ∧ Only (fp l ns) w w'

theorem drop_some {w : World} {l : Nat} {p : List Nd} {n : Nd} {q : List Nd} (h : ListAt w l (p ++ n :: q)) (hf : Fine (dat (p ++ n :: q))) (hl : (p ++ n :: q).length ≤ 1000) (hk : ∀ m ∈ p, m.2.1 ≠ n.2.1) :
    Calls Try.prog 24 #[.pointer (some ⟨l, 0, none⟩), .int .i64 n.2.1] w (DropEnd w l (p ++ n :: q) n.2.1) := by
  have hk' : ∀ x ∈ dat p, x.1 ≠ n.2.1 := by
    intro x hx
    obtain ⟨m, hm, rfl⟩ := List.mem_map.1 hx
    exact hk m hm
  have hd : ∀ r, gdrop (dat (p ++ n :: r)) n.2.1 = dat p ++ addFirst n.2.2 (dat r) := fun r => by
    rw [dat_append, gdrop_append _ _ _ hk']
    simp [dat, gdrop]
  cases q with
  | nil =>
    refine (drop_last h hl hk).mono ?_
    rintro e w' ⟨rfl, h1, h2⟩
    refine ⟨rfl, p, h1, ?_, fun b hb => by simp [blocks] at hb ⊢; exact .inl hb, h2.mono (fun x _ hx => ?_)⟩
    · rw [hd]; simp [dat, addFirst]
    · rcases hx with rfl | hx
      · exact .inl rfl
      · exact .inr (by simp [blocks] at hx ⊢; exact .inl hx)
  | cons m q =>
    rw [dat_append] at hf
    obtain ⟨s1, s2, s3, s4⟩ := Fine.split hf
    have t1 := Fine.tail (x := n.2) (r := dat (m :: q)) s4
    have t2 := Fine.tail (x := m.2) (r := dat q) t1.1
    have t3 := s4.2
    have t4 := total_nonneg (dat q) t2.1.1
    have t5 : total (dat (n :: m :: q)) = n.2.2 + (m.2.2 + total (dat q)) := rfl
    refine (drop_more h hl hk ⟨t1.2.1, t2.2.1, by omega⟩).mono ?_
    rintro e w' ⟨rfl, h1, h2⟩
    refine ⟨rfl, _, h1, ?_, fun b hb => by simp [blocks] at hb ⊢; rcases hb with hb | hb | hb; exact .inl hb; exact .inr (.inr (.inl hb)); exact .inr (.inr (.inr hb)), h2⟩
    rw [hd, dat_append]
    rfl

theorem due_none {w : World} {l : Nat} {ns : List Nd} (h : ListAt w l ns) (hf : Fine (dat ns)) (key : Int) (hk : ∀ m ∈ ns, m.2.1 ≠ key) :
    Calls Try.prog 32 #[.pointer (some ⟨l, 0, none⟩), .int .i64 key] w fun e w' => e = .returned (.tuple #[.int .i64 0, .bool false]) ∧ w = w' := by
  have hfi := Lib.hid (first_any h)
  have h' := Lib.hid h
  have hk' := Lib.hid hk
  have hf' := Lib.hid hf
  clear h hk hf
  go_enter Try.func32, Try.ntmps32
  go_wp2_with (go_at_call 41; refine hfi.out.mono ?_; rintro e w' ⟨rfl, rfl⟩)
  go_loopg [6, 7] ns.length (fun n t v wr => w = wr ∧ ∃ p q, ∃ s : Int, ns = p ++ q ∧ q.length = n ∧ v = ptrTo q (.pointer none) ∧ t = .int .i64 s ∧ s = total (dat p))
  case atStart => exact ⟨rfl, [], ns, 0, rfl, rfl, rfl, rfl, rfl⟩
  case round =>
    obtain ⟨rfl, p, q, s, hpq, hlen, rfl, rfl, hs⟩ := hrel
    have hall := h'.out.1
    rw [hpq] at hall
    have hseg := (Part.split.1 hall).2
    have hfin := hf'.out
    rw [hpq, dat_append] at hfin
    obtain ⟨s1, s2, s3, s4⟩ := Fine.split hfin
    have hA := Lib.hid (And.intro hpq (And.intro hlen hs))
    have hs1 : 0 ≤ s ∧ s ≤ 16777216 := by omega
    clear hpq hlen hall s1 s2 s3 hfin hs
    cases q with
    | nil =>
      simp only [ptrTo_nil]
      clear hseg s4
      go_wp2
      go_ret2
      exact ⟨rfl, rfl⟩
    | cons m r =>
      obtain ⟨d0, d1, d2, _⟩ := Seg.cells hseg
      have hne : (m.2.1 == key) = false := by
        have := hk'.out m (by rw [hA.out.1]; simp)
        simpa using this
      have s5 : 0 ≤ m.2.2 ∧ m.2.2 ≤ 16777216 := (Fine.tail (x := m.2) (r := dat r) s4).2
      have hwr : IntKind.i64.wrap (s + m.2.2) = s + m.2.2 := IntWalk.i64_in _ (by omega)
      simp only [ptrTo_cons]
      clear hseg s4 s5 hs1
      go_wp2
      go_roundg r.length
      case measure => have := hA.out.2.1; simp at this; omega
      case rel =>
        refine ⟨rfl, p ++ [m], r, s + m.2.2, by rw [hA.out.1]; simp, rfl, rfl, rfl, ?_⟩
        rw [dat_append, total_append, hA.out.2.2]
        simp [dat, total]

theorem due_some {w : World} {l : Nat} {p0 : List Nd} {n0 : Nd} {q0 : List Nd} (h : ListAt w l (p0 ++ n0 :: q0)) (hf : Fine (dat (p0 ++ n0 :: q0))) (hk : ∀ m ∈ p0, m.2.1 ≠ n0.2.1) :
    Calls Try.prog 32 #[.pointer (some ⟨l, 0, none⟩), .int .i64 n0.2.1] w fun e w' => e = .returned (.tuple #[.int .i64 (total (dat p0) + n0.2.2), .bool true]) ∧ w = w' := by
  have hfi := Lib.hid (first_any h)
  have h' := Lib.hid h
  have hk' := Lib.hid hk
  have hf' := Lib.hid hf
  obtain ⟨v0, hv0⟩ : ∃ v0, v0 = ptrTo (p0 ++ n0 :: q0) (.pointer none) := ⟨_, rfl⟩
  rw [← hv0] at hfi
  have hv0' := Lib.hid hv0
  clear h hk hf hv0
  go_enter Try.func32, Try.ntmps32
  go_wp2_with (go_at_call 41; refine hfi.out.mono ?_; rintro e w' ⟨rfl, rfl⟩)
  go_loopg [6, 7] p0.length (fun n t v wr => w = wr ∧ ∃ p q, ∃ s : Int, p0 = p ++ q ∧ q.length = n ∧ v = ptrTo (q ++ n0 :: q0) (.pointer none) ∧ t = .int .i64 s ∧ s = total (dat p))
  case atStart => exact ⟨rfl, [], p0, 0, rfl, rfl, hv0'.out, rfl, rfl⟩
  case round =>
    obtain ⟨rfl, p, q, s, hpq, hlen, rfl, rfl, hs⟩ := hrel
    have hall := h'.out.1
    rw [hpq, List.append_assoc] at hall
    have hseg := (Part.split.1 hall).2
    have hfin := hf'.out
    rw [hpq, List.append_assoc, dat_append] at hfin
    obtain ⟨s1, s2, s3, s4⟩ := Fine.split hfin
    have hA := Lib.hid (And.intro hpq (And.intro hlen hs))
    have hs1 : 0 ≤ s ∧ s ≤ 16777216 := by omega
    clear hpq hlen hall s1 s2 s3 hfin hs
    cases q with
    | nil =>
      obtain ⟨d0, d1, d2, _⟩ := Seg.cells hseg
      have hne : (n0.2.1 == n0.2.1) = true := by simp
      have s5 : 0 ≤ n0.2.2 ∧ n0.2.2 ≤ 16777216 := (Fine.tail (x := n0.2) (r := dat q0) s4).2
      have hwr : IntKind.i64.wrap (s + n0.2.2) = s + n0.2.2 := IntWalk.i64_in _ (by omega)
      simp only [List.nil_append, ptrTo_cons]
      clear hseg s4 s5 hs1
      go_wp2
      go_ret2
      have e : p0 = p := by simpa using hA.out.1
      rw [e, ← hA.out.2.2]
      exact ⟨rfl, rfl⟩
    | cons m r =>
      obtain ⟨d0, d1, d2, _⟩ := Seg.cells hseg
      have hne : (m.2.1 == n0.2.1) = false := by
        have := hk'.out m (by rw [hA.out.1]; simp)
        simpa using this
      have s5 : 0 ≤ m.2.2 ∧ m.2.2 ≤ 16777216 := (Fine.tail (x := m.2) (r := dat (r ++ n0 :: q0)) s4).2
      have hwr : IntKind.i64.wrap (s + m.2.2) = s + m.2.2 := IntWalk.i64_in _ (by omega)
      obtain ⟨v1, hv1⟩ : ∃ v1, v1 = ptrTo (r ++ n0 :: q0) (.pointer none) := ⟨_, rfl⟩
      change w.cell? _ = some (ptrTo (r ++ n0 :: q0) (.pointer none)) at d2
      rw [← hv1] at d2
      have hv1' := Lib.hid hv1
      simp only [List.cons_append, ptrTo_cons]
      clear hseg s4 s5 hs1 hv1
      go_wp2
      go_roundg r.length
      case measure => have := hA.out.2.1; simp at this; omega
      case rel =>
        refine ⟨rfl, p ++ [m], r, s + m.2.2, by rw [hA.out.1]; simp, rfl, hv1'.out, rfl, ?_⟩
        rw [dat_append, total_append, hA.out.2.2]
        simp [dat, total]

/-- What ticks that go by leave: the keys that are due, and the rest. -/
def AdvEnd (w : World) (l : Nat) (ns : List Nd) (t : Int) (e : Ending) (w' : World) : Prop :=
  ∃ v h ns', e = .returned v ∧ Win w' 3 1 v h (gdue (dat ns) t).length ((gdue (dat ns) t).map mkI) ∧ (∀ k, h = some k → w.heap.size ≤ k) ∧ ListAt w' l ns' ∧ dat ns' = gleft (dat ns) t ∧ (∀ b ∈ blocks ns', b ∈ blocks ns) ∧ Only (fp l ns) w w'

theorem adv_neg {w : World} (l : Nat) (t : Int) (ht : t < 0) : Calls Try.prog 28 #[.pointer (some ⟨l, 0, none⟩), .int .i64 t] w fun e w' => e = .returned (.slice none 0 0) ∧ w = w' := by
  go_enter Try.func28, Try.ntmps28
  go_wp2
  go_ret
  exact ⟨rfl, rfl⟩

theorem cons_gap {w : World} {l : Nat} {m : Nd} {r : List Nd} (h : ListAt w l (m :: r)) (g : Int) : ListAt (w.setCell ⟨m.1, 1, none⟩ (.int .i64 g)) l ((m.1, m.2.1, g) :: r) := by
  obtain ⟨n1, n2, n3⟩ := nodup_split (p := []) h.2
  have hml : m.1 ≠ l := (n3 m.1 (by simp [blocks])).1
  have hmr : m.1 ∉ blocks r := by
    simp [blocks] at n2 ⊢
    exact n2.1
  have oS : Only (fun k => k = m.1) w (w.setCell ⟨m.1, 1, none⟩ (.int .i64 g)) := (Only.refl (fun k => k = m.1) w).setCell (p := ⟨m.1, 1, none⟩) (fun _ => rfl) _
  obtain ⟨h1, h2⟩ := Part.split (p := []).1 h.1
  refine ⟨Part.split (p := []).2 ⟨?_, Seg.setGap h2 hmr _⟩, by simpa [blocks] using h.2⟩
  refine h1.kept oS (fun b hb e => ?_)
  rcases hb with rfl | hb
  · exact hml e.symm
  · simp [blocks] at hb

theorem adv_ok {w : World} {l : Nat} {ns : List Nd} (h : ListAt w l ns) (hf : Fine (dat ns)) (hl : ns.length ≤ 1000) (t : Int) (ht : 0 ≤ t ∧ t ≤ 9223372036854775807) :
    Calls Try.prog 28 #[.pointer (some ⟨l, 0, none⟩), .int .i64 t] w (AdvEnd w l ns t) := by
  obtain ⟨ht0, ht1⟩ := ht
  have h0 : ¬ t < 0 := by omega
  have hfi := first_any h
  obtain ⟨v0, hv0⟩ : ∃ v0, v0 = ptrTo ns (.pointer none) := ⟨_, rfl⟩
  rw [← hv0] at hfi
  have hfi' := Lib.hid hfi
  have hv0' := Lib.hid hv0
  have h' := Lib.hid h
  have hf' := Lib.hid hf
  have hlt := h.lt
  have hlt' := Lib.hid hlt
  clear h hf hfi hv0 hlt
  go_enter Try.func28, Try.ntmps28
  go_wp2_with (go_at_call 41; refine hfi'.out.mono ?_; rintro e w' ⟨rfl, rfl⟩)
  go_loopg [1, 5, 6] ns.length (fun n u v x wr => ∃ p q h, ∃ t' : Int, ns = p ++ q ∧ q.length = n ∧ u = .int .i64 t' ∧ 0 ≤ t' ∧ t' ≤ t ∧ t' = t - total (dat p) ∧ (∀ a b : Gaps, dat p = a ++ b → total a ≤ t) ∧ x = ptrTo q (.pointer none) ∧ ListAt wr l q ∧ Win wr 3 1 v h p.length ((p.map fun m => m.2.1).map mkI) ∧ (∀ k, h = some k → w.heap.size ≤ k) ∧ Only (fp l ns) w wr)
  case atStart =>
    refine ⟨[], ns, none, t, rfl, rfl, rfl, ht0, Int.le_refl _, by simp [dat, total], fun a b e => ?_, hv0'.out, h'.out, Win.nil _ _ _, (fun k h => by cases h), Only.refl _ _⟩
    have : a = [] := by
      have : a ++ b = [] := e.symm
      exact (List.append_eq_nil_iff.1 this).1
    rw [this]
    simpa [total] using ht0
  case round =>
    obtain ⟨p, q, h, t', hpq, hlen, rfl, ht0', ht1', htp, hpre, rfl, hL, hW, hh, ho⟩ := hrel
    obtain ⟨ws, hws⟩ : ∃ ws : World, ws = wr := ⟨_, rfl⟩
    subst hws
    obtain ⟨a, cap, rfl, _⟩ := hW.form
    have hE := Lib.hid (And.intro hpq (And.intro hlen (And.intro htp (And.intro hpre (And.intro hW (And.intro hh ho))))))
    have hfin := hf'.out
    rw [hpq, dat_append] at hfin
    obtain ⟨s1, s2, s3, s4⟩ := Fine.split hfin
    have hgl := gleft_append (dat p) (dat q) t hpre
    rw [← dat_append, ← hpq, ← htp] at hgl
    have hmap : (dat p).map (·.1) = p.map fun m => m.2.1 := by simp [dat]
    rw [hmap] at hgl
    have hgl' := Lib.hid hgl
    clear hpq hlen htp hpre hW hh ho hgl s1 s2 s3 hfin hmap
    cases q with
    | nil =>
      have hfn := first_any hL
      rw [ptrTo_nil] at hfn ⊢
      have hfn' := Lib.hid hfn
      have hL' := Lib.hid hL
      clear hL hfn s4
      go_wp2_with (go_at_call 41; refine hfn'.out.mono ?_; rintro e w' ⟨rfl, rfl⟩)
      go_ret
      obtain ⟨e1, e2, e3, e4, e5, e6, e7⟩ := hE.out
      refine ⟨_, h, [], rfl, ?_, e6, hL'.out, by rw [hgl'.out.1]; rfl, by simp [blocks], e7⟩
      rw [hgl'.out.2]
      simpa [dat, gdue] using e5
    | cons m r =>
      have s5 : 0 ≤ m.2.2 ∧ m.2.2 ≤ 16777216 := (Fine.tail (x := m.2) (r := dat r) s4).2
      obtain ⟨m0, m1⟩ := s5
      obtain ⟨d0, d1, d2, fd⟩ := Seg.cells hL.1.2
      have fd1 := fd 1
      by_cases hm : m.2.2 ≤ t'
      · have hwr2 : IntKind.i64.wrap (t' - m.2.2) = t' - m.2.2 := IntWalk.i64_in _ (by omega)
        have hun : ∀ W, ListAt W l (m :: r) → Calls Try.prog 40 #[.pointer (some ⟨l, 0, none⟩), .pointer (some ⟨l, 0, none⟩)] W fun e w' => e = .returned (.tuple #[]) ∧ ListAt w' l r ∧ Only (fp l []) W w' := fun W hW =>
          unhang_any (p := []) hW (by have e := hE.out.1; have : ns.length = p.length + (m :: r).length := by rw [e]; simp
                                      simp only [List.nil_append]; omega)
        have hun' := Lib.hid hun
        have hL' := Lib.hid hL
        have hpl : Hid (p.length < 1000) := by
          have e : ns.length = p.length + (r.length + 1) := by rw [hE.out.1]; simp
          exact Lib.hid (by omega)
        have hlL : ∀ w3 ob, Only (fun k => some k = h) (ws.alloc ob) w3 → ListAt w3 l (m :: r) := fun w3 ob h3 => by
          refine (hL.kept ((Only.refl (fun _ => False) ws).alloc ob) (fun _ _ h => h)).kept h3 (fun b hb e => ?_)
          have h1 := hE.out.2.2.2.2.2.1 b e.symm
          have h2 : b < w.heap.size := hlt'.out b (by
            rcases hb with rfl | hb
            · exact .inl rfl
            · exact .inr (by rw [hE.out.1]; simp [blocks] at hb ⊢; exact .inr hb))
          omega
        have hlL' := Lib.hid hlL
        clear hL hun s4 fd hlL
        simp only [ptrTo_cons]
        go_wp2_with (first | (at_builtin; refine wpList_append_win rfl _ _ 22 rfl 3 (Value.int .i64 0) 1 8 Try.underlying22 info3 rfl (by decide) rfl (hE.out.2.2.2.2.1.kept ((Only.refl (fun _ => False) ws).alloc _) (fun _ _ h => h)) _ 1 1 rfl [Value.int .i64 m.2.1] rfl (fun _ => ⟨_, rfl, cell_one_new _ _ _⟩) (by simp [Value.oneCell']) (by have e := hpl.out; unfold maxLen; omega) (by have e := hpl.out; omega) ?_; intro v' w4 h4 hW4 hO4 hh4; have hl4 := Lib.hid (hlL'.out _ _ hO4.out); have hu4 := Lib.hid (hun'.out _ hl4.out)) | (go_at_call 40; refine hu4.out.mono ?_; rintro e w5 ⟨rfl, h5, o5⟩; have h5' := Lib.hid h5; have o5' := Lib.hid o5; have hf5 := Lib.hid (first_any h5); clear h5 o5) | (go_at_call 41; refine hf5.out.mono ?_; rintro e w' ⟨rfl, rfl⟩))
        go_roundg r.length
        case measure => have := hE.out.2.1; simp at this; omega
        case rel =>
          obtain ⟨e1, e2, e3, e4, e5, e6, e7⟩ := hE.out
          have hsz := e7.size
          have hlw : l < w.heap.size := hlt'.out l (.inl rfl)
          have hh4' : ∀ k, h4 = some k → w.heap.size ≤ k := fun k hk => by
            rcases hh4.out with rfl | ⟨g, rfl, hg⟩
            · exact e6 k hk
            · cases hk
              rw [alloc_size] at hg
              omega
          refine ⟨p ++ [m], r, h4, t' - m.2.2, by rw [e1]; simp, rfl, rfl, by omega, by omega, ?_, ?_, rfl, h5'.out, ?_, hh4', ?_⟩
          · rw [dat_append, total_append]
            simp [dat, total] at e3 ⊢
            omega
          · intro a b e
            rw [dat_append] at e
            rcases List.eq_nil_or_concat b with rfl | ⟨b', y, rfl⟩
            · rw [List.append_nil] at e
              rw [← e, total_append]
              simp [dat, total] at e3 ⊢
              omega
            · rw [List.concat_eq_append, ← List.append_assoc] at e
              exact e4 a b' (List.append_inj' e rfl).1
          · rw [List.length_append, List.map_append, List.map_append]
            refine hW4.out.kept o5'.out (fun k hk => ?_)
            have := hh4' k hk
            rintro (rfl | hb)
            · omega
            · simp [blocks] at hb
          · refine ((e7.alloc _).trans hO4.out (fun x hx e => ?_)).trans o5'.out (fun x hx e => ?_)
            · have := e6 x e.symm
              omega
            · rcases e with rfl | hb
              · exact .inl rfl
              · simp [blocks] at hb
      · have hwr2 : IntKind.i64.wrap (m.2.2 - t') = m.2.2 - t' := IntWalk.i64_in _ (by omega)
        have hfn := first_any hL
        rw [ptrTo_cons] at hfn ⊢
        have hfn' := Lib.hid hfn
        have hL' := Lib.hid (cons_gap hL (m.2.2 - t'))
        clear hL hfn s4 fd
        go_wp2_with (go_at_call 41; refine hfn'.out.mono ?_; rintro e w' ⟨rfl, rfl⟩)
        go_ret
        obtain ⟨e1, e2, e3, e4, e5, e6, e7⟩ := hE.out
        have g1 : gleft (dat (m :: r)) t' = (m.2.1, m.2.2 - t') :: dat r := by simp [dat, gleft]; omega
        have g2 : gdue (dat (m :: r)) t' = [] := by simp [dat, gdue]; omega
        have hm1 : m.1 < w.heap.size := hlt'.out m.1 (.inr (by rw [e1]; simp [blocks]))
        refine ⟨_, h, (m.1, m.2.1, m.2.2 - t') :: r, rfl, ?_, e6, hL'.out, ?_, ?_, ?_⟩
        · rw [hgl'.out.2, g2, List.append_nil, List.length_map]
          refine e5.kept ((Only.refl (fun k => k = m.1) _).setCell (p := ⟨m.1, 1, none⟩) (fun _ => rfl) _) (fun k hk e => ?_)
          have := e6 k hk
          omega
        · rw [hgl'.out.1, g1]
          rfl
        · intro b hb
          rw [e1]
          simp [blocks] at hb ⊢
          exact .inr hb
        · exact e7.setCell (p := ⟨m.1, 1, none⟩) (fun _ => .inr (by rw [e1]; simp [blocks])) _
end Go.Proofs.Ytbmegpcdcbfjmaa.Delta
