/- Delta's calls that write, and Due. -/
import Derived.Test.YtbmegpcdcbfjmaaDeltaR
import Derived.Test.YtbmegpcdcbfjmaaDeltaP
import Derived.Test.YtbmegpcdcbfjmaaTail
namespace Go.Proofs.Ytbmegpcdcbfjmaa.Delta
open Go.RowKit

def dat (ns : List Nd) : Gaps := ns.map (·.2)
theorem dat_append (p q : List Nd) : dat (p ++ q) = dat p ++ dat q := by simp [dat]
theorem ptrTo_ptr (q : List Nd) : ∃ o, ptrTo q (.pointer none) = .pointer o := by
  cases q with
  | nil => exact ⟨none, rfl⟩
  | cons n r => exact ⟨_, rfl⟩

theorem nodup_split {l : Nat} {p q : List Nd} (h : (l :: blocks (p ++ q)).Nodup) : (l :: blocks p).Nodup ∧ (blocks q).Nodup ∧ (∀ b ∈ blocks q, b ≠ l ∧ b ∉ blocks p) := by
  simp only [blocks, List.map_append, List.nodup_cons, List.nodup_append, List.mem_append, not_or] at h ⊢
  obtain ⟨⟨h1, h2⟩, h3, h4, h5⟩ := h
  exact ⟨⟨h1, h3⟩, h4, fun b hb => ⟨fun e => h2 (e ▸ hb), fun hp => h5 _ hp _ hb rfl⟩⟩
theorem prevB_mem (l : Nat) (p : List Nd) : prevB l p = l ∨ prevB l p ∈ blocks p := by
  rcases List.eq_nil_or_concat p with rfl | ⟨p, n, rfl⟩
  · exact .inl rfl
  · rw [List.concat_eq_append, prevB_concat]
    exact .inr (by simp [blocks])
theorem prevB_not {l : Nat} {p q : List Nd} (h : (l :: blocks (p ++ q)).Nodup) : prevB l p ∉ blocks q := fun hm => by
  obtain ⟨_, _, h3⟩ := nodup_split h
  obtain ⟨h4, h5⟩ := h3 _ hm
  rcases prevB_mem l p with e | e
  · exact h4 e
  · exact h5 e

/-- What stands behind a place goes on without the node there. -/
theorem unhang_any {w : World} {l : Nat} {p : List Nd} {n : Nd} {q : List Nd} (h : ListAt w l (p ++ n :: q)) (hl : (p ++ n :: q).length ≤ 1000) :
    Calls Try.prog 40 #[.pointer (some ⟨l, 0, none⟩), .pointer (some ⟨prevB l p, 0, none⟩)] w fun e w' => e = .returned (.tuple #[]) ∧ ListAt w' l (p ++ q) ∧ Only (fp l p) w w' := by
  obtain ⟨h1, h2⟩ := Part.split.1 h.1
  obtain ⟨c2, f2⟩ := h1.next
  obtain ⟨c3, f3, _⟩ := h1.count
  obtain ⟨d0, d1, d2, fd⟩ := h2.cells
  rw [ptrTo_cons] at c2
  obtain ⟨o, ho⟩ := ptrTo_ptr q
  rw [ho] at d2
  obtain ⟨c, hc⟩ : ∃ c, c = (p ++ n :: q).length := ⟨_, rfl⟩
  rw [← hc] at c3 h1 hl
  have hc0 : 0 < c := by rw [hc, List.length_append, List.length_cons]; omega
  have hwr : IntKind.i64.wrap ((c : Int) - 1) = (c : Int) - 1 := IntWalk.i64_in _ (by omega)
  obtain ⟨n1, n2, n3⟩ := nodup_split h.2
  have hnq : prevB l p ∉ blocks q := by
    have := prevB_not h.2
    simp [blocks] at this ⊢
    exact this.2
  have hend : ListAt ((w.setCell ⟨prevB l p, 2, none⟩ (.pointer o)).setCell ⟨l, 3, none⟩ (.int .i64 ((c : Int) - 1))) l (p ++ q) := by
    refine ⟨?_, ?_⟩
    · have e : ((p ++ q).length : Int) = (c : Int) - 1 := by rw [hc]; simp; omega
      rw [e]
      refine Part.split.2 ⟨?_, ?_⟩
      · rw [ho]
        exact (h1.setNext n1 _).setCount n1 _
      · refine (h2.2.kept ((Only.refl (fun k => k = prevB l p) w).setCell (p := ⟨prevB l p, 2, none⟩) (fun _ => rfl) _) (fun b hb e => hnq (e ▸ hb))).kept ((Only.refl (fun k => k = l) _).setCell (p := ⟨l, 3, none⟩) (fun _ => rfl) _) (fun b hb e => ?_)
        exact (n3 b (by simp [blocks] at hb ⊢; exact .inr hb)).1 e
    · have := h.2
      simp only [blocks, List.map_append, List.map_cons, List.nodup_cons, List.nodup_append, List.mem_append, List.mem_cons, not_or] at this ⊢
      obtain ⟨⟨a1, a2, a3⟩, a4, ⟨a5, a6⟩, a7⟩ := this
      exact ⟨⟨a1, a3⟩, a4, a6, fun x hx y hy => a7 x hx y (.inr hy)⟩
  have honly : Only (fp l p) w ((w.setCell ⟨prevB l p, 2, none⟩ (.pointer o)).setCell ⟨l, 3, none⟩ (.int .i64 ((c : Int) - 1))) :=
    ((Only.refl _ w).setCell (p := ⟨prevB l p, 2, none⟩) (fun _ => prevB_mem l p) _).setCell (p := ⟨l, 3, none⟩) (fun _ => .inl rfl) _
  have hend' := Lib.hid hend
  have honly' := Lib.hid honly
  clear hend honly h h1 h2 n1 n2 n3 hnq hc ho
  go_enter Try.func40, Try.ntmps40
  go_wp2
  go_end0
  exact ⟨rfl, hend'.out, honly'.out⟩

/-- Dropping a key that isn't there. -/
theorem drop_none {w : World} {l : Nat} {ns : List Nd} (h : ListAt w l ns) (key : Int) (hk : ∀ m ∈ ns, m.2.1 ≠ key) :
    Calls Try.prog 24 #[.pointer (some ⟨l, 0, none⟩), .int .i64 key] w fun e w' => e = .returned (.bool false) ∧ w = w' := by
  have ha := Lib.hid (ahead_none h key hk)
  clear h hk
  go_enter Try.func24, Try.ntmps24
  go_wp2_with (go_at_call 39; refine ha.out.mono ?_; rintro e w' ⟨rfl, rfl⟩)
  go_ret
  exact ⟨rfl, rfl⟩

theorem drop_last {w : World} {l : Nat} {p : List Nd} {n : Nd} (h : ListAt w l (p ++ [n])) (hl : (p ++ [n]).length ≤ 1000) (hk : ∀ m ∈ p, m.2.1 ≠ n.2.1) :
    Calls Try.prog 24 #[.pointer (some ⟨l, 0, none⟩), .int .i64 n.2.1] w fun e w' => e = .returned (.bool true) ∧ ListAt w' l p ∧ Only (fp l p) w w' := by
  have ha := Lib.hid (ahead_some h n.2.1 hk rfl)
  obtain ⟨h1, h2⟩ := Part.split.1 h.1
  obtain ⟨c2, f2⟩ := h1.next
  obtain ⟨d0, d1, d2, fd⟩ := h2.cells
  rw [ptrTo_cons] at c2
  rw [ptrTo_nil] at d2
  have hu := Lib.hid (unhang_any h hl)
  clear h h1 h2 hk fd f2
  go_enter Try.func24, Try.ntmps24
  go_wp2_with (first | (go_at_call 39; refine ha.out.mono ?_; rintro e w' ⟨rfl, rfl⟩) | (go_at_call 40; refine hu.out.mono ?_; rintro e w3 ⟨rfl, h3, h4⟩; have h3' := Lib.hid h3; have h4' := Lib.hid h4; clear h3 h4))
  go_ret
  exact ⟨rfl, by simpa using h3'.out, h4'.out⟩

theorem drop_more {w : World} {l : Nat} {p : List Nd} {n m : Nd} {q : List Nd} (h : ListAt w l (p ++ n :: m :: q)) (hl : (p ++ n :: m :: q).length ≤ 1000) (hk : ∀ m ∈ p, m.2.1 ≠ n.2.1) (hb : 0 ≤ n.2.2 ∧ 0 ≤ m.2.2 ∧ n.2.2 + m.2.2 ≤ 16777216) :
    Calls Try.prog 24 #[.pointer (some ⟨l, 0, none⟩), .int .i64 n.2.1] w fun e w' => e = .returned (.bool true) ∧ ListAt w' l (p ++ (m.1, m.2.1, m.2.2 + n.2.2) :: q) ∧ Only (fp l (p ++ n :: m :: q)) w w' := by
  have ha := Lib.hid (ahead_some h n.2.1 hk rfl)
  obtain ⟨hb1, hb2, hb3⟩ := hb
  obtain ⟨h1, h2⟩ := Part.split.1 h.1
  obtain ⟨c2, f2⟩ := h1.next
  obtain ⟨d0, d1, d2, fd⟩ := h2.cells
  obtain ⟨e0, e1, e2, fe⟩ := Seg.cells h2.2
  have fe1 := fe 1
  rw [ptrTo_cons] at c2 d2
  have hwr : IntKind.i64.wrap (m.2.2 + n.2.2) = m.2.2 + n.2.2 := IntWalk.i64_in _ (by omega)
  obtain ⟨n1, n2, n3⟩ := nodup_split h.2
  have hmn : m.1 ≠ n.1 := by
    simp [blocks] at n2
    exact fun e => n2.1.1 e.symm
  have hmq : m.1 ∉ blocks q := by
    simp [blocks] at n2 ⊢
    exact n2.2.1
  have hmp : ∀ b, fp l p b → b ≠ m.1 := by
    rintro b (rfl | hb) e
    · exact (n3 m.1 (by simp [blocks])).1 e.symm
    · exact (n3 m.1 (by simp [blocks])).2 (e ▸ hb)
  have oS : Only (fun k => k = m.1) w (w.setCell ⟨m.1, 1, none⟩ (.int .i64 (m.2.2 + n.2.2))) := (Only.refl (fun k => k = m.1) w).setCell (p := ⟨m.1, 1, none⟩) (fun _ => rfl) _
  have hL : ListAt (w.setCell ⟨m.1, 1, none⟩ (.int .i64 (m.2.2 + n.2.2))) l (p ++ n :: (m.1, m.2.1, m.2.2 + n.2.2) :: q) := by
    refine ⟨?_, ?_⟩
    · have e : ((p ++ n :: (m.1, m.2.1, m.2.2 + n.2.2) :: q).length : Int) = ((p ++ n :: m :: q).length : Int) := by simp
      rw [e]
      refine Part.split.2 ⟨?_, ?_, ?_⟩
      · exact h1.kept oS (fun b hb e => hmp b hb e)
      · exact oS.heap h2.1 (fun e => hmn e.symm)
      · exact Seg.setGap h2.2 hmq _
    · have := h.2
      simpa [blocks] using this
  have hu := fun W (hW : ListAt W l (p ++ n :: (m.1, m.2.1, m.2.2 + n.2.2) :: q)) => unhang_any hW (by simpa using hl)
  have c2' : ∀ N, ((w.drewN N).setCell ⟨m.1, 1, none⟩ (.int .i64 (m.2.2 + n.2.2))).cell? ⟨prevB l p, 2, none⟩ = some (.pointer (some ⟨n.1, 0, none⟩)) := fun N => by
    have := (Part.split.1 hL.1).1.next.1
    rw [ptrTo_cons] at this
    exact this
  have hu' := Lib.hid hu
  have hL' := Lib.hid hL
  have oS' := Lib.hid oS
  clear h h1 h2 hk hu hL n1 n2 n3 oS hmq hmp hl fe fd f2 d0 e0 e2
  go_enter Try.func24, Try.ntmps24
  go_wp2_with (go_at_call 39; refine ha.out.mono ?_; rintro e w' ⟨rfl, rfl⟩)
  refine wp_region_quiet_tail_lit 14 (by kernel_rfl) (by kernel_rfl) ?_
  simp only [List.take_succ_cons, List.take_zero, List.drop_succ_cons, List.drop_zero]
  repeat (go_big_quiet_step (fail))
  refine wpQuiet_nil ?_
  rintro _ ⟨nq, rfl⟩
  go_wp2_with (go_at_call 40; refine (hu'.out ((w.drewN nq).setCell ⟨m.1, 1, none⟩ (.int .i64 (m.2.2 + n.2.2))) (hL'.out.same rfl)).mono ?_; rintro e w3 ⟨rfl, h3, h4⟩; have h3' := Lib.hid h3; have h4' := Lib.hid h4; clear h3 h4)
  go_ret
  refine ⟨rfl, h3'.out, ?_⟩
  have o1 : Only (fp l (p ++ n :: m :: q)) w ((w.drewN nq).setCell ⟨m.1, 1, none⟩ (.int .i64 (m.2.2 + n.2.2))) := ((Only.refl _ w).drewN nq).setCell (p := ⟨m.1, 1, none⟩) (fun _ => .inr (by simp [blocks])) _
  exact o1.trans h4'.out (fun x _ hx => by
    rcases hx with rfl | hx
    · exact .inl rfl
    · exact .inr (by simp [blocks] at hx ⊢; exact .inl hx))
end Go.Proofs.Ytbmegpcdcbfjmaa.Delta
