/- A job on its way: what its calls leave. -/
import Derived.Test.YtifpndjpijohfaaFew17
namespace Go.Proofs.Ytifpndjpijohfaa
open Go Go.RowKit

theorem beginF_ok {j : Jb} {x : Opn} (h : j.Ok) (hx : opOf j = some x) {cost : Int} (hc : cost ≤ 9223372036854775807) : (beginF j x cost).1.Ok := by
  obtain ⟨_, _, h3⟩ := opOf_some hx
  have hlt := (List.getElem?_eq_some_iff.1 h3).1
  obtain ⟨s1, s2, s3, s4, s5, s6, s7⟩ := doF_same j x
  unfold beginF
  split
  · exact ⟨by simp only; omega, by simp only; rw [s5]; exact h.l, by simp only; rw [s1, s3]; exact h.n, by simp only; rw [s1, s3]; exact fun _ => hlt⟩
  · exact ⟨by simp only; omega, by simp only; rw [s5]; exact h.l, by simp only; rw [s1, s3]; exact h.n, by simp only; rw [s1, s3]; exact fun _ => hlt⟩
theorem goneF_le {j : Jb} (h : j.Ok) (c : Int) : 0 ≤ goneF j c ∧ goneF j c ≤ j.rest := by
  have := h.r
  unfold goneF
  omega
theorem burnF_ok {j : Jb} (h : j.Ok) (c : Int) : (burnF j c).Ok := by
  have hg := goneF_le h c
  have hr := h.r
  have hl := h.l
  have hn := h.n
  have hu := h.u
  unfold burnF
  split
  · exact h
  · rename_i h0
    have hlt := hu (by omega)
    refine ⟨by simp only; omega, ?_, ?_, ?_⟩
    · simp only
      split <;> omega
    · refine ⟨hn.1, ?_⟩
      simp only
      split <;> omega
    · simp only
      intro h1
      rw [if_neg (by omega)]
      exact hlt
theorem armed_ok {j : Jb} (h : j.Ok) : ({ j with armed := true } : Jb).Ok := ⟨h.r, h.l, h.n, h.u⟩

/-- The job on its way. -/
def JR (w : World) (B b : Nat) (j : Jb) (ws : World) : Prop :=
  ∃ o, JbAt ws b o j ∧ (∀ k, jfp b o k → B ≤ k) ∧ Only (fun x => B ≤ x) w ws ∧ j.Ok
section
variable {w ws w' : World} {B b : Nat} {j : Jb}
theorem JR.only (h : JR w B b j ws) : Only (fun x => B ≤ x) w ws := by
  obtain ⟨_, _, _, h, _⟩ := h
  exact h
theorem JR.ok (h : JR w B b j ws) : j.Ok := by
  obtain ⟨_, _, _, _, h⟩ := h
  exact h
theorem JR.new (h : JR w B b j ws) (ho : Only (fun _ => False) ws w') : JR w B b j w' := by
  obtain ⟨o, h1, h2, h3, h4⟩ := h
  exact ⟨o, h1.new ho, h2, h3.trans ho (fun _ _ h => h.elim), h4⟩
theorem JR.of (h3 : Only (fun x => B ≤ x) w ws) {o : Option Nat} (h2 : ∀ k, jfp b o k → B ≤ k) {j' : Jb} (hk : j'.Ok) {v : Value} {e : Ending} (ht : Turned v ws b o j' e w') : e = .returned v ∧ JR w B b j' w' :=
  ⟨ht.1, o, ht.2.1, h2, h3.trans ht.2.2 (fun k _ e => by subst e; exact h2 _ (.inl rfl)), hk⟩
theorem JR.begin (h : JR w B b j ws) {x : Opn} (hx : opOf j = some x) {cost : Int} (hc : cost ≤ 9223372036854775807) {v : Int} {j' : Jb} (hv : beginF j x cost = (j', v)) :
    Calls Try.prog 9 #[.pointer (some ⟨b, 0, none⟩), .int .i64 cost] ws fun e w' => e = .returned (.int .i64 v) ∧ JR w B b j' w' := by
  obtain ⟨o, h1, h2, h3, h4⟩ := h
  have hk := beginF_ok h4 hx hc
  have := jbegin_some h1 hx h4.n.1 cost
  rw [hv] at hk this
  exact this.mono fun e w' ht => JR.of h3 h2 hk ht
theorem JR.beginNone (h : JR w B b j ws) (hx : opOf j = none) (cost : Int) :
    Calls Try.prog 9 #[.pointer (some ⟨b, 0, none⟩), .int .i64 cost] ws fun e w' => e = .returned (.int .i64 1) ∧ JR w B b j w' := by
  have h' := h
  obtain ⟨o, h1, h2, h3, h4⟩ := h
  exact (jbegin_none h1 h4.r.1 hx cost).mono fun e w' ⟨h5, h6⟩ => ⟨h5, h'.new h6⟩
theorem JR.burn (h : JR w B b j ws) (c : Int) {v : Int} {j' : Jb} (hv : goneF j c = v) (hj : burnF j c = j') :
    Calls Try.prog 11 #[.pointer (some ⟨b, 0, none⟩), .int .i64 c] ws fun e w' => e = .returned (.int .i64 v) ∧ JR w B b j' w' := by
  obtain ⟨o, h1, h2, h3, h4⟩ := h
  subst hv hj
  exact (jburn_any h1 h4 c).mono fun e w' ht => JR.of h3 h2 (burnF_ok h4 c) ht
theorem JR.withhold (h : JR w B b j ws) (hv : whB j = true) {j' : Jb} (hj : ({ j with armed := true } : Jb) = j') :
    Calls Try.prog 10 #[.pointer (some ⟨b, 0, none⟩)] ws fun e w' => e = .returned (.bool true) ∧ JR w B b j' w' := by
  obtain ⟨o, h1, h2, h3, h4⟩ := h
  subst hj
  exact (jwh_yes h1 hv).mono fun e w' ht => JR.of h3 h2 (armed_ok h4) ht
theorem JR.withholdNot (h : JR w B b j ws) (hv : whB j = false) :
    Calls Try.prog 10 #[.pointer (some ⟨b, 0, none⟩)] ws fun e w' => e = .returned (.bool false) ∧ JR w B b j w' := by
  have h' := h
  obtain ⟨o, h1, h2, h3, h4⟩ := h
  exact (jwh_not h1 hv).mono fun e w' ht => ⟨ht.only.1, h'.new ht.only.2⟩
theorem JR.over (h : JR w B b j ws) : Calls Try.prog 15 #[.pointer (some ⟨b, 0, none⟩)] ws fun e w' => e = .returned (.bool (overB j)) ∧ JR w B b j w' := by
  have h' := h
  obtain ⟨o, h1, h2, h3, h4⟩ := h
  exact (jover_any h1).mono fun e w' ht => ⟨ht.only.1, h'.new ht.only.2⟩
theorem JR.left (h : JR w B b j ws) : Calls Try.prog 12 #[.pointer (some ⟨b, 0, none⟩)] ws fun e w' => e = .returned (.tuple #[.int .i64 j.left, .bool j.armed]) ∧ JR w B b j w' := by
  have h' := h
  obtain ⟨o, h1, h2, h3, h4⟩ := h
  exact (jleft_any h1).mono fun e w' ht => ⟨ht.only.1, h'.new ht.only.2⟩
theorem JR.rest (h : JR w B b j ws) : Calls Try.prog 13 #[.pointer (some ⟨b, 0, none⟩)] ws (RetI j.rest ws) := by
  obtain ⟨o, h1, h2, h3, h4⟩ := h
  exact jrest_any h1
theorem JR.at_ (h : JR w B b j ws) : Calls Try.prog 14 #[.pointer (some ⟨b, 0, none⟩)] ws (RetI j.at_ ws) := by
  obtain ⟨o, h1, h2, h3, h4⟩ := h
  exact jat_any h1
theorem JR.fault (h : JR w B b j ws) : Calls Try.prog 16 #[.pointer (some ⟨b, 0, none⟩)] ws (RetB j.fault ws) := by
  obtain ⟨o, h1, h2, h3, h4⟩ := h
  exact jfault_any h1
theorem JR.open_ (h : JR w B b j ws) : Calls Try.prog 17 #[.pointer (some ⟨b, 0, none⟩)] ws (RetB (decide (0 < j.regions)) ws) := by
  obtain ⟨o, h1, h2, h3, h4⟩ := h
  exact jopen_any h1
theorem JR.first {t : TaskV} {l : List Opn} {e : Ending} (h : JNewEnd ws t l e w') (hO : Only (fun x => B ≤ x) w ws) (hB : B ≤ ws.heap.size) (hn : l.length ≤ 1000) (hf : t.fl ≤ 9223372036854775807) : ∃ b, e = .returned (.pointer (some ⟨b, 0, none⟩)) ∧ JR w B b (newJ t l) w' := by
  obtain ⟨b, o, rfl, h1, h2, h3⟩ := h
  exact ⟨b, rfl, o, h1, fun k hk => Nat.le_trans hB (h2 k hk), hO.trans h3 (fun _ _ h => h.elim), newJ_ok hn hf⟩
end

/-! ### The fixed calls -/
def t17 (X : Nat) : TaskV := ⟨0, 0, 0, 0, 0, 2, ⟨some ⟨X, 0, none⟩, 2, 2⟩⟩
def t0 : TaskV := ⟨0, 0, 0, 0, 0, 0, ⟨none, 0, 0⟩⟩
def l17 : List Opn := [⟨1, 5, 0⟩, ⟨7, 1, 0⟩]
theorem l17_row (w : World) : OpnRow (w.alloc (.cells #[.int .i64 1, .int .i64 5, .int .i64 0, .int .i64 7, .int .i64 1, .int .i64 0] 39)) (some ⟨w.heap.size, 0, none⟩) l17 := by
  have hh : (w.alloc (.cells #[.int .i64 1, .int .i64 5, .int .i64 0, .int .i64 7, .int .i64 1, .int .i64 0] 39)).heap[w.heap.size]? = some (.cells [.int .i64 1, .int .i64 5, .int .i64 0, .int .i64 7, .int .i64 1, .int .i64 0].toArray 39 (0, 0)) := heap_new_at _ _ rfl
  intro k x hx
  have hl := row_lt hh
  match k, hx with
  | 0, hx => cases hx; exact ⟨_, 0, rfl, hl, row_cell hh (i := 0) rfl, row_cell hh (i := 1) rfl, row_cell hh (i := 2) rfl⟩
  | 1, hx => cases hx; exact ⟨_, 0, rfl, hl, row_cell hh (i := 3) rfl, row_cell hh (i := 4) rfl, row_cell hh (i := 5) rfl⟩
  | k + 2, hx => simp [l17] at hx
def st0 : Jb := ⟨l17, 0, 0, 0, 0, 0, 2, false, false⟩
def st1 : Jb := ⟨l17, 0, 0, 5, 0, 0, 2, false, false⟩
def st2 : Jb := ⟨l17, 0, 0, 2, 0, 0, 2, false, false⟩
def st3 : Jb := ⟨l17, 0, 0, 2, 0, 0, 2, true, false⟩
def st4 : Jb := ⟨l17, 0, 1, 0, 0, 0, 0, true, false⟩
def st5 : Jb := ⟨l17, 0, 1, 1, 0, 1, 0, true, true⟩
def st6 : Jb := ⟨l17, 0, 2, 0, 0, 1, 0, true, true⟩
set_option maxRecDepth 100000 in
theorem fixed17_any (w : World) : Calls Try.prog 6 #[] w fun e w' => e = .returned (.bool true) ∧ Below w.heap.size w w' := by
  obtain ⟨B, hB⟩ : ∃ B, B = w.heap.size := ⟨_, rfl⟩
  rw [← hB]
  have hBw := Lib.hid (Nat.le_of_eq hB)
  have hn := Lib.hid (jnew_any (t := t17 w.heap.size) (l17_row w) rfl (show 2 ≤ 1000 by decide))
  go_enter Try.func6, Try.ntmps6
  go_wp2_with fail
  refine hn.out.mono ?_
  rintro e w1 h1
  obtain ⟨b, rfl, hR⟩ := JR.first (w := w) (B := B) h1 ((Only.refl _ w).alloc _) (by simp; omega) (by decide) (show (2 : Int) ≤ 9223372036854775807 by decide)
  replace hR : JR w B b st0 w1 := hR
  clear h1 hn hB
  go_wp2_with fail
  refine (hR.begin (x := ⟨1, 5, 0⟩) rfl (cost := 5) (by decide) (v := 0) (j' := st1) rfl).mono ?_
  rintro e w2 ⟨rfl, hR2⟩
  clear hR
  go_wp2_with fail
  refine (hR2.burn 3 (v := 3) (j' := st2) rfl rfl).mono ?_
  rintro e w3 ⟨rfl, hR3⟩
  clear hR2
  go_wp2_with fail
  refine (hR3.withhold rfl (j' := st3) rfl).mono ?_
  rintro e w4 ⟨rfl, hR4⟩
  clear hR3
  go_wp2_with fail
  refine (hR4.burn 9 (v := 2) (j' := st4) rfl rfl).mono ?_
  rintro e w5 ⟨rfl, hR5⟩
  clear hR4
  go_wp2_with fail
  refine hR5.left.mono ?_
  rintro e w6 ⟨rfl, hR6⟩
  clear hR5
  unfold st4
  go_wp2_with fail
  refine (hR6.begin (x := ⟨7, 1, 0⟩) rfl (cost := 1) (by decide) (v := 11) (j' := st5) rfl).mono ?_
  rintro e w7 ⟨rfl, hR7⟩
  clear hR6
  go_wp2_with fail
  refine (hR7.burn 1 (v := 1) (j' := st6) rfl rfl).mono ?_
  rintro e w8 ⟨rfl, hR8⟩
  clear hR7
  go_wp2_with fail
  refine hR8.fault.mono ?_
  rintro e w' ⟨rfl, rfl⟩
  go_wp2_with fail
  refine hR8.over.mono ?_
  rintro e w9 ⟨rfl, hR9⟩
  rw [show overB st6 = true from rfl]
  clear hR8
  have hO9 := Lib.hid hR9.only
  clear hR9
  go_wp2_with fail
  refine (jnew_any (t := t0) (l := []) (fun k x hx => by cases hx) rfl (by decide)).mono ?_
  rintro e w10 ⟨b2, o2, rfl, h1, -, h3⟩
  go_wp2_with fail
  refine (jover_any h1).mono ?_
  rintro e w11 ⟨rfl, m, rfl⟩
  have hO := Lib.hid ((hO9.out.trans h3 (fun _ _ h => h.elim)).drewN m)
  rw [show overB (newJ t0 []) = true from rfl]
  clear h1 h3
  go_wp2
  go_ret
  exact ⟨rfl, hO.out.below hBw.out (fun k h => h)⟩
end Go.Proofs.Ytifpndjpijohfaa
