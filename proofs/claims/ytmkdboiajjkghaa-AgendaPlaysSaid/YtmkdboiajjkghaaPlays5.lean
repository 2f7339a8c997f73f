/- AgendaPlays' walk: whatever is put and taken, each answer is a plain row's. -/
import Derived.Test.YtmkdboiajjkghaaOpen
import Derived.Deep.CutRange
import Derived.Deep.DeepCutAuto
import Derived.Deep.CutBlock
namespace Go.Proofs.Ytmkdboiajjkghaa
open Go Go.RowKit

def evs (rs : List En) : List Ev := rs.map En.e
theorem evs_length (rs : List En) : (evs rs).length = rs.length := by simp [evs]
theorem evs_ents (n : Nat) (l : List Ev) : evs (ents n l) = l := by
  induction l generalizing n with
  | nil => rfl
  | cons x l ih => simp only [evs] at ih; simp [evs, ents, ih]
theorem evs_append (a b : List En) : evs (a ++ b) = evs a ++ evs b := by simp [evs]

/-- A row of events of the law's own lies apart from the agenda. -/
theorem ag_apart {w : World} {r T n : Nat} {o h : Option Nat} {rs : List En} {v : Value} {xs : List Value} (hA : Ag w r o T rs) (hW : Win w 29 5 v h n xs) : ∀ k, h = some k → ¬ fp r o k := by
  obtain ⟨es, hA, _⟩ := hA
  obtain ⟨v', h1, h2, h3⟩ := hA
  rintro k hk (rfl | ho)
  · obtain ⟨_, _, _, _, _, _, a⟩ := hW
    rcases a with a | ⟨g, _, L, hg, _, hh, _⟩
    · rw [a.1] at hk; cases hk
    · rw [hg] at hk
      cases hk
      rw [hh] at h1
      simp at h1
  · exact hW.ne h2 (by decide) k hk ho.symm

theorem evCells_cut (l : List Ev) (k : Nat) : evCells l = evCells (l.take k) ++ evCells (l.drop k) := by rw [← evCells_append, List.take_append_drop]
theorem evCells_take (l : List Ev) (k : Nat) : (evCells l).take (k * 5) = evCells (l.take k) := by
  by_cases hk : k ≤ l.length
  · rw [evCells_cut l k, List.take_left' (by rw [evCells_length, List.length_take]; omega)]
  · rw [List.take_of_length_le (by rw [evCells_length]; omega), List.take_of_length_le (by omega)]
theorem evCells_drop (l : List Ev) (k : Nat) : (evCells l).drop (k * 5) = evCells (l.drop k) := by
  by_cases hk : k ≤ l.length
  · rw [evCells_cut l k, List.drop_left' (by rw [evCells_length, List.length_take]; omega)]
  · rw [List.drop_of_length_le (by rw [evCells_length]; omega), List.drop_of_length_le (by omega)]
    rfl

theorem none_only {w w' : World} (h : Only (fun k => some k = none) w w') : Only (fun _ => False) w w' := h.mono (fun _ _ e => by cases e)

theorem evs_erase (rs : List En) (k : Nat) : evs (rs.eraseIdx k) = (evs rs).take k ++ (evs rs).drop (k + 1) := by
  rw [List.eraseIdx_eq_take_drop_succ]
  simp [evs]

/-- What append asks of a row of events. -/
theorem EvRow.src {w : World} {A : Option Addr} {l : List Ev} {n : Nat} (h : EvRow w A l) (hn : n = l.length) : 0 < n → ∃ ad, A = some ad ∧ ∀ j u, (evCells l)[j]? = some u → w.cell? (ad.add j) = some u := fun h0 => by
  obtain ⟨b, off, rfl, _, hc⟩ := h.at_ (by omega)
  refine ⟨_, rfl, fun j u hu => ?_⟩
  rw [Addr.add_lit]
  have hj := (List.getElem?_eq_some_iff.1 hu).1
  rw [evCells_length] at hj
  obtain ⟨k, i, hi, rfl⟩ : ∃ k i, i < 5 ∧ j = k * 5 + i := ⟨j / 5, j % 5, by omega, by omega⟩
  obtain ⟨x, hx⟩ : ∃ x, l[k]? = some x := ⟨l[k]'(by omega), List.getElem?_eq_getElem _⟩
  obtain ⟨c0, c1, c2, c3, c4⟩ := hc k x hx
  rw [evCells_at l k x hx i hi] at hu
  rw [← Nat.add_assoc]
  match i with
  | 0 => cases hu; exact c0
  | 1 => cases hu; exact c1
  | 2 => cases hu; exact c2
  | 3 => cases hu; exact c3
  | 4 => cases hu; exact c4
  | i + 5 => omega
theorem evsOne (l : List Ev) : ∀ u ∈ evCells l, u.oneCell' = true := by
  intro u hu
  obtain ⟨x, _, hx⟩ := List.mem_flatMap.1 hu
  exact evOne x u hx

/-- The agenda at r and the plain row v tell the same. -/
def PRel (W : World) (B r K : Nat) (v : Value) (wr : World) : Prop :=
  ∃ (T : Nat) (o : Option Nat) (rs : List En) (h : Option Nat) (p : Option Addr) (cap : Nat), v = .slice p rs.length cap ∧ Ag wr r o T rs ∧ Win wr 29 5 (.slice p rs.length cap) h rs.length (evCells (evs rs)) ∧ (∀ k, fp r o k → B ≤ k) ∧ (∀ k, h = some k → B ≤ k) ∧ T ≤ K ∧ Only (fun k => B ≤ k) W wr

theorem isFirst_ev {rs : List En} {k : Nat} {x : En} (h : IsFirst rs k x) : FirstEv (evs rs) k x.e := by
  refine ⟨by simp [evs, h.1], fun j y hy => ?_⟩
  simp only [evs, List.getElem?_map, Option.map_eq_some_iff] at hy
  obtain ⟨z, hz, rfl⟩ := hy
  exact h.2 j z hz
theorem firstEv_unique {l : List Ev} {k i : Nat} {x y : Ev} (h : FirstEv l k x) (g : FirstEv l i y) : k = i ∧ x = y := by
  have h1 := h.2 i y g.1
  have h2 := g.2 k x h.1
  have : k = i := by
    rcases Nat.lt_trichotomy k i with hlt | rfl | hlt
    · have := h2.2 hlt; omega
    · rfl
    · have := h1.2 hlt; omega
  subst this
  have e := h.1
  rw [g.1] at e
  cases e
  exact ⟨rfl, rfl⟩
theorem firstV_some {rs : List En} {k : Nat} {x : En} {v : Int} (h : IsFirst rs k x) (hv : FirstV (evs rs) v) : v = (k : Int) := by
  rcases hv with ⟨he, _⟩ | ⟨i, y, rfl, hy⟩
  · have := (isFirst_ev h).1
    rw [he] at this
    cases this
  · rw [(firstEv_unique hy (isFirst_ev h)).1]
theorem firstV_none {v : Int} (hv : FirstV [] v) : v = -1 := by
  rcases hv with ⟨_, h⟩ | ⟨i, y, _, hy⟩
  · exact h
  · cases hy.1
theorem first_some {w : World} {A : Option Addr} {n cap : Nat} {rs : List En} (hl : EvRow w A (evs rs)) (hn : n = rs.length) (hb : n ≤ 1000) {k : Nat} {x : En} (hx : IsFirst rs k x) : Calls Try.prog 8 #[.slice A n cap] w fun e w' => e = .returned (.int .i64 (k : Int)) ∧ Only (fun _ => False) w w' := by
  subst hn
  have h := first_any (cap := cap) hl (by rw [evs_length]; exact hb)
  rw [evs_length] at h
  exact h.mono fun e w' ⟨v, he, hv, ho⟩ => ⟨by rw [he, firstV_some hx hv], ho⟩
theorem first_none {w : World} {A : Option Addr} {cap : Nat} : Calls Try.prog 8 #[.slice A 0 cap] w fun e w' => e = .returned (.int .i64 (-1)) ∧ Only (fun _ => False) w w' := by
  have h := first_any (w := w) (A := A) (cap := cap) (l := []) (fun k x hx => by cases hx) (by simp)
  exact h.mono fun e w' ⟨v, he, hv, ho⟩ => ⟨by rw [he, firstV_none hv], ho⟩

/-- Of what was taken j have been held against the row. -/
def IRel (w6 : World) (B : Nat) (at_ : Int) (rs' : List En) (out : List Ev) (j : Nat) (v : Value) (wr : World) : Prop :=
  ∃ (rsj : List En) (p : Option Addr) (cap : Nat) (h : Option Nat), v = .slice p rsj.length cap ∧ Win wr 29 5 (.slice p rsj.length cap) h rsj.length (evCells (evs rsj)) ∧ Takes at_ rsj (out.drop j) rs' ∧ (∀ k, h = some k → B ≤ k) ∧ rsj.length ≤ 200 ∧ Only (fun _ => False) w6 wr

set_option maxRecDepth 100000 in
theorem plays_long (A1 A2 A3 : Option Addr) (n1 c1 n2 c2 n3 c3 : Nat) (w : World) (h : 60 < n1 ∨ 60 < n2 ∨ 60 < n3) :
    Calls Try.prog 3 #[.slice A1 n1 c1, .slice A2 n2 c2, .slice A3 n3 c3] w fun e w' => e = .returned (.bool true) ∧ Below w.heap.size w w' := by
  by_cases h1 : 60 < n1
  · clear h
    go_enter Try.func3, Try.ntmps3
    go_wp2_with (go_at_call 5; refine (fixed_any _).mono ?_; rintro e w1 ⟨rfl, hb1⟩; have hb1' := Lib.hid hb1; clear hb1)
    go_ret
    exact ⟨rfl, hb1'.out⟩
  · by_cases h2 : 60 < n2
    · clear h
      go_enter Try.func3, Try.ntmps3
      go_wp2_with (go_at_call 5; refine (fixed_any _).mono ?_; rintro e w1 ⟨rfl, hb1⟩; have hb1' := Lib.hid hb1; clear hb1)
      go_ret
      exact ⟨rfl, hb1'.out⟩
    · have h3 : 60 < n3 := by omega
      clear h
      go_enter Try.func3, Try.ntmps3
      go_wp2_with (go_at_call 5; refine (fixed_any _).mono ?_; rintro e w1 ⟨rfl, hb1⟩; have hb1' := Lib.hid hb1; clear hb1)
      go_ret
      exact ⟨rfl, hb1'.out⟩

set_option maxRecDepth 100000 in
set_option maxHeartbeats 1000000 in
theorem plays_some (A1 A2 A3 : Option Addr) (n1 c1 n2 c2 n3 c3 : Nat) (l1 l2 : List Ev) (zs : Nat → Int) (w : World) (b1 : n1 ≤ 60) (b2 : n2 ≤ 60) (b3 : n3 ≤ 60) (h1 : EvArg w A1 n1 l1) (h2 : EvArg w A2 n2 l2) (h3 : Row w A3 n3 (fun i => .int .i64 (zs i))) :
    Calls Try.prog 3 #[.slice A1 n1 c1, .slice A2 n2 c2, .slice A3 n3 c3] w fun e w' => e = .returned (.bool true) ∧ Below w.heap.size w w' := by
  have hnew := Lib.hid (fun W (hW : Only (fun _ => False) w W) => new_any (cap := c1) (h1.2.only hW (fun _ h => h.elim)) (by rw [h1.1]; omega))
  rw [h1.1] at hnew
  have h1' := Lib.hid h1
  have h2' := Lib.hid h2
  have h3' := Lib.hid h3
  have hg1 : ¬ 60 < (n1 : Int) := by omega
  have hg2 : ¬ 60 < (n2 : Int) := by omega
  have hg3 : ¬ 60 < (n3 : Int) := by omega
  clear h1 h2 h3
  go_enter Try.func3, Try.ntmps3
  go_wp2_with (go_at_call 5; refine (fixed_any _).mono ?_; rintro e w1 ⟨rfl, hb1⟩; have hb1' := Lib.hid hb1; clear hb1)
  have hO1 := Lib.hid (Only.of_new hb1'.out (fun _ => False))
  refine (hnew.out _ hO1.out).mono ?_
  rintro e W ⟨rfl, o, hAg, hog, hO⟩
  obtain ⟨r, hr⟩ : ∃ r, r = w1.heap.size := ⟨_, rfl⟩
  rw [← hr] at hAg hog ⊢
  have hE := Lib.hid (And.intro hr (And.intro hAg (And.intro hog (hO1.out.trans' hO))))
  clear hr hAg hog hO
  go_wp2_with (at_builtin; refine wpList_append_win rfl _ _ 22 rfl 29 zev 5 40 Try.underlying22 info29 rfl (by decide) (v := .slice _ 0 0) rfl (Win.empty _ 29 5 _) _ n1 c1 rfl (evCells l1) (by rw [evCells_length, h1'.out.1]) ((h1'.out.2.only (hE.out.2.2.2.alloc _) (fun _ h => h.elim)).src h1'.out.1.symm) (evsOne _) (by unfold maxLen; omega) (by omega) ?_; intro v4 w4 h4 hW4 hO4 hh4; obtain ⟨p4, c4, rfl, _, _⟩ := hW4.out.form)
  obtain ⟨B, hB⟩ : ∃ B, B = w.heap.size := ⟨_, rfl⟩
  have hrel := Lib.hid (show PRel w B r 60 (.slice p4 (0 + n1) c4) w4 from by
    obtain ⟨hr, hAg, hog, hO⟩ := hE.out
    have hs1 := hO1.out.size
    have hO4' : Only (fun _ => False) W w4 := ((Only.refl (fun _ => False) W).alloc _).trans hO4.out (fun x _ e => by cases e)
    have hlen : (ents 0 l1).length = 0 + n1 := by rw [ents_length, h1'.out.1]; omega
    refine ⟨l1.length, o, ents 0 l1, h4, p4, c4, by rw [hlen], hAg.new hO4', ?_, ?_, ?_, by rw [h1'.out.1]; exact b1, (hO.trans' hO4').mono (fun _ _ h => h.elim)⟩
    · rw [hlen, evs_ents]
      simpa using hW4.out
    · rintro k (rfl | hk)
      · omega
      · have := hog k hk; omega
    · rintro k rfl
      rcases hh4.out with hh | ⟨g, hg, hge⟩
      · cases hh
      · cases hg
        have := hO.size
        rw [alloc_size] at hge
        omega)
  have hB' := Lib.hid hB
  clear hB hb1'
  go_wp2
  go_loopw [8, 40] (fun v i wr => ∃ k : Nat, k ≤ n3 ∧ i = .int .i64 k ∧ PRel w B r (60 + k) v wr) (fun _ i _ => n3 - (intOf i).toNat)
  case atStart => exact ⟨0, Nat.zero_le _, rfl, by have h := hrel.out; rw [Nat.zero_add] at h; exact h⟩
  case round =>
    obtain ⟨k, hk, rfl, hrelk⟩ := hrel
    obtain ⟨ws, hws⟩ : ∃ ws : World, ws = wr := ⟨_, rfl⟩
    subst hws
    have hO : Only (fun k => B ≤ k) w ws := by obtain ⟨_, _, _, _, _, _, _, _, _, _, _, _, hO⟩ := hrelk; exact hO
    have hrel' := Lib.hid hrelk
    have hO' := Lib.hid hO
    clear hrelk hO
    by_cases hlt : k < n3
    · obtain ⟨b3', off3, rfl, hc3, hb3⟩ := h3'.out k hlt
      have hc3' : ws.cell? ⟨b3', off3 + k, none⟩ = some (.int .i64 (zs k)) := hO'.out.cell hc3 (fun h => by have := hB'.out; have h' : B ≤ b3' := h; omega)
      have hlt' : (k : Int) < (n3 : Int) := by omega
      obtain ⟨at_, hat⟩ : ∃ a, a = zs k := ⟨_, rfl⟩
      rw [← hat] at hc3'
      clear hc3 hat
      go_upto_if 48 with fail
      go_cut [8] from 41 to 142 (fun v wc => PRel w B r (61 + k) v wc)
      case first =>
        obtain ⟨T, o, rs, h, p, cap, rfl, hA, hW, hf, hh, hT, hO⟩ := hrel'.out
        by_cases hl2 : k < n2
        · have hl2' : (k : Int) < (n2 : Int) := by omega
          obtain ⟨x, hx⟩ : ∃ x, l2[k]? = some x := ⟨l2[k]'(by have := h2'.out.1; omega), List.getElem?_eq_getElem _⟩
          obtain ⟨bb, off, hA2, hbb, hc⟩ := h2'.out.2.at_ (by have := h2'.out.1; omega)
          subst hA2
          have hcx := hc k x hx
          have hnb : ¬ B ≤ bb := by have := hB'.out; omega
          have hkeep := Lib.hid (show ∀ W', Only (fun k => B ≤ k) ws W' → EvCells W' bb (off + k * 5) x from fun W' hW' => by
            obtain ⟨c0, c1, c2, c3, c4⟩ := hcx
            have hO2 := hO.trans' hW'
            exact ⟨hO2.cell c0 hnb, hO2.cell c1 hnb, hO2.cell c2 hnb, hO2.cell c3 hnb, hO2.cell c4 hnb⟩)
          obtain ⟨c0, c1, c2, c3, c4⟩ := hkeep.out ws (Only.refl _ _)
          have hput := Lib.hid (put_any hA (by omega) x)
          have hap := Lib.hid (ag_apart hA hW)
          have hlen := hA.len
          obtain ⟨n, hn⟩ : ∃ n, n = rs.length := ⟨_, rfl⟩
          have hH := Lib.hid (And.intro hn (And.intro hf (And.intro hh (And.intro hT (And.intro hO (And.intro hA.lt hW))))))
          rw [← hn] at hlen ⊢
          have hnb' : n ≤ 200 := by omega
          clear hA hW hf hh hT hO hlen hx hc hcx hn hnb
          unfold Ev.val at hput
          go_wp2_with fail
          refine hput.out.mono ?_
          rintro e W3 ⟨rfl, o', hA3, hoo, hO3⟩
          have hB3 := Lib.hid (hO3.mono (T := fun k => B ≤ k) (fun k _ hk => hH.out.2.1 k hk))
          obtain ⟨d0, d1, d2, d3, d4⟩ := hkeep.out W3 hB3.out
          have hW3 := Lib.hid (show ∀ W', Only (fun _ => False) W3 W' → Win W' 29 5 (.slice p n cap) h n (evCells (evs rs)) from fun W' hW' => by
            obtain ⟨hn, _, _, _, _, _, hW⟩ := hH.out
            rw [hn]
            exact (hW.kept hO3 (fun k hk => hap.out k hk)).kept hW' (fun _ _ h => h))
          have hG := Lib.hid (And.intro hA3 (And.intro hoo hO3))
          clear hA3 hoo hO3 c0 c1 c2 c3 c4
          go_wp2_with (at_builtin; refine wpList_append_win rfl _ _ 22 rfl 29 zev 5 40 Try.underlying22 info29 rfl (by decide) rfl (hW3.out _ ((Only.refl _ W3).alloc _)) _ 1 1 rfl (Ev.cells x) rfl (fun _ => ⟨_, rfl, row_all (heap_new_at _ _ rfl)⟩) (evOne _) (by unfold maxLen; omega) (by omega) ?_; intro v4 w4 h4 hW4 hO4 hh4; obtain ⟨p4, c4, rfl, _, _⟩ := hW4.out.form)
          go_meet
          case rel =>
            obtain ⟨hA3, hoo, hO3⟩ := hG.out
            obtain ⟨hn, hf, hh, hT, hO, hlt, hW⟩ := hH.out
            have hsz3 := hO3.size
            have e1 : n + 1 = (rs ++ [(⟨x, T⟩ : En)]).length := by rw [List.length_append, ← hn]; rfl
            have e2 : evCells (evs rs) ++ x.cells = evCells (evs (rs ++ [(⟨x, T⟩ : En)])) := by rw [evs_append, evCells_append]; rfl
            have hWf := hW4.out
            rw [e1, e2] at hWf
            have hoB : ∀ k, fp r o' k → B ≤ k := by
              rintro k (rfl | hk)
              · exact hf _ (.inl rfl)
              · rcases hoo with rfl | ⟨g, hg, hge⟩
                · exact hf _ (.inr hk)
                · rw [hg] at hk
                  cases hk
                  have := hO.size
                  have := hB'.out
                  omega
            have hhlt := hW.lt
            rw [e1]
            refine ⟨T + 1, o', rs ++ [⟨x, T⟩], h4, p4, c4, rfl, ?_, hWf, hoB, ?_, by omega, ?_⟩
            · refine (hA3.new ((Only.refl _ W3).alloc _)).kept hO4.out (fun k hk e => ?_)
              rcases hk with hk | hk
              · exact hap.out k e.symm (.inl hk)
              · rcases hoo with hoo | ⟨g, hg, hge⟩
                · exact hap.out k e.symm (.inr (hoo ▸ hk))
                · rw [hg] at hk
                  cases hk
                  have := hhlt _ e.symm
                  omega
            · rintro k rfl
              rcases hh4.out with hh4 | ⟨g, hg, hge⟩
              · exact hh k hh4.symm
              · cases hg
                rw [alloc_size] at hge
                have := hO.size
                have := hB'.out
                omega
            · exact ((hO.trans' hB3.out).alloc _).trans hO4.out (fun k _ e => hh k e.symm)
        · have hl2' : ¬ (k : Int) < (n2 : Int) := by omega
          have hE2 := Lib.hid (show PRel w B r (61 + k) (.slice p rs.length cap) ws from ⟨T, o, rs, h, p, cap, rfl, hA, hW, hf, hh, by omega, hO⟩)
          clear hA hW hf hh hT hO
          go_wp2
          go_meet
          case rel => exact hE2.out
      case rest =>
        obtain ⟨T, o, rs, h, p, cap, rfl, hA, hW, hf, hh, hT, hO⟩ := hcut
        obtain ⟨wd, hwd⟩ : ∃ wd : World, wd = wc := ⟨_, rfl⟩
        subst hwd
        clear hc3'
        have hap := Lib.hid (ag_apart hA hW)
        have hlen := hA.len
        cases rs with
        | nil =>
          have hfirst := Lib.hid (first_none (w := wd) (A := p) (cap := cap))
          have hnx := Lib.hid (fun W (hW : Only (fun _ => False) wd W) => next_none (hA.new hW))
          have htk := Lib.hid (fun W (hW : Only (fun _ => False) wd W) => take_any (hA.new hW) (by omega) at_)
          have hH := Lib.hid (And.intro hf (And.intro hh (And.intro hT (And.intro hO hW))))
          rw [show ([] : List En).length = 0 from rfl]
          clear hA hW hf hh hT hO hlen
          go_wp2_with fail
          refine hfirst.out.mono ?_
          rintro e w5 ⟨rfl, h5⟩
          have hnx' := Lib.hid (hnx.out w5 h5)
          have htk' := Lib.hid (htk.out w5 h5)
          have h5' := Lib.hid h5
          clear h5
          go_wp2_with fail
          refine hnx'.out.mono ?_
          rintro e w5b ⟨rfl, hw5⟩
          subst hw5
          go_wp2_with fail
          refine htk'.out.mono ?_
          rintro e w6 ⟨out, rs', p2, cap2, h2, rfl, ht, hs, hW2, hf2, hA2, hO6⟩
          obtain ⟨rfl, rfl⟩ : out = [] ∧ rs' = [] := by
            cases out with
            | nil => exact ⟨rfl, (show [] = rs' from ht).symm⟩
            | cons e out =>
              obtain ⟨k, x, hx, _⟩ := ht
              cases hx.1
          rw [show ([] : List Ev).length = 0 from rfl]
          have hend := Lib.hid (show ∀ W, Only (fun _ => False) w6 W → PRel w B r (60 + (k + 1)) (.slice p 0 cap) W from fun W hW6 => by
            obtain ⟨hf, hh, hT, hO, hW⟩ := hH.out
            refine ⟨T, o, [], h, p, cap, rfl, hA2.new hW6, ((hW.kept h5'.out (fun _ _ h => h)).kept hO6 (fun k hk => hap.out k hk)).kept hW6 (fun _ _ h => h), hf, hh, by omega, ?_⟩
            exact ((hO.trans' (h5'.out.mono (fun _ _ h => h.elim))).trans hO6 (fun k _ hk => hf k hk)).trans' (hW6.mono (fun _ _ h => h.elim)))
          have hlenz := Lib.hid (fun W (hW : Only (fun _ => False) w6 W) => alen_any (hA2.new hW))
          have hfz := Lib.hid (first_none (w := w6) (A := p) (cap := cap))
          clear ht hs hW2 hf2 hA2 hO6
          rw [show ([] : List En).length = 0 from rfl] at hlenz
          go_wp2
          go_loopw [8, 89] (fun v i wr => i = .int .i64 0 ∧ v = .slice p 0 cap ∧ wr = w6) (fun _ _ _ => 0)
          case atStart => exact ⟨rfl, rfl, rfl⟩
          case round =>
            obtain ⟨rfl, rfl, rfl⟩ := hrel
            go_wp2_with fail
            refine hfz.out.mono ?_
            rintro e w7 ⟨rfl, h7⟩
            have hl7 := Lib.hid (hlenz.out w7 h7)
            have hend' := Lib.hid (hend.out w7 h7)
            clear h7
            go_wp2_with fail
            refine hl7.out.mono ?_
            rintro e w7b ⟨rfl, hw7⟩
            subst hw7
            go_wp2
            go_roundw
            case rel => exact ⟨k + 1, by omega, by go_num, hend'.out⟩
            case measure => simp [intOf]; omega
        | cons r0 rs0 =>
          obtain ⟨kf, x, es, hx, _⟩ := hA.head (by simp)
          obtain ⟨rs, hrs⟩ : ∃ rs, rs = r0 :: rs0 := ⟨_, rfl⟩
          rw [← hrs] at hA hW hlen hx ⊢
          obtain ⟨n, hn⟩ : ∃ n, n = rs.length := ⟨_, rfl⟩
          have hfirst := Lib.hid (first_some (cap := cap) (win_ev hW) hn (by omega) hx)
          have hkn := (List.getElem?_eq_some_iff.1 hx.1).1
          obtain ⟨g, off, hp, hg, hc⟩ := (win_ev hW).at_ (by rw [evs_length]; omega)
          subst hp
          obtain ⟨c0, -⟩ := hc kf x.e (isFirst_ev hx).1
          have hnx := Lib.hid (fun W (hW : Only (fun _ => False) wd W) => next_some (hA.new hW) hx)
          have htk := Lib.hid (fun W (hW : Only (fun _ => False) wd W) => take_any (hA.new hW) (by omega) at_)
          have hH := Lib.hid (And.intro hn (And.intro hf (And.intro hh (And.intro hT (And.intro hO (And.intro hA.lt (And.intro hW (And.intro hA.len hx))))))))
          rw [← hn] at hkn ⊢
          have hkn' : (kf : Int) < (n : Int) := by omega
          have hk0 : (0 : Int) ≤ (kf : Int) := by omega
          have hnb : n ≤ 200 := by omega
          clear hA hW hf hh hT hO hx hc hn hlen hrs
          go_wp2_with fail
          refine hfirst.out.mono ?_
          rintro e w5 ⟨rfl, h5⟩
          have d0 := h5.cell c0 (fun h => h)
          have hnx' := Lib.hid (hnx.out w5 h5)
          have htk' := Lib.hid (htk.out w5 h5)
          have h5' := Lib.hid h5
          clear h5 c0
          go_wp2_with fail
          refine hnx'.out.mono ?_
          rintro e w5b ⟨rfl, hw5⟩
          subst hw5
          go_wp2_with fail
          refine htk'.out.mono ?_
          rintro e w6 ⟨out, rs', p2, cap2, h2, rfl, ht, hs, hW2, hf2, hA2, hO6⟩
          obtain ⟨m, hm⟩ : ∃ m, m = out.length := ⟨_, rfl⟩
          have hml := ht.len
          have hI := Lib.hid (show IRel w6 B at_ rs' out 0 (.slice (some ⟨g, off, none⟩) n cap) w6 from by
            obtain ⟨hn, hf, hh, hT, hO, hlt, hW, hlen, hx⟩ := hH.out
            refine ⟨rs, _, cap, h, by rw [hn], ?_, ht, hh, by omega, Only.refl _ _⟩
            exact (hW.kept h5'.out (fun _ _ h => h)).kept hO6 (fun k hk => hap.out k hk))
          have hF := Lib.hid (And.intro hm (And.intro hs (And.intro hW2 (And.intro hf2 (And.intro hA2 hO6)))))
          have hmb : m ≤ 200 := by obtain ⟨hn, _⟩ := hH.out; omega
          rw [← hm]
          clear ht hs hW2 hf2 hA2 hO6 hm d0 hml
          go_wp2
          go_loopw [8, 89] (fun v i wr => ∃ j : Nat, j ≤ m ∧ i = .int .i64 j ∧ IRel w6 B at_ rs' out j v wr) (fun _ i _ => m - (intOf i).toNat)
          case atStart => exact ⟨0, Nat.zero_le _, rfl, hI.out⟩
          case round =>
            obtain ⟨j, hj, rfl, rsj, pj, capj, hj', rfl, hWj, htj, hhj, hlj, hOj⟩ := hrel
            obtain ⟨wz, hwz⟩ : ∃ wz : World, wz = wr := ⟨_, rfl⟩
            subst hwz
            obtain ⟨nj, hnj⟩ : ∃ nj, nj = rsj.length := ⟨_, rfl⟩
            by_cases hjm : j < m
            · have hjm' : (j : Int) < (m : Int) := by omega
              have hjo : j < out.length := by have := hF.out.1; omega
              rw [List.drop_eq_getElem_cons hjo] at htj
              obtain ⟨kx, y, hy, hye, hle, htj'⟩ := htj
              have hoj : out[j]? = some y.e := by rw [hye]; exact List.getElem?_eq_getElem hjo
              have hky := (List.getElem?_eq_some_iff.1 hy.1).1
              have hW2z := hF.out.2.2.1.kept hOj (fun _ _ h => h)
              obtain ⟨g2, off2, hp2, hg2, hc2⟩ := (win_ev hW2z).at_ (by omega)
              subst hp2
              obtain ⟨e0, e1, e2, e3, e4⟩ := hc2 j y.e hoj
              have hrowj := win_ev hWj
              obtain ⟨gj, offj, hpj, hgj, hcj⟩ := hrowj.at_ (by rw [evs_length]; omega)
              subst hpj
              have hfz := Lib.hid (fun W (hW : Only (fun _ => False) wz W) => first_some (cap := capj) (hrowj.only hW (fun _ h => h.elim)) hnj (by omega) hy)
              have hcz := Lib.hid (fun W (hW : Only (fun _ => False) wz W) => ((hrowj.only hW (fun _ h => h.elim)).at_ (by rw [evs_length]; omega)))
              have hcellj := Lib.hid (fun W (hW : Only (fun _ => False) wz W) => show EvCells W gj (offj + kx * 5) y.e from by
                obtain ⟨b, off, e, _, hc⟩ := (hrowj.only hW (fun _ h => h.elim)) kx y.e (isFirst_ev hy).1
                cases e
                exact hc)
              have hWt := hWj.take (k := kx) (by omega)
              obtain ⟨hd, hWd, _⟩ := hWj.drop (k := kx + 1) (by omega)
              rw [evCells_take] at hWt
              rw [evCells_drop] at hWd
              have hAd : (if capj = kx + 1 then some ⟨gj, offj, none⟩ else (some (⟨gj, offj, none⟩ : Addr)).map (·.add ((kx + 1) * 5))) = (if capj = kx + 1 then some ⟨gj, offj, none⟩ else some ⟨gj, offj + (kx + 1) * 5, none⟩) := by simp [Addr.add_lit]
              rw [hAd] at hWd
              have hcapj : nj ≤ capj := by
                obtain ⟨_, _, _, hv, hcc, _⟩ := hWj
                cases hv
                omega
              rw [← hnj] at hWd
              have s1 := Lib.hid (fun W (hW : Only (fun _ => False) wz W) => (hWt.kept hW (fun _ _ h => h)).src)
              have s2 := Lib.hid (fun W (hW : Only (fun _ => False) wz W) => (hWd.kept hW (fun _ _ h => h)).src)
              have l1' : (evCells ((evs rsj).take kx)).length = kx * 5 := by rw [evCells_length, List.length_take, evs_length]; omega
              have l2' : (evCells ((evs rsj).drop (kx + 1))).length = (nj - (kx + 1)) * 5 := by rw [evCells_length, List.length_drop, evs_length]; omega
              have hL := Lib.hid (And.intro l1' l2')
              clear hWt hWd hAd l1' l2'
              have hJ := Lib.hid (And.intro hnj (And.intro hWj (And.intro htj' (And.intro hhj (And.intro hOj hy)))))
              rw [← hnj] at hky hlj ⊢
              have hky' : (kx : Int) < (nj : Int) := by omega
              have hkx0 : ¬ (kx : Int) < 0 := by omega
              have hkx0' : decide ((kx : Int) < 0) = false := by simp
              have hle' : ¬ at_ < y.e.t := by omega
              have hled : decide (at_ < y.e.t) = false := by simp; omega
              have hi1 : (kx : Int) ≤ (capj : Int) := by omega
              have hi0 : (0 : Int) ≤ (kx : Int) := by omega
              have hi2 : (0 : Int) ≤ (kx : Int) + 1 := by omega
              have hi3 : (kx : Int) + 1 ≤ (nj : Int) := by omega
              have hwr : IntKind.i64.wrap ((kx : Int) + 1) = (kx : Int) + 1 := IntWalk.i64_in _ (by omega)
              have htn : ((kx : Int) + 1).toNat = kx + 1 := by omega
              clear hnj hWj htj' hhj hOj hy hrowj hcj hW2z hc2 hoj hjo hye hle hgj hg2
              go_wp2_with fail
              refine (hfz.out _ ((Only.refl _ wz).alloc _)).mono ?_
              rintro e w7 ⟨rfl, h7⟩
              obtain ⟨q0, q1, q2, q3, q4⟩ := hcellj.out w7 (((Only.refl _ wz).alloc _).trans' h7)
              have hblk := h7.heap (heap_new_at wz (.cells [.int .i64 y.e.t, .int .i64 y.e.k, .int .i64 y.e.a, .int .i64 y.e.b, .int .i64 y.e.c].toArray 29) rfl) (fun h => h)
              have z0 := row_cell hblk (i := 0) rfl
              have z1 := row_cell hblk (i := 1) rfl
              have z2 := row_cell hblk (i := 2) rfl
              have z3 := row_cell hblk (i := 3) rfl
              have z4 := row_cell hblk (i := 4) rfl
              have h7' := Lib.hid (((Only.refl _ wz).alloc _).trans' h7)
              clear h7 hblk e0 e1 e2 e3 e4
              go_wp2
              go_quiet (fail)
              go_wp2
              have h8 := Lib.hid (h7'.out.drewN nq)
              generalize World.drewN w7 nq = w8 at h8 ⊢
              clear z0 z1 z2 z3 z4 q0 q1 q2 q3 q4
              go_region_law (first
                | (refine step_append_win rfl (.tmp 111) (.tmp 114) 22 rfl 29 zev 5 40 Try.underlying22 info29 rfl (by decide) (v := .slice (some ⟨w8.heap.size, 0, none⟩) 0 0) (by simp [Act.eval]) (Win.empty _ 29 5 _) (some ⟨gj, offj, none⟩) kx capj (by simp [Act.eval]) (evCells ((evs rsj).take kx)) hL.out.1 (s1.out _ (h8.out.trans' ((Only.refl _ w8).alloc _).drew)) (evsOne _) (by unfold maxLen; omega) (by omega) ?_; intro v1 x1 a1 hV1 hX1 ha1)
                | (refine step_append_win rfl (.tmp 115) (.tmp 119) 22 rfl 29 zev 5 40 Try.underlying22 info29 rfl (by decide) (v := v1) (by simp [Act.eval]) hV1.out (if capj = kx + 1 then some ⟨gj, offj, none⟩ else some ⟨gj, offj + (kx + 1) * 5, none⟩) (nj - (kx + 1)) (capj - (kx + 1)) (by simp [Act.eval]) (evCells ((evs rsj).drop (kx + 1))) hL.out.2 (s2.out _ (h8.out.trans' ((((Only.refl _ w8).alloc _).drew).trans' (none_only hX1.out)))) (evsOne _) (by unfold maxLen; omega) (by omega) ?_; intro v2 x2 a2 hV2 hX2 ha2; obtain ⟨pz, cz, rfl, _, _⟩ := hV2.out.form))
              all_goals
                go_wp2
                go_roundw
                case rel =>
                  obtain ⟨hnj, hWj, htj', hhj, hOj, hy⟩ := hJ.out
                  obtain ⟨q1, q2⟩ := step_fresh (h8.out.trans' ((Only.refl _ w8).alloc _).drew) hX1.out (fun k h => by cases h) ha1.out
                  obtain ⟨q3, q4⟩ := step_fresh q1 hX2.out q2 ha2.out
                  have hlen : (rsj.eraseIdx kx).length = kx + (nj - (kx + 1)) := by rw [List.length_eraseIdx, if_pos (by omega)]; omega
                  have hVf := hV2.out
                  rw [Nat.zero_add] at hVf
                  refine ⟨j + 1, by omega, by go_num, rsj.eraseIdx kx, pz, cz, a2, by rw [hlen], ?_, htj', fun k hk => ?_, by omega, hOj.trans' q3⟩
                  · rw [hlen, evs_erase, evCells_append]
                    simpa using hVf
                  · have := q4 k hk
                    have := hOj.size
                    have := hH.out.2.2.2.2.1.size
                    have := h5'.out.size
                    have := hF.out.2.2.2.2.2.size
                    have := hB'.out
                    omega
                case measure => simp [intOf]; omega
            · obtain rfl : j = m := by omega
              have hdm : out.drop j = [] := List.drop_of_length_le (by have := hF.out.1; omega)
              rw [hdm] at htj
              obtain rfl : rsj = rs' := htj
              obtain ⟨hm, hs, hW2, hf2, hA2, hO6⟩ := hF.out
              have hAz := hA2.new hOj
              have hend := Lib.hid (show ∀ W, Only (fun _ => False) wz W → PRel w B r (60 + (k + 1)) (.slice pj rsj.length capj) W from fun W hW => by
                obtain ⟨hn, hf, hh, hT, hO, hlt, hW', hlen, hx⟩ := hH.out
                refine ⟨T, o, rsj, hj', pj, capj, rfl, hAz.new hW, hWj.kept hW (fun _ _ h => h), hf, hhj, by omega, ?_⟩
                exact (((hO.trans' (h5'.out.mono (fun _ _ h => h.elim))).trans hO6 (fun k _ hk => hf k hk)).trans' (hOj.mono (fun _ _ h => h.elim))).trans' (hW.mono (fun _ _ h => h.elim)))
              have hlenz := Lib.hid (fun W (hW : Only (fun _ => False) wz W) => alen_any (hAz.new hW))
              have hBk := hlj
              by_cases h0 : 0 < rsj.length
              · obtain ⟨kz, y, es', hy, _⟩ := hAz.head h0
                have hstop := hs kz y hy
                have hkz := (List.getElem?_eq_some_iff.1 hy.1).1
                have hrowz := win_ev hWj
                obtain ⟨gz, offz, hpz, hgz, hcz⟩ := hrowz.at_ (by rw [evs_length]; omega)
                subst hpz
                obtain ⟨t0, -⟩ := hcz kz y.e (isFirst_ev hy).1
                obtain ⟨nz, hnz⟩ : ∃ nz, nz = rsj.length := ⟨_, rfl⟩
                have hfz := Lib.hid (first_some (cap := capj) hrowz hnz (by omega) hy)
                rw [← hnz] at hkz hlenz hend ⊢
                have hkz' : (kz : Int) < (nz : Int) := by omega
                have hkz0 : (0 : Int) ≤ (kz : Int) := by omega
                have hst1 : ¬ y.e.t ≤ at_ := by omega
                have hst2 : decide (y.e.t ≤ at_) = false := by simp; omega
                have hnn : ((nz : Int) == (nz : Int)) = true := by simp
                clear hm hs hW2 hf2 hA2 hO6 hAz hWj hdm hy hrowz hcz hnz hOj hhj hlj hBk h0 hstop
                go_wp2_with fail
                refine hfz.out.mono ?_
                rintro e w7 ⟨rfl, h7⟩
                have u0 := h7.cell t0 (fun h => h)
                have hl7 := Lib.hid (hlenz.out w7 h7)
                have hend' := Lib.hid (hend.out w7 h7)
                clear h7 t0
                go_wp2_with fail
                refine hl7.out.mono ?_
                rintro e w7b ⟨rfl, hw7⟩
                subst hw7
                go_wp2
                go_roundw
                case rel => exact ⟨k + 1, by omega, by go_num, hend'.out⟩
                case measure => simp [intOf]; omega
              · have e0 : rsj.length = 0 := by omega
                rw [e0] at hlenz hend ⊢
                have hfz := Lib.hid (first_none (w := wz) (A := pj) (cap := capj))
                clear hm hs hW2 hf2 hA2 hO6 hAz hWj hdm hOj hhj hlj hBk h0 e0
                go_wp2_with fail
                refine hfz.out.mono ?_
                rintro e w7 ⟨rfl, h7⟩
                have hl7 := Lib.hid (hlenz.out w7 h7)
                have hend' := Lib.hid (hend.out w7 h7)
                clear h7
                go_wp2_with fail
                refine hl7.out.mono ?_
                rintro e w7b ⟨rfl, hw7⟩
                subst hw7
                go_wp2
                go_roundw
                case rel => exact ⟨k + 1, by omega, by go_num, hend'.out⟩
                case measure => simp [intOf]; omega
    · go_wp2
      go_ret
      exact ⟨rfl, hO'.out.below (Nat.le_refl _) (fun _ h => by have := hB'.out; omega)⟩

theorem plays (A1 : Option Addr) (n1 c1 : Nat) (l1 : List Ev) (A2 : Option Addr) (n2 c2 : Nat) (l2 : List Ev) (A3 : Option Addr) (n3 c3 : Nat) (zs : Nat → Int) (w : World) (h1 : EvArg w A1 n1 l1) (h2 : EvArg w A2 n2 l2) (h3 : IntRow .i64 w A3 n3 zs) :
    Calls Try.prog 3 #[.slice A1 n1 c1, .slice A2 n2 c2, .slice A3 n3 c3] w fun e w' => e = .returned (.bool true) ∧ Below w.heap.size w w' := by
  by_cases h : 60 < n1 ∨ 60 < n2 ∨ 60 < n3
  · exact plays_long A1 A2 A3 n1 c1 n2 c2 n3 c3 w h
  · exact plays_some A1 A2 A3 n1 c1 n2 c2 n3 c3 l1 l2 zs w (by omega) (by omega) (by omega) h1 h2 h3.row
end Go.Proofs.Ytmkdboiajjkghaa
