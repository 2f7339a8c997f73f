/- The agenda's Take: what comes out, one by one. -/
import Derived.Test.YtmkdboiajjkghaaAgenda
import Derived.Deep.LoopGhost
namespace Go.Proofs.Ytmkdboiajjkghaa
open Go Go.RowKit

/-- out is what is taken of rs, one first one behind the other, none above at_; rs' is left. -/
def Takes (at_ : Int) : List En → List Ev → List En → Prop
  | rs, [], rs' => rs = rs'
  | rs, e :: out, rs' => ∃ k x, IsFirst rs k x ∧ x.e = e ∧ x.e.t ≤ at_ ∧ Takes at_ (rs.eraseIdx k) out rs'
theorem Takes.snoc {at_ : Int} {rs rs1 : List En} {out : List Ev} {k : Nat} {x : En} (h : Takes at_ rs out rs1) (hx : IsFirst rs1 k x) (hle : x.e.t ≤ at_) : Takes at_ rs (out ++ [x.e]) (rs1.eraseIdx k) := by
  induction out generalizing rs with
  | nil =>
    obtain rfl : rs = rs1 := h
    exact ⟨k, x, hx, rfl, hle, rfl⟩
  | cons e out ih =>
    obtain ⟨k', x', h1, h2, h3, h4⟩ := h
    exact ⟨k', x', h1, h2, h3, ih h4⟩
theorem Takes.len {at_ : Int} {rs rs1 : List En} {out : List Ev} (h : Takes at_ rs out rs1) : rs.length = out.length + rs1.length := by
  induction out generalizing rs with
  | nil =>
    obtain rfl : rs = rs1 := h
    simp
  | cons e out ih =>
    obtain ⟨k', x', h1, h2, h3, h4⟩ := h
    have h5 := ih h4
    have hk := (List.getElem?_eq_some_iff.1 h1.1).1
    rw [List.length_eraseIdx, if_pos hk] at h5
    simp only [List.length_cons]
    omega
/-- What Next tells. -/
def NextV (rs : List En) (v : Int) (b : Bool) : Prop := (rs = [] ∧ v = 0 ∧ b = false) ∨ ∃ k x, IsFirst rs k x ∧ v = x.e.t ∧ b = true
def NextEnd (w : World) (rs : List En) (e : Ending) (w' : World) : Prop := ∃ v b, e = .returned (.tuple #[.int .i64 v, .bool b]) ∧ NextV rs v b ∧ w = w'
theorem next_any {w : World} {r T : Nat} {o : Option Nat} {rs : List En} (h : Ag w r o T rs) : Calls Try.prog 9 #[.pointer (some ⟨r, 0, none⟩)] w (NextEnd w rs) := by
  by_cases hr : 0 < rs.length
  · obtain ⟨k, x, es, hx, _⟩ := h.head hr
    exact (next_some h hx).mono fun e w' ⟨he, hw⟩ => ⟨_, _, he, .inr ⟨k, x, hx, rfl, rfl⟩, hw⟩
  · obtain rfl : rs = [] := List.eq_nil_of_length_eq_zero (by omega)
    exact (next_none h).mono fun e w' ⟨he, hw⟩ => ⟨_, _, he, .inl ⟨rfl, rfl, rfl⟩, hw⟩

theorem take_nil (at_ : Int) (w : World) : Calls Try.prog 10 #[.pointer none, .int .i64 at_] w fun e w' => e = .returned (.slice none 0 0) ∧ w = w' := by
  go_enter Try.func10, Try.ntmps10
  go_wp2_with (go_at_call 9; refine (next_nil _).mono ?_; rintro e w' ⟨rfl, rfl⟩)
  go_loopw [5, 6, 7] (fun l v b wr => l = .slice none 0 0 ∧ v = .int .i64 0 ∧ b = .bool false ∧ w = wr) (fun _ _ _ _ => 0)
  case atStart => exact ⟨rfl, rfl, rfl, rfl⟩
  case round =>
    obtain ⟨rfl, rfl, rfl, rfl⟩ := hrel
    go_wp2
    go_ret
    exact ⟨rfl, rfl⟩

def TakeRel (w : World) (r : Nat) (o : Option Nat) (T : Nat) (rs : List En) (at_ : Int) (n : Nat) (l v b : Value) (w' : World) : Prop :=
  ∃ out rs' p cap h y c, l = .slice p out.length cap ∧ v = .int .i64 y ∧ b = .bool c ∧ NextV rs' y c ∧ rs'.length = n ∧ Takes at_ rs out rs' ∧ Win w' 29 5 (.slice p out.length cap) h out.length (evCells out) ∧ (∀ k, h = some k → w.heap.size ≤ k) ∧ Ag w' r o T rs' ∧ Only (fp r o) w w'
/-- What Take leaves. -/
def TakeEnd (w : World) (r : Nat) (o : Option Nat) (T : Nat) (rs : List En) (at_ : Int) (e : Ending) (w' : World) : Prop :=
  ∃ out rs' p cap h, e = .returned (.slice p out.length cap) ∧ Takes at_ rs out rs' ∧ (∀ k x, IsFirst rs' k x → at_ < x.e.t) ∧ Win w' 29 5 (.slice p out.length cap) h out.length (evCells out) ∧ (∀ k, h = some k → w.heap.size ≤ k) ∧ Ag w' r o T rs' ∧ Only (fp r o) w w'

set_option maxHeartbeats 800000 in
theorem take_any {w : World} {r T : Nat} {o : Option Nat} {rs : List En} (h : Ag w r o T rs) (hT : T ≤ 900) (at_ : Int) : Calls Try.prog 10 #[.pointer (some ⟨r, 0, none⟩), .int .i64 at_] w (TakeEnd w r o T rs at_) := by
  have hnx := Lib.hid (next_any h)
  have hlt := Lib.hid h.lt
  have hlen := Nat.le_trans h.len hT
  have h' := Lib.hid h
  clear h
  go_enter Try.func10, Try.ntmps10
  go_wp2_with fail
  refine hnx.out.mono ?_
  rintro e w1 ⟨y0, c0, rfl, hv0, rfl⟩
  have hv0' := Lib.hid hv0
  clear hv0
  go_wp2
  go_loopg [5, 6, 7] rs.length (fun n l v b wr => TakeRel w r o T rs at_ n l v b wr)
  case atStart => exact ⟨[], rs, none, 0, none, y0, c0, rfl, rfl, rfl, hv0'.out, rfl, rfl, Win.nil _ _ _, (fun k hk => by cases hk), h'.out, Only.refl _ _⟩
  case round =>
    obtain ⟨out, rs', p, cap, hb, y, c, rfl, rfl, rfl, hv, hn, ht, hW, hf, hA, hO⟩ := hrel
    obtain ⟨ws, hws⟩ : ∃ ws : World, ws = wr := ⟨_, rfl⟩
    subst hws
    obtain ⟨m, hm⟩ : ∃ m, m = out.length := ⟨_, rfl⟩
    have hml := ht.len
    by_cases hgo : c = true ∧ y ≤ at_
    · obtain ⟨rfl, hle⟩ := hgo
      obtain ⟨k, x, hx, hy⟩ : ∃ k x, IsFirst rs' k x ∧ y = x.e.t := by
        rcases hv with ⟨_, _, hc⟩ | ⟨k, x, hx, hy, _⟩
        · cases hc
        · exact ⟨k, x, hx, hy⟩
      have hpop := Lib.hid (apop_any hA hT hx)
      have hkl := (List.getElem?_eq_some_iff.1 hx.1).1
      have hst := Lib.hid (And.intro hn (And.intro (ht.snoc hx (hy ▸ hle)) (And.intro hW (And.intro hf (And.intro hO (And.intro hm hkl))))))
      have hAl := Lib.hid hA.lt
      rw [← hm]
      rw [← hm] at hml
      clear hv hn ht hW hf hA hO hm hx hy hkl
      go_wp2_with fail
      refine hpop.out.mono ?_
      rintro e W ⟨rfl, hA1, hO1⟩
      have hnx1 := Lib.hid (fun W' (hW' : Only (fun _ => False) W W') => hA1.new hW')
      have hR := Lib.hid (And.intro hA1 hO1)
      rw [show x.e.val = .agg #[.int .i64 x.e.t, .int .i64 x.e.k, .int .i64 x.e.a, .int .i64 x.e.b, .int .i64 x.e.c] from rfl]
      have hWin := Lib.hid (show ∀ W', Only (fun _ => False) W W' → Win W' 29 5 (.slice p m cap) hb m (evCells out) from fun W' hW' => by
        obtain ⟨_, _, hWw, hff, _, hmm, _⟩ := hst.out
        rw [hmm]
        exact (hWw.kept hO1 (fun k hk hfp => by have := hff k hk; have := hlt.out k hfp; omega)).kept hW' (fun _ _ h => h))
      clear hA1 hO1
      go_wp2_with (at_builtin; refine wpList_append_win rfl _ _ 22 rfl 29 zev 5 40 Try.underlying22 info29 rfl (by decide) rfl (hWin.out _ ((Only.refl _ W).alloc _)) _ 1 1 rfl (Ev.cells x.e) rfl (fun _ => ⟨_, rfl, row_all (heap_new_at _ _ rfl)⟩) (evOne _) (by unfold maxLen; omega) (by omega) ?_; intro v4 w4 h4 hW4 hO4 hh4; obtain ⟨p4, c4, rfl, _, _⟩ := hW4.out.form)
      have hAn := Lib.hid (show Ag w4 r o T (rs'.eraseIdx k) ∧ Only (fp r o) w w4 ∧ ∀ k, h4 = some k → w.heap.size ≤ k from by
        obtain ⟨_, _, hWw, hff, hO, hmm, _⟩ := hst.out
        obtain ⟨hA1, hO1⟩ := hR.out
        have hsz := hO.size
        have hsz1 := hO1.size
        refine ⟨(hA1.new ((Only.refl _ W).alloc _)).kept hO4.out (fun k hk e => by have := hff k e.symm; have := hlt.out k hk; omega), ((hO.trans' hO1).alloc _).trans hO4.out (fun k hk e => by have := hff k e.symm; omega), ?_⟩
        rintro k rfl
        rcases hh4.out with hh | ⟨g, hg, hge⟩
        · exact hff k hh.symm
        · cases hg
          rw [alloc_size] at hge
          omega)
      have hnx4 := Lib.hid (next_any hAn.out.1)
      go_wp2_with fail
      refine hnx4.out.mono ?_
      rintro e w5 ⟨y5, c5, rfl, hv5, rfl⟩
      have hv5' := Lib.hid hv5
      clear hv5
      go_wp2
      go_roundg (rs'.eraseIdx k).length
      case measure =>
        obtain ⟨hn, _, _, _, _, _, hkl⟩ := hst.out
        rw [List.length_eraseIdx, if_pos hkl]
        omega
      case rel =>
        obtain ⟨hn, ht, hWw, hff, hO, hmm, hkl⟩ := hst.out
        have e1 : m + 1 = (out ++ [x.e]).length := by rw [List.length_append, ← hmm]; rfl
        have e2 : evCells out ++ x.e.cells = evCells (out ++ [x.e]) := by rw [evCells_append, evCells_one]
        have hWf := hW4.out
        rw [e1, e2] at hWf
        rw [e1]
        exact ⟨out ++ [x.e], rs'.eraseIdx k, p4, c4, h4, y5, c5, rfl, rfl, rfl, hv5'.out, rfl, ht, hWf, hAn.out.2.2, hAn.out.1, hAn.out.2.1⟩
    · have hstop : ∀ k x, IsFirst rs' k x → at_ < x.e.t := fun k x hx => by
        rcases hv with ⟨rfl, _, _⟩ | ⟨k', x', hx', rfl, rfl⟩
        · cases hx.1
        · obtain ⟨rfl, rfl⟩ := isFirst_unique hx hx'
          simp at hgo
          exact hgo
      have hE := Lib.hid (show TakeEnd w r o T rs at_ (.returned (.slice p out.length cap)) ws from ⟨out, rs', p, cap, hb, rfl, ht, hstop, hW, hf, hA, hO⟩)
      cases c with
      | false =>
        clear hv hn ht hW hf hA hO hm hstop hml hgo
        go_wp2
        go_ret
        exact hE.out
      | true =>
        have hle : ¬ y ≤ at_ := fun h => hgo ⟨rfl, h⟩
        clear hv hn ht hW hf hA hO hm hstop hml hgo
        go_wp2
        go_ret
        exact hE.out
end Go.Proofs.Ytmkdboiajjkghaa
