/- The pile filled with a row of events; container/heap's Init. -/
import Derived.Test.YtmkdboiajjkghaaHeaps
namespace Go.Proofs.Ytmkdboiajjkghaa
open Go Go.RowKit

def EvCells (w : World) (g off : Nat) (x : Ev) : Prop :=
  w.cell? ⟨g, off, none⟩ = some (.int .i64 x.t) ∧ w.cell? ⟨g, off + 1, none⟩ = some (.int .i64 x.k) ∧ w.cell? ⟨g, off + 2, none⟩ = some (.int .i64 x.a) ∧ w.cell? ⟨g, off + 3, none⟩ = some (.int .i64 x.b) ∧ w.cell? ⟨g, off + 4, none⟩ = some (.int .i64 x.c)
/-- A row of events that came in. -/
def EvRow (w : World) (A : Option Addr) (l : List Ev) : Prop :=
  ∀ k x, l[k]? = some x → ∃ b off, A = some ⟨b, off, none⟩ ∧ b < w.heap.size ∧ EvCells w b (off + k * 5) x
theorem EvRow.only {S : Nat → Prop} {w w' : World} {A : Option Addr} {l : List Ev} (h : EvRow w A l) (ho : Only S w w') (hS : ∀ k, S k → w.heap.size ≤ k) : EvRow w' A l := fun k x hx => by
  obtain ⟨b, off, rfl, hb, h0, h1, h2, h3, h4⟩ := h k x hx
  have hn : ¬ S b := fun hs => by have := hS b hs; omega
  exact ⟨b, off, rfl, Nat.lt_of_lt_of_le hb ho.size, ho.cell h0 hn, ho.cell h1 hn, ho.cell h2 hn, ho.cell h3 hn, ho.cell h4 hn⟩
theorem EvRow.at_ {w : World} {A : Option Addr} {l : List Ev} (h : EvRow w A l) (hn : 0 < l.length) : ∃ b off, A = some ⟨b, off, none⟩ ∧ b < w.heap.size ∧ ∀ k x, l[k]? = some x → EvCells w b (off + k * 5) x := by
  obtain ⟨b, off, rfl, hb, _⟩ := h 0 _ (List.getElem?_eq_getElem hn)
  refine ⟨b, off, rfl, hb, fun k x hx => ?_⟩
  obtain ⟨b', off', e, _, hc⟩ := h k x hx
  cases e
  exact hc

/-- Events with turns. -/
def ents : Nat → List Ev → List En
  | _, [] => []
  | n, x :: l => ⟨x, n⟩ :: ents (n + 1) l
theorem ents_length (n : Nat) (l : List Ev) : (ents n l).length = l.length := by
  induction l generalizing n with
  | nil => rfl
  | cons x l ih => simp [ents, ih]
theorem ents_snoc (n : Nat) (l : List Ev) (x : Ev) : ents n (l ++ [x]) = ents n l ++ [⟨x, n + l.length⟩] := by
  induction l generalizing n with
  | nil => rfl
  | cons y l ih => simp only [List.cons_append, ents, ih, List.length_cons]; congr 4; omega
theorem take_snoc {α : Type} {m : List α} {j : Nat} {x : α} (h : m[j]? = some x) : m.take (j + 1) = m.take j ++ [x] := by
  rw [List.take_add_one, h]
  rfl

def FillRel (w : World) (r : Nat) (l : List Ev) (k : Nat) (w' : World) : Prop :=
  ∃ o, AgAt w' r o k (ents 0 (l.take k)) ∧ (∀ g, o = some g → w.heap.size ≤ g) ∧ Only (fun k => k = r) w w'
def FillEnd (w : World) (r : Nat) (l : List Ev) (e : Ending) (w' : World) : Prop := e = .returned (.tuple #[]) ∧ FillRel w r l l.length w'

theorem fill_step {w w1 w2 : World} {r k : Nat} {l : List Ev} {x : Ev} {e : Ending} (h : FillRel w r l k w1) (hx : l[k]? = some x) (hlay : ∀ o, AgAt w1 r o k (ents 0 (l.take k)) → LayEnd w1 r o k (ents 0 (l.take k)) ⟨x, k⟩ e w2) : FillRel w r l (k + 1) w2 := by
  obtain ⟨o, hA, hf, hO⟩ := h
  obtain ⟨-, o', hA', hoo, hO'⟩ := hlay o hA
  have hkl := (List.getElem?_eq_some_iff.1 hx).1
  have hlt : (l.take k).length = k := by rw [List.length_take]; omega
  refine ⟨o', ?_, ?_, hO.trans hO' (fun y hy hfp => ?_)⟩
  · rw [take_snoc hx, ents_snoc, hlt, Nat.zero_add]
    exact hA'
  · rintro g rfl
    rcases hoo with hoo | ⟨g', hg, hge⟩
    · exact hf g hoo.symm
    · cases hg
      exact Nat.le_trans hO.size hge
  · rcases hfp with hfp | hfp
    · exact hfp
    · have := hf y hfp; omega

set_option maxHeartbeats 400000 in
theorem fill_any {w : World} {r cap : Nat} {A : Option Addr} {l : List Ev} (h : AgAt w r none 0 []) (hl : EvRow w A l) (hlr : 0 < l.length → ∀ b off, A = some ⟨b, off, none⟩ → b ≠ r) (hn : l.length ≤ 500) : Calls Try.prog 12 #[.pointer (some ⟨r, 0, none⟩), .iface 22 (.slice A l.length cap)] w (FillEnd w r l) := by
  have t2 := ta2
  have t3 := ta3
  have hs := Lib.hid (show FillRel w r l 0 w from ⟨none, h, (fun g hg => by cases hg), Only.refl _ _⟩)
  have hrow := Lib.hid hl
  have hlr' := Lib.hid hlr
  obtain ⟨n, hn'⟩ : ∃ n, n = l.length := ⟨_, rfl⟩
  have hE := Lib.hid hn'
  rw [← hn'] at hn ⊢
  clear h hl hlr hn'
  go_enter Try.func12, Try.ntmps12
  go_wp2_with fail
  go_loopw [20] (fun v wr => ∃ k : Nat, v = .int .i64 k ∧ k ≤ n ∧ FillRel w r l k wr) (fun v _ => n - (intOf v).toNat)
  case atStart => exact ⟨0, rfl, Nat.zero_le _, hs.out⟩
  case round =>
    obtain ⟨k, rfl, hk, hrel⟩ := hrel
    obtain ⟨ws, hws⟩ : ∃ ws : World, ws = wr := ⟨_, rfl⟩
    subst hws
    by_cases hkn : k < n
    · have hkn' : (k : Int) < (n : Int) := by omega
      obtain ⟨x, hx⟩ : ∃ x, l[k]? = some x := ⟨l[k]'(by have := hE.out; omega), List.getElem?_eq_getElem _⟩
      obtain ⟨b, off, hA, hb, hc⟩ := hrow.out.at_ (by have := hE.out; omega)
      have hbr := hlr'.out (by have := hE.out; omega) b off hA
      subst hA
      obtain ⟨c0, c1, c2, c3, c4⟩ := hc k x hx
      have hO : Only (fun k => k = r) w ws := by obtain ⟨_, _, _, hO⟩ := hrel; exact hO
      have d0 := hO.cell c0 hbr
      have d1 := hO.cell c1 hbr
      have d2 := hO.cell c2 hbr
      have d3 := hO.cell c3 hbr
      have d4 := hO.cell c4 hbr
      have hlay := Lib.hid (fun o (hA : AgAt ws r o k (ents 0 (l.take k))) W (hW : Only (fun _ => False) ws W) => lay_any (hA.new hW) (by rw [ents_length, List.length_take]; omega) (by omega) x)
      obtain ⟨o, hAg, hog⟩ := hrel
      have hl1 := Lib.hid (fun W (hW : Only (fun _ => False) ws W) => hlay.out o hAg W hW)
      have hst := Lib.hid (show ∀ W e W', Only (fun _ => False) ws W → LayEnd W r o k (ents 0 (l.take k)) ⟨x, k⟩ e W' → FillRel w r l (k + 1) W' from fun W e W' hW hL => by
        obtain ⟨he, o', h1, h2, h3⟩ := hL.old hW
        have hO' := hog.2
        have hkl := (List.getElem?_eq_some_iff.1 hx).1
        have hlt : (l.take k).length = k := by rw [List.length_take]; omega
        refine ⟨o', ?_, ?_, hO'.trans h3 (fun y hy hfp => ?_)⟩
        · rw [take_snoc hx, ents_snoc, hlt, Nat.zero_add]
          exact h1
        · rintro g rfl
          rcases h2 with h2 | ⟨g', hg, hge⟩
          · exact hog.1 g h2.symm
          · cases hg
            exact Nat.le_trans hO'.size hge
        · rcases hfp with hfp | hfp
          · exact hfp
          · have := hog.1 y hfp; omega)
      unfold Ev.val at hl1
      clear c0 c1 c2 c3 c4 hc hx hO hlay hAg hog
      go_wp2_with fail
      refine (hl1.out _ ((Only.refl _ ws).alloc _)).mono ?_
      rintro e W hL
      have hR := Lib.hid (hst.out _ _ _ ((Only.refl _ ws).alloc _) hL)
      obtain ⟨rfl, -⟩ := hL
      go_wp2
      go_roundw
      case rel => exact ⟨k + 1, by go_num, by omega, hR.out⟩
      case measure => simp [intOf]; omega
    · have hkn' : ¬ (k : Int) < (n : Int) := by omega
      have hrel' := Lib.hid hrel
      clear hrel
      go_wp2
      go_end0
      refine ⟨rfl, ?_⟩
      have e : l.length = k := by have := hE.out; omega
      rw [e]
      exact hrel'.out

def InitEnd (w : World) (r : Nat) (o : Option Nat) (T : Nat) (es : List En) (e : Ending) (w' : World) : Prop := e = .returned (.tuple #[]) ∧ Heaped w r o T es 0 es.length w'
set_option maxHeartbeats 400000 in
theorem init_any {w : World} {r T : Nat} {o : Option Nat} {es : List En} (h : AgAt w r o T es) (hn : es.length ≤ 1000) : Calls Try.prog 13 #[.iface 45 (.pointer (some ⟨r, 0, none⟩))] w (InitEnd w r o T es) := by
  have ml := mLen
  have hlen := len_any h
  obtain ⟨n, hn'⟩ : ∃ n, n = es.length := ⟨_, rfl⟩
  have hs := Lib.hid (show Heaped w r o T es (n / 2) n w from ⟨es, h, List.Perm.refl _, fun k h1 h2 h3 => by omega, fun _ _ => rfl, Only.refl _ _⟩)
  have hE := Lib.hid hn'
  rw [← hn'] at hlen hn
  have hlen' := Lib.hid hlen
  clear hlen h hn'
  go_enter Try.func13, Try.ntmps13
  go_wp2_with fail
  refine hlen'.out.mono ?_
  rintro e W1 ⟨rfl, rfl⟩
  go_wp2
  go_loopw [3] (fun v wr => ∃ m : Nat, v = .int .i64 ((m : Int) - 1) ∧ m ≤ n ∧ Heaped w r o T es m n wr) (fun v _ => (intOf v + 1).toNat)
  case atStart => exact ⟨n / 2, congrArg (Value.int .i64) (by omega), by omega, hs.out⟩
  case round =>
    obtain ⟨m, rfl, hm, hrel⟩ := hrel
    obtain ⟨ws, hws⟩ : ∃ ws : World, ws = wr := ⟨_, rfl⟩
    subst hws
    cases m with
    | zero =>
      have hF := Lib.hid hrel
      have hz : ((0 : Nat) : Int) - 1 = -1 := rfl
      rw [hz]
      clear hrel
      go_wp2
      go_end0
      exact ⟨rfl, by rw [← hE.out]; exact hF.out⟩
    | succ i =>
      have hz : ((i + 1 : Nat) : Int) - 1 = (i : Int) := by omega
      rw [hz]
      clear hz
      obtain ⟨es1, hA, hp, hf, ho, hO⟩ := hrel
      have hd := Lib.hid (down_any hA i n (by rw [hp.length_eq, ← hE.out]; exact Nat.le_refl _) hn (by omega) hf)
      have hst := Lib.hid (show ∀ W, Heaped ws r o T es1 i n W → Heaped w r o T es i n W from fun W hW => by
        obtain ⟨es2, h1, h2, h3, h4, h5⟩ := hW
        exact ⟨es2, h1, h2.trans hp, h3, fun k hk => (h4 k hk).trans (ho k hk), hO.trans' h5⟩)
      clear hA hp hf ho hO
      go_wp2_with fail
      refine hd.out.mono ?_
      rintro e W ⟨⟨b, rfl⟩, hW⟩
      have hW' := Lib.hid (hst.out W hW)
      clear hW
      go_wp2
      go_roundw
      case rel => exact ⟨i, rfl, by omega, hW'.out⟩
      case measure => simp [intOf]
end Go.Proofs.Ytmkdboiajjkghaa
