/- Two jobs on their way; cycles in parts. -/
import Derived.Test.YtifpndjpijohfaaRuns17
namespace Go.Proofs.Ytifpndjpijohfaa
open Go Go.RowKit

theorem burn_parts {j : Jb} (h : j.Ok) {a b : Int} (ha : 0 ≤ a) (hb : 0 ≤ b) : goneF j a + goneF (burnF j a) b = goneF j (a + b) ∧ burnF (burnF j a) b = burnF j (a + b) := by
  obtain ⟨ops, F, A, R, G, P, L, M, T⟩ := j
  have hr := h.r
  have hl := h.l
  dsimp only at hr hl
  clear h
  have e1 : goneF ⟨ops, F, A, R, G, P, L, M, T⟩ a = min a R := by unfold goneF; dsimp only; omega
  have e3 : goneF ⟨ops, F, A, R, G, P, L, M, T⟩ (a + b) = min (a + b) R := by unfold goneF; dsimp only; omega
  by_cases h0 : min a R = 0
  · have e2 : burnF ⟨ops, F, A, R, G, P, L, M, T⟩ a = ⟨ops, F, A, R, G, P, L, M, T⟩ := by unfold burnF; rw [e1, if_pos h0]
    have e4 : goneF ⟨ops, F, A, R, G, P, L, M, T⟩ b = min b R := by unfold goneF; dsimp only; omega
    have e5 : min (a + b) R = min b R := by omega
    rw [e2, e1, e3, e4]
    refine ⟨by omega, ?_⟩
    unfold burnF
    rw [e3, e4, e5]
  · have e2 : burnF ⟨ops, F, A, R, G, P, L, M, T⟩ a = ⟨ops, F, if R - min a R = 0 then A + 1 else A, R - min a R, G, P, if M = true then max (L - min a R) 0 else L, M, T⟩ := by unfold burnF; rw [e1, if_neg h0]
    have e4 : goneF ⟨ops, F, if R - min a R = 0 then A + 1 else A, R - min a R, G, P, if M = true then max (L - min a R) 0 else L, M, T⟩ b = min b (R - min a R) := by unfold goneF; dsimp only; omega
    have e5 : min a R + min b (R - min a R) = min (a + b) R := by omega
    rw [e2, e1, e3, e4]
    refine ⟨e5, ?_⟩
    unfold burnF
    rw [e3, e4, if_neg (show ¬ min (a + b) R = 0 by omega)]
    split
    · rename_i hz
      have e6 : min (a + b) R = min a R := by omega
      rw [e6]
    · rename_i hz
      have hA : ¬ (R - min a R = 0) := by omega
      rw [if_neg hA]
      dsimp only
      have e7 : R - min a R - min b (R - min a R) = R - min (a + b) R := by omega
      rw [e7]
      cases M
      · simp
      · have e8 : max (max (L - min a R) 0 - min b (R - min a R)) 0 = max (L - min (a + b) R) 0 := by omega
        simp only [if_true]
        rw [e8]

/-- Two jobs on their way, each of its own. -/
def J2 (w : World) (B bx : Nat) (jx : Jb) (b2 : Nat) (jy : Jb) (ws : World) : Prop :=
  ∃ ox oy, JbAt ws bx ox jx ∧ JbAt ws b2 oy jy ∧ (∀ k, jfp bx ox k → B ≤ k) ∧ (∀ k, jfp b2 oy k → B ≤ k ∧ ¬ jfp bx ox k) ∧ Only (fun x => B ≤ x) w ws ∧ jx.Ok ∧ jy.Ok
/-- The beginning, whatever there is; the same of withholding. -/
def begT (j : Jb) (cost : Int) : Jb × Int := match opOf j with
  | none => (j, 1)
  | some x => beginF j x cost
def whT (j : Jb) : Jb × Bool := if whB j = true then ({ j with armed := true }, true) else (j, false)
section
variable {w ws w' : World} {B bx b2 : Nat} {jx jy : Jb}
theorem J2.swap (h : J2 w B bx jx b2 jy ws) : J2 w B b2 jy bx jx ws := by
  obtain ⟨ox, oy, h1, h2, h3, h4, h5, h6, h7⟩ := h
  exact ⟨oy, ox, h2, h1, fun k hk => (h4 k hk).1, fun k hk => ⟨h3 k hk, fun hk' => (h4 k hk').2 hk⟩, h5, h7, h6⟩
theorem J2.only (h : J2 w B bx jx b2 jy ws) : Only (fun x => B ≤ x) w ws := by
  obtain ⟨ox, oy, h1, h2, h3, h4, h5, h6, h7⟩ := h
  exact h5
theorem J2.new (h : J2 w B bx jx b2 jy ws) (ho : Only (fun _ => False) ws w') : J2 w B bx jx b2 jy w' := by
  obtain ⟨ox, oy, h1, h2, h3, h4, h5, h6, h7⟩ := h
  exact ⟨ox, oy, h1.new ho, h2.new ho, h3, h4, h5.trans ho (fun _ _ h => h.elim), h6, h7⟩
theorem J2.jr (h : J2 w B bx jx b2 jy ws) : JR w B bx jx ws := by
  obtain ⟨ox, oy, h1, h2, h3, h4, h5, h6, h7⟩ := h
  exact ⟨ox, h1, h3, h5, h6⟩
theorem J2.turn {v : Value} {e : Ending} {j' : Jb} (h5 : Only (fun x => B ≤ x) w ws) {ox oy : Option Nat} (h2 : JbAt ws b2 oy jy) (h3 : ∀ k, jfp bx ox k → B ≤ k) (h4 : ∀ k, jfp b2 oy k → B ≤ k ∧ ¬ jfp bx ox k) (hk : j'.Ok) (h7 : jy.Ok) (ht : Turned v ws bx ox j' e w') : e = .returned v ∧ J2 w B bx j' b2 jy w' :=
  ⟨ht.1, ox, oy, ht.2.1, h2.kept ht.2.2 (fun k hk e => (h4 k hk).2 (.inl e)), h3, h4, h5.trans ht.2.2 (fun k _ e => by subst e; exact h3 _ (.inl rfl)), hk, h7⟩
theorem J2.begin (h : J2 w B bx jx b2 jy ws) {cost : Int} (hc : cost ≤ 9223372036854775807) :
    Calls Try.prog 9 #[.pointer (some ⟨bx, 0, none⟩), .int .i64 cost] ws fun e w' => e = .returned (.int .i64 (begT jx cost).2) ∧ J2 w B bx (begT jx cost).1 b2 jy w' := by
  have h' := h
  obtain ⟨ox, oy, h1, h2, h3, h4, h5, h6, h7⟩ := h
  unfold begT
  cases hx : opOf jx with
  | none => exact (jbegin_none h1 h6.r.1 hx cost).mono fun e w' ⟨q1, q2⟩ => ⟨q1, h'.new q2⟩
  | some x => exact (jbegin_some h1 hx h6.n.1 cost).mono fun e w' ht => J2.turn h5 h2 h3 h4 (beginF_ok h6 hx hc) h7 ht
theorem J2.withhold (h : J2 w B bx jx b2 jy ws) :
    Calls Try.prog 10 #[.pointer (some ⟨bx, 0, none⟩)] ws fun e w' => e = .returned (.bool (whT jx).2) ∧ J2 w B bx (whT jx).1 b2 jy w' := by
  have h' := h
  obtain ⟨ox, oy, h1, h2, h3, h4, h5, h6, h7⟩ := h
  unfold whT
  cases hx : whB jx with
  | false => exact (jwh_not h1 hx).mono fun e w' ht => ⟨ht.only.1, h'.new ht.only.2⟩
  | true => exact (jwh_yes h1 hx).mono fun e w' ht => J2.turn h5 h2 h3 h4 (armed_ok h6) h7 ht
theorem J2.burn (h : J2 w B bx jx b2 jy ws) (c : Int) :
    Calls Try.prog 11 #[.pointer (some ⟨bx, 0, none⟩), .int .i64 c] ws fun e w' => e = .returned (.int .i64 (goneF jx c)) ∧ J2 w B bx (burnF jx c) b2 jy w' := by
  obtain ⟨ox, oy, h1, h2, h3, h4, h5, h6, h7⟩ := h
  exact (jburn_any h1 h6 c).mono fun e w' ht => J2.turn h5 h2 h3 h4 (burnF_ok h6 c) h7 ht
theorem J2.over (h : J2 w B bx jx b2 jy ws) : Calls Try.prog 15 #[.pointer (some ⟨bx, 0, none⟩)] ws fun e w' => e = .returned (.bool (overB jx)) ∧ J2 w B bx jx b2 jy w' := by
  have h' := h
  obtain ⟨ox, oy, h1, h2, h3, h4, h5, h6, h7⟩ := h
  exact (jover_any h1).mono fun e w' ht => ⟨ht.only.1, h'.new ht.only.2⟩
theorem J2.left (h : J2 w B bx jx b2 jy ws) : Calls Try.prog 12 #[.pointer (some ⟨bx, 0, none⟩)] ws fun e w' => e = .returned (.tuple #[.int .i64 jx.left, .bool jx.armed]) ∧ J2 w B bx jx b2 jy w' := by
  have h' := h
  obtain ⟨ox, oy, h1, h2, h3, h4, h5, h6, h7⟩ := h
  exact (jleft_any h1).mono fun e w' ht => ⟨ht.only.1, h'.new ht.only.2⟩
theorem begT_ok {j : Jb} (h : j.Ok) {cost : Int} (hc : cost ≤ 9223372036854775807) : (begT j cost).1.Ok := by
  unfold begT
  split
  · exact h
  · rename_i x hx
    exact beginF_ok h hx hc
theorem whT_ok {j : Jb} (h : j.Ok) : (whT j).1.Ok := by
  unfold whT
  split
  · exact armed_ok h
  · exact h
end
/-- The first of two new ones. -/
def OneNew (W1 : World) (t : TaskV) (l : List Opn) (b : Nat) (w : World) : Prop :=
  ∃ o, JbAt w b o (newJ t l) ∧ (∀ k, jfp b o k → W1.heap.size ≤ k) ∧ Only (fun _ => False) W1 w
section
variable {W1 : World} {t : TaskV} {l : List Opn}
theorem one_new (hl : OpnRow W1 t.o.A l) (hn : l.length = t.o.n) (hb : t.o.n ≤ 1000) (W : World) (hW : Only (fun _ => False) W1 W) : Calls Try.prog 8 #[t.val] W fun e w' => ∃ b, e = .returned (.pointer (some ⟨b, 0, none⟩)) ∧ OneNew W1 t l b w' :=
  (jnew_any (hl.new hW) hn hb).mono fun _ _ ⟨b, o, h1, h2, h3, h4⟩ => ⟨b, h1, o, h2, fun k hk => Nat.le_trans hW.size (h3 k hk), hW.trans' h4⟩
theorem two_new (hl : OpnRow W1 t.o.A l) (hn : l.length = t.o.n) (hb : t.o.n ≤ 1000) (hf : t.fl ≤ 9223372036854775807) (W0 : World) (b : Nat) (h0 : OneNew W1 t l b W0) (W : World) (hW : Only (fun _ => False) W0 W) :
    Calls Try.prog 8 #[t.val] W fun e w' => ∃ b', e = .returned (.pointer (some ⟨b', 0, none⟩)) ∧ J2 W1 W1.heap.size b (newJ t l) b' (newJ t l) w' ∧ Only (fun _ => False) W1 w' := by
  obtain ⟨o, g1, g2, g3⟩ := h0
  have hO := g3.trans' hW
  have hk : (newJ t l).Ok := newJ_ok (by omega) hf
  refine (jnew_any (hl.new hO) hn hb).mono fun e w' ⟨b', o', h1, h2, h3, h4⟩ => ⟨b', h1, ⟨o, o', g1.new (hW.trans' h4), h2, g2, fun k hk => ⟨Nat.le_trans hO.size (h3 k hk), fun hk' => ?_⟩, (hO.trans' h4).mono (fun _ _ h => h.elim), hk, hk⟩, hO.trans' h4⟩
  have a1 := h3 k hk
  have a2 := (g1.new hW).lt k hk'
  omega
end
end Go.Proofs.Ytifpndjpijohfaa
