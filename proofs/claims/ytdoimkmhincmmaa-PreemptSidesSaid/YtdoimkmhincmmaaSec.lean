/- section: what a walk does. -/
import Derived.Test.YtdoimkmhincmmaaCst
import Derived.Test.YtdoimkmhincmmaaLkLockRows2
import Derived.Deep.RegionHeld3
import Derived.Deep.QuietTactic
namespace Go.Proofs.Ytdoimkmhincmmaa
namespace Sct
open Go Go.RowKit Lin Lck

/-- A lock set or freed, if there is such a one. -/
def setD (d : Nat → Bool) (a : Int) (v : Bool) : Nat → Bool := fun i => if (i : Int) = a then v else d i
theorem setD_out {d : Nat → Bool} {n : Nat} {a : Int} {v : Bool} (h : a < 0 ∨ (n : Int) ≤ a) {i : Nat} (hi : i < n) : setD d a v i = d i := by
  unfold setD
  rw [if_neg (by omega)]
theorem upd_const {α : Type} (x : α) (i : Nat) : upd (fun _ : Nat => x) i x = fun _ => x := by
  funext j
  unfold upd
  split <;> rfl
theorem setD_upd (d : Nat → Bool) (i : Nat) (v : Bool) : upd d i v = setD d (i : Int) v := by
  funext j
  unfold upd setD
  by_cases h : j = i
  · simp [h]
  · rw [if_neg h, if_neg (by omega)]
theorem mine_own (d : Nat → Bool) (i : Nat) : mine (fun _ => 0) d 0 i = d i := by unfold mine; simp
def LkUEnd (b g n : Nat) (z : Nat → Int) (d : Nat → Bool) (w : World) (e : Ending) (w' : World) : Prop :=
  ∃ v : Int, e = .returned (.int .i64 v) ∧ LkAt w' b g n z (fun _ => 0) d ∧ Only (fun k => k = g) w w'
theorem lockU_any {w : World} {b g n : Nat} {z : Nat → Int} {d : Nat → Bool} (H : LkAt w b g n z (fun _ => 0) d) (a : Int) : Calls Try.prog 93 #[.pointer (some ⟨b, 0, none⟩), .int .i64 a, .int .i64 0] w (LkUEnd b g n z (setD d a true) w) := by
  by_cases h : a < 0 ∨ (n : Int) ≤ a
  · exact (lock_no H h 0).mono fun e w' ⟨h1, h2⟩ => by
      subst h2
      exact ⟨_, h1, H.congr (fun i hi => ⟨rfl, rfl, (setD_out h hi).symm⟩), Only.refl _ _⟩
  · obtain ⟨i, rfl⟩ : ∃ i : Nat, a = (i : Int) := ⟨a.toNat, by omega⟩
    have hi : i < n := by omega
    cases hd : d i with
    | true =>
      refine (lock_twice H hi hd 0).mono fun e w' ⟨h1, h2⟩ => ?_
      subst h2
      refine ⟨_, h1, H.congr (fun j hj => ⟨rfl, rfl, ?_⟩), Only.refl _ _⟩
      unfold setD
      by_cases e : (j : Int) = (i : Int)
      · rw [if_pos e, show j = i by omega, hd]
      · rw [if_neg e]
    | false =>
      refine (lock_free H hi hd 0).mono fun e w' ⟨h1, h2, h3⟩ => ⟨_, h1, ?_, h3⟩
      rw [upd_const, setD_upd] at h2
      exact h2
theorem unlockU_any {w : World} {b g n : Nat} {z : Nat → Int} {d : Nat → Bool} (H : LkAt w b g n z (fun _ => 0) d) (a : Int) : Calls Try.prog 94 #[.pointer (some ⟨b, 0, none⟩), .int .i64 a, .int .i64 0] w (LkUEnd b g n z (setD d a false) w) := by
  by_cases h : a < 0 ∨ (n : Int) ≤ a
  · exact (unlock_no H h 0).mono fun e w' ⟨h1, h2⟩ => by
      subst h2
      exact ⟨_, h1, H.congr (fun i hi => ⟨rfl, rfl, (setD_out h hi).symm⟩), Only.refl _ _⟩
  · obtain ⟨i, rfl⟩ : ∃ i : Nat, a = (i : Int) := ⟨a.toNat, by omega⟩
    have hi : i < n := by omega
    cases hd : d i with
    | false =>
      refine (unlock_not H hi 0 (by rw [mine_own, hd])).mono fun e w' ⟨h1, h2⟩ => ?_
      subst h2
      refine ⟨_, h1, H.congr (fun j hj => ⟨rfl, rfl, ?_⟩), Only.refl _ _⟩
      unfold setD
      by_cases e : (j : Int) = (i : Int)
      · rw [if_pos e, show j = i by omega, hd]
      · rw [if_neg e]
    | true =>
      refine (unlock_mine H hi 0 (by rw [mine_own, hd])).mono fun e w' ⟨h1, h2, h3⟩ => ⟨_, h1, ?_, h3⟩
      rw [upd_const, setD_upd] at h2
      exact h2

/-- What a walk has come to. -/
structure St where
  reg : Nat
  d : Nat → Bool
def st0 : St := ⟨0, fun _ => false⟩
def doS (s : St) (o : Opn) : St :=
  if o.k = 3 then ⟨s.reg + 1, s.d⟩ else if o.k = 4 then ⟨s.reg - 1, s.d⟩ else if o.k = 5 then ⟨s.reg, setD s.d o.a true⟩ else if o.k = 6 then ⟨s.reg, setD s.d o.a false⟩ else s
def stS (l : List Opn) : St := l.foldl doS st0
def levS (th : Int) (z : Nat → Int) (n : Nat) (s : St) : Int := if 0 < s.reg then 64 else lev th z s.d n
structure WkAt (w : World) (a b g n : Nat) (z : Nat → Int) (th : Int) (s : St) : Prop where
  box : w.heap[a]? = some (.cells #[.int .i64 th, .pointer (some ⟨b, 0, none⟩), .int .i64 (s.reg : Int)] 95 (0, 0))
  lk : LkAt w b g n z (fun _ => 0) s.d
  ne : a ≠ b ∧ a ≠ g
theorem WkAt.new {w w' : World} {a b g n : Nat} {z : Nat → Int} {th : Int} {s : St} (H : WkAt w a b g n z th s) (ho : Only (fun _ => False) w w') : WkAt w' a b g n z th s :=
  ⟨ho.heap H.box (fun h => h), H.lk.new ho, H.ne⟩
theorem WkAt.kept {S : Nat → Prop} {w w' : World} {a b g n : Nat} {z : Nat → Int} {th : Int} {s : St} (H : WkAt w a b g n z th s) (ho : Only S w w') (h1 : ¬ S a) (h2 : ¬ S b) (h3 : ¬ S g) : WkAt w' a b g n z th s :=
  ⟨ho.heap H.box h1, H.lk.kept ho h2 h3, H.ne⟩
set_option maxRecDepth 100000 in
theorem wlevel_any {w : World} {a b g n : Nat} {z : Nat → Int} {th : Int} {s : St} (H : WkAt w a b g n z th s) (hn : n ≤ 4096) (hr : s.reg ≤ 1000000) : Calls Try.prog 79 #[.pointer (some ⟨a, 0, none⟩)] w (GrowI (levS th z n s) w) := by
  obtain ⟨V, hV⟩ : ∃ V, V = levS th z n s := ⟨_, rfl⟩
  rw [← hV]
  have hV' := Lib.hid hV
  have hlv := Lib.hid (fun W (h : Only (fun _ => False) w W) => level_any (H.lk.new h) hn 0 th)
  have hm : mine (fun _ => 0) s.d 0 = s.d := by funext i; exact mine_own _ _
  rw [hm] at hlv
  obtain ⟨L, hL⟩ : ∃ L, L = lev th z s.d n := ⟨_, rfl⟩
  rw [← hL] at hlv
  have hL' := Lib.hid hL
  have c0 := row_cell (L := [.int .i64 th, .pointer (some ⟨b, 0, none⟩), .int .i64 (s.reg : Int)]) H.box (i := 0) rfl
  have c1 := row_cell (L := [.int .i64 th, .pointer (some ⟨b, 0, none⟩), .int .i64 (s.reg : Int)]) H.box (i := 1) rfl
  have c2 := row_cell (L := [.int .i64 th, .pointer (some ⟨b, 0, none⟩), .int .i64 (s.reg : Int)]) H.box (i := 2) rfl
  have hlt := row_lt H.box
  obtain ⟨r, hrr⟩ : ∃ r, r = s.reg := ⟨_, rfl⟩
  rw [← hrr] at c2 hr
  have hrr' := Lib.hid hrr
  clear hV H hm hL hrr
  go_enter Try.func79, Try.ntmps79
  by_cases h0 : 0 < r
  · have h0' : (0 : Int) < (r : Int) := by omega
    have : V = 64 := by rw [hV'.out]; unfold levS; rw [← hrr'.out, if_pos h0]
    subst this
    go_wp2
    go_ret
    exact ⟨rfl, Only.refl _ _⟩
  · have h0' : ¬ (0 : Int) < (r : Int) := by omega
    have : V = L := by rw [hV'.out, hL'.out]; unfold levS; rw [← hrr'.out, if_neg h0]
    subst this
    go_wp2
    go_quiet ((go_at_call 92; exact Calls.quiet_of_same ((hlv.out _ (by repeat (first | exact Only.refl _ _ | apply Only.drew | apply Only.drewN))).mono fun _ _ ⟨a, b⟩ => ⟨a, b.symm⟩)))
    go_wp2
    go_ret
    exact ⟨rfl, (Only.refl _ _).drewN _⟩
end Sct
end Go.Proofs.Ytdoimkmhincmmaa
