/- Loads: a row of costs and periods; the demand of both sides. -/
import Derived.Test.YtcgnboplpibcgaaSat
import Derived.Test.YtcgnboplpibcgaaWin
namespace Go.Proofs.Ytcgnboplpibcgaa
open Go Go.RowKit
abbrev Ld := Nat × Nat
def LRow (w : World) (A : Option Addr) (l : List Ld) : Prop :=
  ∀ k c p, l[k]? = some (c, p) → ∃ b off, A = some ⟨b, off, none⟩ ∧ w.cell? ⟨b, off + k * 2, none⟩ = some (U c) ∧ w.cell? ⟨b, off + k * 2 + 1, none⟩ = some (U p) ∧ b < w.heap.size
theorem LRow.kept {S : Nat → Prop} {w w' : World} {A : Option Addr} {l : List Ld} (h : LRow w A l) (ho : Only S w w') (hS : ∀ b off, 0 < l.length → A = some ⟨b, off, none⟩ → ¬ S b) : LRow w' A l := fun k c p hk => by
  have hl : 0 < l.length := by have := (List.getElem?_eq_some_iff.1 hk).1; omega
  obtain ⟨b, off, rfl, h1, h2, h3⟩ := h k c p hk
  exact ⟨b, off, rfl, ho.cell h1 (hS b off hl rfl), ho.cell h2 (hS b off hl rfl), Nat.lt_of_lt_of_le h3 ho.size⟩
theorem LRow.new {w w' : World} {A : Option Addr} {l : List Ld} (h : LRow w A l) (ho : Only (fun _ => False) w w') : LRow w' A l := h.kept ho fun _ _ _ _ h => h
def LB (l : List Ld) : Prop := ∀ (k c p : Nat), l[k]? = some (c, p) → c ≤ 18446744073709551615 ∧ p ≤ 18446744073709551615
def dem (d : Nat) (l : List Ld) (x : Nat) : Nat := l.foldl (fun d y => sA d (sM y.1 (sC x y.2))) d
theorem dem_le {d : Nat} (hd : d ≤ 18446744073709551615) (l : List Ld) (x : Nat) : dem d l x ≤ 18446744073709551615 := by
  induction l generalizing d with
  | nil => exact hd
  | cons y l ih => exact ih (sA_le _ _)
theorem dem_take {d : Nat} {l : List Ld} {x k c p : Nat} (h : l[k]? = some (c, p)) : dem d (l.take (k + 1)) x = sA (dem d (l.take k) x) (sM c (sC x p)) := by
  unfold dem
  rw [List.take_add_one, h, List.foldl_append]
  rfl
def GrowU (n : Nat) (w : World) (e : Ending) (w' : World) : Prop := e = .returned (U n) ∧ Only (fun _ => False) w w'

set_option maxHeartbeats 1000000 in
theorem demand_any {A : Option Addr} {n cap d x : Nat} {l : List Ld} {w : World} (hr : LRow w A l) (hn : l.length = n) (hnn : n ≤ 1000) (hb : LB l) (hd : d ≤ 18446744073709551615) (hx : x ≤ 18446744073709551615) :
    Calls Try.prog 12 #[U d, .slice A n cap, U x] w (GrowU (dem d l x) w) := by
  have hr' := Lib.hid hr
  have hn' := Lib.hid hn
  have hb' := Lib.hid hb
  have hd' := Lib.hid hd
  have hx' := Lib.hid hx
  obtain ⟨D, hD⟩ : ∃ D : Nat → Nat, D = fun k => dem d (l.take k) x := ⟨_, rfl⟩
  have hD' := Lib.hid hD
  have hD0 : d = D 0 := by rw [hD]; rfl
  have hDn : dem d l x = D n := by rw [hD, ← hn]; simp
  rw [hDn]
  have hZ : ∃ Z, Z = GrowU (D n) w := ⟨_, rfl⟩
  obtain ⟨Z, hZ⟩ := hZ
  rw [← hZ]
  have hZ' := Lib.hid hZ
  have hD0' := Lib.hid hD0
  clear hr hn hb hd hD hD0 hDn hZ
  go_enter Try.func12, Try.ntmps12
  go_wp2
  go_loopw [0, 8, 11] (fun u0 _ u11 wr => ∃ k : Nat, u0 = U (D k) ∧ u11 = .int .i64 k ∧ k ≤ n ∧ Hid (Only (fun _ => False) w wr)) (fun _ _ i _ => (n - intOf i).toNat)
  case atStart => exact ⟨0, by rw [hD0'.out], rfl, Nat.zero_le _, Only.refl _ _⟩
  case round =>
    obtain ⟨k, rfl, rfl, hk, hO⟩ := hrel
    by_cases hkn : k < n
    · have hkn' : (k : Int) < n := by omega
      obtain ⟨⟨c, p⟩, hcp⟩ : ∃ y, l[k]? = some y := ⟨_, List.getElem?_eq_getElem (by have := hn'.out; omega)⟩
      obtain ⟨b, off, rfl, c0, c1, hbl⟩ := (hr'.out.new hO.out) k c p hcp
      have hcb := hb'.out k c p hcp
      have hstep : D (k + 1) = sA (D k) (sM c (sC x p)) := by rw [hD'.out]; exact dem_take hcp
      have hDk : D k ≤ 18446744073709551615 := by rw [hD'.out]; exact dem_le hd'.out _ _
      have hs := Lib.hid hstep
      have q1 := Lib.hid (fun W => ceil_any x p W hx'.out hcb.2)
      have q2 := Lib.hid (fun W => mul_any c (sC x p) W hcb.1 (sC_le hx'.out))
      have q3 := Lib.hid (fun W => add_any (D k) (sM c (sC x p)) W hDk (sM_le _ _))
      obtain ⟨s1, hs1⟩ : ∃ s1, s1 = sC x p := ⟨_, rfl⟩
      rw [← hs1] at q1 q2 q3 hs
      obtain ⟨s2, hs2⟩ : ∃ s2, s2 = sM c s1 := ⟨_, rfl⟩
      rw [← hs2] at q2 q3 hs
      rw [← hs.out] at q3
      clear hs1 hs2 hstep hDk hcb
      go_wp2_with fail
      go_quiet (first | (go_at_call 28; exact Calls.quiet_of_same (q1.out _)) | (go_at_call 27; exact Calls.quiet_of_same (q2.out _)) | (go_at_call 26; exact Calls.quiet_of_same (q3.out _)))
      go_wp2_with fail
      go_roundw
      case rel => exact ⟨k + 1, rfl, by go_num, by omega, by
        refine Lib.hid (hO.out.trans' ?_)
        exact ((Only.refl _ _).alloc _).drewN _⟩
      case measure => simp [intOf]; omega
    · obtain rfl : k = n := by omega
      go_wp2
      rw [hZ'.out]
      exact ⟨rfl, hO.out⟩
end Go.Proofs.Ytcgnboplpibcgaa
