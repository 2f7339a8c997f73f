/- Merged: BcDem Pair BcSpl BcRdm Pre2 Pre3 Wrap Flat Copp Pre4 Pre5. -/
import Derived.Test.YtlbinlhaejhobaaGreatDoorPE
import Derived.Test.YtlbinlhaejhobaaGreatDoorPA
import Derived.Deep.RegionLaw
import Derived.Deep.RegionLawGrows
import Derived.Test.YtlbinlhaejhobaaGreatDoorPH
import Derived.OpenShut
import Derived.SizedLaws
import Derived.Handed
import Derived.Lib.LaidTab
import Derived.Stop.Joined
import Derived.Deep.Slices
import Derived.ChangeSame
import Derived.ProofKit
import Derived.Test.YtlbinlhaejhobaaGreatDoorPF
import Derived.Test.YtlbinlhaejhobaaGreatDoorRows
import Derived.LaidMore
/- Loads: a row of costs and periods; the demand of both sides. -/
namespace Go.Proofs.YtlbinlhaejhobaaGreatDoor
namespace Bch
open Go Go.RowKit
abbrev Ld := Nat × Nat
def LRow (w : World) (A : Option Addr) (l : List Ld) : Prop :=
  ∀ k c p, l[k]? = some (c, p) → ∃ b off, A = some ⟨b, off, none⟩ ∧ w.cell? ⟨b, off + k * 2, none⟩ = some (U c) ∧ w.cell? ⟨b, off + k * 2 + 1, none⟩ = some (U p) ∧ b < w.heap.size
theorem LRow.kept {S : Nat → Prop} {w w' : World} {A : Option Addr} {l : List Ld} (h : LRow w A l) (ho : Only S w w') (hS : ∀ b off, 0 < l.length → A = some ⟨b, off, none⟩ → ¬ S b) : LRow w' A l := fun k c p hk => by
  have hl : 0 < l.length := by have := (List.getElem?_eq_some_iff.1 hk).1; omega
  obtain ⟨b, off, rfl, h1, h2, h3⟩ := h k c p hk
  exact ⟨b, off, rfl, ho.cell h1 (hS b off hl rfl), ho.cell h2 (hS b off hl rfl), Nat.lt_of_lt_of_le h3 ho.size⟩
theorem LRow.new {w w' : World} {A : Option Addr} {l : List Ld} (h : LRow w A l) (ho : Only (fun _ => False) w w') : LRow w' A l := h.kept ho fun _ _ _ _ h => h
def LB (l : List Ld) : Prop := ∀ (k c p : Nat), l[k]? = some (c, p) → c ≤ 18446744073709551615 ∧ p ≤ 18446744073709551615
def dem (d : Nat) (l : List Ld) (x : Nat) : Nat := l.foldl (fun d y => sA d (sM y.1 (sC x y.2))) d
theorem dem_le {d : Nat} (hd : d ≤ 18446744073709551615) (l : List Ld) (x : Nat) : dem d l x ≤ 18446744073709551615 := by
  induction l generalizing d with
  | nil => exact hd
  | cons y l ih => exact ih (sA_le _ _)
theorem dem_take {d : Nat} {l : List Ld} {x k c p : Nat} (h : l[k]? = some (c, p)) : dem d (l.take (k + 1)) x = sA (dem d (l.take k) x) (sM c (sC x p)) := by
  unfold dem
  rw [List.take_add_one, h, List.foldl_append]
  rfl
def GrowU (n : Nat) (w : World) (e : Ending) (w' : World) : Prop := e = .returned (U n) ∧ Only (fun _ => False) w w'

set_option maxHeartbeats 1000000 in
theorem demand_any {A : Option Addr} {n cap d x : Nat} {l : List Ld} {w : World} (hr : LRow w A l) (hn : l.length = n) (hnn : n ≤ 1000) (hb : LB l) (hd : d ≤ 18446744073709551615) (hx : x ≤ 18446744073709551615) :
    Calls Tryz.prog 152 #[U d, .slice A n cap, U x] w (GrowU (dem d l x) w) := by
  have hr' := Lib.hid hr
  have hn' := Lib.hid hn
  have hb' := Lib.hid hb
  have hd' := Lib.hid hd
  have hx' := Lib.hid hx
  obtain ⟨D, hD⟩ : ∃ D : Nat → Nat, D = fun k => dem d (l.take k) x := ⟨_, rfl⟩
  have hD' := Lib.hid hD
  have hD0 : d = D 0 := by rw [hD]; rfl
  have hDn : dem d l x = D n := by rw [hD, ← hn]; simp
  rw [hDn]
  have hZ : ∃ Z, Z = GrowU (D n) w := ⟨_, rfl⟩
  obtain ⟨Z, hZ⟩ := hZ
  rw [← hZ]
  have hZ' := Lib.hid hZ
  have hD0' := Lib.hid hD0
  clear hr hn hb hd hD hD0 hDn hZ
  go_enter Tryz.func152, Tryz.ntmps152
  go_wp2
  go_loopw [0, 8, 11] (fun u0 _ u11 wr => ∃ k : Nat, u0 = U (D k) ∧ u11 = .int .i64 k ∧ k ≤ n ∧ Hid (Only (fun _ => False) w wr)) (fun _ _ i _ => (n - intOf i).toNat)
  case atStart => exact ⟨0, by rw [hD0'.out], rfl, Nat.zero_le _, Only.refl _ _⟩
  case round =>
    obtain ⟨k, rfl, rfl, hk, hO⟩ := hrel
    by_cases hkn : k < n
    · have hkn' : (k : Int) < n := by omega
      obtain ⟨⟨c, p⟩, hcp⟩ : ∃ y, l[k]? = some y := ⟨_, List.getElem?_eq_getElem (by have := hn'.out; omega)⟩
      obtain ⟨b, off, rfl, c0, c1, hbl⟩ := (hr'.out.new hO.out) k c p hcp
      have hcb := hb'.out k c p hcp
      have hstep : D (k + 1) = sA (D k) (sM c (sC x p)) := by rw [hD'.out]; exact dem_take hcp
      have hDk : D k ≤ 18446744073709551615 := by rw [hD'.out]; exact dem_le hd'.out _ _
      have hs := Lib.hid hstep
      have q1 := Lib.hid (fun W => ceil_any x p W hx'.out hcb.2)
      have q2 := Lib.hid (fun W => mul_any c (sC x p) W hcb.1 (sC_le hx'.out))
      have q3 := Lib.hid (fun W => add_any (D k) (sM c (sC x p)) W hDk (sM_le _ _))
      obtain ⟨s1, hs1⟩ : ∃ s1, s1 = sC x p := ⟨_, rfl⟩
      rw [← hs1] at q1 q2 q3 hs
      obtain ⟨s2, hs2⟩ : ∃ s2, s2 = sM c s1 := ⟨_, rfl⟩
      rw [← hs2] at q2 q3 hs
      rw [← hs.out] at q3
      clear hs1 hs2 hstep hDk hcb
      go_wp2_with fail
      go_quiet (first | (go_at_call 120; exact Calls.quiet_of_same (q1.out _)) | (go_at_call 47; exact Calls.quiet_of_same (q2.out _)) | (go_at_call 46; exact Calls.quiet_of_same (q3.out _)))
      go_wp2_with fail
      go_roundw
      case rel => exact ⟨k + 1, rfl, by go_num, by omega, by
        refine Lib.hid (hO.out.trans' ?_)
        exact ((Only.refl _ _).alloc _).drewN _⟩
      case measure => simp [intOf]; omega
    · obtain rfl : k = n := by omega
      go_wp2
      rw [hZ'.out]
      exact ⟨rfl, hO.out⟩
end Bch
end Go.Proofs.YtlbinlhaejhobaaGreatDoor
/- Two rows of one element type that grow side by side. Speaks of no program. -/
namespace Go.Proofs.YtlbinlhaejhobaaGreatDoor
open Go Go.RowKit
/-- Two rows of one element type (one cell each) of the call's own, side by side. -/
structure Pair (et : TypeId) (w0 w : World) (vk : Value) (hk : Option Nat) (nk : Nat) (ks : List Value) (vg : Value) (hg : Option Nat) (ng : Nat) (gs : List Value) : Prop where
  k : Win w et 1 vk hk nk ks
  g : Win w et 1 vg hg ng gs
  ne : ∀ b, hk = some b → ¬ some b = hg
  fk : ∀ b, hk = some b → w0.heap.size ≤ b
  fg : ∀ b, hg = some b → w0.heap.size ≤ b
  only : Only (fun _ => False) w0 w
/-- A block of neither. -/
structure Loc (w : World) (X : Nat) (o : Obj) (hk hg : Option Nat) : Prop where
  at_ : w.heap[X]? = some o
  k : ¬ hk = some X
  g : ¬ hg = some X
section
variable {et : TypeId} {w0 w w' : World} {vk vg vk' : Value} {hk hg hk' : Option Nat} {nk ng nk' : Nat} {ks gs ks' : List Value} {X : Nat} {o : Obj}
theorem Pair.alloc (h : Pair et w0 w vk hk nk ks vg hg ng gs) (o : Obj) : Pair et w0 (w.alloc o) vk hk nk ks vg hg ng gs :=
  ⟨h.k.kept ((Only.refl (fun _ => False) w).alloc o) (fun _ _ h => h), h.g.kept ((Only.refl (fun _ => False) w).alloc o) (fun _ _ h => h), h.ne, h.fk, h.fg, h.only.alloc o⟩
theorem Pair.drew (h : Pair et w0 w vk hk nk ks vg hg ng gs) : Pair et w0 w.drew vk hk nk ks vg hg ng gs :=
  ⟨h.k.kept (Only.refl (fun _ => False) w).drew (fun _ _ h => h), h.g.kept (Only.refl (fun _ => False) w).drew (fun _ _ h => h), h.ne, h.fk, h.fg, h.only.drew⟩
theorem Pair.swap (h : Pair et w0 w vk hk nk ks vg hg ng gs) : Pair et w0 w vg hg ng gs vk hk nk ks :=
  ⟨h.g, h.k, fun b hb e => h.ne b e.symm hb.symm, h.fg, h.fk, h.only⟩
theorem Pair.grow_k (h : Pair et w0 w vk hk nk ks vg hg ng gs) (hW : Win w' et 1 vk' hk' nk' ks') (hO : Only (fun k => some k = hk) w w') (hh : hk' = hk ∨ ∃ g, hk' = some g ∧ w.heap.size ≤ g) : Pair et w0 w' vk' hk' nk' ks' vg hg ng gs := by
  have q := step_fresh h.only hO h.fk hh
  refine ⟨hW, h.g.kept hO (fun b hb e => h.ne b e.symm hb.symm), ?_, q.2, h.fg, q.1⟩
  intro b hb e
  rcases hh with rfl | ⟨g, rfl, hg'⟩
  · exact h.ne b hb e
  · cases hb
    have := h.g.lt _ e.symm
    omega
theorem Pair.grow_g {vg' : Value} {hg' : Option Nat} {ng' : Nat} {gs' : List Value} (h : Pair et w0 w vk hk nk ks vg hg ng gs) (hW : Win w' et 1 vg' hg' ng' gs') (hO : Only (fun k => some k = hg) w w') (hh : hg' = hg ∨ ∃ g, hg' = some g ∧ w.heap.size ≤ g) : Pair et w0 w' vk hk nk ks vg' hg' ng' gs' := (h.swap.grow_k hW hO hh).swap
theorem Loc.alloc (h : Loc w X o hk hg) (p : Obj) : Loc (w.alloc p) X o hk hg := ⟨heap_kept_alloc h.at_ p, h.k, h.g⟩
theorem Loc.drew (h : Loc w X o hk hg) : Loc w.drew X o hk hg := ⟨h.at_, h.k, h.g⟩
theorem Loc.grow_k (h : Loc w X o hk hg) (hO : Only (fun k => some k = hk) w w') (hh : hk' = hk ∨ ∃ g, hk' = some g ∧ w.heap.size ≤ g) : Loc w' X o hk' hg := by
  refine ⟨hO.heap h.at_ (fun e => h.k e.symm), ?_, h.g⟩
  rcases hh with rfl | ⟨g, rfl, hg'⟩
  · exact h.k
  · intro e
    cases e
    have := row_lt h.at_
    omega
theorem Loc.swap (h : Loc w X o hk hg) : Loc w X o hg hk := ⟨h.at_, h.g, h.k⟩
theorem Loc.grow_g {hg' : Option Nat} (h : Loc w X o hk hg) (hO : Only (fun k => some k = hg) w w') (hh : hg' = hg ∨ ∃ g, hg' = some g ∧ w.heap.size ≤ g) : Loc w' X o hk hg' := (h.swap.grow_k hO hh).swap
end

theorem pair_one {w : World} {X : Nat} {a : Value} {e : TypeId} (h : w.heap[X]? = some (.cells #[a] e (0, 0))) : ∀ j u, [a][j]? = some u → w.cell? ((⟨X, 0, none⟩ : Addr).add j) = some u := fun j u hu => by
  rw [Addr.add_lit, Nat.zero_add]
  exact row_cell (L := [a]) h hu
end Go.Proofs.YtlbinlhaejhobaaGreatDoor
/- split: the costs and the periods of loads, in rows of their own. -/
namespace Go.Proofs.YtlbinlhaejhobaaGreatDoor
namespace Bch
open Go Go.RowKit
theorem info22 : (Tryz.prog.info? 36).map (fun i => (i.zero, i.size, i.bytes)) = some (some (Value.int .u64 0), 1, 8) := by kernel_rfl
theorem take_snoc {α : Type} {m : List α} {j : Nat} {x : α} (h : m[j]? = some x) : m.take (j + 1) = m.take j ++ [x] := by
  rw [List.take_add_one, h]; rfl
def uU (n : Nat) : Value := .int .u64 (n : Int)
def SplitEnd (l : List Ld) (n : Nat) (w : World) (e : Ending) (w' : World) : Prop :=
  ∃ va ha vb hb, e = .returned (.tuple #[va, vb]) ∧ Pair 22 w w' va ha n ((l.map (·.1)).map uU) vb hb n ((l.map (·.2)).map uU)
end Bch
end Go.Proofs.YtlbinlhaejhobaaGreatDoor
/- The document's demand and window. -/
namespace Go.Proofs.YtlbinlhaejhobaaGreatDoor
namespace Bch
open Go Go.RowKit
/-- r is the least x from 1 on whose D isn't above it, up to most; 0: there is none. -/
def IsWin (D : Nat → Nat) (most r : Nat) : Prop := (r = 0 ∧ ∀ x, 1 ≤ x → x ≤ most → x < D x) ∨ (1 ≤ r ∧ r ≤ most ∧ D r ≤ r ∧ ∀ x, 1 ≤ x → x < r → x < D x)
theorem IsWin.uniq {D : Nat → Nat} {most r s : Nat} (h : IsWin D most r) (k : IsWin D most s) : r = s := by
  rcases h with ⟨rfl, h⟩ | ⟨h1, h2, h3, h4⟩ <;> rcases k with ⟨rfl, k⟩ | ⟨k1, k2, k3, k4⟩
  · rfl
  · have := h s k1 k2; omega
  · have := k r h1 h2; omega
  · rcases Nat.lt_trichotomy r s with hh | hh | hh
    · have := k4 r h1 hh; omega
    · exact hh
    · have := h4 s k1 hh; omega
def winF (D : Nat → Nat) : Nat → Nat → Nat
  | 0, _ => 0
  | f + 1, x => if D x ≤ x then x else winF D f (x + 1)
theorem winF_is (D : Nat → Nat) : ∀ f x, 1 ≤ x → (∀ y, 1 ≤ y → y < x → y < D y) → IsWin D (x + f - 1) (winF D f x)
  | 0, x, hx, h => .inl ⟨rfl, fun y h1 h2 => h y h1 (by omega)⟩
  | f + 1, x, hx, h => by
    unfold winF
    split
    · next hd => exact .inr ⟨hx, by omega, hd, h⟩
    · next hd =>
      have := winF_is D f (x + 1) (by omega) (fun y h1 h2 => by
        rcases Nat.lt_or_ge y x with h3 | h3
        · exact h y h1 h3
        · obtain rfl : y = x := by omega
          omega)
      rwa [show x + 1 + f - 1 = x + (f + 1) - 1 by omega] at this
def win (D : Nat → Nat) (most : Nat) : Nat := winF D most 1
theorem win_is (D : Nat → Nat) (most : Nat) : IsWin D most (win D most) := by
  have := winF_is D most 1 (Nat.le_refl _) (fun y h1 h2 => by omega)
  rwa [show 1 + most - 1 = most by omega] at this

theorem uU_at {l : List Nat} {k c : Nat} (h : l[k]? = some c) : (l.map uU)[k]? = some (uU c) := by rw [List.getElem?_map, h]; rfl
set_option maxHeartbeats 1000000 in
theorem rdemand_any {va vb : Value} {ha hb : Option Nat} {n d x : Nat} {l : List Ld} {w : World} (hA : Win w 36 1 va ha n ((l.map (·.1)).map uU)) (hB : Win w 36 1 vb hb n ((l.map (·.2)).map uU)) (hn : l.length = n) (hnn : n ≤ 1000) (hlb : LB l) (hd : d ≤ 18446744073709551615) (hx : x ≤ 18446744073709551615) :
    Calls Tryz.prog 124 #[U d, va, vb, U x] w (GrowU (dem d l x) w) := by
  have hn' := Lib.hid hn
  have hb' := Lib.hid hlb
  have hd' := Lib.hid hd
  have hx' := Lib.hid hx
  obtain ⟨D, hD⟩ : ∃ D : Nat → Nat, D = fun k => dem d (l.take k) x := ⟨_, rfl⟩
  have hD' := Lib.hid hD
  have hD0' := Lib.hid (show d = D 0 by rw [hD]; rfl)
  have hDn : dem d l x = D n := by rw [hD, ← hn]; simp
  rw [hDn]
  obtain ⟨Z, hZ⟩ : ∃ Z, Z = GrowU (D n) w := ⟨_, rfl⟩
  rw [← hZ]
  have hZ' := Lib.hid hZ
  have hA' := Lib.hid hA
  have hB' := Lib.hid hB
  obtain ⟨pa, ca, rfl, -, -⟩ := hA.form
  obtain ⟨pb, cb, rfl, -, -⟩ := hB.form
  clear hn hlb hd hD hDn hZ hA hB
  go_enter Tryz.func124, Tryz.ntmps124
  go_wp2
  go_loopw [9, 10, 14] (fun u9 _ u14 wr => ∃ k : Nat, u9 = U (D k) ∧ u14 = .int .i64 k ∧ k ≤ n ∧ Hid (Only (fun _ => False) w wr)) (fun _ _ i _ => (n - intOf i).toNat)
  case atStart => exact ⟨0, by rw [hD0'.out], rfl, Nat.zero_le _, Only.refl _ _⟩
  case round =>
    obtain ⟨k, rfl, rfl, hk, hO⟩ := hrel
    by_cases hkn : k < n
    · have hkn' : (k : Int) < n := by omega
      obtain ⟨⟨c, p⟩, hcp⟩ : ∃ y, l[k]? = some y := ⟨_, List.getElem?_eq_getElem (by have := hn'.out; omega)⟩
      obtain ⟨g1, o1, c1, _, hv1, _, _, hl1, hc1, _⟩ := (hA'.out.kept hO.out (fun _ _ h => h)).at_ (by omega)
      simp only [Value.slice.injEq, true_and] at hv1
      obtain ⟨rfl, rfl⟩ := hv1
      obtain ⟨g2, o2, c2, _, hv2, _, _, hl2, hc2, _⟩ := (hB'.out.kept hO.out (fun _ _ h => h)).at_ (by omega)
      simp only [Value.slice.injEq, true_and] at hv2
      obtain ⟨rfl, rfl⟩ := hv2
      have e1 : wr.cell? ⟨g1, o1 + k, none⟩ = some (U c) := hc1 k _ (uU_at (by rw [List.getElem?_map, hcp]; rfl))
      have e2 : wr.cell? ⟨g2, o2 + k, none⟩ = some (U p) := hc2 k _ (uU_at (by rw [List.getElem?_map, hcp]; rfl))
      have hcb := hb'.out k c p hcp
      have hstep : D (k + 1) = sA (D k) (sM c (sC x p)) := by rw [hD'.out]; exact dem_take hcp
      have hDk : D k ≤ 18446744073709551615 := by rw [hD'.out]; exact dem_le hd'.out _ _
      have hs := Lib.hid hstep
      have q1 := Lib.hid (fun W => rceil_any x p W hx'.out hcb.2)
      have q2 := Lib.hid (fun W => rmul_any c hcb.1 (sC x p) (sC x p) W (Nat.le_refl _) (sC_le hx'.out))
      have q3 := Lib.hid (fun W => radd_any (D k) (sM c (sC x p)) W hDk (sM_le _ _))
      obtain ⟨s1, hs1⟩ : ∃ s1, s1 = sC x p := ⟨_, rfl⟩
      rw [← hs1] at q1 q2 q3 hs
      obtain ⟨s2, hs2⟩ : ∃ s2, s2 = sM c s1 := ⟨_, rfl⟩
      rw [← hs2] at q2 q3 hs
      rw [← hs.out] at q3
      clear hs1 hs2 hstep hDk hcb hc1 hc2
      go_wp2_with fail
      go_quiet (first | (go_at_call 88; exact Calls.quiet_of_same (q1.out _)) | (go_at_call 22; exact Calls.quiet_of_same (q2.out _)) | (go_at_call 21; exact Calls.quiet_of_same (q3.out _)))
      go_wp2_with fail
      go_roundw
      case rel => exact ⟨k + 1, rfl, by go_num, by omega, Lib.hid (hO.out.trans' ((Only.refl _ _).drewN _))⟩
      case measure => simp [intOf]; omega
    · obtain rfl : k = n := by omega
      go_wp2
      rw [hZ'.out]
      exact ⟨rfl, hO.out⟩

set_option maxHeartbeats 1000000 in
theorem rwindow_any {va vb : Value} {ha hb : Option Nat} {n d most : Nat} {l : List Ld} {w : World} (hA : Win w 36 1 va ha n ((l.map (·.1)).map uU)) (hB : Win w 36 1 vb hb n ((l.map (·.2)).map uU)) (hn : l.length = n) (hnn : n ≤ 1000) (hlb : LB l) (hd : d ≤ 18446744073709551615) (hm : most ≤ 100000) :
    Calls Tryz.prog 83 #[U d, va, vb, U most] w (GrowU (win (dem d l) most) w) := by
  have hc := Lib.hid (fun W (ho : Only (fun _ => False) w W) (x : Nat) (hx : x ≤ 18446744073709551615) => rdemand_any (x := x) (hA.kept ho (fun _ _ h => h)) (hB.kept ho (fun _ _ h => h)) hn hnn hlb hd hx)
  have hlast := Lib.hid (fun r (h : IsWin (dem d l) most r) => (h.uniq (win_is _ _)))
  obtain ⟨r, hr⟩ : ∃ r, r = win (dem d l) most := ⟨_, rfl⟩
  obtain ⟨Z, hZ⟩ : ∃ Z, Z = GrowU r w := ⟨_, rfl⟩
  rw [← hr] at hlast ⊢
  rw [← hZ]
  have hZ' := Lib.hid hZ
  obtain ⟨D, hD⟩ : ∃ D : Nat → Nat, D = dem d l := ⟨_, rfl⟩
  rw [← hD] at hc hlast
  obtain ⟨pa, ca, rfl, -, -⟩ := hA.form
  obtain ⟨pb, cb, rfl, -, -⟩ := hB.form
  clear hn hlb hd hD hr hZ hA hB
  go_enter Tryz.func83, Tryz.ntmps83
  go_wp2
  go_loopw [9] (fun u9 wr => ∃ x : Nat, u9 = U x ∧ 1 ≤ x ∧ x ≤ most + 1 ∧ Hid (∀ y, 1 ≤ y → y < x → y < D y) ∧ Hid (Only (fun _ => False) w wr)) (fun i _ => (most + 1 - intOf i).toNat)
  case atStart => exact ⟨1, rfl, Nat.le_refl _, by omega, Lib.hid (fun y h1 h2 => by omega), Only.refl _ _⟩
  case round =>
    obtain ⟨x, rfl, hx1, hxm, hI, hO⟩ := hrel
    by_cases hxn : x ≤ most
    · have hxn' : (x : Int) ≤ most := by omega
      have q := Lib.hid (hc.out wr hO.out x (by omega))
      by_cases hdx : D x ≤ x
      · have hfin := Lib.hid (hlast.out x (.inr ⟨hx1, hxn, hdx, hI.out⟩))
        have hdx' : (D x : Int) ≤ x := by omega
        obtain ⟨dx, hdd⟩ : ∃ dx, dx = D x := ⟨_, rfl⟩
        rw [← hdd] at q hdx'
        clear hdx hdd
        go_wp2_with (go_at_call 124; refine q.out.mono ?_; rintro e w2 ⟨rfl, ho⟩; have hO2 := Lib.hid (hO.out.trans' ho); clear ho)
        rw [hZ'.out]
        exact ⟨by rw [← hfin.out]; rfl, hO2.out⟩
      · have hdx' : ¬ (D x : Int) ≤ x := by omega
        have hI2 := Lib.hid (show ∀ y, 1 ≤ y → y < x + 1 → y < D y from fun y h1 h2 => by
          rcases Nat.lt_or_ge y x with h3 | h3
          · exact hI.out y h1 h3
          · obtain rfl : y = x := by omega
            omega)
        obtain ⟨dx, hdd⟩ : ∃ dx, dx = D x := ⟨_, rfl⟩
        rw [← hdd] at q hdx'
        clear hdx hdd
        go_wp2_with (go_at_call 124; refine q.out.mono ?_; rintro e w2 ⟨rfl, ho⟩; have hO2 := Lib.hid (hO.out.trans' ho); clear ho)
        go_roundw
        case rel => exact ⟨x + 1, by go_num, by omega, by omega, hI2, hO2⟩
        case measure => simp [intOf]; omega
    · obtain rfl : x = most + 1 := by omega
      have hfin := Lib.hid (hlast.out 0 (.inl ⟨rfl, fun y h1 h2 => hI.out y h1 (by omega)⟩))
      have hno : ¬ ((most + 1 : Nat) : Int) ≤ most := by omega
      go_wp2
      rw [hZ'.out]
      exact ⟨by rw [← hfin.out]; rfl, hO.out⟩
end Bch
end Go.Proofs.YtlbinlhaejhobaaGreatDoor
/- preempt: what is reckoned with: costs, numbers, sums. -/
namespace Go.Proofs.YtlbinlhaejhobaaGreatDoor
namespace Pre
open Go Go.RowKit Rca Sct Lin Lck Cst
open Bch (U sA sC sA_le sC_le)

theorem all_any {w : World} {A : Option Addr} {n cap : Nat} {l : List Opn} (hl : OpnRow w A l) (hn : l.length = n) (h9 : n ≤ 1000) (s wy h mi : Int) :
    Calls Tryz.prog 121 #[.slice A n cap, .agg #[.int .i64 s, .int .i64 wy, .int .i64 h, .int .i64 mi], .bool false] w (GrowI (sumU (costK l h mi) n) w) := by
  obtain ⟨W1, hW1⟩ : ∃ W1, W1 = w.alloc (.cells #[.int .i64 s, .int .i64 wy, .int .i64 h, .int .i64 mi] 23) := ⟨_, rfl⟩
  have hO : Only (fun _ => False) w W1 := by rw [hW1]; exact (Only.refl (fun _ => False) w).alloc _
  have hb := heap_new_at w (.cells #[.int .i64 s, .int .i64 wy, .int .i64 h, .int .i64 mi] 23) rfl
  rw [← hW1] at hb
  have hb' := Lib.hid hb
  have hO' := Lib.hid hO
  have hl' := Lib.hid (fun W (h : Only (fun _ => False) w W) => hl.new h)
  have hn' := Lib.hid hn
  obtain ⟨co, hco⟩ : ∃ co, co = costK l h mi := ⟨_, rfl⟩
  rw [← hco]
  have hcb := Lib.hid (fun k => show 0 ≤ co k ∧ co k ≤ 1073741824 from by rw [hco]; exact costK_le _ _ _ _)
  have hca := Lib.hid (fun k o (ho : l[k]? = some o) => show co k = ofZ o h mi false from by rw [hco]; exact costK_at ho)
  obtain ⟨q, hqq⟩ : ∃ q, q = w.heap.size := ⟨_, rfl⟩
  have hqq' := Lib.hid hqq
  rw [← hqq] at hb'
  have hW1' := Lib.hid hW1
  clear hl hn hO hb hW1 hco hqq
  go_enter Tryz.func121, Tryz.ntmps121
  go_wp2
  rw [← hqq'.out, ← hW1'.out]
  go_loopw [7, 12] (fun a i' wr => ∃ k : Nat, k ≤ n ∧ i' = .int .i64 k ∧ a = .int .i64 (sumU co k) ∧ Only (fun _ => False) W1 wr) (fun _ i' _ => n - (intOf i').toNat)
  case atStart => exact ⟨0, Nat.zero_le _, rfl, rfl, Only.refl _ _⟩
  case round =>
    obtain ⟨k, hk, rfl, rfl, hOk⟩ := hrel
    obtain ⟨ws, hws⟩ : ∃ ws : World, ws = wr := ⟨_, rfl⟩
    subst hws
    have hOk' := Lib.hid hOk
    have hbs := Lib.hid (hOk.heap hb'.out (fun h => h))
    clear hOk
    obtain ⟨b1, b2⟩ := sumU_bound hcb.out k
    by_cases hkn : k < n
    · have hkn' : (k : Int) < (n : Int) := by omega
      obtain ⟨o, ho⟩ : ∃ o, l[k]? = some o := ⟨_, List.getElem?_eq_getElem (by have := hn'.out; omega)⟩
      have hck := hca.out k o ho
      obtain ⟨hc1, hc2⟩ := hcb.out k
      have hsu : sumU co (k + 1) = sumU co k + co k := rfl
      obtain ⟨C, hCC⟩ : ∃ C, C = co k := ⟨_, rfl⟩
      obtain ⟨y, hy⟩ : ∃ y, y = sumU co k := ⟨_, rfl⟩
      rw [← hCC] at hck hc1 hc2 hsu
      rw [← hy] at hsu b1 b2 ⊢
      have hsu' := Lib.hid hsu
      have hof := Lib.hid (fun W => Cst.of_any o s wy h mi false W)
      rw [← hck] at hof
      unfold Opn.val at hof
      obtain ⟨vb, voff, hvA, hvb, d0, d1, d2⟩ := opn_row (hl'.out _ (hO'.out.trans' hOk'.out)) ho
      subst hvA
      obtain ⟨ok, oa, ob⟩ := o
      dsimp only at d0 d1 d2 hof
      have c0 := row_cell (L := [.int .i64 s, .int .i64 wy, .int .i64 h, .int .i64 mi]) hbs.out (i := 0) rfl
      have c1 := row_cell (L := [.int .i64 s, .int .i64 wy, .int .i64 h, .int .i64 mi]) hbs.out (i := 1) rfl
      have c2 := row_cell (L := [.int .i64 s, .int .i64 wy, .int .i64 h, .int .i64 mi]) hbs.out (i := 2) rfl
      have c3 := row_cell (L := [.int .i64 s, .int .i64 wy, .int .i64 h, .int .i64 mi]) hbs.out (i := 3) rfl
      have hlt := row_lt hbs.out
      have hOa := Lib.hid ((Only.refl (fun _ => False) ws).alloc (.cells #[.int .i64 ok, .int .i64 oa, .int .i64 ob] 90))
      clear ho hck hCC hy hsu
      go_wp2_with fail
      refine (hof.out _).mono ?_
      rintro e w4 ⟨rfl, hO4⟩
      have hO4' := Lib.hid (hOk'.out.trans' (hOa.out.trans' hO4))
      clear hO4 c0 c1 c2 c3 hlt d0 d1 d2 hof
      go_wp2
      go_roundw
      case rel => exact ⟨k + 1, by omega, by go_num, by rw [hsu'.out], hO4'.out⟩
      case measure => simp [intOf]; omega
    · obtain rfl : k = n := by omega
      have hkn' : ¬ (k : Int) < (k : Int) := by omega
      have hend := Lib.hid (show GrowI (sumU co k) w (.returned (.int .i64 (sumU co k))) ws from ⟨rfl, hO'.out.trans' hOk'.out⟩)
      go_wp2
      go_ret
      exact hend.out

def wrsZ (l : List Opn) (h mi : Int) : Int := sumU (costK l h mi) l.length
theorem wrsZ_le {l : List Opn} {h mi : Int} (hl : l.length ≤ 1000) : 0 ≤ wrsZ l h mi ∧ wrsZ l h mi ≤ 1073741824000 := by
  have h1 := sumU_bound (costK_le l h mi) l.length
  unfold wrsZ
  omega
theorem worst_any {w : World} {A : Option Addr} {n cap : Nat} {l : List Opn} (hl : OpnRow w A l) (hn : l.length = n) (h9 : n ≤ 1000) (s wy h mi : Int) :
    Calls Tryz.prog 81 #[.slice A n cap, .agg #[.int .i64 s, .int .i64 wy, .int .i64 h, .int .i64 mi]] w (GrowI (wrsZ l h mi) w) := by
  have hO := (Only.refl (fun _ => False) w).alloc (.cells #[.int .i64 s, .int .i64 wy, .int .i64 h, .int .i64 mi] 23)
  have hq := Lib.hid (all_any (cap := cap) (hl.new hO) hn h9 s wy h mi)
  rw [hn.symm.trans rfl] at hq
  obtain ⟨V, hV⟩ : ∃ V, V = wrsZ l h mi := ⟨_, rfl⟩
  rw [← hV]
  unfold wrsZ at hV
  rw [← hV] at hq
  rw [hn] at hq
  have hO' := Lib.hid hO
  clear hl hn hO hV
  go_enter Tryz.func81, Tryz.ntmps81
  go_wp2_with fail
  refine hq.out.mono ?_
  rintro e w' ⟨rfl, ho⟩
  have ho' := Lib.hid (hO'.out.trans' ho)
  clear ho
  go_wp2
  go_ret
  exact ⟨rfl, ho'.out⟩
theorem cell_at {w : World} {e : TypeId} {A : Option Addr} {n cap : Nat} {h : Option Nat} {xs : List Value} (hW : Win w e 1 (.slice A n cap) h n xs) {i : Nat} {u : Value} (hu : xs[i]? = some u) : ∃ g off, A = some ⟨g, off, none⟩ ∧ w.cell? ⟨g, off + i, none⟩ = some u ∧ g < w.heap.size := by
  have hi := (List.getElem?_eq_some_iff.1 hu).1
  obtain ⟨g, off, cc, _, hv, _, _, hl, hc, _⟩ := hW.at_ (by have := hW.1; omega)
  simp only [Value.slice.injEq, true_and] at hv
  exact ⟨g, off, hv.1, hc i u hu, hl⟩
/-- A number that isn't below 0, of 64 bits. -/
def ofU (z : Int) : Nat := (IntKind.u64.wrap (max z 0)).toNat
theorem ofU_eq (z : Int) : ((ofU z : Nat) : Int) = IntKind.u64.wrap (max z 0) := by
  unfold ofU
  rw [IntKind.wrap_u64]
  omega
theorem ofU_le (z : Int) : ofU z ≤ 18446744073709551615 := by
  have := ofU_eq z
  rw [IntKind.wrap_u64] at this
  omega
theorem ofU_small {z : Int} (h : z ≤ 18446744073709551615) : ofU z = z.toNat := by
  have := ofU_eq z
  rw [IntKind.wrap_u64] at this
  omega
theorem satOf_any (z : Int) (w : World) : Calls Tryz.prog 45 #[.int .i64 z] w (fun e w' => e = .returned (U (ofU z)) ∧ w' = w) := by
  obtain ⟨V, hV⟩ : ∃ V, V = IntKind.u64.wrap (max z 0) := ⟨_, rfl⟩
  have hV' := Lib.hid (show (ofU z : Int) = V by rw [hV]; exact ofU_eq z)
  by_cases h0 : 0 ≤ z
  · rw [show max z 0 = z by omega] at hV
    have hV2 := Lib.hid hV
    clear hV
    go_enter Tryz.func45, Tryz.ntmps45
    go_wp2
    all_goals
      go_ret
      exact ⟨by rw [U, hV'.out, hV2.out] <;> first | rfl | (congr 2; omega), rfl⟩
  · rw [show max z 0 = 0 by omega] at hV
    have hV2 := Lib.hid hV
    clear hV
    go_enter Tryz.func45, Tryz.ntmps45
    go_wp2
    all_goals
      go_ret
      exact ⟨by rw [U, hV'.out, hV2.out] <;> first | rfl | (congr 2; omega), rfl⟩
end Pre
end Go.Proofs.YtlbinlhaejhobaaGreatDoor
/- preempt: how often a job is displaced: the program's, and the reference's. -/
namespace Go.Proofs.YtlbinlhaejhobaaGreatDoor
namespace Pre
open Go Go.RowKit Rca Sct Lin Lck Cst Rld
open Bch (U sA sC sA_le sC_le GrowU)

def per (ts : List TaskV) (k : Nat) : Int := (ts.map (·.pe)).getD k 0
theorem per_at {ts : List TaskV} {k : Nat} {t : TaskV} (h : ts[k]? = some t) : per ts k = t.pe := by
  unfold per
  rw [List.getD_eq_getElem?_getD, List.getElem?_map, h]
  rfl
/-- What some number of each comes to, together. -/
def totU (f : Nat → Nat) (L : List Nat) : Nat := L.foldl (fun s i => sA s (f i)) 0
theorem totU_le (f : Nat → Nat) (L : List Nat) : totU f L ≤ 18446744073709551615 := by
  have key : ∀ (L : List Nat) (s : Nat), s ≤ 18446744073709551615 → L.foldl (fun s i => sA s (f i)) s ≤ 18446744073709551615 := by
    intro L
    induction L with
    | nil => intro s h; exact h
    | cons x L ih => intro s _; exact ih _ (sA_le _ _)
  exact key L 0 (by omega)
theorem totU_snoc {f : Nat → Nat} {L : List Nat} {j x : Nat} (h : L[j]? = some x) : totU f (L.take (j + 1)) = sA (totU f (L.take j)) (f x) := by
  unfold totU
  rw [Bch.take_snoc h, List.foldl_append]
  rfl
def cntU (ts : List TaskV) (win : Nat) (i : Nat) : Nat := sC win (ofU (per ts i))
set_option maxRecDepth 100000 in
theorem cl27_any {w : World} {c : ConfV} {ts : List TaskV} {qc qw win : Nat} (hC : w.heap[qc]? = some (.cells c.cells.toArray 27 (0, 0))) (hT : TasksAt w c.ta ts) (hw : w.heap[qw]? = some (.cells #[U win] 36 (0, 0))) (hwin : win ≤ 18446744073709551615) {i : Nat} (hi : i < ts.length) :
    Calls Tryz.prog 119 (#[.int .i64 (i : Int)] ++ #[.pointer (some ⟨qw, 0, none⟩), .pointer (some ⟨qc, 0, none⟩)]) w (GrowU (cntU ts win i) w) := by
  obtain ⟨t, ht⟩ : ∃ t, ts[i]? = some t := ⟨_, List.getElem?_eq_getElem hi⟩
  have e8 := row_cell hC (i := 8) rfl
  have hqc := row_lt hC
  have ew := row_cell hw (i := 0) rfl
  have hqw := row_lt hw
  obtain ⟨b, off, hA, hb, hCe⟩ := hT.at_ i t ht
  have c2 := hCe.c2
  have hlt : (i : Int) < c.ta.n := by have := hT.len; omega
  have hV : cntU ts win i = sC win (ofU t.pe) := by rw [cntU, per_at ht]
  rw [hV]
  have q1 := Lib.hid (fun W => satOf_any t.pe W)
  have q2 := Lib.hid (fun W => Bch.ceil_any win (ofU t.pe) W hwin (ofU_le _))
  obtain ⟨V, hV2⟩ : ∃ V, V = sC win (ofU t.pe) := ⟨_, rfl⟩
  rw [← hV2] at q2 ⊢
  obtain ⟨V1, hV1⟩ : ∃ V, V = ofU t.pe := ⟨_, rfl⟩
  rw [← hV1] at q1 q2
  unfold ConfV.cells at e8
  obtain ⟨s, wy, h, mi, ⟨mA, mn, mc⟩, g, ⟨cA, cn, cc⟩, ⟨eA, en, ec⟩, ⟨tA, tn, tc⟩, ⟨lA, ln, lc⟩⟩ := c
  dsimp only at *
  subst hA
  clear hC hT hw hi ht hCe hV hV2 hV1 hwin
  show Calls Tryz.prog 119 #[.int .i64 (i : Int), .pointer (some ⟨qw, 0, none⟩), .pointer (some ⟨qc, 0, none⟩)] w _
  go_enter Tryz.func119, Tryz.ntmps119
  go_wp2_with fail
  go_quiet (first | (go_at_call 45; exact Calls.quiet_of_same (q1.out _)) | (go_at_call 120; exact Calls.quiet_of_same (q2.out _)))
  go_wp2
  go_ret
  exact ⟨rfl, (Only.refl _ _).drewN _⟩
set_option maxRecDepth 100000 in
set_option maxHeartbeats 2000000 in
theorem total_any {w : World} {A : Option Addr} {n cap : Nat} {hh : Option Nat} {L : List Nat} {f : Nat → Nat} {qc qw : Nat} (hW : Win w 3 1 (.slice A n cap) hh n (dat L)) (hl : L.length = n) (hn9 : n ≤ 1000000) (hf : ∀ i, f i ≤ 18446744073709551615)
    (hcl : ∀ W, Only (fun _ => False) w W → ∀ i ∈ L, Calls Tryz.prog 119 (#[.int .i64 (i : Int)] ++ #[.pointer (some ⟨qw, 0, none⟩), .pointer (some ⟨qc, 0, none⟩)]) W (GrowU (f i) W)) :
    Calls Tryz.prog 118 #[.slice A n cap, .func (.func 119) #[] #[.pointer (some ⟨qw, 0, none⟩), .pointer (some ⟨qc, 0, none⟩)]] w (GrowU (totU f L) w) := by
  obtain ⟨Z, hZ⟩ : ∃ Z, Z = GrowU (totU f L) w := ⟨_, rfl⟩
  rw [← hZ]
  have hZ' := Lib.hid hZ
  have hW' := Lib.hid (fun W (ho : Only (fun _ => False) w W) => hW.kept ho (fun _ _ h => h))
  have hl' := Lib.hid hl
  have hcl' := Lib.hid hcl
  have hf' := Lib.hid hf
  have hT0 := Lib.hid (show totU f (L.take 0) = 0 from rfl)
  clear hW hl hcl hf hZ
  go_enter Tryz.func118, Tryz.ntmps118
  go_wp2
  go_loopw [5, 7, 10] (fun u5 _ i wr => ∃ k : Nat, i = .int .i64 k ∧ k ≤ n ∧ u5 = U (totU f (L.take k)) ∧ Hid (Only (fun _ => False) w wr)) (fun _ _ i _ => n - (intOf i).toNat)
  case atStart => exact ⟨0, rfl, Nat.zero_le _, by rw [hT0.out]; rfl, Lib.hid (Only.refl _ _)⟩
  case round =>
    obtain ⟨k, rfl, hk, rfl, hO⟩ := hrel
    obtain ⟨ws, hws⟩ : ∃ ws : World, ws = wr := ⟨_, rfl⟩
    subst hws
    obtain ⟨S, hS⟩ : ∃ S, S = totU f (L.take k) := ⟨_, rfl⟩
    have hS9 : S ≤ 18446744073709551615 := by rw [hS]; exact totU_le _ _
    rw [← hS]
    by_cases hkn : k < n
    · have hkn' : (k : Int) < n := by omega
      obtain ⟨x, hx⟩ : ∃ x, L[k]? = some x := ⟨_, List.getElem?_eq_getElem (by have := hl'.out; omega)⟩
      obtain ⟨g, off, rfl, cx, cxl⟩ := cell_at (hW'.out ws hO.out) (dat_at hx)
      have hsu := Lib.hid (show totU f (L.take (k + 1)) = sA S (f x) by rw [totU_snoc hx, hS])
      have q1 := Lib.hid (hcl'.out ws hO.out x (List.mem_of_getElem? hx))
      have q2 := Lib.hid (fun W => Bch.add_any S (f x) W hS9 (hf'.out x))
      obtain ⟨F, hF⟩ : ∃ F, F = f x := ⟨_, rfl⟩
      rw [← hF] at hsu q1 q2
      obtain ⟨V, hV⟩ : ∃ V, V = sA S F := ⟨_, rfl⟩
      rw [← hV] at hsu q2
      clear hx hS hF hV
      go_wp2_with fail
      refine q1.out.mono ?_
      rintro e w4 ⟨rfl, ho⟩
      have hO4 := Lib.hid (hO.out.trans' ho)
      clear ho q1 cx cxl
      go_wp2_with fail
      refine (q2.out _).mono ?_
      rintro e w5 ⟨rfl, hw5⟩
      subst hw5
      go_wp2
      go_roundw
      case rel => exact ⟨k + 1, by go_num, by omega, by rw [hsu.out], hO4⟩
      case measure => simp [intOf]; omega
    · obtain rfl : k = n := by omega
      have hfin := Lib.hid (show Z (.returned (U S)) ws from by rw [hZ'.out, hS, List.take_of_length_le (by have := hl'.out; omega)]; exact ⟨rfl, hO.out⟩)
      clear hS
      go_wp2
      exact hfin.out
set_option maxRecDepth 100000 in
set_option maxHeartbeats 2000000 in
theorem count_any {w : World} {c : ConfV} {ts : List TaskV} (hT : TasksAt w c.ta ts) (hs9 : c.ta.n ≤ 1000000) {win : Nat} (hwin : win ≤ 18446744073709551615) {i : Nat} {ti : TaskV} (hi : ts[i]? = some ti) :
    Calls Tryz.prog 79 #[c.val, .int .i64 (i : Int), U win] w (GrowU (totU (cntU ts win) (aboU ts ti.th c.ta.n)) w) := by
  obtain ⟨Z, hZ⟩ : ∃ Z, Z = GrowU (totU (cntU ts win) (aboU ts ti.th c.ta.n)) w := ⟨_, rfl⟩
  rw [← hZ]
  obtain ⟨q, hq⟩ : ∃ q, q = w.heap.size := ⟨_, rfl⟩
  obtain ⟨W2, hW2⟩ : ∃ W2, W2 = (w.alloc (.cells c.cells.toArray 27)).alloc (.cells #[U win] 36) := ⟨_, rfl⟩
  have hO2 : Only (fun _ => False) w W2 := by rw [hW2]; exact ((Only.refl _ w).alloc _).alloc _
  have b0 : W2.heap[q]? = some (.cells c.cells.toArray 27 (0, 0)) := by rw [hW2]; exact heap_kept_alloc (heap_new_at _ _ hq.symm) _
  have b1 : W2.heap[q + 1]? = some (.cells #[U win] 36 (0, 0)) := by rw [hW2]; exact heap_new_at _ _ (by simp [hq])
  have hq' := Lib.hid hq
  have hmf : ∀ (fn : Fn) (first cap : Array Value) (w : World), (Instr.makeFunc fn first cap).run Tryz.prog w = .ok (.func fn first cap) w := fun _ _ _ _ => rfl
  have cab := Lib.hid (above_any (hT.new hO2) hs9 hi)
  have ctot := Lib.hid (fun W (ho : Only (fun _ => False) W2 W) (A : Option Addr) (cap : Nat) (hh : Option Nat) (hW : Win W 3 1 (.slice A (aboU ts ti.th c.ta.n).length cap) hh (aboU ts ti.th c.ta.n).length (dat (aboU ts ti.th c.ta.n))) =>
    total_any (qc := q) (qw := q + 1) (f := cntU ts win) hW rfl (Nat.le_trans (aboU_len _ _ _) hs9) (fun i => sC_le hwin) (fun W' ho' i hi' => cl27_any ((ho.trans' ho').heap b0 (fun h => h)) (hT.new (hO2.trans' (ho.trans' ho'))) ((ho.trans' ho').heap b1 (fun h => h)) hwin (by have := (aboU_mem.1 hi').1; have := hT.len; omega)))
  have d0 := row_cell b0 (i := 0) rfl
  have d1 := row_cell b0 (i := 1) rfl
  have d2 := row_cell b0 (i := 2) rfl
  have d3 := row_cell b0 (i := 3) rfl
  have d4 := row_cell b0 (i := 4) rfl
  have d5 := row_cell b0 (i := 5) rfl
  have d6 := row_cell b0 (i := 6) rfl
  have d7 := row_cell b0 (i := 7) rfl
  have d8 := row_cell b0 (i := 8) rfl
  have d9 := row_cell b0 (i := 9) rfl
  have dl := row_lt b0
  have hfin := Lib.hid (fun W (ho : Only (fun _ => False) W2 W) => show Z (.returned (U (totU (cntU ts win) (aboU ts ti.th c.ta.n)))) W from by rw [hZ]; exact ⟨rfl, hO2.trans' ho⟩)
  obtain ⟨L, hL⟩ : ∃ L, L = aboU ts ti.th c.ta.n := ⟨_, rfl⟩
  rw [← hL] at cab ctot hfin
  unfold RowEnd at cab
  obtain ⟨V, hV⟩ : ∃ V, V = totU (cntU ts win) L := ⟨_, rfl⟩
  rw [← hV] at ctot hfin
  obtain ⟨m, hm⟩ : ∃ m, m = L.length := ⟨_, rfl⟩
  rw [← hm] at cab ctot
  unfold ConfV.val at cab ⊢
  unfold ConfV.cells at hW2
  have hW2' := Lib.hid hW2
  clear hT hi hZ hq hO2 b0 b1 hW2 hL hV hm hwin
  obtain ⟨s, wy, h, mi, ⟨mA, mn, mc⟩, g, ⟨cA, cn, cc⟩, ⟨eA, en, ec⟩, ⟨tA, tn, tc⟩, ⟨lA, ln, lc⟩⟩ := c
  dsimp only at *
  go_enter Tryz.func79, Tryz.ntmps79
  go_upto_region 1 with fail
  rw [← hq'.out]
  rw [← hW2'.out]
  go_wp2_with fail
  refine cab.out.mono ?_
  rintro e w4 ⟨p, cp, hh, rfl, hW, -, ho⟩
  have q2 := Lib.hid (ctot.out w4 ho p cp hh hW)
  have hO4 := Lib.hid ho
  clear ho hW d0 d1 d2 d3 d4 d5 d6 d7 d8 d9 dl cab ctot
  go_wp2_with fail
  refine q2.out.mono ?_
  rintro e w5 ⟨rfl, ho⟩
  have hf := Lib.hid (hfin.out w5 (hO4.out.trans' ho))
  clear ho
  go_wp2
  exact hf.out
end Pre
end Go.Proofs.YtlbinlhaejhobaaGreatDoor
/- From what a row lists to facts on cells, and a wrap that keeps both the listed variables and the world's shape. Speaks of no program. -/
namespace Go.Proofs.YtlbinlhaejhobaaGreatDoor
open Go

/-- One of the listed variables. -/
theorem laid_at {P : Program} {w : World} : ∀ {l : List (String × DataW Unit)} {ps : List MemPlace}, DataW.LaidVars P w l ps → ∀ n d, (n, d) ∈ l →
    ∃ g t cs fuel p, P.globalNamed n = some g ∧ (P.globals[g]?).map (·.type) = some t ∧ w.var? P n = some cs ∧ DataW.trod (fun _ => ()) P w 0 (fun _ => true) false fuel t cs.toList = some (d, p)
  | [], _, _, _, _, h => by cases h
  | (n', d') :: l, ps, h, n, d, hm => by
    obtain ⟨g, t, cs, fuel, p, q, h1, h2, h3, h4, h5, _⟩ := h
    rcases List.mem_cons.1 hm with e | e
    · cases e
      exact ⟨g, t, cs, fuel, p, h1, h2, h3, h4⟩
    · exact laid_at h5 n d e
/-- A table of numbers, wherever it stands on the list. -/
theorem tab_of_laid {P : Program} {W : World} {name : String} {k : IntKind} {zs : List Int} {l : List (String × DataW Unit)} {g : Nat} {t e : TypeId} {n : Nat}
    (hg : P.globalNamed name = some g) (hty : (P.globals[g]?).map (·.type) = some t) (ht : P.underlying t = some (.array n e)) (he : P.underlying e = some (.int k)) (hce : P.cellsOf e = 1) (hct : P.cellsOf t = n)
    (hm : (name, Lib.tabData k zs) ∈ l) (h : laidMet P l W) : Lib.TabIs P W name k zs := by
  obtain ⟨ps, h1, _⟩ := h
  obtain ⟨g', t', cs, fuel, p, hg', ht', hvar, hd⟩ := laid_at h1 _ _ hm
  obtain rfl := Option.some.inj (hg.symm.trans hg')
  obtain rfl := Option.some.inj (hty.symm.trans ht')
  unfold Lib.TabIs
  rw [hvar, ← Lib.cells_of_tab ht he hce hct hd]

theorem returns_and_shaped {H : Type} {enc : TypeId × Value → H} {a : Assume} {C : Checked} {os : Os} {f : FuncId} {fn : Func} {s : ChangeSpec} {conds : List PathCond} {apart fresh handsOn again : Bool} {X : World → Array Value → Prop}
    (hX : ∀ (w w' : World) (args : Array Value), w.heap = w'.heap → X w args → X w' args)
    (own : ownKnob C.prog.godebug = none) (started : os.Started) (noInit : C.prog.inits.idxOf? f = none) (hfn : C.prog.funcs[f]? = some fn)
    (witness : ∃ (w : World) (tape : Tape) (i : Input), w.os = os ∧ (w.forCall tape i).Shaped C.prog ∧ i.vars = [] ∧ Input.okWide C.prog (w.forCall tape i) .any w.heap.size f i ∧
      ((s.pre enc C.prog fn conds apart (w.forCall tape i).memory i.args ∧ X (w.forCall tape i).memory i.args) ∧ sizedMet enc C.prog fn (OpenSpec.ofChange s) apart (w.forCall tape i).memory i.args) ∧ a.holds C.prog (lone (Frame.enter C.prog f i.args .normal) [] (w.forCall tape i)))
    (contract : ∀ (W : World) (base : Nat) (args : Array Value) (ds gs : List (DataW H)) (before : List MemPlace),
      (∀ (j : Nat) t v, fn.params[j]? = some t → args[j]? = some v → Value.okWide C.prog W .any base t v) →
      DataW.Whole enc C.prog fn.params.toList s.vars apart W args.toList ds gs before → X W args → W.ShapedOpen C.prog →
      Calls C.prog f args W fun e W' => ∃ v, e = .returned v ∧ s.post enc C.prog fn apart fresh handsOn again W args v W') :
    ReturnsInHanded a C os f .any (fun w args => (s.pre enc C.prog fn conds apart w args ∧ X w args) ∧ sizedMet enc C.prog fn (OpenSpec.ofChange s) apart w args) (s.post enc C.prog fn apart fresh handsOn again) := by
  refine returnsInHanded_of_calls own started noInit witness ?_
  intro w tape i _ hsh _ hok hpre _
  obtain ⟨_, _, _, fn', hfn', _, _, _, _, hval⟩ := hok
  obtain rfl : fn' = fn := Option.some.inj (hfn'.symm.trans hfn)
  obtain ⟨⟨⟨ds, gs, before, hw, _⟩, hx⟩, _⟩ := hpre
  refine (contract (w.forCall tape i) w.heap.size i.args ds gs before hval (DataW.Whole.of_heap (w' := w.forCall tape i) (by rfl) hw) (hX _ _ _ (by rfl) hx) hsh).mono fun e W' ⟨v, he, hp⟩ => ?_
  subst he
  exact ChangeSpec.post_blind hp
end Go.Proofs.YtlbinlhaejhobaaGreatDoor
/- Slices of structs of one-cell fields that came in. Speaks of no program. -/
namespace Go.Proofs.YtlbinlhaejhobaaGreatDoor
open Go Go.RowKit Go.ChangeShapes Go.WideShapes Go.Deep

section
variable {H : Type} {enc : TypeId × Value → H} {P : Program} {w : World} {base : Nat} {spare : Nat → Bool} {held : Bool}

/-- Each element's fields lie in the cells behind each other; each reads by its own type. -/
theorem open_flat {t e : TypeId} {fs : Array Field} {fuel : Nat} {cs : List Value} {x : DataW H × List MemPlace} (ht : P.underlying t = some (.slice e)) (he : P.underlying e = some (.struct fs)) (ce : P.cellsOf e = fs.size)
    (hone : ∀ (i : Nat) (f : Field), fs[i]? = some f → f.offset = i ∧ P.cellsOf f.type = 1) (h : DataW.trod enc P w base spare held fuel t cs = some x) :
    cs = [.slice none 0 0] ∨ ∃ (a : Addr) (len cap m n : Nat), cs = [.slice (some a) len cap] ∧ len ≤ m ∧
      ∀ i, i < m → ∀ (j : Nat) (f : Field), fs[j]? = some f → ∃ v y, w.cell? (a.add (i * fs.size + j)) = some v ∧ DataW.trod enc P w base spare held n f.type [v] = some y := by
  rcases open_slice ht h with h0 | ⟨a, len, cap, m, n, D, Pl, rfl, hb, hl, hm, hmm, rfl, hx⟩
  · exact .inl h0.1
  · refine .inr ⟨a, len, cap, m, n - 1, rfl, by rw [hmm]; split <;> omega, fun i hi j f hf => ?_⟩
    obtain ⟨cs', h1, h2⟩ := hx i hi
    rw [ce] at h1
    obtain ⟨_, hlen, hcell⟩ := World.cells?_some h1
    obtain ⟨xs, k, hk, _, _, hxl, hff⟩ := DataW.trod_struct he h2
    have hk' : k = n - 1 := by omega
    subst hk'
    have hj : j < fs.size := (Array.getElem?_eq_some_iff.1 hf).1
    obtain ⟨ho, hc⟩ := hone j f hf
    have g := hff j f hf
    rw [ho, hc] at g
    have hjc : j < cs'.length := by omega
    have hsingle : (cs'.drop j).take 1 = [cs'[j]] := by
      rw [List.drop_eq_getElem_cons hjc]
      rfl
    rw [hsingle] at g
    have hxj : j < xs.length := by omega
    rw [List.getElem?_eq_getElem hxj] at g
    have hcj := hcell j hj
    rw [add_add, List.getElem?_eq_getElem hjc] at hcj
    exact ⟨cs'[j], xs[j], by simpa using hcj, g⟩
end

/-- Slices of structs of ints: every number, by place and field. -/
theorem open_flat_ints {H : Type} {enc : TypeId × Value → H} {P : Program} {w : World} {base : Nat} {spare : Nat → Bool} {held : Bool} {t e : TypeId} {fs : Array Field} {fuel : Nat} {A : Option Addr} {len cap : Nat} {x : DataW H × List MemPlace}
    (ht : P.underlying t = some (.slice e)) (he : P.underlying e = some (.struct fs)) (ce : P.cellsOf e = fs.size) (h0 : 0 < fs.size)
    (hone : ∀ (i : Nat) (f : Field), fs[i]? = some f → f.offset = i ∧ P.cellsOf f.type = 1 ∧ P.underlying f.type = some (.int .i64)) (h : DataW.trod enc P w base spare held fuel t [.slice A len cap] = some x) :
    len ≤ cap ∧ ∃ z : Nat → Nat → Int, ∀ i, i < len → ∃ b off, A = some ⟨b, off, none⟩ ∧ b < w.heap.size ∧ ∀ j, j < fs.size → w.cell? ⟨b, off + (i * fs.size + j), none⟩ = some (.int .i64 (z i j)) ∧ (Lit.int .i64 (z i j)).wf = true := by
  have hcap : len ≤ cap := by
    rcases open_slice ht h with h0 | ⟨a, len', cap', m, n, D, Pl, hcs, hb, hl, hm, hmm, _, hx⟩
    · have := h0.1
      simp at this
      omega
    · simp at hcs
      omega
  refine ⟨hcap, ?_⟩
  rcases open_flat ht he ce (fun i f hi => ⟨(hone i f hi).1, (hone i f hi).2.1⟩) h with hcs | ⟨a, l, c, m, n, hcs, hlm, hall⟩
  · simp at hcs
    exact ⟨fun _ _ => 0, fun i hi => by omega⟩
  · simp at hcs
    obtain ⟨rfl, rfl, rfl⟩ := hcs
    have each : ∀ i j, i < len → j < fs.size → ∃ z : Int, w.cell? (a.add (i * fs.size + j)) = some (.int .i64 z) ∧ (Lit.int .i64 z).wf = true := by
      intro i j hi hj
      obtain ⟨v, y, h1, h2⟩ := hall i (by omega) j fs[j] (Array.getElem?_eq_getElem hj)
      obtain ⟨z, hz, _, hw⟩ := DataW.trod_int (hone j fs[j] (Array.getElem?_eq_getElem hj)).2.2 h2
      simp only [List.cons.injEq, and_true] at hz
      subst hz
      exact ⟨z, h1, hw⟩
    refine ⟨fun i j => if hi : i < len ∧ j < fs.size then Classical.choose (each i j hi.1 hi.2) else 0, fun i hi => ?_⟩
    have hx : a = ⟨a.block, a.off, none⟩ := by
      obtain ⟨z, hz, _⟩ := each 0 0 (by omega) h0
      have h1 := spot_none hz
      cases a with
      | mk b o s =>
        unfold Addr.add at h1
        simp at h1
        subst h1
        rfl
    have hb : a.block < w.heap.size := by
      obtain ⟨z, hz, _⟩ := each i 0 hi h0
      have := World.block_lt_of_cell? w _ hz
      rwa [add_block] at this
    refine ⟨a.block, a.off, congrArg some hx, hb, fun j hj => ?_⟩
    have hc := Classical.choose_spec (each i j hi hj)
    simp only [hi, hj, and_self, dif_pos]
    refine ⟨?_, hc.2⟩
    generalize Classical.choose (each i j hi hj) = z at hc ⊢
    have h1 := hc.1
    rw [hx, Addr.add_lit] at h1
    exact h1

/-- A struct by value: each field's value, and its reading. -/
theorem open_struct {H : Type} {enc : TypeId × Value → H} {P : Program} {w : World} {base b0 : Nat} {spare : Nat → Bool} {held : Bool} {r : Reach} {t : TypeId} {fs : Array Field} {v : Value} {d : DataW H} {p : List MemPlace}
    (hs : P.underlying t = some (.struct fs)) (ce : P.cellsOf t = fs.size) (hone : ∀ (i : Nat) (f : Field), fs[i]? = some f → f.offset = i ∧ P.cellsOf f.type = 1) (hv : Value.okWide P w r b0 t v) (h : DataW.Trod enc P w base spare held t v d p) :
    ∃ l : List Value, v = .agg l.toArray ∧ l.length = fs.size ∧ ∀ (i : Nat) (f : Field), fs[i]? = some f → ∃ u y n, l[i]? = some u ∧ DataW.trod enc P w base spare held n f.type [u] = some y := by
  obtain ⟨cs, rfl, hsz⟩ := okWide_struct hs hv
  rw [ce] at hsz
  have hl : cs.toList.length = fs.size := by simpa using hsz
  obtain ⟨fuel, hf⟩ := h
  obtain ⟨xs, n, _, hx, _, hlen, hg⟩ := DataW.trod_struct hs hf
  refine ⟨cs.toList, by simp, hl, fun i f hi => ?_⟩
  have hi' : i < fs.size := (Array.getElem?_eq_some_iff.1 hi).1
  have g := hg i f hi
  obtain ⟨ho, hk⟩ := hone i f hi
  rw [ho, hk] at g
  have e : (Value.cells (.agg cs)).toList = cs.toList := rfl
  rw [e] at g
  have hsingle : (cs.toList.drop i).take 1 = [cs.toList[i]'(by omega)] := by
    rw [List.drop_eq_getElem_cons (by omega)]
    rfl
  rw [hsingle] at g
  have hys : xs[i]? = some (xs[i]'(by omega)) := List.getElem?_eq_getElem (by omega)
  exact ⟨_, _, _, List.getElem?_eq_getElem (by omega), g.trans hys⟩

theorem Row.addr {w : World} {A : Option Addr} {n : Nat} {f : Nat → Value} (h : Row w A n f) (hn : 0 < n) : ∃ b off, A = some ⟨b, off, none⟩ ∧ b < w.heap.size ∧ ∀ k, k < n → w.cell? ⟨b, off + k, none⟩ = some (f k) := by
  obtain ⟨b, off, rfl, _, hlt⟩ := h 0 hn
  refine ⟨b, off, rfl, hlt, fun k hk => ?_⟩
  obtain ⟨b', off', e, hc, _⟩ := h k hk
  cases e
  exact hc
end Go.Proofs.YtlbinlhaejhobaaGreatDoor
/- What came in, as facts on cells. -/
namespace Go.Proofs.YtlbinlhaejhobaaGreatDoor
open Go Go.RowKit

theorem c3 : Tryz.prog.cellsOf 3 = 1 := by kernel_rfl
/-! ### What came in -/
theorem c24 : Tryz.prog.cellsOf 24 = 1 := by kernel_rfl
theorem c25 : Tryz.prog.cellsOf 25 = 1 := by kernel_rfl
theorem c43 : Tryz.prog.cellsOf 47 = 1 := by kernel_rfl
theorem c23 : Tryz.prog.cellsOf 23 = 4 := by kernel_rfl
theorem c27 : Tryz.prog.cellsOf 27 = 10 := by kernel_rfl
theorem c45 : Tryz.prog.cellsOf 49 = 7 := by kernel_rfl
theorem c69 : Tryz.prog.cellsOf 90 = 3 := by kernel_rfl
section
open Go.ChangeShapes Go.WideShapes Go.Deep
variable {H : Type} {enc : TypeId × Value → H} {w : World} {n : Nat} {u : Value} {y : DataW H × List MemPlace}

theorem ints_in (h : DataW.trod enc Tryz.prog w 0 (fun _ => true) true n 24 [u] = some y) : ∃ (x : Sl) (l : List Int), u = .slice x.A x.n x.cap ∧ IntsAt w x l := by
  rcases open_ints Tryz.underlying24 Tryz.underlying3 (by kernel_rfl) h with ⟨hcs, _⟩ | ⟨a, l, c, zs, hcs, _, hl, hm, hz, _, hcell, hwz⟩
  · simp at hcs
    exact ⟨⟨none, 0, 0⟩, [], hcs, rfl, Nat.le_refl _, fun k z hz => by simp at hz⟩
  · simp at hcs
    have hr := intRow_of (len := l) hcell hwz (by simp at hz; omega)
    refine ⟨⟨some a, l, c⟩, (List.range l).map (fun j => zs.getD j 0), hcs, by simp, hl, fun k z hz => ?_⟩
    have hk := (List.getElem?_eq_some_iff.1 hz).1
    simp at hk
    rw [List.getElem?_map, List.getElem?_range hk] at hz
    simp only [Option.map_some, Option.some.injEq] at hz
    obtain ⟨b, off, hA, hc, hb⟩ := (hr k hk).1
    exact ⟨b, off, hA, hb, by rw [hc, ← hz]⟩

theorem fields69 : ∃ fs : Array Field, Tryz.prog.underlying 90 = some (.struct fs) ∧ fs.size = 3 ∧ ∀ (i : Nat) (f : Field), fs[i]? = some f → f.offset = i ∧ Tryz.prog.cellsOf f.type = 1 ∧ Tryz.prog.underlying f.type = some (.int .i64) := by
  refine ⟨_, Tryz.underlying90, rfl, fun i f hi => ?_⟩
  match i with
  | 0 => cases hi; exact ⟨rfl, by kernel_rfl, Tryz.underlying3⟩
  | 1 => cases hi; exact ⟨rfl, by kernel_rfl, Tryz.underlying3⟩
  | 2 => cases hi; exact ⟨rfl, by kernel_rfl, Tryz.underlying3⟩
  | i + 3 => simp at hi
theorem ops_in (h : DataW.trod enc Tryz.prog w 0 (fun _ => true) true n 47 [u] = some y) : ∃ (x : Sl) (l : List Opn), u = .slice x.A x.n x.cap ∧ OpnRow w x.A l ∧ l.length = x.n ∧ x.n ≤ x.cap := by
  obtain ⟨x, hx⟩ : ∃ x : Sl, u = .slice x.A x.n x.cap := by
    rcases open_slice Tryz.underlying47 h with h0 | ⟨a, len, cap, m, n', D, Pl, hcs, _⟩
    · have := h0.1
      simp at this
      exact ⟨⟨none, 0, 0⟩, this⟩
    · simp at hcs
      exact ⟨⟨some a, len, cap⟩, hcs⟩
  subst hx
  obtain ⟨A, len, cap⟩ := x
  obtain ⟨fs, he, hsz, hfs⟩ := fields69
  obtain ⟨hc, z, hz⟩ := open_flat_ints Tryz.underlying47 he (by rw [c69, hsz]) (by omega) hfs h
  rw [hsz] at hz
  refine ⟨⟨A, len, cap⟩, (List.range len).map (fun i => ⟨z i 0, z i 1, z i 2⟩), rfl, fun k y hy => ?_, by simp, hc⟩
  have hk := (List.getElem?_eq_some_iff.1 hy).1
  simp at hk
  rw [List.getElem?_map, List.getElem?_range hk] at hy
  simp only [Option.map_some, Option.some.injEq] at hy
  subst hy
  obtain ⟨b, off, hA, hb, hcell⟩ := hz k hk
  exact ⟨b, off, hA, hb, by have := (hcell 0 (by omega)).1; rwa [← Nat.add_assoc] at this, by have := (hcell 1 (by omega)).1; rwa [← Nat.add_assoc] at this, by have := (hcell 2 (by omega)).1; rwa [← Nat.add_assoc] at this⟩

theorem int_in {t : TypeId} {k : IntKind} {vs : List Value} (ht : Tryz.prog.underlying t = some (.int k)) (h : DataW.trod enc Tryz.prog w 0 (fun _ => true) true n t vs = some y) : ∃ z : Int, vs = [.int k z] := by
  obtain ⟨z, hz, _⟩ := DataW.trod_int ht h
  exact ⟨z, hz⟩
theorem one_of {α : Type} {l : List α} {k : Nat} {v : α} (h : (l.drop k).take 1 = [v]) : l[k]? = some v := by
  have := congrArg (·[0]?) h
  simpa [List.getElem?_take, List.getElem?_drop] using this

/-- One task that came in. -/
theorem task_in {vs : List Value} (hl : vs.length = 7) (h : DataW.trod enc Tryz.prog w 0 (fun _ => true) true n 49 vs = some y) : ∃ (t : TaskV) (l : List Opn), vs = t.cells ∧ OpnRow w t.o.A l ∧ l.length = t.o.n ∧ t.o.n ≤ t.o.cap := by
  obtain ⟨xs, m, _, _, _, hxl, hf⟩ := DataW.trod_struct Tryz.underlying49 h
  have hxs : xs.length = 7 := hxl
  have f0 : DataW.trod enc Tryz.prog w 0 (fun _ => true) true m 3 ((vs.drop 0).take (Tryz.prog.cellsOf 3)) = some (xs[0]'(by omega)) := (hf 0 _ rfl).trans (List.getElem?_eq_getElem (by omega))
  have f1 : DataW.trod enc Tryz.prog w 0 (fun _ => true) true m 3 ((vs.drop 1).take (Tryz.prog.cellsOf 3)) = some (xs[1]'(by omega)) := (hf 1 _ rfl).trans (List.getElem?_eq_getElem (by omega))
  have f2 : DataW.trod enc Tryz.prog w 0 (fun _ => true) true m 3 ((vs.drop 2).take (Tryz.prog.cellsOf 3)) = some (xs[2]'(by omega)) := (hf 2 _ rfl).trans (List.getElem?_eq_getElem (by omega))
  have f3 : DataW.trod enc Tryz.prog w 0 (fun _ => true) true m 3 ((vs.drop 3).take (Tryz.prog.cellsOf 3)) = some (xs[3]'(by omega)) := (hf 3 _ rfl).trans (List.getElem?_eq_getElem (by omega))
  have f4 : DataW.trod enc Tryz.prog w 0 (fun _ => true) true m 3 ((vs.drop 4).take (Tryz.prog.cellsOf 3)) = some (xs[4]'(by omega)) := (hf 4 _ rfl).trans (List.getElem?_eq_getElem (by omega))
  have f5 : DataW.trod enc Tryz.prog w 0 (fun _ => true) true m 3 ((vs.drop 5).take (Tryz.prog.cellsOf 3)) = some (xs[5]'(by omega)) := (hf 5 _ rfl).trans (List.getElem?_eq_getElem (by omega))
  have f6 : DataW.trod enc Tryz.prog w 0 (fun _ => true) true m 47 ((vs.drop 6).take (Tryz.prog.cellsOf 47)) = some (xs[6]'(by omega)) := (hf 6 _ rfl).trans (List.getElem?_eq_getElem (by omega))
  obtain ⟨z0, e0⟩ := int_in Tryz.underlying3 f0
  obtain ⟨z1, e1⟩ := int_in Tryz.underlying3 f1
  obtain ⟨z2, e2⟩ := int_in Tryz.underlying3 f2
  obtain ⟨z3, e3⟩ := int_in Tryz.underlying3 f3
  obtain ⟨z4, e4⟩ := int_in Tryz.underlying3 f4
  obtain ⟨z5, e5⟩ := int_in Tryz.underlying3 f5
  rw [c3] at e0 e1 e2 e3 e4 e5
  replace e0 := one_of e0
  replace e1 := one_of e1
  replace e2 := one_of e2
  replace e3 := one_of e3
  replace e4 := one_of e4
  replace e5 := one_of e5
  rw [c43] at f6
  clear f0 f1 f2 f3 f4 f5 hf
  match vs, hl with
  | [v0, v1, v2, v3, v4, v5, v6], _ =>
    obtain ⟨x, l, rfl, g1, g2, g3⟩ := ops_in f6
    cases e0; cases e1; cases e2; cases e3; cases e4; cases e5
    exact ⟨⟨z0, z1, z2, z3, z4, z5, x⟩, l, rfl, g1, g2, g3⟩

/-- Tasks that came in. -/
theorem tasks_in (h : DataW.trod enc Tryz.prog w 0 (fun _ => true) true n 25 [u] = some y) : ∃ (x : Sl) (pl : Tks), u = .slice x.A x.n x.cap ∧ TasksAt w x pl.ts ∧ (∀ (i : Nat) t l, pl[i]? = some (t, l) → OpnRow w t.o.A l ∧ l.length = t.o.n ∧ t.o.n ≤ t.o.cap) ∧ x.n ≤ 9223372036854775807 := by
  rcases open_slice Tryz.underlying25 h with h0 | ⟨a, len, cap, m, n', D, Pl, hcs, hb, hl, hm, hmm, _, hx⟩
  · have := h0.1
    simp at this
    exact ⟨⟨none, 0, 0⟩, [], this, ⟨rfl, Nat.le_refl _, fun k t ht => by simp [Tks.ts] at ht⟩, fun i t l hi => by simp at hi, Nat.zero_le _⟩
  · simp at hcs
    have hlm : len ≤ m := by rw [hmm]; split <;> omega
    have each : ∀ i, i < len → ∃ (t : TaskV) (l : List Opn), (∀ j v, t.cells[j]? = some v → w.cell? (a.add (i * 7 + j)) = some v) ∧ OpnRow w t.o.A l ∧ l.length = t.o.n ∧ t.o.n ≤ t.o.cap := fun i hi => by
      obtain ⟨cs', h1, h2⟩ := hx i (by omega)
      rw [c45] at h1
      obtain ⟨_, hlen, hcell⟩ := World.cells?_some h1
      obtain ⟨t, l, rfl, g1, g2, g3⟩ := task_in hlen h2
      refine ⟨t, l, fun j v hv => ?_, g1, g2, g3⟩
      have hj : j < 7 := by have := (List.getElem?_eq_some_iff.1 hv).1; simpa [TaskV.cells] using this
      have := hcell j hj
      rw [add_add, hv] at this
      exact this
    have ha : 0 < len → a = ⟨a.block, a.off, none⟩ := fun h0 => by
      obtain ⟨t, l, h1, _⟩ := each 0 h0
      have h2 := spot_none (h1 0 _ rfl)
      cases a with
      | mk b o s =>
        unfold Addr.add at h2
        simp at h2
        subst h2
        rfl
    refine ⟨⟨some a, len, cap⟩, (List.range len).map (fun i => if hi : i < len then (Classical.choose (each i hi), Classical.choose (Classical.choose_spec (each i hi))) else (⟨0, 0, 0, 0, 0, 0, ⟨none, 0, 0⟩⟩, [])), hcs, ⟨by simp [Tks.ts], hl, fun k t ht => ?_⟩, fun i t l hi => ?_, by unfold maxLen at hm; show len ≤ _; omega⟩
    · have hk := (List.getElem?_eq_some_iff.1 ht).1
      simp [Tks.ts] at hk
      unfold Tks.ts at ht
      rw [List.getElem?_map, List.getElem?_map, List.getElem?_range hk] at ht
      simp only [Option.map_some, Option.some.injEq, dif_pos hk] at ht
      have hc := (Classical.choose_spec (Classical.choose_spec (each k hk))).1
      rw [ht] at hc
      have e := ha (by omega)
      have hc' : ∀ j v, t.cells[j]? = some v → w.cell? ⟨a.block, a.off + (k * 7 + j), none⟩ = some v := fun j v hv => by
        have := hc j v hv
        rw [e, Addr.add_lit] at this
        exact this
      have hadd : ∀ j, a.off + k * 7 + j = a.off + (k * 7 + j) := fun j => by omega
      have hblk := World.block_lt_of_cell? w _ (hc' 0 _ rfl)
      exact ⟨a.block, a.off, congrArg some e, hblk, hc' 0 _ rfl, by rw [hadd]; exact hc' 1 _ rfl, by rw [hadd]; exact hc' 2 _ rfl, by rw [hadd]; exact hc' 3 _ rfl, by rw [hadd]; exact hc' 4 _ rfl, by rw [hadd]; exact hc' 5 _ rfl, by rw [hadd]; exact hc' 6 _ rfl⟩
    · have hk := (List.getElem?_eq_some_iff.1 hi).1
      simp at hk
      rw [List.getElem?_map, List.getElem?_range hk] at hi
      simp only [Option.map_some, Option.some.injEq, dif_pos hk, Prod.mk.injEq] at hi
      have hc := (Classical.choose_spec (Classical.choose_spec (each i hk))).2
      rw [hi.2, hi.1] at hc
      exact hc
set_option maxRecDepth 100000 in
/-- A configuration that came in. -/
theorem conf_in {r : Reach} {b0 : Nat} {v : Value} {d : DataW H} {p : List MemPlace} (hv : Value.okWide Tryz.prog w r b0 27 v) (h : DataW.Trod enc Tryz.prog w 0 (fun _ => true) true 27 v d p) : ∃ (c : ConfV) (dd : ConfL) (pl : Tks), v = c.val ∧ ConfIn w c dd pl := by
  obtain ⟨cs, rfl, hsz⟩ := okWide_struct Tryz.underlying27 hv
  rw [c27] at hsz
  obtain ⟨fuel, hf⟩ := h
  obtain ⟨xs, n, _, _, _, hxl, hg⟩ := DataW.trod_struct Tryz.underlying27 hf
  rw [show (Value.cells (.agg cs)).toList = cs.toList from rfl] at hg
  have hxs : xs.length = 7 := hxl
  have f0 : DataW.trod enc Tryz.prog w 0 (fun _ => true) true n 23 ((cs.toList.drop 0).take (Tryz.prog.cellsOf 23)) = some (xs[0]'(by omega)) := (hg 0 _ rfl).trans (List.getElem?_eq_getElem (by omega))
  have f1 : DataW.trod enc Tryz.prog w 0 (fun _ => true) true n 24 ((cs.toList.drop 4).take (Tryz.prog.cellsOf 24)) = some (xs[1]'(by omega)) := (hg 1 _ rfl).trans (List.getElem?_eq_getElem (by omega))
  have f2 : DataW.trod enc Tryz.prog w 0 (fun _ => true) true n 3 ((cs.toList.drop 5).take (Tryz.prog.cellsOf 3)) = some (xs[2]'(by omega)) := (hg 2 _ rfl).trans (List.getElem?_eq_getElem (by omega))
  have f3 : DataW.trod enc Tryz.prog w 0 (fun _ => true) true n 24 ((cs.toList.drop 6).take (Tryz.prog.cellsOf 24)) = some (xs[3]'(by omega)) := (hg 3 _ rfl).trans (List.getElem?_eq_getElem (by omega))
  have f4 : DataW.trod enc Tryz.prog w 0 (fun _ => true) true n 24 ((cs.toList.drop 7).take (Tryz.prog.cellsOf 24)) = some (xs[4]'(by omega)) := (hg 4 _ rfl).trans (List.getElem?_eq_getElem (by omega))
  have f5 : DataW.trod enc Tryz.prog w 0 (fun _ => true) true n 25 ((cs.toList.drop 8).take (Tryz.prog.cellsOf 25)) = some (xs[5]'(by omega)) := (hg 5 _ rfl).trans (List.getElem?_eq_getElem (by omega))
  have f6 : DataW.trod enc Tryz.prog w 0 (fun _ => true) true n 24 ((cs.toList.drop 9).take (Tryz.prog.cellsOf 24)) = some (xs[6]'(by omega)) := (hg 6 _ rfl).trans (List.getElem?_eq_getElem (by omega))
  obtain ⟨ys, m, _, _, _, hyl, hm⟩ := DataW.trod_struct Tryz.underlying23 f0
  have hys : ys.length = 4 := hyl
  have m0 : DataW.trod enc Tryz.prog w 0 (fun _ => true) true m 3 ((((cs.toList.drop 0).take (Tryz.prog.cellsOf 23)).drop 0).take (Tryz.prog.cellsOf 3)) = some (ys[0]'(by omega)) := (hm 0 _ rfl).trans (List.getElem?_eq_getElem (by omega))
  have m1 : DataW.trod enc Tryz.prog w 0 (fun _ => true) true m 3 ((((cs.toList.drop 0).take (Tryz.prog.cellsOf 23)).drop 1).take (Tryz.prog.cellsOf 3)) = some (ys[1]'(by omega)) := (hm 1 _ rfl).trans (List.getElem?_eq_getElem (by omega))
  have m2 : DataW.trod enc Tryz.prog w 0 (fun _ => true) true m 3 ((((cs.toList.drop 0).take (Tryz.prog.cellsOf 23)).drop 2).take (Tryz.prog.cellsOf 3)) = some (ys[2]'(by omega)) := (hm 2 _ rfl).trans (List.getElem?_eq_getElem (by omega))
  have m3 : DataW.trod enc Tryz.prog w 0 (fun _ => true) true m 3 ((((cs.toList.drop 0).take (Tryz.prog.cellsOf 23)).drop 3).take (Tryz.prog.cellsOf 3)) = some (ys[3]'(by omega)) := (hm 3 _ rfl).trans (List.getElem?_eq_getElem (by omega))
  obtain ⟨z0, e0⟩ := int_in Tryz.underlying3 m0
  obtain ⟨z1, e1⟩ := int_in Tryz.underlying3 m1
  obtain ⟨z2, e2⟩ := int_in Tryz.underlying3 m2
  obtain ⟨z3, e3⟩ := int_in Tryz.underlying3 m3
  obtain ⟨z5, e5⟩ := int_in Tryz.underlying3 f2
  rw [c3] at e0 e1 e2 e3 e5
  rw [c23] at e0 e1 e2 e3
  rw [c24] at f1 f3 f4 f6
  rw [c25] at f5
  have hl : cs.toList.length = 10 := by simpa using hsz
  have hcs : Value.agg cs = .agg cs.toList.toArray := by simp
  rw [hcs]
  clear f0 hg hm m0 m1 m2 m3 hf hv hcs hsz
  generalize cs.toList = L at *
  match L, hl with
  | [v0, v1, v2, v3, v4, v5, v6, v7, v8, v9], _ =>
    obtain ⟨x1, l1, rfl, g1⟩ := ints_in f1
    obtain ⟨x3, l3, rfl, g3⟩ := ints_in f3
    obtain ⟨x4, l4, rfl, g4⟩ := ints_in f4
    obtain ⟨x6, l6, rfl, g6⟩ := ints_in f6
    obtain ⟨x5, pl, rfl, g5, g7, g8⟩ := tasks_in f5
    simp at e0 e1 e2 e3 e5
    subst e0 e1 e2 e3 e5
    exact ⟨⟨z0, z1, z2, z3, x1, z5, x3, x4, x5, x6⟩, ⟨l1, l3, l4, l6⟩, pl, rfl, g1, g3, g4, g6, g5, g7, g8⟩
end
end Go.Proofs.YtlbinlhaejhobaaGreatDoor
/- preempt: how long a lower job keeps another one from going on. -/
namespace Go.Proofs.YtlbinlhaejhobaaGreatDoor
namespace Pre
open Go Go.RowKit Rca Sct Lin Lck Cst Rld
open Bch (U sA sC sA_le sC_le GrowU)

def sumS (us : List Nat) : Nat := us.foldl sA 0
theorem sumS_le (us : List Nat) : sumS us ≤ 18446744073709551615 := by
  have key : ∀ (L : List Nat) (s : Nat), s ≤ 18446744073709551615 → L.foldl sA s ≤ 18446744073709551615 := by
    intro L
    induction L with
    | nil => intro s h; exact h
    | cons x L ih => intro s _; exact ih _ (sA_le _ _)
  exact key us 0 (by omega)
theorem sumS_snoc {us : List Nat} {j x : Nat} (h : us[j]? = some x) : sumS (us.take (j + 1)) = sA (sumS (us.take j)) x := by
  unfold sumS
  rw [Bch.take_snoc h, List.foldl_append]
  rfl
set_option maxRecDepth 100000 in
set_option maxHeartbeats 2000000 in
theorem satSum_any {w : World} {A : Option Addr} {n cap : Nat} {hh : Option Nat} {us : List Nat} (hW : Win w 36 1 (.slice A n cap) hh n (us.map Bch.uU)) (hl : us.length = n) (hn9 : n ≤ 1000000) (hb : ∀ x ∈ us, x ≤ 18446744073709551615) :
    Calls Tryz.prog 182 #[.slice A n cap] w (GrowU (sumS us) w) := by
  obtain ⟨Z, hZ⟩ : ∃ Z, Z = GrowU (sumS us) w := ⟨_, rfl⟩
  rw [← hZ]
  have hZ' := Lib.hid hZ
  have hW' := Lib.hid (fun W (ho : Only (fun _ => False) w W) => hW.kept ho (fun _ _ h => h))
  have hl' := Lib.hid hl
  have hb' := Lib.hid hb
  have hT0 := Lib.hid (show sumS (us.take 0) = 0 from rfl)
  clear hW hl hb hZ
  go_enter Tryz.func182, Tryz.ntmps182
  go_wp2
  go_loopw [3, 5, 8] (fun u5 _ i wr => ∃ k : Nat, i = .int .i64 k ∧ k ≤ n ∧ u5 = U (sumS (us.take k)) ∧ Hid (Only (fun _ => False) w wr)) (fun _ _ i _ => n - (intOf i).toNat)
  case atStart => exact ⟨0, rfl, Nat.zero_le _, by rw [hT0.out]; rfl, Lib.hid (Only.refl _ _)⟩
  case round =>
    obtain ⟨k, rfl, hk, rfl, hO⟩ := hrel
    obtain ⟨ws, hws⟩ : ∃ ws : World, ws = wr := ⟨_, rfl⟩
    subst hws
    obtain ⟨S, hS⟩ : ∃ S, S = sumS (us.take k) := ⟨_, rfl⟩
    have hS9 : S ≤ 18446744073709551615 := by rw [hS]; exact sumS_le _
    rw [← hS]
    by_cases hkn : k < n
    · have hkn' : (k : Int) < n := by omega
      obtain ⟨x, hx⟩ : ∃ x, us[k]? = some x := ⟨_, List.getElem?_eq_getElem (by have := hl'.out; omega)⟩
      obtain ⟨g, off, rfl, cx, cxl⟩ := cell_at (hW'.out ws hO.out) (Bch.uU_at hx)
      unfold Bch.uU at cx
      have hsu := Lib.hid (show sumS (us.take (k + 1)) = sA S x by rw [sumS_snoc hx, hS])
      have q2 := Lib.hid (fun W => Bch.add_any S x W hS9 (hb'.out x (List.mem_of_getElem? hx)))
      obtain ⟨V, hV⟩ : ∃ V, V = sA S x := ⟨_, rfl⟩
      rw [← hV] at hsu q2
      clear hx hS hV
      go_wp2_with fail
      refine (q2.out _).mono ?_
      rintro e w5 ⟨rfl, hw5⟩
      subst hw5
      go_wp2
      go_roundw
      case rel => exact ⟨k + 1, by go_num, by omega, by rw [hsu.out], hO⟩
      case measure => simp [intOf]; omega
    · obtain rfl : k = n := by omega
      have hfin := Lib.hid (show Z (.returned (U S)) ws from by rw [hZ'.out, hS, List.take_of_length_le (by have := hl'.out; omega)]; exact ⟨rfl, hO.out⟩)
      clear hS
      go_wp2
      exact hfin.out
theorem lonZ_le (th : Int) (z : Nat → Int) (n : Nat) {l : List Opn} (h mi lev : Int) (hl : l.length ≤ 1000) : 0 ≤ lonZ th z n l h mi lev ∧ lonZ th z n l h mi lev ≤ 1073741824000 := by
  have h1 := (lonU_bound (costK_le l h mi) (LV := levK th z n l) (lev := lev) l.length).1
  unfold lonZ
  omega
/-- How long a job keeps off a priority above its Threshold. -/
def kepU (s : Nat) (fl : Int) : Nat := if ofU fl = 0 then s else sA (sA (sA 0 (ofU fl)) s) s
theorem kepU_le {s : Nat} {fl : Int} (h : s ≤ 18446744073709551615) : kepU s fl ≤ 18446744073709551615 := by
  unfold kepU
  split
  · exact h
  · exact sA_le _ _
set_option maxRecDepth 100000 in
set_option maxHeartbeats 2000000 in
theorem kept_any {w : World} {c : ConfV} {d : ConfL} {pl : Tks} (hC : ConfIn w c d pl) (hen : c.ce.n ≤ 4096) {i : Nat} {t : TaskV} {l : List Opn} (hi : pl[i]? = some (t, l)) (hl9 : l.length ≤ 1000) (htn : c.ta.n ≤ 1000000) (lev : Int) :
    Calls Tryz.prog 148 #[c.val, .int .i64 (i : Int), .int .i64 lev] w (GrowU (kepU (lonZ t.th (ceZ d.ce) c.ce.n l c.h c.mi lev).toNat t.fl) w) := by
  obtain ⟨q, hq⟩ : ∃ q, q = w.heap.size := ⟨_, rfl⟩
  obtain ⟨W2, hW2⟩ : ∃ W2, W2 = w.alloc (.cells c.cells.toArray 27) := ⟨_, rfl⟩
  have hO2 : Only (fun _ => False) w W2 := by rw [hW2]; exact (Only.refl _ w).alloc _
  have b0 : W2.heap[q]? = some (.cells c.cells.toArray 27 (0, 0)) := by rw [hW2]; exact heap_new_at _ _ hq.symm
  have hq' := Lib.hid hq
  have clon := Lib.hid (longest_any (hC.new hO2) hen hi hl9 htn lev)
  obtain ⟨hz0, hz9⟩ := lonZ_le t.th (ceZ d.ce) c.ce.n c.h c.mi lev hl9
  obtain ⟨z, hz⟩ : ∃ z, z = lonZ t.th (ceZ d.ce) c.ce.n l c.h c.mi lev := ⟨_, rfl⟩
  rw [← hz] at clon hz0 hz9 ⊢
  have cof := Lib.hid (fun W => satOf_any z W)
  rw [ofU_small (by omega)] at cof
  obtain ⟨s, hs⟩ : ∃ s, s = z.toNat := ⟨_, rfl⟩
  have hs9 : s ≤ 18446744073709551615 := by omega
  rw [← hs] at cof ⊢
  have cof2 := Lib.hid (fun W => satOf_any t.fl W)
  obtain ⟨F, hF⟩ : ∃ F, F = ofU t.fl := ⟨_, rfl⟩
  have hF9 : F ≤ 18446744073709551615 := by rw [hF]; exact ofU_le _
  rw [← hF] at cof2
  have hcy := Lib.hid (fun W (ho : Only (fun _ => False) W2 W) => show W.heap[q]? = some (.cells c.cells.toArray 27 (0, 0)) ∧ Only (fun _ => False) w W from ⟨ho.heap b0 (fun h => h), hO2.trans' ho⟩)
  have hta := Lib.hid (fun W (h : Only (fun _ => False) w W) => (hC.new h).t.at_ i t (ts_some hi))
  have hilt : (i : Int) < c.ta.n := by
    have h1 := hC.t.len
    unfold Tks.ts at h1
    rw [List.length_map] at h1
    have := (List.getElem?_eq_some_iff.1 hi).1
    omega
  obtain ⟨Z, hZ⟩ : ∃ Z, Z = GrowU (kepU s t.fl) w := ⟨_, rfl⟩
  rw [← hZ]
  have hZ0 := Lib.hid (fun (h : F = 0) W (ho : Only (fun _ => False) w W) => show Z (.returned (U s)) W from by rw [hZ, kepU, ← hF, if_pos h]; exact ⟨rfl, ho⟩)
  have hZ1 := Lib.hid (fun (h : ¬ F = 0) W (ho : Only (fun _ => False) w W) => show Z (.returned (U (sumS [F, s, s]))) W from by rw [hZ, kepU, ← hF, if_neg h]; exact ⟨rfl, ho⟩)
  have d0 := row_cell b0 (i := 0) rfl
  have d1 := row_cell b0 (i := 1) rfl
  have d2 := row_cell b0 (i := 2) rfl
  have d3 := row_cell b0 (i := 3) rfl
  have d4 := row_cell b0 (i := 4) rfl
  have d5 := row_cell b0 (i := 5) rfl
  have d6 := row_cell b0 (i := 6) rfl
  have d7 := row_cell b0 (i := 7) rfl
  have d8 := row_cell b0 (i := 8) rfl
  have d9 := row_cell b0 (i := 9) rfl
  have dl := row_lt b0
  unfold ConfV.val at clon ⊢
  unfold ConfV.cells at hW2 hcy
  have hW2' := Lib.hid hW2
  clear hC hi hZ hq hO2 b0 hW2 hz hs hF
  obtain ⟨c0, wy, h, mi, ⟨mA, mn, mc⟩, g, ⟨cA, cn, cc⟩, ⟨eA, en, ec⟩, ⟨tA, tn, tc⟩, ⟨lA, ln, lc⟩⟩ := c
  dsimp only at *
  go_enter Tryz.func148, Tryz.ntmps148
  go_upto_region 1 with fail
  rw [← hq'.out]
  rw [← hW2'.out]
  go_wp2_with fail
  refine clon.out.mono ?_
  rintro e w4 ⟨rfl, ho⟩
  have hO4 := Lib.hid ho
  clear ho d0 d1 d2 d3 d4 d5 d6 d7 d8 d9 dl clon
  go_wp2_with fail
  refine (cof.out _).mono ?_
  rintro e w5 ⟨rfl, hw5⟩
  subst hw5
  obtain ⟨b4, hOw4⟩ := hcy.out w5 hO4.out
  have d8 := row_cell b4 (i := 8) rfl
  have dl := row_lt b4
  obtain ⟨b, off, hA, hb, hCe⟩ := hta.out w5 hOw4
  have f5 := hCe.c5
  subst hA
  have hOw4' := Lib.hid hOw4
  clear b4 hOw4 hCe
  go_wp2_with fail
  refine (cof2.out _).mono ?_
  rintro e w6 ⟨rfl, hw6⟩
  subst hw6
  clear d8 dl f5 hb
  by_cases hF0 : F = 0
  · have hf := Lib.hid (hZ0.out hF0 w6 hOw4'.out)
    subst hF0
    go_wp2
    exact hf.out
  · have hne : ((F : Int) == 0) = false := by simpa using hF0
    have hf := Lib.hid (hZ1.out hF0)
    clear hF0
    obtain ⟨w7, hw7⟩ : ∃ w7, w7 = w6.alloc (.cells #[U F, U s, U s] 36) := ⟨_, rfl⟩
    have hO7 : Only (fun _ => False) w6 w7 := by rw [hw7]; exact (Only.refl _ _).alloc _
    have hb7 : w7.heap[w6.heap.size]? = some (.cells #[U F, U s, U s] 36 (0, 0)) := by rw [hw7]; exact heap_new_at _ _ rfl
    have csum := Lib.hid (satSum_any (us := [F, s, s]) (Win.of_row (L := [U F, U s, U s]) hb7 rfl (show 3 ≤ maxLen by decide)) rfl (by decide) (by simp; omega))
    obtain ⟨V, hV⟩ : ∃ V, V = sumS [F, s, s] := ⟨_, rfl⟩
    rw [← hV] at csum hf
    have hO7' := Lib.hid (hOw4'.out.trans' hO7)
    have hw7' := Lib.hid hw7
    clear hV hb7 hO7 hw7
    go_wp2_with fail
    rw [← hw7'.out]
    refine csum.out.mono ?_
    rintro e w8 ⟨rfl, ho⟩
    have hf2 := Lib.hid (hf.out w8 (hO7'.out.trans' ho))
    clear ho
    go_wp2
    exact hf2.out
end Pre
end Go.Proofs.YtlbinlhaejhobaaGreatDoor
/- preempt.Blocking. -/
namespace Go.Proofs.YtlbinlhaejhobaaGreatDoor
namespace Pre
open Go Go.RowKit Rca Sct Lin Lck Cst Rld
open Bch (U sA sC sA_le sC_le GrowU)

/-- How long a lower job keeps another one from going on: its program, or the regions that keep off the other's priority. -/
def blkU (wr ln : Nat) (th fl own : Int) : Nat := if own ≤ th then wr else min wr (kepU ln fl)
theorem blkU_le {wr ln : Nat} {th fl own : Int} (h : wr ≤ 18446744073709551615) : blkU wr ln th fl own ≤ 18446744073709551615 := by
  unfold blkU
  split <;> omega
def CYv (W : World) (q : Nat) (c : ConfV) : Prop :=
  W.cell? ⟨q, 0, none⟩ = some (.int .i64 c.s) ∧ W.cell? ⟨q, 1, none⟩ = some (.int .i64 c.wy) ∧ W.cell? ⟨q, 2, none⟩ = some (.int .i64 c.h) ∧ W.cell? ⟨q, 3, none⟩ = some (.int .i64 c.mi) ∧ W.cell? ⟨q, 4, none⟩ = some (.slice c.mb.A c.mb.n c.mb.cap) ∧ W.cell? ⟨q, 5, none⟩ = some (.int .i64 c.g) ∧
  W.cell? ⟨q, 6, none⟩ = some (.slice c.cn.A c.cn.n c.cn.cap) ∧ W.cell? ⟨q, 7, none⟩ = some (.slice c.ce.A c.ce.n c.ce.cap) ∧ W.cell? ⟨q, 8, none⟩ = some (.slice c.ta.A c.ta.n c.ta.cap) ∧ W.cell? ⟨q, 9, none⟩ = some (.slice c.li.A c.li.n c.li.cap) ∧ q < W.heap.size
theorem cyv_of {W : World} {q : Nat} {c : ConfV} (h : W.heap[q]? = some (.cells c.cells.toArray 27 (0, 0))) : CYv W q c :=
  ⟨row_cell h (i := 0) rfl, row_cell h (i := 1) rfl, row_cell h (i := 2) rfl, row_cell h (i := 3) rfl, row_cell h (i := 4) rfl, row_cell h (i := 5) rfl, row_cell h (i := 6) rfl, row_cell h (i := 7) rfl, row_cell h (i := 8) rfl, row_cell h (i := 9) rfl, row_lt h⟩
theorem hasT_in {n i : Nat} (h : i < n) : hasT n (i : Int) = true := by unfold hasT; simp; omega
theorem ts_len {w : World} {c : ConfV} {d : ConfL} {pl : Tks} (hC : ConfIn w c d pl) : pl.length = c.ta.n := by
  have h1 := hC.t.len
  unfold Tks.ts at h1
  rwa [List.length_map] at h1
set_option maxRecDepth 100000 in
set_option maxHeartbeats 4000000 in
theorem blocking_any {w : World} {c : ConfV} {d : ConfL} {pl : Tks} (hC : ConfIn w c d pl) (hen : c.ce.n ≤ 4096) {i j : Nat} {t tj : TaskV} {l : List Opn} (hi : pl[i]? = some (t, l)) (hj : pl.ts[j]? = some tj) (hl9 : l.length ≤ 1000) (htn : c.ta.n ≤ 1000000) :
    Calls Tryz.prog 110 #[c.val, .int .i64 (i : Int), .int .i64 (j : Int)] w (GrowU (blkU (wrsZ l c.h c.mi).toNat (lonZ t.th (ceZ d.ce) c.ce.n l c.h c.mi tj.p).toNat t.th t.fl tj.p) w) := by
  obtain ⟨q, hq⟩ : ∃ q, q = w.heap.size := ⟨_, rfl⟩
  obtain ⟨W2, hW2⟩ : ∃ W2, W2 = w.alloc (.cells c.cells.toArray 27) := ⟨_, rfl⟩
  have hO2 : Only (fun _ => False) w W2 := by rw [hW2]; exact (Only.refl _ w).alloc _
  have b0 : W2.heap[q]? = some (.cells c.cells.toArray 27 (0, 0)) := by rw [hW2]; exact heap_new_at _ _ hq.symm
  have hq' := Lib.hid hq
  have hpl := ts_len hC
  have hin : i < c.ta.n := by have := (List.getElem?_eq_some_iff.1 hi).1; omega
  have hjn : j < c.ta.n := by have := (List.getElem?_eq_some_iff.1 hj).1; unfold Tks.ts at this; rw [List.length_map] at this; omega
  obtain ⟨cv, hcv⟩ : ∃ cv, cv = c.val := ⟨_, rfl⟩
  have chas1 := Lib.hid (fun W => show Calls Tryz.prog 134 #[cv, .int .i64 (i : Int)] W (GrowB true W) from by rw [hcv, ← hasT_in hin]; exact phas_any W c (i : Int))
  have chas2 := Lib.hid (fun W => show Calls Tryz.prog 134 #[cv, .int .i64 (j : Int)] W (GrowB true W) from by rw [hcv, ← hasT_in hjn]; exact phas_any W c (j : Int))
  have hlt : l.length = t.o.n := (hC.p i t l hi).2.1
  have cworst := Lib.hid (fun W (ho : Only (fun _ => False) W2 W) => worst_any (cap := t.o.cap) ((hC.new (hO2.trans' ho)).p i t l hi).1 hlt (by omega) c.s c.wy c.h c.mi)
  obtain ⟨hz0, hz9⟩ := wrsZ_le (h := c.h) (mi := c.mi) hl9
  obtain ⟨z, hz⟩ : ∃ z, z = wrsZ l c.h c.mi := ⟨_, rfl⟩
  rw [← hz] at cworst hz0 hz9 ⊢
  have cof := Lib.hid (fun W => satOf_any z W)
  rw [ofU_small (by omega)] at cof
  obtain ⟨wr, hwr⟩ : ∃ s, s = z.toNat := ⟨_, rfl⟩
  have hwr9 : wr ≤ 18446744073709551615 := by omega
  rw [← hwr] at cof ⊢
  have ckept := Lib.hid (fun W (ho : Only (fun _ => False) W2 W) => show Calls Tryz.prog 148 #[cv, .int .i64 (i : Int), .int .i64 tj.p] W (GrowU (kepU (lonZ t.th (ceZ d.ce) c.ce.n l c.h c.mi tj.p).toNat t.fl) W) from by
    rw [hcv]; exact kept_any (hC.new (hO2.trans' ho)) hen hi hl9 htn tj.p)
  obtain ⟨kp, hkp⟩ : ∃ kp, kp = kepU (lonZ t.th (ceZ d.ce) c.ce.n l c.h c.mi tj.p).toNat t.fl := ⟨_, rfl⟩
  have hkp9 : kp ≤ 18446744073709551615 := by rw [hkp]; exact kepU_le (by have := lonZ_le t.th (ceZ d.ce) c.ce.n c.h c.mi tj.p hl9; omega)
  rw [← hkp] at ckept
  have hcy := Lib.hid (fun W (ho : Only (fun _ => False) W2 W) => cyv_of (ho.heap b0 (fun h => h)))
  have htai := Lib.hid (fun W (h : Only (fun _ => False) W2 W) => (hC.new (hO2.trans' h)).t.at_ i t (ts_some hi))
  have htaj := Lib.hid (fun W (h : Only (fun _ => False) W2 W) => (hC.new (hO2.trans' h)).t.at_ j tj hj)
  have hilt : (i : Int) < c.ta.n := by omega
  have hjlt : (j : Int) < c.ta.n := by omega
  obtain ⟨Z, hZ⟩ : ∃ Z, Z = GrowU (blkU wr (lonZ t.th (ceZ d.ce) c.ce.n l c.h c.mi tj.p).toNat t.th t.fl tj.p) w := ⟨_, rfl⟩
  rw [← hZ]
  have hZ0 := Lib.hid (fun (h : tj.p ≤ t.th) W (ho : Only (fun _ => False) W2 W) => show Z (.returned (U wr)) W from by rw [hZ, blkU, if_pos h]; exact ⟨rfl, hO2.trans' ho⟩)
  have hZ1 := Lib.hid (fun (h : ¬ tj.p ≤ t.th) (v : Nat) (hv : v = min wr kp) W (ho : Only (fun _ => False) W2 W) => show Z (.returned (U v)) W from by rw [hZ, blkU, if_neg h, ← hkp, ← hv]; exact ⟨rfl, hO2.trans' ho⟩)
  rw [← hcv]
  unfold ConfV.val at hcv
  subst hcv
  unfold CYv at hcy
  unfold ConfV.cells at hW2
  have hW2' := Lib.hid hW2
  clear hC hi hj hZ hq hO2 b0 hW2 hz hwr hkp hlt hin hjn hpl hl9
  obtain ⟨c0, wy, h, mi, ⟨mA, mn, mc⟩, g, ⟨cA, cn, cc⟩, ⟨eA, en, ec⟩, ⟨tA, tn, tc⟩, ⟨lA, ln, lc⟩⟩ := c
  dsimp only at *
  obtain ⟨d0, d1, d2, d3, d4, d5, d6, d7, d8, d9, dl⟩ := hcy.out W2 (Only.refl _ _)
  go_enter Tryz.func110, Tryz.ntmps110
  go_upto_region 1 with fail
  rw [← hq'.out]
  rw [← hW2'.out]
  go_wp2_with fail
  refine (chas1.out W2).mono ?_
  rintro e w3 ⟨rfl, ho⟩
  have hO3 := Lib.hid ho
  clear ho d0 d1 d2 d3 d4 d5 d6 d7 d8 d9 dl
  obtain ⟨d0, d1, d2, d3, d4, d5, d6, d7, d8, d9, dl⟩ := hcy.out w3 hO3.out
  go_wp2_with fail
  refine (chas2.out w3).mono ?_
  rintro e w4 ⟨rfl, ho⟩
  have hO4 := Lib.hid (hO3.out.trans' ho)
  clear ho d0 d1 d2 d3 d4 d5 d6 d7 d8 d9 dl
  obtain ⟨d0, d1, d2, d3, d4, d5, d6, d7, d8, d9, dl⟩ := hcy.out w4 hO4.out
  obtain ⟨b, off, hA, hb, hCe⟩ := htai.out w4 hO4.out
  have f6 := hCe.c6
  subst hA
  have p0 := wd_cell d0
  have p1 := wd_cell d1
  have p2 := wd_cell d2
  have p3 := wd_cell d3
  have p8 := wd_cell d8
  have g6 := wd_cell f6
  have q1 := Lib.hid (fun (x : Wd w4) => Calls.wd (x := x) (cworst.out x.W (hO4.out.trans' x.ok)))
  have q2 := Lib.hid (fun (x : Wd w4) => Calls.wd_same (x := x) ((cof.out x.W).mono fun _ _ h => ⟨h.1, h.2.symm⟩))
  have hex := wd_ex w4
  clear hCe
  go_wp2_with fail
  refine wp_region_wd (by kernel_rfl) (by kernel_rfl) ?_
  repeat (go_big_quiet_step (first | (go_at_call 81; with_reducible exact q1.out _) | (go_at_call 45; with_reducible exact q2.out _)))
  refine wpQuiet_nil ?_
  rintro _ ⟨v, rfl⟩
  have hO5 := Lib.hid (hO4.out.trans' v.ok)
  obtain ⟨w5, hw5⟩ : ∃ w5, w5 = v.W := ⟨_, rfl⟩
  rw [← hw5] at hO5 ⊢
  clear hw5 p0 p1 p2 p3 p8 g6 q1 q2 hex d0 d1 d2 d3 d4 d5 d6 d7 d8 d9 dl f6 hb
  obtain ⟨d0, d1, d2, d3, d4, d5, d6, d7, d8, d9, dl⟩ := hcy.out w5 hO5.out
  obtain ⟨b1, off1, hA, hb, hCe⟩ := htai.out w5 hO5.out
  cases hA
  obtain ⟨b2, off2, hA, hb2, hCj⟩ := htaj.out w5 hO5.out
  cases hA
  have f1 := hCe.c1
  have f0 := hCj.c0
  have p8 := wd_cell d8
  have g1 := wd_cell f1
  have g0 := wd_cell f0
  have hex := wd_ex w5
  obtain ⟨th, hth⟩ : ∃ th, th = t.th := ⟨_, rfl⟩
  obtain ⟨ow, how⟩ : ∃ ow, ow = tj.p := ⟨_, rfl⟩
  rw [← hth] at f1 g1 hZ0 hZ1
  rw [← how] at f0 g0 hZ0 hZ1 ckept
  have how' := Lib.hid how
  clear hCe hCj hth how
  by_cases hle : ow ≤ th
  · go_wp2_with fail
    refine wp_region_wd (by kernel_rfl) (by kernel_rfl) ?_
    repeat (go_big_quiet_step (fail))
    refine wpQuiet_nil ?_
    rintro _ ⟨v, rfl⟩
    have hf := Lib.hid (hZ0.out hle v.W (hO5.out.trans' v.ok))
    go_wp2
    exact hf.out
  · go_wp2_with fail
    refine wp_region_wd (by kernel_rfl) (by kernel_rfl) ?_
    repeat (go_big_quiet_step (fail))
    refine wpQuiet_nil ?_
    rintro _ ⟨v, rfl⟩
    have hf := Lib.hid (hZ1.out hle)
    have hO6 := Lib.hid (hO5.out.trans' v.ok)
    obtain ⟨w6, hw6⟩ : ∃ w6, w6 = v.W := ⟨_, rfl⟩
    rw [← hw6] at hO6 ⊢
    clear hw6 hex p8 g1 g0 f1 f0 d0 d1 d2 d3 d4 d5 d6 d7 d8 d9 dl hb hb2
    obtain ⟨d0, d1, d2, d3, d4, d5, d6, d7, d8, d9, dl⟩ := hcy.out w6 hO6.out
    obtain ⟨b2, off2, hA, hb2, hCj⟩ := htaj.out w6 hO6.out
    cases hA
    have f0 := hCj.c0
    rw [← how'.out] at f0
    have g0 := wd_cell f0
    clear hCj
    have p0 := wd_cell d0
    have p1 := wd_cell d1
    have p2 := wd_cell d2
    have p3 := wd_cell d3
    have p4 := wd_cell d4
    have p5 := wd_cell d5
    have p6 := wd_cell d6
    have p7 := wd_cell d7
    have p8 := wd_cell d8
    have p9 := wd_cell d9
    have q1 := Lib.hid (fun (x : Wd w6) => Calls.wd (x := x) (ckept.out x.W (hO6.out.trans' x.ok)))
    have hex := wd_ex w6
    by_cases hmm : wr ≤ kp
    · have hmi : (wr : Int) ≤ (kp : Int) := by omega
      have hf2 := Lib.hid (hf.out wr (by omega))
      go_wp2_with fail
      refine wp_region_wd (by kernel_rfl) (by kernel_rfl) ?_
      repeat (go_big_quiet_step (first | (go_at_call 148; with_reducible exact q1.out _)))
      refine wpQuiet_nil ?_
      rintro _ ⟨v, rfl⟩
      have hf3 := Lib.hid (hf2.out v.W (hO6.out.trans' v.ok))
      go_wp2
      exact hf3.out
    · have hmi : ¬ (wr : Int) ≤ (kp : Int) := by omega
      have hmi2 : (kp : Int) < (wr : Int) := by omega
      have hf2 := Lib.hid (hf.out kp (by omega))
      go_wp2_with fail
      refine wp_region_wd (by kernel_rfl) (by kernel_rfl) ?_
      repeat (go_big_quiet_step (first | (go_at_call 148; with_reducible exact q1.out _)))
      refine wpQuiet_nil ?_
      rintro _ ⟨v, rfl⟩
      have hf3 := Lib.hid (hf2.out v.W (hO6.out.trans' v.ok))
      go_wp2
      exact hf3.out
end Pre
end Go.Proofs.YtlbinlhaejhobaaGreatDoor
