/- edf: what streams want. -/
import Derived.Test.YtkolbaadakhciaaEOrd
namespace Go.Proofs.Ytkolbaadakhciaa
namespace Edf
open Go Go.RowKit
open Bch (U sA sM sA_le sM_le mul_any add_any ret_u)

/-- A stream. -/
structure St where
  c : Nat
  d : Nat
  p : Nat
def St.ok (s : St) : Prop := s.c ≤ 18446744073709551615 ∧ s.d ≤ 18446744073709551615 ∧ s.p ≤ 18446744073709551615
def SRow (w : World) (A : Option Addr) (l : List St) : Prop :=
  ∀ k s, l[k]? = some s → ∃ b off, A = some ⟨b, off, none⟩ ∧ b < w.heap.size ∧ w.cell? ⟨b, off + k * 3, none⟩ = some (U s.c) ∧ w.cell? ⟨b, off + k * 3 + 1, none⟩ = some (U s.d) ∧ w.cell? ⟨b, off + k * 3 + 2, none⟩ = some (U s.p)
theorem SRow.new {w w' : World} {A : Option Addr} {l : List St} (h : SRow w A l) (ho : Only (fun _ => False) w w') : SRow w' A l := fun k x hk => by
  obtain ⟨b, off, rfl, hb, h0, h1, h2⟩ := h k x hk
  exact ⟨b, off, rfl, Nat.lt_of_lt_of_le hb ho.size, ho.cell h0 (fun h => h), ho.cell h1 (fun h => h), ho.cell h2 (fun h => h)⟩
def sS (a b : Nat) : Nat := if a = 18446744073709551615 then 18446744073709551615 else if a ≤ b then 0 else a - b
theorem sS_le {a b : Nat} (h : a ≤ 18446744073709551615) : sS a b ≤ 18446744073709551615 := by unfold sS; split; omega; split <;> omega
theorem sub_any (a b : Nat) (w : World) (ha : a ≤ 18446744073709551615) (_hb : b ≤ 18446744073709551615) : Calls Try.prog 48 #[U a, U b] w fun e w' => e = .returned (U (sS a b)) ∧ w' = w := by
  by_cases h0 : a = 18446744073709551615
  · subst h0
    go_enter Try.func48, Try.ntmps48
    go_wp2
    go_ret
    exact ⟨rfl, rfl⟩
  have h1 : ((a : Int) == 18446744073709551615) = false := by simp; omega
  by_cases h2 : a ≤ b
  · have h3 : (a : Int) ≤ b := by omega
    go_enter Try.func48, Try.ntmps48
    go_wp2
    go_ret
    exact ⟨ret_u (by rw [sS, if_neg h0, if_pos h2]; rfl), rfl⟩
  · have h3 : ¬ (a : Int) ≤ b := by omega
    have h4 : (b : Int) ≤ a := by omega
    go_enter Try.func48, Try.ntmps48
    go_wp2
    go_ret
    exact ⟨ret_u (by rw [sS, if_neg h0, if_neg h2]; omega), rfl⟩
def oft (s : St) (x : Nat) : Nat := if x < s.d then 0 else if s.p = 0 then 18446744073709551615 else sA (sS x s.d / s.p) 1
theorem oft_le {s : St} {x : Nat} : oft s x ≤ 18446744073709551615 := by
  unfold oft
  split
  · omega
  · split
    · omega
    · exact sA_le _ _
def GrowU (n : Nat) (w : World) (e : Ending) (w' : World) : Prop := e = .returned (U n) ∧ Only (fun _ => False) w w'
set_option maxRecDepth 100000 in
theorem often_any {s : St} {x : Nat} (hs : s.ok) (hx : x ≤ 18446744073709551615) (w : World) : Calls Try.prog 40 #[.agg #[U s.c, U s.d, U s.p], U x] w fun e w' => e = .returned (U (oft s x)) ∧ Only (fun _ => False) w w' := by
  obtain ⟨Z, hZ⟩ : ∃ Z : Ending → World → Prop, Z = fun e w' => e = .returned (U (oft s x)) ∧ Only (fun _ => False) w w' := ⟨_, rfl⟩
  rw [← hZ]
  have hZ' := Lib.hid hZ
  clear hZ
  obtain ⟨c, d, p⟩ := s
  obtain ⟨h1, h2, h3⟩ := hs
  dsimp only at h1 h2 h3 ⊢
  by_cases hlt : x < d
  · have hlt' : (x : Int) < d := by omega
    have hfin := Lib.hid (fun W (ho : Only (fun _ => False) w W) => show Z (.returned (.int .u64 0)) W from by rw [hZ'.out]; exact ⟨by unfold oft; rw [if_pos hlt]; rfl, ho⟩)
    go_enter Try.func40, Try.ntmps40
    go_wp2
    exact hfin.out _ ((Only.refl _ _).alloc _)
  have hlt' : ¬ (x : Int) < d := by omega
  by_cases hp : p = 0
  · subst hp
    have hfin := Lib.hid (fun W (ho : Only (fun _ => False) w W) => show Z (.returned (.int .u64 18446744073709551615)) W from by rw [hZ'.out]; exact ⟨by unfold oft; rw [if_neg hlt, if_pos rfl]; rfl, ho⟩)
    go_enter Try.func40, Try.ntmps40
    go_wp2
    exact hfin.out _ ((Only.refl _ _).alloc _)
  have hp1 : ((p : Int) == 0) = false := by simpa using hp
  have hpn : (p : Int) ≠ 0 := by omega
  obtain ⟨b, hb⟩ : ∃ b, b = sS x d := ⟨_, rfl⟩
  have hb9 : b ≤ 18446744073709551615 := by rw [hb]; exact sS_le hx
  obtain ⟨q, hq⟩ : ∃ q, q = b / p := ⟨_, rfl⟩
  have hq9 : q ≤ b := by rw [hq]; exact Nat.div_le_self _ _
  have hdiv : (b : Int) / (p : Int) = (q : Int) := by rw [hq]; rfl
  obtain ⟨a, ha⟩ : ∃ a, a = sA q 1 := ⟨_, rfl⟩
  have q1 := Lib.hid (fun W => sub_any x d W hx h2)
  rw [← hb] at q1
  have q2 := Lib.hid (fun W => show Calls Try.prog 32 #[U q, .int .u64 1] W fun e w' => e = .returned (U a) ∧ w' = W from by rw [ha]; exact add_any q 1 W (by omega) (by omega))
  have hfin := Lib.hid (fun W (ho : Only (fun _ => False) w W) => show Z (.returned (U a)) W from by rw [hZ'.out]; exact ⟨by unfold oft; rw [if_neg hlt, if_neg hp, ha, hq, hb], ho⟩)
  obtain ⟨W1, hW1⟩ : ∃ W1, W1 = w.alloc (.cells #[U c, U d, U p] 61) := ⟨_, rfl⟩
  obtain ⟨X, hX⟩ : ∃ X, X = w.heap.size := ⟨_, rfl⟩
  have s0 : W1.heap[X]? = some (.cells [U c, U d, U p].toArray 61 (0, 0)) := by rw [hW1]; exact heap_new_at _ _ hX.symm
  have hO1 := Lib.hid (show Only (fun _ => False) w W1 from by rw [hW1]; exact (Only.refl _ w).alloc _)
  have x1 := row_cell s0 (i := 1) rfl
  have x2 := row_cell s0 (i := 2) rfl
  have hW1' := Lib.hid hW1
  have hX' := Lib.hid hX
  clear hb hq ha hp hlt hW1 hX s0
  go_enter Try.func40, Try.ntmps40
  go_upto_region 5 with fail
  rw [← hX'.out]
  rw [← hW1'.out]
  go_quiet (first | (go_at_call 48; with_reducible exact Calls.quiet_of_same (q1.out _)) | (go_at_call 32; with_reducible exact Calls.quiet_of_same (q2.out _)))
  go_wp2
  exact hfin.out _ (hO1.out.drewN _)

def demS (l : List St) (x : Nat) : Nat := l.foldl (fun n s => sA n (sM (oft s x) s.c)) 0
theorem demS_le (l : List St) (x : Nat) : demS l x ≤ 18446744073709551615 := by
  unfold demS
  suffices h : ∀ (l : List St) (n : Nat), n ≤ 18446744073709551615 → l.foldl (fun n s => sA n (sM (oft s x) s.c)) n ≤ 18446744073709551615 from h l 0 (by omega)
  intro l
  induction l with
  | nil => exact fun n h => h
  | cons s l ih => exact fun n _ => ih _ (sA_le _ _)
theorem demS_take {l : List St} {x k : Nat} {s : St} (h : l[k]? = some s) : demS (l.take (k + 1)) x = sA (demS (l.take k) x) (sM (oft s x) s.c) := by
  unfold demS
  rw [List.take_add_one, h, List.foldl_append]
  rfl

set_option maxRecDepth 100000 in
set_option maxHeartbeats 4000000 in
theorem demand_any {A : Option Addr} {n cap x : Nat} {l : List St} {w : World} (hr : SRow w A l) (hok : ∀ s ∈ l, s.ok) (hn : l.length = n) (hnn : n ≤ 4000) (hx : x ≤ 18446744073709551615) :
    Calls Try.prog 34 #[.slice A n cap, U x] w fun e w' => e = .returned (U (demS l x)) ∧ Only (fun _ => False) w w' := by
  obtain ⟨Z, hZ⟩ : ∃ Z : Ending → World → Prop, Z = fun e w' => e = .returned (U (demS l x)) ∧ Only (fun _ => False) w w' := ⟨_, rfl⟩
  rw [← hZ]
  have hZ' := Lib.hid hZ
  obtain ⟨D, hD⟩ : ∃ D : Nat → Nat, D = fun k => demS (l.take k) x := ⟨_, rfl⟩
  have hD' := Lib.hid hD
  have hr' := Lib.hid hr
  have hn' := Lib.hid hn
  have hok' := Lib.hid hok
  have hD0 := Lib.hid (show 0 = D 0 by rw [hD]; rfl)
  clear hZ hD hr hn hok
  go_enter Try.func34, Try.ntmps34
  go_wp2
  go_loopw [5, 7, 10] (fun u _ i wr => ∃ k : Nat, u = U (D k) ∧ i = .int .i64 (k : Int) ∧ k ≤ n ∧ Hid (Only (fun _ => False) w wr)) (fun _ _ i _ => (n - intOf i).toNat)
  case atStart => exact ⟨0, by rw [← hD0.out]; rfl, rfl, Nat.zero_le _, Only.refl _ _⟩
  case round =>
    obtain ⟨k, rfl, rfl, hk, hO⟩ := hrel
    by_cases hkn : k < n
    · have hkn' : (k : Int) < n := by omega
      obtain ⟨s, hs⟩ : ∃ y, l[k]? = some y := ⟨_, List.getElem?_eq_getElem (by have := hn'.out; omega)⟩
      obtain ⟨b, off, rfl, hb, c0, c1, c2⟩ := (hr'.out.new hO.out) k s hs
      have hsok := hok'.out s (List.mem_of_getElem? hs)
      have q1 := fun W => often_any hsok hx W
      have hstep : D (k + 1) = sA (D k) (sM (oft s x) s.c) := by rw [hD'.out]; exact demS_take hs
      have hDk : D k ≤ 18446744073709551615 := by rw [hD'.out]; exact demS_le _ _
      obtain ⟨o, ho⟩ : ∃ o, o = oft s x := ⟨_, rfl⟩
      have ho9 : o ≤ 18446744073709551615 := by rw [ho]; exact oft_le
      rw [← ho] at q1 hstep
      have q2 := fun W => mul_any o s.c W ho9 hsok.1
      have q3 := fun W => add_any (D k) (sM o s.c) W hDk (sM_le _ _)
      obtain ⟨m, hm⟩ : ∃ m, m = sM o s.c := ⟨_, rfl⟩
      rw [← hm] at q2 q3 hstep
      rw [← hstep] at q3
      obtain ⟨W1, hW1⟩ : ∃ W1, W1 = wr.alloc (.cells #[U s.c, U s.d, U s.p] 61) := ⟨_, rfl⟩
      obtain ⟨X, hX⟩ : ∃ X, X = wr.heap.size := ⟨_, rfl⟩
      have s0 : W1.heap[X]? = some (.cells [U s.c, U s.d, U s.p].toArray 61 (0, 0)) := by rw [hW1]; exact heap_new_at _ _ hX.symm
      have hO1 := Lib.hid (show Only (fun _ => False) w W1 from by rw [hW1]; exact hO.out.alloc _)
      have p0 := wd_cell (row_cell s0 (i := 0) rfl)
      have p1 := wd_cell (row_cell s0 (i := 1) rfl)
      have p2 := wd_cell (row_cell s0 (i := 2) rfl)
      have e1 := Lib.hid (fun (v : Wd W1) => Calls.wd (x := v) (q1 v.W))
      have e2 := Lib.hid (fun (v : Wd W1) => Calls.wd_same (x := v) ((q2 v.W).mono fun _ _ h => ⟨h.1, h.2.symm⟩))
      have e3 := Lib.hid (fun (v : Wd W1) => Calls.wd_same (x := v) ((q3 v.W).mono fun _ _ h => ⟨h.1, h.2.symm⟩))
      have hex := wd_ex W1
      have hW1' := Lib.hid hW1
      have hX' := Lib.hid hX
      clear q1 q2 q3 hs hsok hstep hDk ho hm hW1 hX s0 hO
      go_upto_region 5 with fail
      rw [← hX'.out]
      rw [← hW1'.out]
      refine wp_region_wd (by kernel_rfl) (by kernel_rfl) ?_
      repeat (go_big_quiet_step (first | (go_at_call 40; with_reducible exact e1.out _) | (go_at_call 30; with_reducible exact e2.out _) | (go_at_call 32; with_reducible exact e3.out _)))
      refine wpQuiet_nil ?_
      rintro _ ⟨v, rfl⟩
      have hv := Lib.hid (hO1.out.trans' v.ok)
      clear p0 p1 p2 e1 e2 e3 hex
      go_wp2_with fail
      go_roundw
      case rel => exact ⟨k + 1, rfl, by go_num, by omega, hv⟩
      case measure => simp [intOf]; omega
    · obtain rfl : k = n := by omega
      have hfin := Lib.hid (show Z (.returned (U (D k))) wr from by
        rw [hZ'.out]
        refine ⟨?_, hO.out⟩
        rw [hD'.out]
        dsimp only
        rw [← hn'.out, List.take_length])
      go_wp2
      exact hfin.out
end Edf
end Go.Proofs.Ytkolbaadakhciaa
