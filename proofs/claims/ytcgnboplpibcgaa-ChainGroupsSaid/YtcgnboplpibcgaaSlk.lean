/- Slack: the greatest delay, found by halves. -/
import Derived.Test.YtcgnboplpibcgaaWnd
import Derived.Laws.EntriesVeiled
namespace Go.Proofs.Ytcgnboplpibcgaa
open Go Go.RowKit
/-- Whether a delay's window isn't above m. -/
def fitB (l : List Ld) (m d : Nat) : Bool := decide (0 < win (dem d l) m)
def AnsB (b : Bool) (w : World) (e : Ending) (w' : World) : Prop := e = .returned (.bool b) ∧ Only (fun _ => False) w w'
theorem fits_any {w : World} {X0 X1 n cap m d : Nat} {A : Option Addr} {l : List Ld} (h0 : w.cell? ⟨X0, 0, none⟩ = some (.slice A n cap)) (h1 : w.cell? ⟨X1, 0, none⟩ = some (U m)) (hr : LRow w A l) (hn : l.length = n) (hnn : n ≤ 1000) (hb : LB l) (hd : d ≤ 18446744073709551615) (hm : m ≤ 16777216) :
    Calls Try.prog 35 #[U d, .pointer (some ⟨X0, 0, none⟩), .pointer (some ⟨X1, 0, none⟩)] w (AnsB (fitB l m d) w) := by
  have hc := window_any (cap := cap) (most := m) hr hn hnn hb hd (by omega)
  rw [Nat.min_eq_left hm] at hc
  obtain ⟨Z, hZ⟩ : ∃ Z, Z = AnsB (fitB l m d) w := ⟨_, rfl⟩
  rw [← hZ]
  have hZ' := Lib.hid hZ
  have hc' := Lib.hid hc
  clear hc hZ hr hn hnn hb hd hm
  go_enter Try.func35, Try.ntmps35
  go_wp2_with fail
  refine hc'.out.mono ?_
  rintro e w' ⟨rfl, ho⟩
  have ho' := Lib.hid ho
  obtain ⟨B, hB⟩ : ∃ B, B = fitB l m d := ⟨_, rfl⟩
  have hB2 : decide (0 < win (dem d l) m) = B := by rw [hB]; rfl
  rw [hB2]
  have hB' := Lib.hid hB
  clear ho hB hB2
  go_wp2
  rw [hZ'.out, ← hB'.out]
  exact ⟨rfl, ho'.out⟩
theorem unfit_any {w : World} {X2 i : Nat} {cap : Array Value} {b : Bool} (h2 : w.cell? ⟨X2, 0, none⟩ = some (.func (.func 35) #[] cap)) (hi : i ≤ 100000000) (hc : Calls Try.prog 35 (#[U (i + 1)] ++ cap) w (AnsB b w)) :
    Calls Try.prog 37 #[.int .i64 i, .pointer (some ⟨X2, 0, none⟩)] w (AnsB (!b) w) := by
  obtain ⟨Z, hZ⟩ : ∃ Z, Z = AnsB (!b) w := ⟨_, rfl⟩
  rw [← hZ]
  have hZ' := Lib.hid hZ
  have hc' := Lib.hid hc
  clear hc hZ
  go_enter Try.func37, Try.ntmps37
  go_wp2_with fail
  rw [show ((i : Int) + 1) = ((i + 1 : Nat) : Int) by omega]
  refine hc'.out.mono ?_
  rintro e w' ⟨rfl, ho⟩
  have ho' := Lib.hid ho
  clear ho
  go_wp2
  rw [hZ'.out]
  exact ⟨rfl, ho'.out⟩
def SearchEnd (pp : Nat → Bool) (n : Nat) (w : World) (e : Ending) (w' : World) : Prop :=
  ∃ s : Nat, e = .returned (.int .i64 s) ∧ Only (fun _ => False) w w' ∧ s ≤ n ∧ (s = 0 ∨ pp (s - 1) = false) ∧ (s = n ∨ pp s = true)
theorem search_any {w : World} {X2 n : Nat} {pp : Nat → Bool} (hn : n ≤ 100000000) (hc : ∀ W, Only (fun _ => False) w W → ∀ i, i < n → Calls Try.prog 37 #[.int .i64 i, .pointer (some ⟨X2, 0, none⟩)] W (AnsB (pp i) W)) :
    Calls Try.prog 36 #[.int .i64 n, .func (.func 37) #[] #[.pointer (some ⟨X2, 0, none⟩)]] w (SearchEnd pp n w) := by
  obtain ⟨Z, hZ⟩ : ∃ Z, Z = SearchEnd pp n w := ⟨_, rfl⟩
  rw [← hZ]
  have hZ' := Lib.hid hZ
  have hc' := Lib.hid hc
  clear hc hZ
  go_enter Try.func36, Try.ntmps36
  go_wp2
  go_loopw [5, 6, 7] (fun u5 u6 _ wr => ∃ lo hi : Nat, u5 = .int .i64 lo ∧ u6 = .int .i64 hi ∧ lo ≤ hi ∧ hi ≤ n ∧ Hid (Only (fun _ => False) w wr) ∧ Hid ((lo = 0 ∨ pp (lo - 1) = false) ∧ (hi = n ∨ pp hi = true))) (fun u5 u6 _ _ => (intOf u6 - intOf u5).toNat)
  case atStart => exact ⟨0, n, rfl, rfl, Nat.zero_le _, Nat.le_refl _, Only.refl _ _, Lib.hid ⟨.inl rfl, .inl rfl⟩⟩
  case round =>
    obtain ⟨lo, hi, rfl, rfl, hlh, hin, hO, hI⟩ := hrel
    by_cases hlt : lo < hi
    · have hq := Lib.hid (hc'.out wr hO.out ((lo + hi) / 2) (by omega))
      rw [show (((lo + hi) / 2 : Nat) : Int) = ((lo : Int) + (hi : Int)) / 2 by omega] at hq
      obtain ⟨b, hb⟩ : ∃ b, b = pp ((lo + hi) / 2) := ⟨_, rfl⟩
      rw [← hb] at hq
      have hb' := Lib.hid hb
      clear hb
      go_wp2_with fail
      refine hq.out.mono ?_
      rintro e w' ⟨rfl, ho⟩
      have ho' := Lib.hid (hO.out.trans' ho)
      clear ho
      cases b
      · go_wp2
        go_roundw
        case rel => exact ⟨(lo + hi) / 2 + 1, hi, by rw [show ((lo : Int) + (hi : Int)) / 2 + 1 = (((lo + hi) / 2 + 1 : Nat) : Int) by omega], rfl, by omega, hin, ho', Lib.hid ⟨.inr (by rw [Nat.add_sub_cancel]; exact hb'.out.symm), hI.out.2⟩⟩
        case measure => simp [intOf]; omega
      · go_wp2
        go_roundw
        case rel => exact ⟨lo, (lo + hi) / 2, rfl, by rw [show ((lo : Int) + (hi : Int)) / 2 = (((lo + hi) / 2 : Nat) : Int) by omega], by omega, by omega, ho', Lib.hid ⟨hI.out.1, .inr hb'.out.symm⟩⟩
        case measure => simp [intOf]; omega
    · obtain rfl : hi = lo := by omega
      go_wp2
      rw [hZ'.out]
      exact ⟨hi, rfl, hO.out, hin, hI.out⟩
def SlackEnd (l : List Ld) (m : Nat) (w : World) (e : Ending) (w' : World) : Prop :=
  ∃ (s : Nat) (b : Bool), e = .returned (.tuple #[U s, .bool b]) ∧ Only (fun _ => False) w w' ∧
    ((b = false ∧ s = 0 ∧ fitB l m 0 = false) ∨ (b = true ∧ s ≤ m ∧ fitB l m s = true ∧ (s = m ∨ fitB l m (s + 1) = false)))
set_option maxHeartbeats 2000000 in
theorem slack_any {A : Option Addr} {n cap most : Nat} {l : List Ld} {w : World} (hr : LRow w A l) (hn : l.length = n) (hnn : n ≤ 1000) (hb : LB l) (hm : most ≤ 18446744073709551615) :
    Calls Try.prog 16 #[.slice A n cap, U most] w (SlackEnd l (min most 16777216) w) := by
  have hmf : ∀ (fn : Fn) (first cap : Array Value) (w : World), (Instr.makeFunc fn first cap).run Try.prog w = .ok (.func fn first cap) w := fun _ _ _ _ => rfl
  have hbd := Lib.hid (fun W => bounded_any most W hm)
  obtain ⟨m, hmm⟩ : ∃ m, m = min most 16777216 := ⟨_, rfl⟩
  have hm2 : m ≤ 16777216 := by omega
  rw [← hmm] at hbd ⊢
  obtain ⟨X, hX⟩ : ∃ X, X = w.heap.size := ⟨_, rfl⟩
  obtain ⟨fv, hfv⟩ : ∃ fv : Value, fv = .func (.func 35) #[] #[.pointer (some ⟨X, 0, none⟩), .pointer (some ⟨X + 1, 0, none⟩)] := ⟨_, rfl⟩
  have hfit := Lib.hid (fun W (ho : Only (fun _ => False) w W) d (hd : d ≤ 18446744073709551615) (h0 : W.cell? ⟨X, 0, none⟩ = some (.slice A n cap)) (h1 : W.cell? ⟨X + 1, 0, none⟩ = some (U m)) => fits_any h0 h1 (hr.new ho) hn hnn hb hd hm2)
  obtain ⟨Z, hZ⟩ : ∃ Z, Z = SlackEnd l m w := ⟨_, rfl⟩
  rw [← hZ]
  have hZ' := Lib.hid hZ
  have hX' := Lib.hid hX
  clear hr hn hnn hb hm hmm hZ hX
  go_enter Try.func16, Try.ntmps16
  go_wp2_with (go_at_call 32; refine (hbd.out _).mono ?_; rintro e w' ⟨rfl, hw⟩; rw [hw])
  rw [← hX'.out]
  obtain ⟨W3, hW3⟩ : ∃ W3, W3 = (((w.alloc (Obj.cells #[Value.slice A n cap] 23)).alloc (Obj.cells #[Value.int IntKind.u64 (m : Int)] 22)).alloc (Obj.cells #[.func (.func 35) #[] #[.pointer (some ⟨X, 0, none⟩), .pointer (some ⟨X + 1, 0, none⟩)]] 65)) := ⟨_, rfl⟩
  rw [← hW3]
  have hO3 := Lib.hid (show Only (fun _ => False) w W3 by rw [hW3]; exact (((Only.refl _ _).alloc _).alloc _).alloc _)
  have h0 := Lib.hid (show W3.heap[X]? = some (.cells [Value.slice A n cap].toArray 23 (0, 0)) by rw [hW3]; exact heap_kept_alloc (heap_kept_alloc (heap_new_at _ _ hX'.out.symm) _) _)
  have h1 := Lib.hid (show W3.heap[X + 1]? = some (.cells [U m].toArray 22 (0, 0)) by rw [hW3]; exact heap_kept_alloc (heap_new_at _ _ (by simp [hX'.out])) _)
  have h2 := Lib.hid (show W3.heap[X + 1 + 1]? = some (.cells [Value.func (.func 35) #[] #[.pointer (some ⟨X, 0, none⟩), .pointer (some ⟨X + 1, 0, none⟩)]].toArray 65 (0, 0)) by rw [hW3]; exact heap_new_at _ _ (by simp [hX'.out]))
  have hk := Lib.hid (fun W (ho : Only (fun _ => False) W3 W) => show W.cell? ⟨X, 0, none⟩ = some (.slice A n cap) ∧ W.cell? ⟨X + 1, 0, none⟩ = some (U m) ∧ W.cell? ⟨X + 1 + 1, 0, none⟩ = some (Value.func (.func 35) #[] #[.pointer (some ⟨X, 0, none⟩), .pointer (some ⟨X + 1, 0, none⟩)]) ∧ X + 1 + 1 < W.heap.size from
    ⟨row_cell (ho.heap h0.out (fun h => h)) (i := 0) rfl, row_cell (ho.heap h1.out (fun h => h)) (i := 0) rfl, row_cell (ho.heap h2.out (fun h => h)) (i := 0) rfl, row_lt (ho.heap h2.out (fun h => h))⟩)
  have hfit2 := Lib.hid (fun W (ho : Only (fun _ => False) W3 W) d (hd : d ≤ 18446744073709551615) => hfit.out W (hO3.out.trans' ho) d hd (hk.out W ho).1 (hk.out W ho).2.1)
  have hsearch := Lib.hid (fun W (ho : Only (fun _ => False) W3 W) => search_any (w := W) (X2 := X + 1 + 1) (n := m) (pp := fun i => !(fitB l m (i + 1))) (by omega) (fun W2 ho2 i hi => unfit_any (hk.out W2 (ho.trans' ho2)).2.2.1 (by omega) (hfit2.out W2 (ho.trans' ho2) (i + 1) (by omega))))
  have hfit0 := Lib.hid (hfit2.out W3 (Only.refl _ _) 0 (by omega))
  obtain ⟨c0, c1, c2, cl⟩ := hk.out W3 (Only.refl _ _)
  obtain ⟨b0, hb0⟩ : ∃ b0, b0 = fitB l m 0 := ⟨_, rfl⟩
  rw [← hb0] at hfit0
  have hb0' := Lib.hid hb0
  clear hfit hfit2 h0 h1 h2 hW3 hb0 hw hfv fv
  go_wp2_with fail
  refine hfit0.out.mono ?_
  rintro e w4 ⟨rfl, ho4⟩
  have ho4' := Lib.hid ho4
  clear ho4 c0 c1 c2 cl
  cases b0
  · go_wp2
    rw [hZ'.out]
    exact ⟨0, false, rfl, hO3.out.trans' ho4'.out, .inl ⟨rfl, rfl, hb0'.out.symm⟩⟩
  · obtain ⟨c0, c1, c2, cl⟩ := hk.out w4 ho4'.out
    go_wp2_with fail
    refine (hsearch.out w4 ho4'.out).mono ?_
    rintro e w5 ⟨s, rfl, ho5, h5, h6, h7⟩
    have hend := Lib.hid (show SlackEnd l m w (.returned (.tuple #[U s, .bool true])) w5 from ⟨s, true, rfl, (hO3.out.trans' ho4'.out).trans' ho5, .inr ⟨rfl, h5, by
      rcases Nat.eq_zero_or_pos s with rfl | hs
      · exact hb0'.out.symm
      · rcases h6 with h6 | h6
        · omega
        · dsimp only at h6
          rw [show s - 1 + 1 = s by omega] at h6
          simpa using h6, by simpa using h7⟩⟩)
    clear ho5 h6 h7 c0 c1 c2 cl
    go_wp2
    rw [hZ'.out]
    exact hend.out
end Go.Proofs.Ytcgnboplpibcgaa
