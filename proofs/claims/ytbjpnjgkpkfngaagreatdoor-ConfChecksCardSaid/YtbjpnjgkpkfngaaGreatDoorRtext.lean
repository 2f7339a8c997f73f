/- The document's text of a program, and whether two programs are the same. -/
import Derived.Test.YtbjpnjgkpkfngaaGreatDoorOne
import Derived.Test.YtbjpnjgkpkfngaaGreatDoorFixed
namespace Go.Proofs.YtbjpnjgkpkfngaaGreatDoor
open Go Go.RowKit

theorem one_any (x : Opn) (ha : fitI x.a) (hb : fitI x.b) (w : World) : Calls Tryz.prog 62 #[.agg #[.int .i64 x.k, .int .i64 x.a, .int .i64 x.b]] w (TxtEnd x w) := by
  cases hok : okT x
  · have h : numZ x.k < 0 ∨ x.a < 0 ∨ x.b < 0 ∨ (numZ x.k < 1 ∧ x.a ≠ 0) ∨ (numZ x.k < 2 ∧ x.b ≠ 0) := by
      have h1 := of_decide_eq_false hok
      by_cases hk : x.k < 1 ∨ 15 < x.k
      · left
        unfold numZ
        rw [if_pos hk]
        decide
      · by_cases c1 : x.a < 0
        · exact .inr (.inl c1)
        · by_cases c2 : x.b < 0
          · exact .inr (.inr (.inl c2))
          · by_cases c3 : numZ x.k < 1 ∧ x.a ≠ 0
            · exact .inr (.inr (.inr (.inl c3)))
            · by_cases c4 : numZ x.k < 2 ∧ x.b ≠ 0
              · exact .inr (.inr (.inr (.inr c4)))
              · refine absurd ⟨by omega, by omega, by omega, by omega, fun h => ?_, fun h => ?_⟩ h1
                · by_cases h0 : x.a = 0
                  · exact h0
                  · exact absurd ⟨h, h0⟩ c3
                · by_cases h0 : x.b = 0
                  · exact h0
                  · exact absurd ⟨h, h0⟩ c4
    refine (one_not x h w).mono ?_
    rintro e w' ⟨rfl, ho⟩
    unfold TxtEnd
    rw [hok]
    exact ⟨rfl, ho⟩
  · have h1 := of_decide_eq_true hok
    obtain ⟨k, a, b⟩ := x
    simp only at *
    obtain ⟨k, rfl⟩ : ∃ n : Nat, k = n := ⟨k.toNat, by omega⟩
    obtain ⟨a, rfl⟩ : ∃ n : Nat, a = n := ⟨a.toNat, by omega⟩
    obtain ⟨b, rfl⟩ : ∃ n : Nat, b = n := ⟨b.toNat, by omega⟩
    have hend : ∀ e w', OneEnd ⟨k, a, b⟩ w e w' → TxtEnd ⟨k, a, b⟩ w e w' := by
      rintro e w' ⟨rfl, ho⟩
      unfold TxtEnd
      rw [hok]
      exact ⟨rfl, ho⟩
    obtain ⟨p1, p2, _, _, p3, p4⟩ := h1
    rcases count_of (x := ⟨k, a, b⟩) p1 p2 with hc | hc | hc
    · have hc' : numZ (k : Int) = 0 := hc
      obtain rfl : a = 0 := by have := p3 (by omega); omega
      obtain rfl : b = 0 := by have := p4 (by omega); omega
      exact (one_nought k (by omega) (by omega) hc w).mono hend
    · have hc' : numZ (k : Int) = 1 := hc
      obtain rfl : b = 0 := by have := p4 (by omega); omega
      exact (one_single k (by omega) (by omega) hc a ha.2 w).mono hend
    · exact (one_double k (by omega) (by omega) hc a b ha.2 hb.2 w).mono hend

theorem gOf_len (x : Opn) (ha : fitI x.a) (hb : fitI x.b) : (gOf optT x).length ≤ 60 := by
  unfold gOf optT
  by_cases h : okT x = true
  · rw [if_pos h]
    have hk := of_decide_eq_true h
    show (oneT x).length ≤ 60
    rw [← upT_two]
    exact upT_len x (by omega) ha hb 2
  · rw [if_neg h]
    simp

set_option maxRecDepth 100000 in
set_option maxHeartbeats 1000000 in
theorem rtext_any {w : World} {A : Option Addr} {n cap : Nat} {l : List Opn} (hl : OpnRow w A l) (hn : l.length = n) (hb : n ≤ 80) (hfit : ∀ x ∈ l, fitI x.a ∧ fitI x.b) :
    Calls Tryz.prog 35 #[.slice A n cap] w (TextEnd optT l w) := by
  have hl' := Lib.hid hl
  have hn' := Lib.hid hn
  have hfit' := Lib.hid hfit
  clear hl hn hfit
  go_enter Tryz.func35, Tryz.ntmps35
  go_wp2
  go_loopw [4, 11] (fun o i wr => ∃ k : Nat, k ≤ n ∧ i = .int .i64 k ∧ allB optT (l.take k) = true ∧ o = .string (toBA (preT (gOf optT) (l.take k))) ∧ Only (fun _ => False) w wr) (fun _ i _ => n - (intOf i).toNat)
  case atStart => exact ⟨0, Nat.zero_le _, rfl, rfl, rfl, Only.refl _ _⟩
  case round =>
    obtain ⟨k, hk, rfl, hall, rfl, hO⟩ := hrel
    obtain ⟨ws, hws⟩ : ∃ ws : World, ws = wr := ⟨_, rfl⟩
    subst hws
    by_cases hkn : k < n
    · have hkn' : (k : Int) < (n : Int) := by omega
      obtain ⟨x, hx⟩ : ∃ x, l[k]? = some x := ⟨l[k]'(by have := hn'.out; omega), List.getElem?_eq_getElem _⟩
      obtain ⟨bb, off, hA, hbb, q0, q1, q2⟩ := (hl'.out.new hO) k x hx
      subst hA
      have hxm : x ∈ l := List.mem_of_getElem? hx
      have h1 := Lib.hid (fun W => one_any x (hfit'.out x hxm).1 (hfit'.out x hxm).2 W)
      have hS := Lib.hid (And.intro hall (And.intro hO hx))
      have hpl := preT_length (gOf optT) (l.take k) (fun y hy => by have := gOf_len y (hfit'.out y (List.mem_of_mem_take hy)).1 (hfit'.out y (List.mem_of_mem_take hy)).2; omega)
      rw [List.length_take] at hpl
      have hgl := gOf_len x (hfit'.out x hxm).1 (hfit'.out x hxm).2
      obtain ⟨T, hT⟩ : ∃ T, T = preT (gOf optT) (l.take k) := ⟨_, rfl⟩
      have hTs : (toBA T).size ≤ 8080 := by rw [toBA_size, hT]; omega
      have hT' := Lib.hid hT
      rw [← hT]
      clear hall hO hx hpl hT
      cases hf : okT x with
      | false =>
        have h2 := Lib.hid (show ∀ W, Calls Tryz.prog 62 #[.agg #[.int .i64 x.k, .int .i64 x.a, .int .i64 x.b]] W (GrowT ⟨#[]⟩ false W) from fun W => by have := h1.out W; unfold TxtEnd at this; rw [hf] at this; exact this)
        have hf' := Lib.hid hf
        clear hf h1
        go_wp2_with fail
        refine (h2.out _).mono ?_
        rintro e W1 ⟨rfl, hO1⟩
        have hO1' := Lib.hid hO1
        clear hO1
        go_wp2
        go_ret2
        obtain ⟨hall, hO, hx⟩ := hS.out
        have hno : allB optT l = false := by
          unfold allB
          rw [List.all_eq_false]
          exact ⟨x, hxm, by unfold optT; rw [hf'.out]; simp⟩
        unfold TextEnd
        rw [hno]
        exact ⟨rfl, (hO.alloc _).trans' hO1'.out⟩
      | true =>
        have hg : gOf optT x = oneT x := by unfold gOf optT; rw [hf]; rfl
        rw [hg] at hgl
        have h2 := Lib.hid (show ∀ W, Calls Tryz.prog 62 #[.agg #[.int .i64 x.k, .int .i64 x.a, .int .i64 x.b]] W (GrowT (toBA (oneT x)) true W) from fun W => by have := h1.out W; unfold TxtEnd at this; rw [hf] at this; exact this)
        have hf' := Lib.hid (And.intro hf hg)
        have hall1 := Lib.hid (show allB optT (l.take (k + 1)) = true by
          rw [List.take_add_one, hS.out.2.2]
          have := hS.out.1
          unfold allB at this ⊢
          rw [List.all_append, this]
          simp [optT, hf'.out.1])
        obtain ⟨U, hU⟩ : ∃ U, U = oneT x := ⟨_, rfl⟩
        rw [← hU] at h2 hgl
        have hUs : (toBA U).size ≤ 60 := by rw [toBA_size]; exact hgl
        have hU' := Lib.hid hU
        clear hf hg h1 hU
        by_cases hk0 : k = 0
        · have hk1 : ¬ (0 : Int) < (k : Int) := by omega
          have hpre := Lib.hid (show toBA T ++ toBA U = toBA (preT (gOf optT) (l.take (k + 1))) from by
            rw [toBA_app, List.take_add_one, hS.out.2.2, hT'.out, hU'.out, show l.take k = [] by rw [hk0]; rfl]
            simp [preT, hf'.out.2])
          clear hk0
          go_wp2_with fail
          refine (h2.out _).mono ?_
          rintro e W1 ⟨rfl, hO1⟩
          have hOW := Lib.hid ((hS.out.2.1.alloc (.cells #[.int .i64 x.k, .int .i64 x.a, .int .i64 x.b] 69)).trans' hO1)
          clear hO1 q0 q1 q2
          go_wp2
          go_roundw
          case rel => exact ⟨k + 1, by omega, by go_num, hall1.out, by rw [hpre.out], hOW.out⟩
          case measure => simp [intOf]; omega
        · have hk1 : (0 : Int) < (k : Int) := by omega
          have hpre := Lib.hid (show (toBA T ++ ⟨#[59]⟩) ++ toBA U = toBA (preT (gOf optT) (l.take (k + 1))) from by
            have hne : l.take k ≠ [] := fun h => by
              have := congrArg List.length h
              rw [List.length_take, List.length_nil] at this
              have := hn'.out
              omega
            rw [show (⟨#[59]⟩ : ByteArray) = toBA [59] from rfl, toBA_app, toBA_app, List.take_add_one, hS.out.2.2]
            simp only [Option.toList]
            rw [preT_snoc, if_neg hne, hf'.out.2, ← hT'.out, ← hU'.out]
            simp)
          clear hk0
          go_wp2_with fail
          refine (h2.out _).mono ?_
          rintro e W1 ⟨rfl, hO1⟩
          have hOW := Lib.hid ((hS.out.2.1.alloc (.cells #[.int .i64 x.k, .int .i64 x.a, .int .i64 x.b] 69)).trans' hO1)
          clear hO1 q0 q1 q2
          go_wp2
          go_roundw
          case rel => exact ⟨k + 1, by omega, by go_num, hall1.out, by rw [hpre.out], hOW.out⟩
          case measure => simp [intOf]; omega
    · obtain rfl : k = n := by omega
      have ht : l.take k = l := List.take_of_length_le (by have := hn'.out; omega)
      rw [ht] at hall ⊢
      have hE := Lib.hid (And.intro hall hO)
      clear hall hO ht
      go_wp2
      go_ret2
      unfold TextEnd
      rw [hE.out.1]
      exact ⟨rfl, hE.out.2⟩
end Go.Proofs.YtbjpnjgkpkfngaaGreatDoor
