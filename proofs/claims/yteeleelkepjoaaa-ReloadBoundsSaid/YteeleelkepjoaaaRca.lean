/- The reference's cache: a set's row, ages. -/
import Derived.Test.YteeleelkepjoaaaOrd
import Derived.Test.YteeleelkepjoaaaLru
import Derived.Deep.CutRange
import Derived.Deep.LoopGhost
import Derived.Deep.QuietTactic
namespace Go.Proofs.Yteeleelkepjoaaa
namespace Rca
open Go Go.RowKit

/-- A cache of the document: all that was used, in order. -/
structure RC (w : World) (a S W : Nat) (h : Option Nat) (U : List Nat) : Prop where
  box : ∃ p c, w.heap[a]? = some (.cells #[.int .i64 (S : Int), .int .i64 (W : Int), .slice p U.length c] 42 (0, 0)) ∧ Win w 3 1 (.slice p U.length c) h U.length (dat U)
theorem RC.kept {A : Nat → Prop} {w w' : World} {a S W : Nat} {h : Option Nat} {U : List Nat} (H : RC w a S W h U) (ho : Only A w w') (ha : ¬ A a) (hh : ∀ g, h = some g → ¬ A g) : RC w' a S W h U := by
  obtain ⟨p, c, h1, h2⟩ := H.box
  exact ⟨p, c, ho.heap h1 ha, h2.kept ho hh⟩
theorem RC.new {w w' : World} {a S W : Nat} {h : Option Nat} {U : List Nat} (H : RC w a S W h U) (ho : Only (fun _ => False) w w') : RC w' a S W h U := H.kept ho (fun h => h) (fun _ _ h => h)
theorem RC.ne {w : World} {a S W : Nat} {h : Option Nat} {U : List Nat} (H : RC w a S W h U) : ∀ g, h = some g → g ≠ a := by
  obtain ⟨p, c, h1, _, _, _, _, _, _, h3⟩ := H.box
  rintro g hg rfl
  rcases h3 with h3 | ⟨g', _, _, q1, _, q2, _⟩
  · rw [h3.1] at hg; cases hg
  · rw [hg] at q1
    cases q1
    rw [h1] at q2
    simp at q2
theorem RC.lt {w : World} {a S W : Nat} {h : Option Nat} {U : List Nat} (H : RC w a S W h U) : a < w.heap.size ∧ ∀ g, h = some g → g < w.heap.size := by
  obtain ⟨p, c, h1, h2⟩ := H.box
  exact ⟨row_lt h1, h2.lt⟩

/-- What a call answers that makes a row of numbers. -/
def RowEnd (w : World) (R : List Nat) (e : Ending) (w' : World) : Prop :=
  ∃ p c h, e = .returned (.slice p R.length c) ∧ Win w' 3 1 (.slice p R.length c) h R.length (dat R) ∧ (∀ b, h = some b → w.heap.size ≤ b) ∧ Only (fun _ => False) w w'
def rowL (S W s : Nat) (U : List Nat) : List Nat := Lru.go S W s U.reverse []
theorem rowL_eq (S W s : Nat) (U : List Nat) : rowL S W s U = (Lru.D S s U.reverse).take W := Lru.go_nil S W s _

theorem take_rev {U : List Nat} {k b : Nat} (h : U[k]? = some b) : (U.take (k + 1)).reverse = b :: (U.take k).reverse := by
  obtain ⟨hk, hb⟩ := List.getElem?_eq_some_iff.1 h
  rw [List.take_add_one, h]
  simp
theorem mem_take_one {out : List Nat} {j x b : Nat} (h : out[j]? = some x) : (b ∈ out.take (j + 1)) ↔ (b ∈ out.take j ∨ x = b) := by
  rw [List.take_add_one, h, List.mem_append]
  simp [eq_comm]

set_option maxRecDepth 100000 in
set_option maxHeartbeats 4000000 in
theorem row_any {w : World} {a S W : Nat} {h : Option Nat} {U : List Nat} (H : RC w a S W h U) (hS : 0 < S) (hU : U.length ≤ 1000000) (hW : W ≤ 1000) (s : Nat) :
    Calls Try.prog 46 #[.pointer (some ⟨a, 0, none⟩), .int .i64 (s : Int)] w (RowEnd w (rowL S W s U)) := by
  obtain ⟨R, hR⟩ : ∃ R, R = rowL S W s U := ⟨_, rfl⟩
  rw [← hR]
  obtain ⟨p, c, hb, hWin⟩ := H.box
  obtain ⟨n, hn⟩ : ∃ n, n = U.length := ⟨_, rfl⟩
  rw [← hn] at hb hWin hU
  obtain ⟨Z, hZ⟩ : ∃ Z, Z = RowEnd w R := ⟨_, rfl⟩
  rw [← hZ]
  have hZ' := Lib.hid hZ
  have hR' := Lib.hid hR
  have hn' := Lib.hid hn
  have hb' := Lib.hid hb
  have hWin' := Lib.hid hWin
  have hS' : (S : Int) ≠ 0 := by omega
  have hS2 : (0 : Int) < (S : Int) := by omega
  clear hR hn hb hWin H hZ
  have c0 := row_cell hb'.out (i := 0) rfl
  have c1 := row_cell hb'.out (i := 1) rfl
  have c2 := row_cell hb'.out (i := 2) rfl
  have hlt := row_lt hb'.out
  go_enter Try.func46, Try.ntmps46
  go_wp2
  go_loopw [5, 6] (fun v i wr => ∃ (k m : Nat) (out : List Nat) (q : Option Addr) (cq : Nat) (hq : Option Nat), k ≤ n ∧ m + k ≤ n ∧ m ≤ W ∧ v = .slice q m cq ∧ i = .int .i64 ((k : Int) - 1) ∧ m = out.length ∧ Win wr 3 1 (.slice q m cq) hq m (dat out) ∧ (∀ b, hq = some b → w.heap.size ≤ b) ∧ Only (fun _ => False) w wr ∧ Lru.go S W s (U.take k).reverse out = R) (fun _ i _ => (intOf i + 1).toNat)
  case atStart => exact ⟨n, 0, [], none, 0, none, Nat.le_refl _, by omega, Nat.zero_le _, rfl, by go_num, rfl, Win.nil _ _ _, (fun b hb => by cases hb), Only.refl _ _, by rw [hn'.out, List.take_length, hR'.out]; rfl⟩
  case round =>
    obtain ⟨k, m, out, q, cq, hq, hk, hmk, hmW, rfl, rfl, hm, hWo, hf, hO, hgo⟩ := hrel
    obtain ⟨ws, hws⟩ : ∃ ws : World, ws = wr := ⟨_, rfl⟩
    subst hws
    have hO' := Lib.hid hO
    have hWo' := Lib.hid hWo
    have hf' := Lib.hid hf
    have hm' := Lib.hid hm
    have hgo' := Lib.hid hgo
    replace c0 := hO.cell c0 (fun h => h)
    replace c1 := hO.cell c1 (fun h => h)
    replace c2 := hO.cell c2 (fun h => h)
    replace hlt := Nat.lt_of_lt_of_le hlt hO.size
    clear hO hWo hf hm hgo
    have hend : k = 0 ∨ ¬ m < W → out = R := fun he => by
      have := hgo'.out
      rcases Nat.eq_zero_or_pos k with h0 | h0
      · subst h0; simpa [Lru.go] using this
      · obtain ⟨b, hb⟩ : ∃ b, U[k - 1]? = some b := ⟨_, List.getElem?_eq_getElem (by have := hn'.out; omega)⟩
        rw [show k = k - 1 + 1 by omega, take_rev hb, Lru.go, if_neg (by have := hm'.out; omega)] at this
        exact this
    have hend' := Lib.hid hend
    clear hend
    by_cases hk0 : k = 0
    · have e1 := hend'.out (.inl hk0)
      have hk1 : ¬ (0 : Int) ≤ (k : Int) - 1 := by omega
      go_wp2
      rw [hZ'.out]
      have := hm'.out
      subst e1
      subst this
      exact ⟨_, _, hq, rfl, hWo'.out, hf'.out, hO'.out⟩
    have hk1 : (0 : Int) ≤ (k : Int) - 1 := by omega
    by_cases hmW2 : m < W
    · have hmW3 : (m : Int) < (W : Int) := by omega
      obtain ⟨K, hK⟩ : ∃ K, k = K + 1 := ⟨k - 1, by omega⟩
      subst hK
      obtain ⟨b, hb⟩ : ∃ b, U[K]? = some b := ⟨_, List.getElem?_eq_getElem (by have := hn'.out; omega)⟩
      obtain ⟨g, goff, capp, _, hv, _, _, hgl, hgc, _⟩ := (hWin'.out.kept hO'.out (fun _ _ h => h)).at_ (by omega)
      cases hv
      have g0 := hgc K _ (dat_at hb)
      have hKn : (K : Int) < (n : Int) := by omega
      have hKe : ((K + 1 : Nat) : Int) - 1 = (K : Int) := by omega
      have hb2 := Lib.hid hb
      clear hgc hb
      go_wp2
      go_loopw [8, 39] (fun ag i wq => ∃ j : Nat, j ≤ m ∧ i = .int .i64 j ∧ ag = .bool (decide (b ∈ out.take j)) ∧ ws = wq) (fun _ i _ => m - (intOf i).toNat)
      case atStart => exact ⟨0, Nat.zero_le _, rfl, by simp, rfl⟩
      case round =>
        obtain ⟨j, hj, rfl, rfl, rfl⟩ := hrel
        by_cases hjm : j < m
        · obtain ⟨x, hx⟩ : ∃ x, out[j]? = some x := ⟨_, List.getElem?_eq_getElem (by have := hm'.out; omega)⟩
          obtain ⟨g2, goff2, capp2, _, hv2, _, _, hgl2, hgc2, _⟩ := hWo'.out.at_ (by omega)
          cases hv2
          have g1 := hgc2 j _ (dat_at hx)
          have hjm2 : (j : Int) < (m : Int) := by omega
          have hx2 := Lib.hid hx
          obtain ⟨B, hB⟩ : ∃ B, B = decide (b ∈ out.take j) := ⟨_, rfl⟩
          rw [← hB]
          have hB2 := Lib.hid hB
          clear hgc2 hx hB
          have hnext : decide (b ∈ out.take (j + 1)) = (B || decide (x = b)) := by
            rw [hB2.out]
            by_cases h1 : b ∈ out.take j <;> by_cases h2 : x = b <;> simp [mem_take_one hx2.out, h1, h2]
          have hnext2 := Lib.hid hnext
          clear hnext
          by_cases hxb : x = b
          · have e3 : ((x : Int) == (b : Int)) = true := beq_iff_eq.2 (by omega)
            have hn3 := Lib.hid (show decide (b ∈ out.take (j + 1)) = true by rw [hnext2.out]; simp [hxb])
            clear hxb
            cases B <;> go_wp2 <;> go_roundw
            case rel => exact ⟨j + 1, by omega, by go_num, by rw [hn3.out], by simp⟩
            case measure => simp [intOf]; omega
            case rel => exact ⟨j + 1, by omega, by go_num, by rw [hn3.out], by simp⟩
            case measure => simp [intOf]; omega
          · have e3 : ((x : Int) == (b : Int)) = false := beq_eq_false_iff_ne.2 (by omega)
            have hn3 := Lib.hid (show decide (b ∈ out.take (j + 1)) = B by rw [hnext2.out]; simp [hxb])
            clear hxb
            cases B <;> go_wp2 <;> go_roundw
            case rel => exact ⟨j + 1, by omega, by go_num, by rw [hn3.out], by simp⟩
            case measure => simp [intOf]; omega
            case rel => exact ⟨j + 1, by omega, by go_num, by rw [hn3.out], by simp⟩
            case measure => simp [intOf]; omega
        · obtain rfl : j = m := by omega
          have hjm2 : ¬ (j : Int) < (j : Int) := by omega
          obtain ⟨B, hB⟩ : ∃ B, B = decide (b ∈ out) := ⟨_, rfl⟩
          rw [show out.take j = out by rw [hm'.out, List.take_length], ← hB]
          have hB2 := Lib.hid hB
          clear hB
          have hgo3 : Lru.go S W s (U.take K).reverse (if b % S = s ∧ b ∉ out then out ++ [b] else out) = R := by
            have := hgo'.out
            rw [take_rev hb2.out, Lru.go, if_pos (by have := hm'.out; omega)] at this
            exact this
          by_cases hyes : b % S = s ∧ b ∉ out
          · rw [if_pos hyes] at hgo3
            obtain ⟨y1, y2⟩ := hyes
            obtain rfl : B = false := by rw [hB2.out]; simpa using y2
            have y3 : ((b : Int) % (S : Int) == (s : Int)) = true := by
              rw [beq_iff_eq, ← y1]; omega
            have hgo4 := Lib.hid hgo3
            clear hgo3 y1 y2
            go_wp2_with (at_builtin; go_loud (refine wpList_append_win rfl _ _ 24 rfl 3 (Value.int .i64 0) 1 8 Try.underlying24 info3 rfl (by decide) rfl (hWo'.out.kept ((Only.refl (fun _ => False) ws).alloc _) (fun _ _ h => h)) _ 1 1 rfl [.int .i64 (b : Int)] rfl (fun _ => ⟨_, rfl, row_one (heap_new_at _ _ rfl)⟩) (by simp [Value.oneCell']) (by unfold maxLen; omega) (by omega) ?_; intro v4 w6 h4 hW4 hO4' hh4; obtain ⟨p4, c4, rfl, _, _⟩ := hW4.out.form))
            go_roundw
            case rel =>
              refine ⟨K, j + 1, out ++ [b], p4, c4, h4, by omega, by omega, by omega, rfl, by go_num, ?_, ?_, fun x hx => ?_, ?_, hgo4.out⟩
              · rw [hm'.out]; simp
              · have := hW4.out
                rw [show dat out ++ [Value.int .i64 (b : Int)] = dat (out ++ [b]) by simp [dat]] at this
                exact this
              · rcases hh4.out with rfl | ⟨g5, hg5, hge5⟩
                · exact hf'.out x hx
                · rw [hg5] at hx
                  cases hx
                  have := hO'.out.size
                  rw [alloc_size] at hge5
                  omega
              · exact (hO'.out.alloc _).trans hO4'.out (fun x hx e => by have := hf'.out x e.symm; omega)
            case measure => simp [intOf]
          · rw [if_neg hyes] at hgo3
            have hgo4 := Lib.hid hgo3
            clear hgo3
            by_cases y1 : b % S = s
            · obtain rfl : B = true := by rw [hB2.out]; simp; exact Classical.byContradiction (fun h => hyes ⟨y1, h⟩)
              have y3 : ((b : Int) % (S : Int) == (s : Int)) = true := by
                rw [beq_iff_eq, ← y1]; omega
              clear y1 hyes
              go_wp2
              go_roundw
              case rel => exact ⟨K, j, out, q, cq, hq, by omega, by omega, hmW, rfl, by go_num, hm'.out, hWo'.out, hf'.out, hO'.out, hgo4.out⟩
              case measure => simp [intOf]
            · have y3 : ((b : Int) % (S : Int) == (s : Int)) = false := by
                rw [beq_eq_false_iff_ne]; intro h; exact y1 (by omega)
              clear y1 hyes
              go_wp2
              go_roundw
              case rel => exact ⟨K, j, out, q, cq, hq, by omega, by omega, hmW, rfl, by go_num, hm'.out, hWo'.out, hf'.out, hO'.out, hgo4.out⟩
              case measure => simp [intOf]
    · have hmW3 : ¬ (m : Int) < (W : Int) := by omega
      have e1 := hend'.out (.inr hmW2)
      go_wp2
      rw [hZ'.out]
      have := hm'.out
      subst e1
      subst this
      exact ⟨_, _, hq, rfl, hWo'.out, hf'.out, hO'.out⟩
end Rca
end Go.Proofs.Yteeleelkepjoaaa
