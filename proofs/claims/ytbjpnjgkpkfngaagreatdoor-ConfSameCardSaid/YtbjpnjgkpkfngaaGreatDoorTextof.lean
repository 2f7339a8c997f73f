/- Package prog's textOf: an operation's text, or none. -/
import Derived.Test.YtbjpnjgkpkfngaaGreatDoorParse
namespace Go.Proofs.YtbjpnjgkpkfngaaGreatDoor
open Go Go.RowKit

/-- Has an operation a text? -/
def okT (x : Opn) : Bool := decide (1 ≤ x.k ∧ x.k ≤ 15 ∧ 0 ≤ x.a ∧ 0 ≤ x.b ∧ (numZ x.k < 1 → x.a = 0) ∧ (numZ x.k < 2 → x.b = 0))
def optT (x : Opn) : Option (List UInt8) := if okT x = true then some (oneT x) else none
def fitI (n : Int) : Prop := -9223372036854775808 ≤ n ∧ n ≤ 9223372036854775807
def TxtEnd (x : Opn) (w : World) (e : Ending) (w' : World) : Prop := e = .returned (.tuple #[.string (if okT x = true then toBA (oneT x) else ⟨#[]⟩), .bool (okT x)]) ∧ Only (fun _ => False) w w'

theorem itoa_any {w : World} (hb : Bas w) (n : Nat) (hn : fitI n) : Calls Tryz.prog 48 #[.int .i64 n] w fun e w' => e = .returned (.string (toBA (Lib.decDigits n))) ∧ Only (fun _ => False) w w' := by
  refine (Tryz.strconv_Itoa n hn.1 hn.2 w hb.tab).mono ?_
  rintro e w' ⟨rfl, k, os, rfl⟩
  rw [Lib.itoa_nonneg]
  refine ⟨rfl, ?_⟩
  have h : ∀ (v : World), Only (fun _ => False) v (Sort.grow v os) := fun v => ⟨rfl, rfl, rfl, by simp [Sort.grow], fun k hk _ => by simp only [Sort.grow]; rw [Array.getElem?_append_left hk]⟩
  exact ((Only.refl _ w).drewN k).trans' (h _)

/-- The text of an operation up to its j-th number. -/
def upT (x : Opn) (j : Nat) : List UInt8 := wname x.k.toNat ++ ((if 0 < j ∧ 0 < numZ x.k then 32 :: Lib.decDigits x.a.toNat else []) ++ (if 1 < j ∧ 1 < numZ x.k then 32 :: Lib.decDigits x.b.toNat else []))
theorem upT_len (x : Opn) (h1 : x.k.toNat < 16) (ha : fitI x.a) (hb : fitI x.b) (j : Nat) : (upT x j).length ≤ 60 := by
  unfold upT fitI at *
  have h1 := (wname_fit x.k.toNat h1).2.2
  have h2 := dec_nineteen (u := x.a.toNat) (by omega)
  have h3 := dec_nineteen (u := x.b.toNat) (by omega)
  simp only [List.length_append]
  split <;> split <;> simp <;> omega
theorem upT_two (x : Opn) : upT x 2 = oneT x := by simp [upT, oneT]
def fineT (x : Opn) (j : Nat) : Prop := (0 < j → 0 ≤ x.a ∧ (numZ x.k < 1 → x.a = 0)) ∧ (1 < j → 0 ≤ x.b ∧ (numZ x.k < 2 → x.b = 0))
def nth (x : Opn) (j : Nat) : Int := if j = 0 then x.a else x.b
theorem fine_next {x : Opn} {j : Nat} (hj : j < 2) (h : fineT x j) (h1 : 0 ≤ nth x j) (h2 : numZ x.k ≤ j → nth x j = 0) : fineT x (j + 1) := by
  have : j = 0 ∨ j = 1 := by omega
  rcases this with rfl | rfl
  · exact ⟨fun _ => ⟨h1, fun h => h2 (by omega)⟩, fun h => by omega⟩
  · exact ⟨fun _ => h.1 (by omega), fun _ => ⟨h1, fun h => h2 (by omega)⟩⟩
theorem fine_not {x : Opn} {j : Nat} (hj : j < 2) (h : nth x j < 0 ∨ (numZ x.k ≤ j ∧ nth x j ≠ 0)) : okT x = false := by
  refine decide_eq_false ?_
  rintro ⟨_, _, p1, p2, p3, p4⟩
  have : j = 0 ∨ j = 1 := by omega
  rcases this with rfl | rfl
  · rcases h with h | ⟨h, g⟩
    · exact absurd p1 (by have : x.a < 0 := h; omega)
    · exact g (p3 (by omega))
  · rcases h with h | ⟨h, g⟩
    · exact absurd p2 (by have : x.b < 0 := h; omega)
    · exact g (p4 (by omega))
theorem fine_ok {x : Opn} (h1 : 1 ≤ x.k) (h2 : x.k ≤ 15) (h : fineT x 2) : okT x = true := decide_eq_true ⟨h1, h2, (h.1 (by omega)).1, (h.2 (by omega)).1, (h.1 (by omega)).2, (h.2 (by omega)).2⟩
theorem upT_skip {x : Opn} {j : Nat} (hj : j < 2) (h : numZ x.k ≤ j) : upT x (j + 1) = upT x j := by
  have : j = 0 ∨ j = 1 := by omega
  rcases this with rfl | rfl
  · simp [upT, show ¬ 0 < numZ x.k by omega]
  · simp [upT, show ¬ 1 < numZ x.k by omega]
theorem upT_next {x : Opn} {j : Nat} (hj : j < 2) (h : (j : Int) < numZ x.k) : upT x (j + 1) = upT x j ++ (32 :: Lib.decDigits (nth x j).toNat) := by
  have : j = 0 ∨ j = 1 := by omega
  rcases this with rfl | rfl
  · simp [upT, show 0 < numZ x.k by omega, nth]
  · simp [upT, show 0 < numZ x.k by omega, show 1 < numZ x.k by omega, nth]
theorem idxN (x : Opn) (j : Nat) (hj : j < 2) (w : World) : (Instr.index 129 (.agg #[.int .i64 x.a, .int .i64 x.b]) (.int .i64 j)).run Tryz.prog w = .ok (.int .i64 (nth x j)) w := by
  have : j = 0 ∨ j = 1 := by omega
  rcases this with rfl | rfl
  · exact idx0 _ _ w
  · exact idx1 _ _ w
theorem toBA_app (a b : List UInt8) : toBA a ++ toBA b = toBA (a ++ b) := by
  apply ByteArray.ext
  simp [toBA]

set_option maxRecDepth 100000 in
set_option maxHeartbeats 1000000 in
theorem textOf_some {w : World} (hb : Bas w) (x : Opn) (h1 : 1 ≤ x.k) (h2 : x.k ≤ 15) (hfa : fitI x.a) (hfb : fitI x.b) : Calls Tryz.prog 75 #[.agg #[.int .i64 x.k, .int .i64 x.a, .int .i64 x.b]] w (TxtEnd x w) := by
  obtain ⟨k, hk⟩ : ∃ k : Nat, x.k = k := ⟨x.k.toNat, by omega⟩
  have hn' := Lib.hid (fun W (hW : Only (fun _ => False) w W) => numbers_any (hb.words.new hW) x.k)
  obtain ⟨c, hc⟩ : ∃ c, c = numZ x.k := ⟨_, rfl⟩
  have hc0 : 0 ≤ c := by
    rw [hc, hk, numZ_in (by omega) (by omega)]
    have key : ∀ i : Fin 16, 0 ≤ wnums.getD i.1 0 := by decide
    exact key ⟨k, by omega⟩
  rw [← hc] at hn'
  have hcc := Lib.hid hc
  have cw := (words_at hb.words k (by omega)).1
  have i0 := idxN x
  have hkk := Lib.hid hk
  have hup0 := Lib.hid (show toBA (upT x 0) = wnames.getD k ⟨#[]⟩ from by simp only [upT, hk]; simp; rfl)
  obtain ⟨s, hs⟩ : ∃ s, s = wnames.getD k ⟨#[]⟩ := ⟨_, rfl⟩
  rw [← hs] at cw hup0
  have hk1 : (k : Int) < 16 := by omega
  have hk0 : (0 : Int) ≤ (k : Int) := by omega
  have h0w : 0 < w.heap.size := World.block_lt_of_cell? w _ cw
  have hb' := Lib.hid hb
  have hfit := Lib.hid (And.intro (And.intro h1 h2) (And.intro hfa hfb))
  rw [hk] at hn' ⊢
  clear hb hs hc h1 h2 hfa hfb hk
  go_enter Tryz.func75, Tryz.ntmps75
  go_wp2_with (go_at_call 88; refine (hn'.out _ ((Only.refl _ w).alloc _)).mono ?_; rintro e w' ⟨rfl, rfl⟩)
  have hO := Lib.hid (show Only (fun _ => False) w (w.alloc (.cells #[.int .i64 k, .int .i64 x.a, .int .i64 x.b] 69)) from (Only.refl _ w).alloc _)
  generalize World.alloc w _ = W1 at hO ⊢
  clear cw i0 hn'
  have i0 := Lib.hid (idxN x)
  go_loopw [5, 23] (fun sv i wr => ∃ j : Nat, j ≤ 2 ∧ i = .int .i64 j ∧ sv = .string (toBA (upT x j)) ∧ fineT x j ∧ Hid (Only (fun _ => False) w wr)) (fun _ i _ => 2 - (intOf i).toNat)
  case atStart => exact ⟨0, by omega, rfl, by rw [hup0.out], ⟨fun h => by omega, fun h => by omega⟩, hO⟩
  case round =>
    clear hO
    obtain ⟨j, hj, rfl, rfl, hfi, hO⟩ := hrel
    obtain ⟨ws, hws⟩ : ∃ ws : World, ws = wr := ⟨_, rfl⟩
    subst hws
    have hfi' := Lib.hid hfi
    clear hfi
    by_cases hj2 : j < 2
    · have hj2' : (j : Int) < 2 := by omega
      have q0 := i0.out j hj2
      have hnf : fitI (nth x j) := by
        have h := hfit.out.2
        unfold nth
        split
        · exact h.1
        · exact h.2
      obtain ⟨z, hz⟩ : ∃ z, z = nth x j := ⟨_, rfl⟩
      rw [← hz] at q0 hnf
      have hz' := Lib.hid hz
      clear hz
      by_cases hneg : z < 0
      · go_wp2
        go_ret2
        have := fine_not hj2 (.inl (hz'.out ▸ hneg))
        unfold TxtEnd
        rw [this]
        exact ⟨rfl, hO.out⟩
      · by_cases hjc : (j : Int) < c
        · obtain ⟨zn, rfl⟩ : ∃ zn : Nat, z = zn := ⟨z.toNat, by omega⟩
          have hit := Lib.hid (itoa_any (hb'.out.new hO.out) zn hnf)
          have hnx := Lib.hid (show toBA (upT x j) ++ (⟨#[32]⟩ ++ toBA (Lib.decDigits zn)) = toBA (upT x (j + 1)) from by
            rw [show (⟨#[32]⟩ : ByteArray) = toBA [32] from rfl, toBA_app, toBA_app, upT_next hj2 (by rw [← hcc.out]; exact hjc), ← hz'.out]
            rfl)
          have hfn := Lib.hid (fine_next hj2 hfi'.out (by rw [← hz'.out]; omega) (fun h => by rw [← hcc.out] at h; omega))
          have hs1 : (toBA (Lib.decDigits zn)).size ≤ 19 := by rw [toBA_size]; exact dec_nineteen (by have := hnf.2; omega)
          have hs2 : (toBA (upT x j)).size ≤ 60 := by rw [toBA_size]; exact upT_len x (by have := hkk.out; omega) hfit.out.2.1 hfit.out.2.2 j
          clear hnf
          have hcj : ¬ c ≤ (j : Int) := by omega
          go_wp2_with fail
          refine hit.out.mono ?_
          rintro e W2 ⟨rfl, hO2⟩
          have hO2' := Lib.hid (hO.out.trans' hO2)
          clear hO2
          go_wp2
          go_roundw
          case rel => exact ⟨j + 1, by omega, by go_num, by rw [hnx.out], hfn.out, hO2'⟩
          case measure => simp [intOf]; omega
        · have hcj : c ≤ (j : Int) := by omega
          by_cases hz0 : z = 0
          · subst hz0
            have hfn := Lib.hid (fine_next hj2 hfi'.out (by rw [← hz'.out]; omega) (fun h => hz'.out.symm))
            have hup := Lib.hid (upT_skip hj2 (by rw [← hcc.out]; exact hcj))
            go_wp2
            go_roundw
            case rel => exact ⟨j + 1, by omega, by go_num, by rw [hup.out], hfn.out, hO⟩
            case measure => simp [intOf]; omega
          · have hzn : (z != 0) = true := by simpa using hz0
            go_wp2
            go_ret2
            have := fine_not hj2 (.inr ⟨by rw [← hcc.out]; exact hcj, by rw [← hz'.out]; exact hz0⟩)
            unfold TxtEnd
            rw [this]
            exact ⟨rfl, hO.out⟩
    · obtain rfl : j = 2 := by omega
      go_wp2
      go_ret2
      have := fine_ok hfit.out.1.1 hfit.out.1.2 hfi'.out
      unfold TxtEnd
      rw [this, upT_two]
      exact ⟨rfl, hO.out⟩
end Go.Proofs.YtbjpnjgkpkfngaaGreatDoor
