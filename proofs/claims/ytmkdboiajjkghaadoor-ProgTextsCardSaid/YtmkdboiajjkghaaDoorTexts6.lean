/- ProgTexts' walk: a program's text is the document's, and read as it was. -/
import Derived.Test.YtmkdboiajjkghaaDoorRtext
import Derived.Test.YtmkdboiajjkghaaDoorFixed2
namespace Go.Proofs.YtmkdboiajjkghaaDoor
open Go Go.RowKit

set_option maxRecDepth 100000 in
set_option maxHeartbeats 1000000 in
theorem same_any {w : World} {A B : Option Addr} {n c1 c2 : Nat} {l : List Opn} (hA : OpnRow w A l) (hB : OpnRow w B l) (hn : l.length = n) (h80 : n ≤ 80) : Calls Tryd.prog 16 #[.slice A n c1, .slice B n c2] w (GrowB true w) := by
  have hA' := Lib.hid hA
  have hB' := Lib.hid hB
  have hn' := Lib.hid hn
  have nn : ((n : Int) != (n : Int)) = false := by simp
  clear hA hB hn
  go_enter Tryd.func16, Tryd.ntmps16
  go_wp2
  go_loopw [13] (fun i wr => ∃ k : Nat, k ≤ n ∧ i = .int .i64 k ∧ Only (fun _ => False) w wr) (fun i _ => n - (intOf i).toNat)
  case atStart => exact ⟨0, Nat.zero_le _, rfl, Only.refl _ _⟩
  case round =>
    obtain ⟨k, hk, rfl, hO⟩ := hrel
    obtain ⟨ws, hws⟩ : ∃ ws : World, ws = wr := ⟨_, rfl⟩
    subst hws
    have hO' := Lib.hid hO
    clear hO
    by_cases hkn : k < n
    · have hkn' : (k : Int) < (n : Int) := by omega
      obtain ⟨x, hx⟩ : ∃ x, l[k]? = some x := ⟨l[k]'(by have := hn'.out; omega), List.getElem?_eq_getElem _⟩
      obtain ⟨bb, off, hAe, hbb, q0, q1, q2⟩ := (hA'.out.new hO'.out) k x hx
      obtain ⟨b2, off2, hBe, hbb2, r0, r1, r2⟩ := (hB'.out.new hO'.out) k x hx
      subst hAe
      subst hBe
      have p0 := wd_cell q0
      have p1 := wd_cell q1
      have p2 := wd_cell q2
      have s0 := wd_cell r0
      have s1 := wd_cell r1
      have s2 := wd_cell r2
      have hex := wd_ex ws
      obtain ⟨X, Y, Z⟩ := x
      simp only at *
      clear q0 q1 q2 r0 r1 r2 hx
      go_wp2
      refine wp_region_wd (by kernel_rfl) (by kernel_rfl) ?_
      repeat (go_big_quiet_step (fail))
      refine wpQuiet_nil ?_
      rintro _ ⟨v, rfl⟩
      have hv := Lib.hid (hO'.out.trans' v.ok)
      clear p0 p1 p2 s0 s1 s2 hex
      go_wp2
      go_roundw
      case rel => exact ⟨k + 1, by omega, by go_num, hv.out⟩
      case measure => simp [intOf]; omega
    · obtain rfl : k = n := by omega
      go_wp2
      go_ret
      exact ⟨rfl, hO'.out⟩

theorem short_of {x : Opn} (hok : okT x = true) (ha : x.a ≤ 999999999) (hb : x.b ≤ 999999999) : Short x := by
  obtain ⟨h1, h2, h3, h4, h5, h6⟩ := of_decide_eq_true hok
  exact ⟨h1, h2, h3, by omega, h4, by omega, h5, h6⟩
theorem preT_all {l : List Opn} (h : allB optT l = true) : preT (gOf optT) l = leftT l 0 := by
  have hg : ∀ x ∈ l, gOf optT x = oneT x := fun x hx => by
    unfold allB at h
    have := List.all_eq_true.1 h x hx
    unfold gOf optT at *
    split at this
    · rename_i hk
      rw [if_pos hk]
      rfl
    · simp at this
  unfold leftT
  rw [List.drop_zero]
  cases l with
  | nil => rfl
  | cons x l =>
    simp only [preT]
    rw [hg x (by simp)]
    congr 1
    have : ∀ m : List Opn, (∀ y ∈ m, y ∈ l) → m.flatMap (fun y => 59 :: gOf optT y) = m.flatMap (fun y => 59 :: oneT y) := by
      intro m
      induction m with
      | nil => intro _; rfl
      | cons y m ih =>
        intro hm
        rw [List.flatMap_cons, List.flatMap_cons, ih (fun z hz => hm z (by simp [hz])), hg y (by simp [hm y (by simp)])]
    exact this l (fun _ h => h)
theorem opCells_at : ∀ (l : List Opn) (k : Nat) (x : Opn), l[k]? = some x → (opCells l)[k * 3]? = some (.int .i64 x.k) ∧ (opCells l)[k * 3 + 1]? = some (.int .i64 x.a) ∧ (opCells l)[k * 3 + 2]? = some (.int .i64 x.b)
  | [], k, x, h => by simp at h
  | y :: l, 0, x, h => by
    simp at h
    subst h
    exact ⟨rfl, rfl, rfl⟩
  | y :: l, k + 1, x, h => by
    have ih := opCells_at l k x (by simpa using h)
    have e : ∀ j, (opCells (y :: l))[(k + 1) * 3 + j]? = (opCells l)[k * 3 + j]? := fun j => by
      rw [show opCells (y :: l) = y.cells ++ opCells l from by simp [opCells], List.getElem?_append_right (by simp [Opn.cells]; omega)]
      congr 1
      simp [Opn.cells]
      omega
    exact ⟨(e 0).trans ih.1, (e 1).trans ih.2.1, (e 2).trans ih.2.2⟩
theorem row_of_win {w : World} {h : Option Nat} {p : Option Addr} {cap : Nat} {l : List Opn} (hW : Win w 29 3 (.slice p l.length cap) h l.length (opCells l)) : OpnRow w p l := by
  intro k x hx
  have hk := (List.getElem?_eq_some_iff.1 hx).1
  obtain ⟨g, off, cap2, hh, hv, hnc, hcm, hlt2, hcell, hfr⟩ := hW.at_ (by omega)
  cases hv
  obtain ⟨h0, h1, h2⟩ := opCells_at l k x hx
  exact ⟨g, off, rfl, hlt2, hcell _ _ h0, hcell _ _ h1, hcell _ _ h2⟩

set_option maxRecDepth 100000 in
set_option maxHeartbeats 2000000 in
theorem texts_walk {w : World} (hb : Bas w) {A : Option Addr} {n cap : Nat} {l : List Opn} (hl : OpnRow w A l) (hn : l.length = n) (hfit : ∀ x ∈ l, fitI x.a ∧ fitI x.b) : Calls Tryd.prog 4 #[.slice A n cap] w (GrowB true w) := by
  have hb' := Lib.hid hb
  have hl' := Lib.hid hl
  have hn' := Lib.hid hn
  have hfit' := Lib.hid hfit
  clear hb hl hn hfit
  by_cases h80 : n ≤ 80
  · have hfew := Lib.hid (fun W => few_any W A n cap (v := true) (by simpa using h80))
    go_enter Tryd.func4, Tryd.ntmps4
    go_wp2_with fail
    refine (fixed_any hb'.out).mono ?_
    rintro e w1 ⟨rfl, hO1⟩
    have hO1' := Lib.hid hO1
    clear hO1
    go_wp2_with fail
    refine (hfew.out _).mono ?_
    rintro e w1b ⟨rfl, hw1⟩
    subst hw1
    have htx := Lib.hid (text_any (cap := cap) optT (hl'.out.new hO1'.out) hn'.out h80 (fun x hx => one_ok (hb'.out.new hO1'.out) x (hfit'.out x hx).1 (hfit'.out x hx).2) (fun x hx => by have := gOf_len x (hfit'.out x hx).1 (hfit'.out x hx).2; omega))
    go_wp2_with fail
    refine htx.out.mono ?_
    rintro e w2 ⟨rfl, hO2⟩
    have hO2' := Lib.hid (hO1'.out.trans' hO2)
    clear hO2
    obtain ⟨S, hS⟩ : ∃ S, S = (if allB optT l = true then toBA (preT (gOf optT) l) else ⟨#[]⟩) := ⟨_, rfl⟩
    obtain ⟨V, hV⟩ : ∃ V, V = allB optT l := ⟨_, rfl⟩
    have hrt := Lib.hid (rtext_any (cap := cap) (hl'.out.new hO2'.out) hn'.out h80 hfit'.out)
    unfold TextEnd at hrt
    rw [← hS, ← hV] at hrt
    rw [← hS, ← hV]
    have hS' := Lib.hid hS
    have hV' := Lib.hid hV
    clear hS hV
    go_wp2_with fail
    refine hrt.out.mono ?_
    rintro e w3 ⟨rfl, hO3⟩
    have hO3' := Lib.hid (hO2'.out.trans' hO3)
    clear hO3
    have ss : (S.toList != S.toList) = false := by simp
    have vv : (V != V) = false := by simp
    cases V with
    | false =>
      go_wp2
      go_ret
      exact ⟨rfl, hO3'.out⟩
    | true =>
      have hall := Lib.hid hV'.out.symm
      by_cases h0 : n = 0
      · have h0' : (n : Int) = 0 := by omega
        have hz : ((n : Int) == 0) = true := by simpa using h0'
        clear h0'
        go_wp2
        go_ret
        exact ⟨rfl, hO3'.out⟩
      · have hz : ((n : Int) == 0) = false := by simp; omega
        go_wp2
        go_loopw [43] (fun i wr => ∃ k : Nat, k ≤ n ∧ i = .int .i64 k ∧ (∀ j x, j < k → l[j]? = some x → x.a ≤ 999999999 ∧ x.b ≤ 999999999) ∧ Only (fun _ => False) w wr) (fun i _ => n - (intOf i).toNat)
        case atStart => exact ⟨0, Nat.zero_le _, rfl, fun j x hj => by omega, hO3'.out⟩
        case round =>
          obtain ⟨k, hk, rfl, hsm, hO⟩ := hrel
          obtain ⟨ws, hws⟩ : ∃ ws : World, ws = wr := ⟨_, rfl⟩
          subst hws
          have hO' := Lib.hid hO
          have hsm' := Lib.hid hsm
          clear hO hsm
          by_cases hkn : k < n
          · have hkn' : (k : Int) < (n : Int) := by omega
            obtain ⟨x, hx⟩ : ∃ x, l[k]? = some x := ⟨l[k]'(by have := hn'.out; omega), List.getElem?_eq_getElem _⟩
            obtain ⟨bb, off, hAe, hbb, q0, q1, q2⟩ := (hl'.out.new hO'.out) k x hx
            subst hAe
            have hx' := Lib.hid hx
            clear hx
            by_cases ha : 999999999 < x.a
            · go_wp2
              go_ret
              exact ⟨rfl, hO'.out.alloc _⟩
            · by_cases hbx : 999999999 < x.b
              · go_wp2
                go_ret
                exact ⟨rfl, hO'.out.alloc _⟩
              · have hnx := Lib.hid (show ∀ j y, j < k + 1 → l[j]? = some y → y.a ≤ 999999999 ∧ y.b ≤ 999999999 from fun j y hj hy => by
                  by_cases hjk : j < k
                  · exact hsm'.out j y hjk hy
                  · obtain rfl : j = k := by omega
                    rw [hx'.out] at hy
                    cases hy
                    exact ⟨by omega, by omega⟩)
                go_wp2
                go_roundw
                case rel => exact ⟨k + 1, by omega, by go_num, hnx.out, hO'.out.alloc _⟩
                case measure => simp [intOf]; omega
          · obtain rfl : k = n := by omega
            have hsh : ∀ x ∈ l, Short x := fun x hx => by
              obtain ⟨j, hj⟩ := List.getElem?_of_mem hx
              have hjl := (List.getElem?_eq_some_iff.1 hj).1
              have hs := hsm'.out j x (by have := hn'.out; omega) hj
              have hok : okT x = true := by
                have h := hall.out
                unfold allB at h
                have h2 := List.all_eq_true.1 h x hx
                unfold optT at h2
                split at h2
                · assumption
                · simp at h2
              exact short_of hok hs.1 hs.2
            have hps := Lib.hid (parse_any (hb'.out.new hO'.out) l hsh (by have := hn'.out; omega) (by have := hn'.out; omega))
            have hSe : toBA (leftT l 0) = S := by
              rw [hS'.out, hall.out, if_pos rfl, preT_all hall.out]
            rw [hSe] at hps
            clear hSe hsh
            go_wp2_with fail
            refine hps.out.mono ?_
            rintro e w4 ⟨p, cap2, h, rfl, hW, hf, hO4⟩
            have hsa := Lib.hid (same_any (c1 := cap) (c2 := cap2) (hl'.out.new (hO'.out.trans' hO4)) (row_of_win hW) hn'.out h80)
            rw [hn'.out]
            have hO4' := Lib.hid (hO'.out.trans' hO4)
            clear hW hf hO4
            go_wp2_with fail
            refine hsa.out.mono ?_
            rintro e w5 ⟨rfl, hO5⟩
            have hO5' := Lib.hid (hO4'.out.trans' hO5)
            clear hO5
            go_wp2
            go_ret
            exact ⟨rfl, hO5'.out⟩
  · have hfew := Lib.hid (fun W => few_any W A n cap (v := false) (by simpa using h80))
    go_enter Tryd.func4, Tryd.ntmps4
    go_wp2_with fail
    refine (fixed_any hb'.out).mono ?_
    rintro e w1 ⟨rfl, hO1⟩
    have hO1' := Lib.hid hO1
    clear hO1
    go_wp2_with fail
    refine (hfew.out _).mono ?_
    rintro e w1b ⟨rfl, hw1⟩
    subst hw1
    go_wp2
    go_ret
    exact ⟨rfl, hO1'.out⟩
end Go.Proofs.YtmkdboiajjkghaaDoor
