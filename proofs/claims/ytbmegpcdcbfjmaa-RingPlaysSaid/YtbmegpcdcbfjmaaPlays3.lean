/- RingPlays' walk: whatever is put and taken, each answer is a plain row's. -/
import Derived.Test.YtbmegpcdcbfjmaaFixed3
import Derived.Test.YtbmegpcdcbfjmaaRowed
import Derived.Test.YtbmegpcdcbfjmaaWin
import Derived.Deep.CutRange
import Derived.Deep.DeepCutAuto
namespace Go.Proofs.Ytbmegpcdcbfjmaa.Plays3
open Go.RowKit RingI

set_option maxRecDepth 100000 in
theorem plays_long (A A2 : Option Addr) (len cap len2 cap2 : Nat) (room : Int) (w : World) (hl : 200 < len) :
    Calls Try.prog 3 #[.int .i64 room, .slice A len cap, .slice A2 len2 cap2] w fun e w' => e = .returned (.bool true) ∧ Below w.heap.size w w' := by
  go_enter Try.func3, Try.ntmps3
  go_wp2_with (go_at_call 7; refine (fixed_any _).mono ?_; rintro e w1 ⟨rfl, hb1⟩; have hb1' := Lib.hid hb1; clear hb1)
  go_ret
  exact ⟨rfl, hb1'.out⟩

set_option maxRecDepth 100000 in
theorem plays_none (A A2 : Option Addr) (len cap len2 cap2 : Nat) (room : Int) (w : World) (hl : len ≤ 200) (hr : room < 0 ∨ 4096 < room) :
    Calls Try.prog 3 #[.int .i64 room, .slice A len cap, .slice A2 len2 cap2] w fun e w' => e = .returned (.bool true) ∧ Below w.heap.size w w' := by
  have hnew := fun W : World => new_no room W hr
  have hput := fun W : World => put_nil 1 W
  unfold mk at hput
  have hnew' := Lib.hid hnew
  have hput' := Lib.hid hput
  clear hnew hput
  by_cases h0 : room < 0
  · clear hr
    go_enter Try.func3, Try.ntmps3
    go_wp2_with (first | (go_at_call 7; refine (fixed_any _).mono ?_; rintro e w1 ⟨rfl, hb1⟩; have hb1' := Lib.hid hb1; clear hb1) | (go_at_call 8; refine (hnew'.out _).mono ?_; rintro e w' ⟨rfl, hw⟩; subst w') | (go_at_call 9; refine (take_nil _).mono ?_; rintro e w' ⟨rfl, hw⟩; subst w') | (go_at_call 10; refine (first_nil _).mono ?_; rintro e w' ⟨rfl, hw⟩; subst w') | (go_at_call 11; refine (hput'.out _).mono ?_; rintro e w' ⟨rfl, hw⟩; subst w') | (go_at_call 12; refine (len_nil _).mono ?_; rintro e w' ⟨rfl, hw⟩; subst w') | (go_at_call 13; refine (room_nil _).mono ?_; rintro e w' ⟨rfl, hw⟩; subst w') | (go_at_call 14; refine (all_nil _).mono ?_; rintro e w' ⟨rfl, hw⟩; subst w'))
    go_ret
    exact ⟨rfl, hb1'.out⟩
  · have h1 : 4096 < room := by omega
    clear hr
    go_enter Try.func3, Try.ntmps3
    go_wp2_with (first | (go_at_call 7; refine (fixed_any _).mono ?_; rintro e w1 ⟨rfl, hb1⟩; have hb1' := Lib.hid hb1; clear hb1) | (go_at_call 8; refine (hnew'.out _).mono ?_; rintro e w' ⟨rfl, hw⟩; subst w') | (go_at_call 9; refine (take_nil _).mono ?_; rintro e w' ⟨rfl, hw⟩; subst w') | (go_at_call 10; refine (first_nil _).mono ?_; rintro e w' ⟨rfl, hw⟩; subst w') | (go_at_call 11; refine (hput'.out _).mono ?_; rintro e w' ⟨rfl, hw⟩; subst w') | (go_at_call 12; refine (len_nil _).mono ?_; rintro e w' ⟨rfl, hw⟩; subst w') | (go_at_call 13; refine (room_nil _).mono ?_; rintro e w' ⟨rfl, hw⟩; subst w') | (go_at_call 14; refine (all_nil _).mono ?_; rintro e w' ⟨rfl, hw⟩; subst w'))
    go_ret
    exact ⟨rfl, hb1'.out⟩

/-- What holds of a world in which the ring at r and the plain row v tell the same. -/
def Rel (W : World) (B r room : Nat) (v : Value) (wr : World) : Prop :=
  ∃ (q : List Int) (o h : Option Nat), RingAt wr r o room q ∧ Win wr 3 1 v h q.length (q.map mk) ∧ (∀ k, h = some k → ¬ fp r o k ∧ B ≤ k) ∧ (∀ k, fp r o k → B ≤ k) ∧ Only (fun k => B ≤ k) W wr

theorem rel_take {W ws w3 : World} {B r room n cap : Nat} {x : Int} {q : List Int} {o h : Option Nat} {p : Option Addr} (hn : n = (x :: q).length)
    (hW : ∃ h', Win ws 3 1 (.slice (if cap = 1 then p else p.map (·.add (1 * 1))) (n - 1) (cap - 1)) h' (n - 1) (((x :: q).map mk).drop (1 * 1)) ∧ (h' = h ∨ h' = none))
    (hd : ∀ k, h = some k → ¬ fp r o k ∧ B ≤ k) (hfp : ∀ k, fp r o k → B ≤ k) (hO : Only (fun k => B ≤ k) W ws) (hR : RingAt w3 r o room q) (ho : Only (fp r o) ws w3) :
    Rel W B r room (.slice (if cap = 1 then p else p.map (·.add (1 * 1))) (n - 1) (cap - 1)) w3 := by
  obtain ⟨h', hW', hh⟩ := hW
  have hd' : ∀ k, h' = some k → ¬ fp r o k ∧ B ≤ k := fun k hk => by
    rcases hh with rfl | rfl
    · exact hd k hk
    · cases hk
  have e1 : n - 1 = q.length := by rw [hn]; simp
  have e2 : ((x :: q).map mk).drop (1 * 1) = q.map mk := by simp
  rw [e2] at hW'
  rw [e1] at hW' ⊢
  exact ⟨q, o, h', hR, hW'.kept ho (fun k hk => (hd' k hk).1), hd', hfp, hO.trans ho (fun k _ hk => hfp k hk)⟩
theorem rel_put {W ws w3 w4 : World} {B r room n : Nat} {x : Int} {q : List Int} {o o' h h' : Option Nat} {v' : Value} {ob : Obj} (hn : n = q.length)
    (hW : Win w4 3 1 v' h' (n + 1) (q.map mk ++ [mk x])) (hd : ∀ k, h = some k → ¬ fp r o k ∧ B ≤ k) (hlt : ∀ k, h = some k → k < ws.heap.size) (hfp : ∀ k, fp r o k → B ≤ k) (hO : Only (fun k => B ≤ k) W ws) (hB : B ≤ ws.heap.size)
    (hR : RingAt w3 r o' room (q ++ [x])) (hoo : o' = o ∨ o' = some ws.heap.size) (ho : Only (fp r o) ws w3) (ho4 : Only (fun k => some k = h) (w3.alloc ob) w4) (hh : h' = h ∨ ∃ g, h' = some g ∧ (w3.alloc ob).heap.size ≤ g) :
    Rel W B r room v' w4 := by
  have hs := ho.size
  have hfp' : ∀ k, fp r o' k → B ≤ k ∧ ¬ some k = h := by
    rintro k (rfl | hk)
    · exact ⟨hfp _ (.inl rfl), fun e => (hd _ e.symm).1 (.inl rfl)⟩
    · rcases hoo with rfl | rfl
      · exact ⟨hfp _ (.inr hk), fun e => (hd _ e.symm).1 (.inr hk)⟩
      · cases hk
        exact ⟨hB, fun e => by have := hlt _ e.symm; omega⟩
  have hlt3 := hR.lt
  have hRa : RingAt (w3.alloc ob) r o' room (q ++ [x]) := hR.kept ((Only.refl (fun _ => False) w3).alloc ob) (fun _ _ h => h)
  refine ⟨q ++ [x], o', h', hRa.kept ho4 (fun k hk => (hfp' k hk).2), ?_, ?_, fun k hk => (hfp' k hk).1, ?_⟩
  · rw [List.map_append, List.length_append, ← hn]
    exact hW
  · intro k hk
    rcases hh with rfl | ⟨g, rfl, hg⟩
    · refine ⟨?_, (hd k hk).2⟩
      rintro (rfl | hk')
      · exact (hd _ hk).1 (.inl rfl)
      · rcases hoo with rfl | rfl
        · exact (hd _ hk).1 (.inr hk')
        · cases hk'; have := hlt _ hk; omega
    · cases hk
      rw [alloc_size] at hg
      exact ⟨fun hf => by have := hlt3 _ hf; omega, by omega⟩
  · exact ((hO.trans ho (fun k _ hk => hfp k hk)).alloc ob).trans ho4 (fun k _ hk => (hd k hk.symm).2)

theorem info3 : (Try.prog.info? 3).map (fun i => (i.zero, i.size, i.bytes)) = some (some (Value.int .i64 0), 1, 8) := by kernel_rfl

set_option maxRecDepth 100000 in
set_option maxHeartbeats 1000000 in
theorem plays_some (A A2 : Option Addr) (len cap len2 cap2 room : Nat) (zs : Nat → Int) (bs : Nat → Bool) (w : World) (hl : len ≤ 200) (hr : room ≤ 4096) (hA : Row w A len (fun i => .int .i64 (zs i))) (hA2 : Row w A2 len2 (fun i => .bool (bs i))) :
    Calls Try.prog 3 #[.int .i64 room, .slice A len cap, .slice A2 len2 cap2] w fun e w' => e = .returned (.bool true) ∧ Below w.heap.size w w' := by
  have hnew := fun W : World => new_ok room W hr
  have hnew' := Lib.hid hnew
  have hA' := Lib.hid hA
  have hA2' := Lib.hid hA2
  have hr0 : ¬ (room : Int) < 0 := by omega
  have hr1 : ¬ 4096 < (room : Int) := by omega
  clear hnew hA hA2
  go_enter Try.func3, Try.ntmps3
  go_wp2_with (go_at_call 7; refine (fixed_any _).mono ?_; rintro e w1 ⟨rfl, hb1⟩; have hb1' := Lib.hid hb1; clear hb1)
  refine (hnew'.out _).mono ?_
  rintro e w2 ⟨rfl, hR2, ho2⟩
  obtain ⟨r, hrr⟩ : ∃ r, r = w1.heap.size := ⟨_, rfl⟩
  rw [← hrr] at hR2 ⊢
  obtain ⟨B, hBe⟩ : ∃ B, B = w.heap.size := ⟨_, rfl⟩
  have hrel : Rel w B r room (.slice none 0 0) w2 := by
    have h1 : B ≤ r := by rw [hBe, hrr]; exact hb1'.out.size
    refine ⟨[], none, none, hR2, Win.nil _ _ _, (fun k h => by cases h), ?_, (Only.of_new hb1'.out _).trans ho2 (fun _ _ h => h.elim)⟩
    rintro k (rfl | h)
    · exact h1
    · cases h
  have hrel' := Lib.hid hrel
  have hBe' := Lib.hid hBe
  clear hrel hBe hrr hR2 ho2
  go_wp2
  go_loopw [12, 74] (fun v i wr => ∃ k : Nat, k ≤ len ∧ i = .int .i64 k ∧ Rel w B r room v wr) (fun _ i _ => len - (intOf i).toNat)
  case atStart => exact ⟨0, Nat.zero_le _, rfl, hrel'.out⟩
  case round =>
    obtain ⟨k, hk, rfl, hrel⟩ := hrel
    obtain ⟨ws, hws⟩ : ∃ ws : World, ws = wr := ⟨_, rfl⟩
    subst hws
    have hO : Only (fun k => B ≤ k) w ws := by obtain ⟨_, _, _, _, _, _, _, h⟩ := hrel; exact h
    have hRowk := Lib.hid (hA'.out.only hO (fun _ h => by have := hBe'.out; omega))
    have hRow2 := Lib.hid (hA2'.out.only hO (fun _ h => by have := hBe'.out; omega))
    have hrelk := Lib.hid hrel
    clear hrel hO
    by_cases hlt : k < len
    · obtain ⟨b, off, rfl, hc, _⟩ := hRowk.out k hlt
      replace hc : ws.cell? ⟨b, off + k, none⟩ = some (.int .i64 (zs k)) := hc
      obtain ⟨t, ht⟩ : ∃ t, t = (decide (k < len2) && bs k) := ⟨_, rfl⟩
      by_cases h2 : k < len2
      · obtain ⟨b2, off2, rfl, hc2, _⟩ := hRow2.out k h2
        replace hc2 : ws.cell? ⟨b2, off2 + k, none⟩ = some (.bool t) := by rw [ht, hc2]; simp [h2]
        have h2' : (k : Int) < (len2 : Int) := by omega
        have ht' := Lib.hid ht
        clear ht hRow2 hRowk
        go_upto_if 88 with fail
        go_cut [12, 74] from 75 to 195 (fun v i wc => i = .int .i64 k ∧ Rel w B r room v wc)
        case first =>
          obtain ⟨q, o, h, hR, hW, hd, hfp, hO⟩ := hrelk.out
          cases t with
          | true =>
            cases q with
            | nil =>
              obtain ⟨p, cap', rfl, hp1, hp2⟩ := hW.form
              have htk := Lib.hid (take_none hR)
              have hend := Lib.hid (show Rel w B r room (.slice p 0 cap') ws from ⟨[], o, h, hR, hW, hd, hfp, hO⟩)
              clear hR hW hd hfp hO
              go_wp2_with (go_at_call 9; refine htk.out.mono ?_; rintro e w' ⟨rfl, hw⟩; subst w')
              go_meet
              case rel => exact ⟨rfl, hend.out⟩
            | cons x q' =>
              obtain ⟨g, og, cap', hh, rfl, hn1, hn2, hg1, hcell, hfree⟩ := hW.at_ (by simp)
              have htk := Lib.hid (take_some hR)
              have hc0 : ws.cell? ⟨g, og, none⟩ = some (.int .i64 x) := hcell 0 _ rfl
              have hcx : ∀ w3, Only (fp r o) ws w3 → w3.cell? ⟨g, og, none⟩ = some (.int .i64 x) := fun w3 h3 => h3.cell hc0 ((hd g hh).1)
              obtain ⟨n, hn⟩ : ∃ n, n = (x :: q').length := ⟨_, rfl⟩
              rw [← hn] at hn1 hW ⊢
              have hn0 : ((n : Int) == 0) = false := by rw [hn]; simp; omega
              have hn1' : (1 : Int) ≤ (n : Int) := by rw [hn]; simp; omega
              have hdrop := hW.drop (k := 1) (by omega)
              have hH := Lib.hid (And.intro hdrop (And.intro hd (And.intro hfp hO)))
              have hcx' := Lib.hid hcx
              have hn' := Lib.hid hn
              clear hdrop hd hfp hO hcx hW hR hcell hfree hn
              by_cases hc1 : cap' = 1
              · have hend : ∀ w3, RingAt w3 r o room q' → Only (fp r o) ws w3 → Rel w B r room (.slice (some ⟨g, og, none⟩) 0 0) w3 := fun w3 h3 h4 => by
                  have := rel_take hn'.out hH.out.1 hH.out.2.1 hH.out.2.2.1 hH.out.2.2.2 h3 h4
                  rw [if_pos hc1, show n - 1 = 0 by omega, show cap' - 1 = 0 by omega] at this
                  exact this
                have hend' := Lib.hid hend
                clear hend
                subst hc1
                go_wp2_with (go_at_call 9; refine htk.out.mono ?_; rintro e w3 ⟨rfl, hR3, ho3⟩; simp only [mk]; have hc3 := hcx'.out _ ho3; have hR3' := Lib.hid hR3; have ho3' := Lib.hid ho3; clear hR3 ho3)
                go_meet
                case rel => exact ⟨rfl, hend'.out _ hR3'.out ho3'.out⟩
              · have hc1' : ¬ (cap' : Int) = 1 := by omega
                have hend : ∀ w3, RingAt w3 r o room q' → Only (fp r o) ws w3 → Rel w B r room (.slice (some ⟨g, og + 1, none⟩) (n - 1) (cap' - 1)) w3 := fun w3 h3 h4 => by
                  have := rel_take hn'.out hH.out.1 hH.out.2.1 hH.out.2.2.1 hH.out.2.2.2 h3 h4
                  rw [if_neg hc1] at this
                  simpa [Addr.add_lit] using this
                have hend' := Lib.hid hend
                clear hend
                go_wp2_with (go_at_call 9; refine htk.out.mono ?_; rintro e w3 ⟨rfl, hR3, ho3⟩; simp only [mk]; have hc3 := hcx'.out _ ho3; have hR3' := Lib.hid hR3; have ho3' := Lib.hid ho3; clear hR3 ho3)
                go_meet
                case rel => exact ⟨rfl, hend'.out _ hR3'.out ho3'.out⟩
          | false =>
            by_cases hfull : q.length = room
            · rw [hfull] at hW
              obtain ⟨p, cap', rfl, hp1, hp2⟩ := hW.form
              have hput := Lib.hid (put_full hR hfull (zs k))
              have hend : ∀ m, Rel w B r room (.slice p room cap') (ws.drewN m) := fun m => ⟨q, o, h, hR, by rw [hfull]; exact hW, hd, hfp, hO.drewN m⟩
              have hend' := Lib.hid hend
              have hrr : ((room : Int) == (room : Int)) = true := by simp
              clear hR hW hd hfp hO hfull hend
              go_wp2_with (go_at_call 11; refine hput.out.mono ?_; rintro e _ ⟨rfl, m, rfl⟩)
              go_meet
              case rel => exact ⟨rfl, hend'.out m⟩
            · obtain ⟨p, cap', rfl, hp1, hp2⟩ := hW.form
              have hb := hR.bounds
              have hput := Lib.hid (put_any hR (by omega) (zs k))
              obtain ⟨n, hn⟩ : ∃ n, n = q.length := ⟨_, rfl⟩
              rw [← hn] at hW hfull hb ⊢
              have hnr : ((n : Int) == (room : Int)) = false := by simp; omega
              have hWk : ∀ (w3 : World) (ob : Obj), Only (fp r o) ws w3 → Win (w3.alloc ob) 3 1 (.slice p n cap') h n (q.map mk) := fun w3 ob h3 =>
                hW.kept (h3.alloc ob) (fun k hk => (hd k hk).1)
              have hB : B ≤ ws.heap.size := by have := hO.size; have := hBe'.out; omega
              have hH := Lib.hid (And.intro hW.lt (And.intro hd (And.intro hfp (And.intro hO hB))))
              have hWk' := Lib.hid hWk
              have hn' := Lib.hid hn
              have hb' := Lib.hid hb
              clear hR hW hd hfp hO hfull hWk hB hn hb
              go_wp2_with (first | (go_at_call 11; refine hput.out.mono ?_; rintro e w3 ⟨rfl, o3, hR3, hoo, ho3⟩; have hR3' := Lib.hid hR3; have hoo' := Lib.hid hoo; have ho3' := Lib.hid ho3; clear hR3 hoo ho3) | (at_builtin; refine wpList_append_win rfl _ _ 22 rfl 3 (Value.int .i64 0) 1 8 Try.underlying22 info3 rfl (by decide) rfl (hWk'.out _ _ ho3'.out) _ 1 1 rfl [Value.int .i64 (zs k)] rfl (fun _ => ⟨_, rfl, cell_one_new _ _ _⟩) (by simp [Value.oneCell']) (by have := hb'.out; unfold maxLen; omega) (by have := hb'.out; omega) ?_; intro v' w4 h4 hW4 hO4 hh4))
              go_meet
              case rel => exact ⟨rfl, rel_put hn'.out hW4.out hH.out.2.1 hH.out.1 hH.out.2.2.1 hH.out.2.2.2.1 hH.out.2.2.2.2 hR3'.out hoo'.out ho3'.out hO4.out hh4.out⟩
        case rest =>
          obtain ⟨rfl, hrel⟩ := hcut
          obtain ⟨wd, hwd⟩ : ∃ wd : World, wd = wc := ⟨_, rfl⟩
          subst hwd
          obtain ⟨q, o, h, hR, hW, hd, hfp, hO⟩ := id hrel
          have hrelc := Lib.hid hrel
          clear hrel
          cases q with
          | nil =>
            obtain ⟨p, cap', rfl, hp1, hp2⟩ := hW.form
            have hall := Lib.hid (all_none hR)
            have hfirst := Lib.hid (first_none hR)
            have hlen := Lib.hid (len_any hR)
            have hroom := Lib.hid (room_any hR)
            have hrr : ((room : Int) == (room : Int)) = true := by simp
            clear hR hW hd hfp hO
            go_wp2_with (first | (go_at_call 14; refine hall.out.mono ?_; rintro e w' ⟨rfl, hw⟩; subst w') | (go_at_call 10; refine hfirst.out.mono ?_; rintro e w' ⟨rfl, hw⟩; subst w') | (go_at_call 12; refine hlen.out.mono ?_; rintro e w' ⟨rfl, hw⟩; subst w') | (go_at_call 13; refine hroom.out.mono ?_; rintro e w' ⟨rfl, hw⟩; subst w'))
            go_loopw [182] (fun i wl => i = .int .i64 0 ∧ wl = wd) (fun _ _ => 0)
            case atStart => exact ⟨rfl, rfl⟩
            case round =>
              obtain ⟨rfl, rfl⟩ := hrel
              go_wp2
              go_roundw
              case rel => exact ⟨k + 1, by omega, by go_num, hrelc.out⟩
              case measure => simp [intOf]; omega
          | cons x q' =>
            obtain ⟨g, og, cap', hh, rfl, hn1, hn2, hg1, hcell, hfree⟩ := hW.at_ (by simp)
            obtain ⟨Q, hQ⟩ : ∃ Q, Q = x :: q' := ⟨_, rfl⟩
            have hall := all_some hR
            have hfirst := Lib.hid (first_some hR)
            have hx0 : wd.cell? ⟨g, og, none⟩ = some (.int .i64 x) := hcell 0 _ rfl
            have hb := hR.bounds
            rw [← hQ] at hall hcell hn1 hrelc hR hb ⊢
            have hQ' := Lib.hid hQ
            obtain ⟨n, hn⟩ : ∃ n, n = Q.length := ⟨_, rfl⟩
            have hlen := len_any hR
            have hroom := Lib.hid (room_any hR)
            unfold AllEnd at hall
            rw [← hn] at hall hn1 hlen hrelc hb ⊢
            have hn0 : 0 < n := by rw [hn, hQ]; simp
            have hlen' := Lib.hid hlen
            have hall' := Lib.hid hall
            have hcell' := Lib.hid hcell
            have hrr : ((room : Int) == (room : Int)) = true := by simp
            have hnn : ((n : Int) == (n : Int)) = true := by simp
            have hn0' : (0 : Int) < (n : Int) := by omega
            have hn4 : n ≤ 4096 := by omega
            have hb' := Lib.hid hb
            have hk1 : ∀ w3, Only (fun _ => False) wd w3 → Rel w B r room (.slice (some ⟨g, og, none⟩) n cap') w3 ∧ RingAt w3 r o room Q ∧ ∀ i u, (Q.map mk)[i]? = some u → w3.cell? ⟨g, og + i, none⟩ = some u := fun w3 h3 => by
              refine ⟨?_, hR.kept h3 (fun _ _ h => h), fun i u hu => h3.cell (hcell i u hu) (fun h => h)⟩
              rw [← hQ, ← hn] at hW
              refine ⟨Q, o, h, hR.kept h3 (fun _ _ h => h), ?_, hd, hfp, hO.trans h3 (fun _ _ h => h.elim)⟩
              rw [← hn]
              exact hW.kept h3 (fun _ _ h => h)
            have hk1' := Lib.hid hk1
            have hn' := Lib.hid hn
            clear hQ hlen hall hcell hb hk1 hW hR hd hfp hO hn hfree
            go_wp2_with (first | (go_at_call 14; refine hall'.out.mono ?_; rintro e w3 ⟨rfl, hrow3, ho3⟩; obtain ⟨hr3, hR3, hc3⟩ := hk1'.out _ ho3; have hx3 := hc3 0 _ (by rw [hQ'.out]; rfl); simp only [Nat.add_zero, mk] at hx3; have hf3 := Lib.hid (first_some (hQ'.out ▸ hR3)); have hl3 := fun m => len_any (hR3.drewN m); rw [← hn'.out] at hl3; have hl3' := Lib.hid hl3; have hm3 := Lib.hid (fun m => room_any (hR3.drewN m)); have hr3' := Lib.hid hr3; have hc3' := Lib.hid hc3; have hrow3' := Lib.hid hrow3; obtain ⟨g2, hg2⟩ : ∃ g2, g2 = wd.heap.size := ⟨_, rfl⟩; rw [← hg2] at hrow3' ⊢; clear hg2 hr3 hc3 hrow3 ho3 hR3 hl3 hx0) | (go_at_call 10; refine hf3.out.mono ?_; rintro e _ ⟨rfl, m, rfl⟩; simp only [mk]) | (go_at_call 12; refine (hl3'.out _).mono ?_; rintro e w' ⟨rfl, hw⟩; subst w') | (go_at_call 13; refine (hm3.out _).mono ?_; rintro e w' ⟨rfl, hw⟩; subst w'))
            go_loopw [182] (fun i wl => ∃ j : Nat, j ≤ n ∧ i = .int .i64 j ∧ ∃ m, wl = w3.drewN m) (fun i _ => n - (intOf i).toNat)
            case atStart => exact ⟨0, Nat.zero_le _, rfl, _, rfl⟩
            case round =>
              obtain ⟨j, hj, rfl, m2, rfl⟩ := hrel
              by_cases hjn : j < n
              · obtain ⟨y, hy⟩ : ∃ y, Q[j]? = some y := ⟨Q[j]'(by have := hn'.out; omega), List.getElem?_eq_getElem _⟩
                have hy' : (Q.map mk)[j]? = some (.int .i64 y) := by simp [hy, mk]
                have hyr : w3.cell? ⟨g, og + j, none⟩ = some (.int .i64 y) := hc3'.out j _ hy'
                have hya : w3.cell? ⟨g2, j, none⟩ = some (.int .i64 y) := row_cell hrow3'.out hy'
                have hjn' : (j : Int) < (n : Int) := by omega
                clear hy hy' hx3
                go_wp2
                go_quiet (fail)
                go_wp2
                go_roundw
                case rel => exact ⟨j + 1, by omega, by go_num, _, rfl⟩
                case measure => simp [intOf]; omega
              · obtain rfl : j = n := by omega
                go_wp2
                go_roundw
                case rel =>
                  refine ⟨k + 1, by omega, by go_num, ?_⟩
                  obtain ⟨q, o, h, e1, e2, e3, e4, e5⟩ := hr3'.out
                  exact ⟨q, o, h, e1.drewN _, e2.same rfl, e3, e4, e5.drewN _⟩
                case measure => simp [intOf]; omega
      · have h2' : ¬ (k : Int) < (len2 : Int) := by omega
        clear ht hRow2 hRowk
        go_upto_if 88 with fail
        go_cut [12, 74] from 75 to 195 (fun v i wc => i = .int .i64 k ∧ Rel w B r room v wc)
        case first =>
          obtain ⟨q, o, h, hR, hW, hd, hfp, hO⟩ := hrelk.out
          by_cases hfull : q.length = room
          · rw [hfull] at hW
            obtain ⟨p, cap', rfl, hp1, hp2⟩ := hW.form
            have hput := Lib.hid (put_full hR hfull (zs k))
            have hend : ∀ m, Rel w B r room (.slice p room cap') (ws.drewN m) := fun m => ⟨q, o, h, hR, by rw [hfull]; exact hW, hd, hfp, hO.drewN m⟩
            have hend' := Lib.hid hend
            have hrr : ((room : Int) == (room : Int)) = true := by simp
            clear hR hW hd hfp hO hfull hend
            go_wp2_with (go_at_call 11; refine hput.out.mono ?_; rintro e _ ⟨rfl, m, rfl⟩)
            go_meet
            case rel => exact ⟨rfl, hend'.out m⟩
          · obtain ⟨p, cap', rfl, hp1, hp2⟩ := hW.form
            have hb := hR.bounds
            have hput := Lib.hid (put_any hR (by omega) (zs k))
            obtain ⟨n, hn⟩ : ∃ n, n = q.length := ⟨_, rfl⟩
            rw [← hn] at hW hfull hb ⊢
            have hnr : ((n : Int) == (room : Int)) = false := by simp; omega
            have hWk : ∀ (w3 : World) (ob : Obj), Only (fp r o) ws w3 → Win (w3.alloc ob) 3 1 (.slice p n cap') h n (q.map mk) := fun w3 ob h3 =>
              hW.kept (h3.alloc ob) (fun k hk => (hd k hk).1)
            have hB : B ≤ ws.heap.size := by have := hO.size; have := hBe'.out; omega
            have hH := Lib.hid (And.intro hW.lt (And.intro hd (And.intro hfp (And.intro hO hB))))
            have hWk' := Lib.hid hWk
            have hn' := Lib.hid hn
            have hb' := Lib.hid hb
            clear hR hW hd hfp hO hfull hWk hB hn hb
            go_wp2_with (first | (go_at_call 11; refine hput.out.mono ?_; rintro e w3 ⟨rfl, o3, hR3, hoo, ho3⟩; have hR3' := Lib.hid hR3; have hoo' := Lib.hid hoo; have ho3' := Lib.hid ho3; clear hR3 hoo ho3) | (at_builtin; refine wpList_append_win rfl _ _ 22 rfl 3 (Value.int .i64 0) 1 8 Try.underlying22 info3 rfl (by decide) rfl (hWk'.out _ _ ho3'.out) _ 1 1 rfl [Value.int .i64 (zs k)] rfl (fun _ => ⟨_, rfl, cell_one_new _ _ _⟩) (by simp [Value.oneCell']) (by have := hb'.out; unfold maxLen; omega) (by have := hb'.out; omega) ?_; intro v' w4 h4 hW4 hO4 hh4))
            go_meet
            case rel => exact ⟨rfl, rel_put hn'.out hW4.out hH.out.2.1 hH.out.1 hH.out.2.2.1 hH.out.2.2.2.1 hH.out.2.2.2.2 hR3'.out hoo'.out ho3'.out hO4.out hh4.out⟩
        case rest =>
          obtain ⟨rfl, hrel⟩ := hcut
          obtain ⟨wd, hwd⟩ : ∃ wd : World, wd = wc := ⟨_, rfl⟩
          subst hwd
          obtain ⟨q, o, h, hR, hW, hd, hfp, hO⟩ := id hrel
          have hrelc := Lib.hid hrel
          clear hrel
          cases q with
          | nil =>
            obtain ⟨p, cap', rfl, hp1, hp2⟩ := hW.form
            have hall := Lib.hid (all_none hR)
            have hfirst := Lib.hid (first_none hR)
            have hlen := Lib.hid (len_any hR)
            have hroom := Lib.hid (room_any hR)
            have hrr : ((room : Int) == (room : Int)) = true := by simp
            clear hR hW hd hfp hO
            go_wp2_with (first | (go_at_call 14; refine hall.out.mono ?_; rintro e w' ⟨rfl, hw⟩; subst w') | (go_at_call 10; refine hfirst.out.mono ?_; rintro e w' ⟨rfl, hw⟩; subst w') | (go_at_call 12; refine hlen.out.mono ?_; rintro e w' ⟨rfl, hw⟩; subst w') | (go_at_call 13; refine hroom.out.mono ?_; rintro e w' ⟨rfl, hw⟩; subst w'))
            go_loopw [182] (fun i wl => i = .int .i64 0 ∧ wl = wd) (fun _ _ => 0)
            case atStart => exact ⟨rfl, rfl⟩
            case round =>
              obtain ⟨rfl, rfl⟩ := hrel
              go_wp2
              go_roundw
              case rel => exact ⟨k + 1, by omega, by go_num, hrelc.out⟩
              case measure => simp [intOf]; omega
          | cons x q' =>
            obtain ⟨g, og, cap', hh, rfl, hn1, hn2, hg1, hcell, hfree⟩ := hW.at_ (by simp)
            obtain ⟨Q, hQ⟩ : ∃ Q, Q = x :: q' := ⟨_, rfl⟩
            have hall := all_some hR
            have hfirst := Lib.hid (first_some hR)
            have hx0 : wd.cell? ⟨g, og, none⟩ = some (.int .i64 x) := hcell 0 _ rfl
            have hb := hR.bounds
            rw [← hQ] at hall hcell hn1 hrelc hR hb ⊢
            have hQ' := Lib.hid hQ
            obtain ⟨n, hn⟩ : ∃ n, n = Q.length := ⟨_, rfl⟩
            have hlen := len_any hR
            have hroom := Lib.hid (room_any hR)
            unfold AllEnd at hall
            rw [← hn] at hall hn1 hlen hrelc hb ⊢
            have hn0 : 0 < n := by rw [hn, hQ]; simp
            have hlen' := Lib.hid hlen
            have hall' := Lib.hid hall
            have hcell' := Lib.hid hcell
            have hrr : ((room : Int) == (room : Int)) = true := by simp
            have hnn : ((n : Int) == (n : Int)) = true := by simp
            have hn0' : (0 : Int) < (n : Int) := by omega
            have hn4 : n ≤ 4096 := by omega
            have hb' := Lib.hid hb
            have hk1 : ∀ w3, Only (fun _ => False) wd w3 → Rel w B r room (.slice (some ⟨g, og, none⟩) n cap') w3 ∧ RingAt w3 r o room Q ∧ ∀ i u, (Q.map mk)[i]? = some u → w3.cell? ⟨g, og + i, none⟩ = some u := fun w3 h3 => by
              refine ⟨?_, hR.kept h3 (fun _ _ h => h), fun i u hu => h3.cell (hcell i u hu) (fun h => h)⟩
              rw [← hQ, ← hn] at hW
              refine ⟨Q, o, h, hR.kept h3 (fun _ _ h => h), ?_, hd, hfp, hO.trans h3 (fun _ _ h => h.elim)⟩
              rw [← hn]
              exact hW.kept h3 (fun _ _ h => h)
            have hk1' := Lib.hid hk1
            have hn' := Lib.hid hn
            clear hQ hlen hall hcell hb hk1 hW hR hd hfp hO hn hfree
            go_wp2_with (first | (go_at_call 14; refine hall'.out.mono ?_; rintro e w3 ⟨rfl, hrow3, ho3⟩; obtain ⟨hr3, hR3, hc3⟩ := hk1'.out _ ho3; have hx3 := hc3 0 _ (by rw [hQ'.out]; rfl); simp only [Nat.add_zero, mk] at hx3; have hf3 := Lib.hid (first_some (hQ'.out ▸ hR3)); have hl3 := fun m => len_any (hR3.drewN m); rw [← hn'.out] at hl3; have hl3' := Lib.hid hl3; have hm3 := Lib.hid (fun m => room_any (hR3.drewN m)); have hr3' := Lib.hid hr3; have hc3' := Lib.hid hc3; have hrow3' := Lib.hid hrow3; obtain ⟨g2, hg2⟩ : ∃ g2, g2 = wd.heap.size := ⟨_, rfl⟩; rw [← hg2] at hrow3' ⊢; clear hg2 hr3 hc3 hrow3 ho3 hR3 hl3 hx0) | (go_at_call 10; refine hf3.out.mono ?_; rintro e _ ⟨rfl, m, rfl⟩; simp only [mk]) | (go_at_call 12; refine (hl3'.out _).mono ?_; rintro e w' ⟨rfl, hw⟩; subst w') | (go_at_call 13; refine (hm3.out _).mono ?_; rintro e w' ⟨rfl, hw⟩; subst w'))
            go_loopw [182] (fun i wl => ∃ j : Nat, j ≤ n ∧ i = .int .i64 j ∧ ∃ m, wl = w3.drewN m) (fun i _ => n - (intOf i).toNat)
            case atStart => exact ⟨0, Nat.zero_le _, rfl, _, rfl⟩
            case round =>
              obtain ⟨j, hj, rfl, m2, rfl⟩ := hrel
              by_cases hjn : j < n
              · obtain ⟨y, hy⟩ : ∃ y, Q[j]? = some y := ⟨Q[j]'(by have := hn'.out; omega), List.getElem?_eq_getElem _⟩
                have hy' : (Q.map mk)[j]? = some (.int .i64 y) := by simp [hy, mk]
                have hyr : w3.cell? ⟨g, og + j, none⟩ = some (.int .i64 y) := hc3'.out j _ hy'
                have hya : w3.cell? ⟨g2, j, none⟩ = some (.int .i64 y) := row_cell hrow3'.out hy'
                have hjn' : (j : Int) < (n : Int) := by omega
                clear hy hy' hx3
                go_wp2
                go_quiet (fail)
                go_wp2
                go_roundw
                case rel => exact ⟨j + 1, by omega, by go_num, _, rfl⟩
                case measure => simp [intOf]; omega
              · obtain rfl : j = n := by omega
                go_wp2
                go_roundw
                case rel =>
                  refine ⟨k + 1, by omega, by go_num, ?_⟩
                  obtain ⟨q, o, h, e1, e2, e3, e4, e5⟩ := hr3'.out
                  exact ⟨q, o, h, e1.drewN _, e2.same rfl, e3, e4, e5.drewN _⟩
                case measure => simp [intOf]; omega
    · go_wp2
      go_ret
      obtain ⟨_, _, _, _, _, _, _, hO⟩ := hrelk.out
      refine ⟨rfl, ?_⟩
      have := hBe'.out
      exact hO.below (Nat.le_refl _) (fun _ h => by omega)

theorem plays (room : Int) (A : Option Addr) (len cap : Nat) (zs : Nat → Int) (A2 : Option Addr) (len2 cap2 : Nat) (bs : Nat → Bool) (w : World) (hr : (Lit.int .i64 room).wf = true) (hA : IntRow .i64 w A len zs) (hA2 : Row w A2 len2 (fun i => .bool (bs i))) :
    Calls Try.prog 3 #[.int .i64 room, .slice A len cap, .slice A2 len2 cap2] w fun e w' => e = .returned (.bool true) ∧ Below w.heap.size w w' := by
  by_cases hl : 200 < len
  · exact plays_long A A2 len cap len2 cap2 room w hl
  · by_cases h : room < 0 ∨ 4096 < room
    · exact plays_none A A2 len cap len2 cap2 room w (by omega) h
    · obtain ⟨n, rfl⟩ : ∃ n : Nat, room = n := ⟨room.toNat, by omega⟩
      exact plays_some A A2 len cap len2 cap2 n zs bs w (by omega) (by omega) hA.row hA2
end Go.Proofs.Ytbmegpcdcbfjmaa.Plays3
