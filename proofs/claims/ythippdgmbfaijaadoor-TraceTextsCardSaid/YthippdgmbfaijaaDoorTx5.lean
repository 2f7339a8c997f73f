/- The document's line of a record. -/
import Derived.Test.YthippdgmbfaijaaDoorTx4
import Derived.Test.YthippdgmbfaijaaDoorStep
namespace Go.Proofs.YthippdgmbfaijaaDoor
open Go Go.RowKit

def NamesEnd (k : Nat) (w : World) (e : Ending) (w' : World) : Prop := ∃ g, e = .returned (.slice (some ⟨g, 0, none⟩) 9 9) ∧ w'.cell? ⟨g, k, none⟩ = some (.string (toBA (tname k))) ∧ g < w'.heap.size ∧ Only (fun _ => False) w w'
set_option maxRecDepth 100000 in
theorem names_any (k : Nat) (hk : k < 9) (w : World) : Calls Tryd.prog 20 #[] w (NamesEnd k w) := by
  have hb := heap_new_at w (.cells ([Value.string ⟨#[]⟩, .string ⟨#[114, 101, 108, 101, 97, 115, 101]⟩, .string ⟨#[108, 111, 115, 116]⟩, .string ⟨#[115, 116, 97, 114, 116]⟩, .string ⟨#[100, 105, 115, 112, 108, 97, 99, 101]⟩, .string ⟨#[114, 101, 115, 117, 109, 101]⟩, .string ⟨#[100, 111, 110, 101]⟩, .string ⟨#[102, 97, 117, 108, 116]⟩, .string ⟨#[99, 97, 108, 108]⟩] : List Value).toArray 9) rfl
  have hc : ([Value.string ⟨#[]⟩, .string ⟨#[114, 101, 108, 101, 97, 115, 101]⟩, .string ⟨#[108, 111, 115, 116]⟩, .string ⟨#[115, 116, 97, 114, 116]⟩, .string ⟨#[100, 105, 115, 112, 108, 97, 99, 101]⟩, .string ⟨#[114, 101, 115, 117, 109, 101]⟩, .string ⟨#[100, 111, 110, 101]⟩, .string ⟨#[102, 97, 117, 108, 116]⟩, .string ⟨#[99, 97, 108, 108]⟩] : List Value)[k]? = some (.string (toBA (tname k))) := by
    match k, hk with
    | 0, _ | 1, _ | 2, _ | 3, _ | 4, _ | 5, _ | 6, _ | 7, _ | 8, _ => rfl
  have hE := Lib.hid (And.intro (row_cell hb hc) (And.intro (row_lt hb) ((Only.refl (fun _ => False) w).alloc (.cells #[Value.string ⟨#[]⟩, .string ⟨#[114, 101, 108, 101, 97, 115, 101]⟩, .string ⟨#[108, 111, 115, 116]⟩, .string ⟨#[115, 116, 97, 114, 116]⟩, .string ⟨#[100, 105, 115, 112, 108, 97, 99, 101]⟩, .string ⟨#[114, 101, 115, 117, 109, 101]⟩, .string ⟨#[100, 111, 110, 101]⟩, .string ⟨#[102, 97, 117, 108, 116]⟩, .string ⟨#[99, 97, 108, 108]⟩] 9))))
  clear hb hc
  go_enter Tryd.func20, Tryd.ntmps20
  go_wp2
  go_ret
  exact ⟨_, rfl, hE.out.1, hE.out.2.1, hE.out.2.2⟩

set_option maxRecDepth 100000 in
set_option maxHeartbeats 1000000 in
theorem rline_any (w : World) (r : RecV) (hf : r.fit) : Calls Tryd.prog 8 #[r.val] w (LineEnd r w) := by
  have hO := (Only.refl (fun _ => False) w).alloc (.cells r.cells.toArray 24)
  have hB := heap_new_at w (.cells r.cells.toArray 24) rfl
  obtain ⟨W1, hW1⟩ : ∃ W1, W1 = w.alloc (.cells r.cells.toArray 24) := ⟨_, rfl⟩
  rw [← hW1] at hO hB
  have hW1' := Lib.hid hW1
  have hO' := Lib.hid hO
  have e0 := row_cell hB (i := 0) rfl
  have e1 := row_cell hB (i := 1) rfl
  have e2 := row_cell hB (i := 2) rfl
  have e3 := row_cell hB (i := 3) rfl
  have e4 := row_cell hB (i := 4) rfl
  have e5 := row_cell hB (i := 5) rfl
  have e6 := row_cell hB (i := 6) rfl
  have hlt := row_lt hB
  clear hW1 hO hB
  unfold RecV.val
  unfold RecV.cells at hW1'
  cases hK : okK r.k with
  | false =>
    have hK' := Lib.hid hK
    have hk : ¬ (1 ≤ r.k ∧ r.k ≤ 8) := of_decide_eq_false hK
    clear hK
    by_cases h1 : r.k < 1
    · clear hk
      go_enter Tryd.func8, Tryd.ntmps8
      go_upto_region 1 with fail
      rw [← hW1'.out]
      go_wp2
      go_ret2
      refine ⟨?_, hO'.out⟩
      rw [hK'.out]
      rfl
    · have h2 : 8 < r.k := by omega
      clear hk
      go_enter Tryd.func8, Tryd.ntmps8
      go_upto_region 1 with fail
      rw [← hW1'.out]
      go_wp2
      go_ret2
      refine ⟨?_, hO'.out⟩
      rw [hK'.out]
      rfl
  | true =>
    have hK' := Lib.hid hK
    obtain ⟨hk1, hk2⟩ : 1 ≤ r.k ∧ r.k ≤ 8 := of_decide_eq_true hK
    clear hK
    obtain ⟨m, hm⟩ : ∃ m : Nat, r.k = m := ⟨r.k.toNat, by omega⟩
    have hfit := Lib.hid hf
    have hit := Lib.hid (fun n hn W => rnumber_any n hn W)
    have hup0 := Lib.hid (show (toBA (Lib.itoa r.at_) ++ (⟨#[32]⟩ : ByteArray)) ++ toBA (tname m) = toBA (upL r 0) from by
      rw [show (⟨#[32]⟩ : ByteArray) = toBA [32] from rfl, toBA_app, toBA_app, upL, hm, Int.toNat_natCast, List.append_assoc])
    have hs1 : (toBA (Lib.itoa r.at_)).size ≤ 20 := by rw [toBA_size]; exact itoa_len hf.at_
    have hs2 : (toBA (tname m)).size ≤ 8 := by rw [toBA_size]; exact (tname_fit (by omega)).2.2
    have hs3 : (⟨#[32]⟩ : ByteArray).size = 1 := rfl
    have hita := Lib.hid (show ∀ W, Only (fun _ => False) W1 W → Calls Tryd.prog 19 #[.int .i64 r.at_] W (fun e w' => e = .returned (.string (toBA (Lib.itoa r.at_))) ∧ Only (fun _ => False) W1 w') from fun W hW => (hit.out r.at_ hf.at_ W).mono fun _ _ h => ⟨h.1, hW.trans' h.2⟩)
    have hnm := Lib.hid (show ∀ W, Only (fun _ => False) W1 W → Calls Tryd.prog 20 #[] W (fun e w' => ∃ g, e = .returned (.slice (some ⟨g, 0, none⟩) 9 9) ∧ w'.cell? ⟨g, m, none⟩ = some (.string (toBA (tname m))) ∧ g < w'.heap.size ∧ Only (fun _ => False) W1 w') from fun W hW => (names_any m (by omega) W).mono fun _ _ h => by obtain ⟨g, h1, h2, h3, h4⟩ := h; exact ⟨g, h1, h2, h3, hW.trans' h4⟩)
    have hlens := Lib.hid (upL_len hf ⟨hk1, hk2⟩)
    obtain ⟨S0, hS0⟩ : ∃ S, S = toBA (Lib.itoa r.at_) := ⟨_, rfl⟩
    obtain ⟨S1, hS1⟩ : ∃ S, S = toBA (tname m) := ⟨_, rfl⟩
    obtain ⟨S2, hS2⟩ : ∃ S, S = toBA (upL r 0) := ⟨_, rfl⟩
    rw [← hS0] at hup0 hs1 hita
    rw [← hS1] at hup0 hs2 hnm
    rw [← hS2] at hup0
    have hS2' := Lib.hid hS2
    have hm1 : ¬ (m : Int) < 1 := by omega
    have hm2 : ¬ (8 : Int) < (m : Int) := by omega
    have hk0 : (0 : Int) ≤ (m : Int) := by omega
    have hk9 : (m : Int) < 9 := by omega
    rw [hm] at hW1' e1 ⊢
    clear hS0 hS1 hS2 hm hf hk1 hk2
    go_enter Tryd.func8, Tryd.ntmps8
    go_upto_region 1 with fail
    rw [← hW1'.out]
    go_upto_region 3 with fail
    go_cut [4] from 15 to 24 (fun v wc => v = .string S2 ∧ Only (fun _ => False) W1 wc)
    case first =>
      have hcells := Lib.hid (fun W (ho : Only (fun _ => False) W1 W) => And.intro (ho.cell e0 (fun h => h)) (ho.cell e1 (fun h => h)))
      have g1 : ¬ 9223372036854775807 < S0.size + 1 := by omega
      have g2 : ¬ 9223372036854775807 < S0.size + 1 + S1.size := by omega
      go_region_law (first
          | (refine step_call rfl Tryd.func19 (by kernel_rfl) rfl _ _ rfl [.int .i64 r.at_] rfl (hita.out _ (by repeat (first | assumption | exact Only.refl _ _ | refine Only.drew ?_))) ?_; rintro e w6 ⟨rfl, hO6⟩; obtain ⟨b0, b1⟩ := hcells.out _ hO6; refine ⟨_, rfl, ?_⟩)
          | (refine step_call rfl Tryd.func20 (by kernel_rfl) rfl _ _ rfl [] rfl (hnm.out _ (by repeat (first | assumption | exact Only.refl _ _ | refine Only.drew ?_))) ?_; rintro e w7 ⟨g, rfl, hgc, hgl, hO7⟩; obtain ⟨b2, b3⟩ := hcells.out _ hO7; refine ⟨_, rfl, ?_⟩))
      all_goals
        have hx := Lib.hid hO7
        try rw [hup0.out]
        clear hO7 hO6 hgc hgl b0 b1 b2 b3 e0 e1
        go_wp2_with fail
        go_meet
        case rel => exact ⟨rfl, hx.out⟩
    obtain ⟨rfl, hOc⟩ := hcut
    obtain ⟨W2, hW2⟩ : ∃ W2 : World, W2 = wc := ⟨_, rfl⟩
    subst hW2
    replace e2 := hOc.cell e2 (fun h => h)
    replace e3 := hOc.cell e3 (fun h => h)
    replace e4 := hOc.cell e4 (fun h => h)
    replace e5 := hOc.cell e5 (fun h => h)
    replace e6 := hOc.cell e6 (fun h => h)
    replace hlt := Nat.lt_of_lt_of_le hlt hOc.size
    have hb5 := heap_new_at W2 (.cells [Value.int .i64 r.t, .int .i64 r.j, .int .i64 r.op, .int .i64 r.c, .int .i64 r.v].toArray 3) rfl
    have hO5 := Lib.hid (hOc.alloc (.cells #[Value.int .i64 r.t, .int .i64 r.j, .int .i64 r.op, .int .i64 r.c, .int .i64 r.v] 3))
    have h5 := Lib.hid (fun (j : Nat) (hj : j < 5) => show (W2.alloc (.cells #[Value.int .i64 r.t, .int .i64 r.j, .int .i64 r.op, .int .i64 r.c, .int .i64 r.v] 3)).cell? ⟨W2.heap.size, j, none⟩ = some (.int .i64 (nth r j)) from by
      match j, hj with
      | 0, _ | 1, _ | 2, _ | 3, _ | 4, _ => exact row_cell hb5 rfl)
    have hl5 := Lib.hid (row_lt hb5)
    clear e0 e1 hOc hb5
    go_wp2
    generalize hW6 : W2.alloc (.cells #[Value.int .i64 r.t, .int .i64 r.j, .int .i64 r.op, .int .i64 r.c, .int .i64 r.v] 3) = W6 at hO5 h5 hl5
    go_loopw [4, 37] (fun sv i wr => ∃ j : Nat, j ≤ 5 ∧ i = .int .i64 j ∧ sv = .string (toBA (upL r j)) ∧ Hid (Only (fun _ => False) W6 wr)) (fun _ i _ => 5 - (intOf i).toNat)
    case atStart => exact ⟨0, by omega, rfl, by rw [hS2'.out], Lib.hid (by rw [← hW6]; exact Only.refl _ _)⟩
    case round =>
      obtain ⟨j, hj, rfl, rfl, hOj⟩ := hrel
      obtain ⟨ws, hws⟩ : ∃ ws : World, ws = wr := ⟨_, rfl⟩
      subst hws
      clear e2 e3 e4 e5 e6 hlt hW6
      by_cases hj5 : j < 5
      · have hj5' : (j : Int) < 5 := by omega
        have q0 := hOj.out.cell (h5.out j hj5) (fun h => h)
        have hlg := Nat.lt_of_lt_of_le hl5.out hOj.out.size
        have hnf := nth_fit hfit.out j
        obtain ⟨z, hz⟩ : ∃ z, z = nth r j := ⟨_, rfl⟩
        rw [← hz] at q0 hnf
        have hitz := Lib.hid (hit.out z hnf ws)
        have hnx := Lib.hid (show toBA (upL r j) ++ (⟨#[32]⟩ : ByteArray) ++ toBA (Lib.itoa z) = toBA (upL r (j + 1)) from by
          rw [show (⟨#[32]⟩ : ByteArray) = toBA [32] from rfl, toBA_app, toBA_app, upL, hz, List.append_assoc])
        have hs1 : (toBA (Lib.itoa z)).size ≤ 20 := by rw [toBA_size]; exact itoa_len hnf
        have hs2 : (toBA (upL r j)).size ≤ 200 := by rw [toBA_size]; have := hlens.out j; omega
        unfold GrowS at hitz
        obtain ⟨Z, hZ⟩ : ∃ Z, Z = toBA (Lib.itoa z) := ⟨_, rfl⟩
        obtain ⟨U, hU⟩ : ∃ U, U = toBA (upL r j) := ⟨_, rfl⟩
        rw [← hZ] at hitz hnx hs1
        rw [← hU] at hnx hs2 ⊢
        clear hz hZ hU hnf
        go_wp2_with fail
        refine hitz.out.mono ?_
        rintro e W3 ⟨rfl, hO3⟩
        have hO3' := Lib.hid (hOj.out.trans' hO3)
        clear hO3
        go_wp2
        go_roundw
        case rel => exact ⟨j + 1, by omega, by go_num, by rw [hnx.out], hO3'⟩
        case measure => simp [intOf]; omega
      · obtain rfl : j = 5 := by omega
        go_wp2
        go_ret2
        refine ⟨?_, (hO'.out.trans' hO5.out).trans' hOj.out⟩
        rw [hK'.out, if_pos rfl, ← upL_five]
        rfl
end Go.Proofs.YthippdgmbfaijaaDoor
