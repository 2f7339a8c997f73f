/- The law of texts. -/
import Derived.Test.YthippdgmbfaijaaDoorReads20
import Derived.Test.YthippdgmbfaijaaDoorTx16
import Derived.BigQuiet
namespace Go.Proofs.YthippdgmbfaijaaDoor
open Go Go.RowKit

theorem ofL_at {t j : Int} {l : List RecV} {k : Nat} {x : RecV} (hx : l[k]? = some x) (h : x.t = t ∧ x.j = j) : (ofL t j l)[(ofL t j (l.take k)).length]? = some x := by
  have h1 : l = l.take k ++ x :: l.drop (k + 1) := by
    have hk := (List.getElem?_eq_some_iff.1 hx).1
    have h2 : x = l[k] := by
      rw [List.getElem?_eq_getElem hk] at hx
      exact (Option.some.inj hx).symm
    rw [h2, ← List.drop_eq_getElem_cons hk, List.take_append_drop]
  have h3 : ofL t j l = ofL t j (l.take k) ++ (x :: ofL t j (l.drop (k + 1))) := by
    conv => lhs; rw [h1]
    unfold ofL
    rw [List.filter_append, List.filter_cons_of_pos (by simp [h])]
  rw [h3, List.getElem?_append_right (Nat.le_refl _), Nat.sub_self]
  rfl

theorem equal9 (a b c d e f g h i : Int) (w : World) : (Op.equalIn 10000 37 (.agg #[.int .i64 a, .int .i64 b, .int .i64 c, .int .i64 d, .int .i64 e, .int .i64 f, .int .i64 g, .int .i64 h, .int .i64 i]) (.agg #[.int .i64 a, .int .i64 b, .int .i64 c, .int .i64 d, .int .i64 e, .int .i64 f, .int .i64 g, .int .i64 h, .int .i64 i])).run Tryd.prog w = .ok true w := by
  have u3 := Tryd.underlying3
  have a3 := Tryd.isAgg3
  have z3 := Tryd.sizeOf3
  rw [show (10000 : Nat) = 9999 + 1 from rfl, Op.equalIn]
  simp only [Sem.run_bind, run_underlying Tryd.underlying37, Result.andThen_ok]
  simp only [Std.Legacy.Range.forIn_eq_forIn_range', Std.Legacy.Range.size, Nat.sub_zero, Nat.add_sub_cancel, Nat.div_one, List.range'_succ, List.range'_zero, List.forIn_cons, List.forIn_nil]
  go_simp

set_option maxRecDepth 100000 in
set_option maxHeartbeats 4000000 in
theorem texts_law {w : World} {A : Option Addr} {n cap : Nat} {l : List RecV} (t j : Int) (hb : Bas w) (hl : RecRow w A l) (hn : l.length = n) (hfit : ∀ r ∈ l, r.fit) :
    Calls Tryd.prog 5 #[.slice A n cap, .int .i64 t, .int .i64 j] w (GrowB true w) := by
  have hB := Lib.hid (fun W (hW : Only (fun _ => False) w W) => hb.new hW)
  have q0 := Lib.hid (fixed_any hb)
  have hl' := Lib.hid hl
  have hn' := Lib.hid hn
  have hfit' := Lib.hid hfit
  clear hl hn hfit hb
  by_cases h60 : 60 < n
  · have hbig : (60 : Int) < (n : Int) := by omega
    go_enter Tryd.func5, Tryd.ntmps5
    go_wp2_with fail
    refine q0.out.mono ?_
    rintro e w2 ⟨rfl, hO2⟩
    have hO2' := Lib.hid hO2
    clear hO2
    go_wp2
    go_ret
    exact ⟨rfl, hO2'.out⟩
  · have hsm : ¬ (60 : Int) < (n : Int) := by omega
    have q1 := Lib.hid (fun W (hW : Only (fun _ => False) w W) => text_any (cap := cap) (hB.out W hW) (hl'.out.new hW) hn'.out (by omega) hfit'.out)
    have q2 := Lib.hid (fun W (hW : Only (fun _ => False) w W) => rtext_any (cap := cap) (hl'.out.new hW) hn'.out (by omega) hfit'.out)
    have q3 := Lib.hid (fun W (hW : Only (fun _ => False) w W) (hk : allK l = true) => show Calls Tryd.prog 10 #[.string (toBA (textL l))] W (fun e w' => ∃ p cap h, e = .returned (.tuple #[.slice p n cap, .int .i64 0]) ∧ Win w' 24 7 (.slice p n cap) h n (recCells l) ∧ Only (fun _ => False) W w') from by
      refine (read_any (hB.out W hW) (textL l) (by have := text_len l hfit'.out hk; rw [hn'.out] at this; omega)).mono ?_
      intro e w' h
      unfold ReadEnd at h
      rw [read_text hfit'.out (allK_iff.1 hk)] at h
      obtain ⟨p, cap, h, h1, h2, -, h4⟩ := h
      rw [hn'.out] at h1 h2
      exact ⟨p, cap, h, h1, h2, h4⟩)
    have q4 := Lib.hid (fun W (hW : Only (fun _ => False) w W) => of_any (cap := cap) t j (hl'.out.new hW) hn'.out (by omega))
    have q5 := Lib.hid (fun W (hW : Only (fun _ => False) w W) => count_any (cap := cap) (hl'.out.new hW) hn'.out (by omega))
    unfold TextEnd at q1 q2
    unfold RecsEnd at q4
    unfold CountEnd at q5
    obtain ⟨T, hT⟩ : ∃ T, T = if allK l = true then toBA (textL l) else ⟨#[]⟩ := ⟨_, rfl⟩
    rw [← hT] at q1 q2
    obtain ⟨K, hK⟩ : ∃ K, K = allK l := ⟨_, rfl⟩
    rw [← hK] at q1 q2 q3 hT
    have hT' := Lib.hid hT
    clear hT hK h60
    go_enter Tryd.func5, Tryd.ntmps5
    go_wp2_with fail
    refine q0.out.mono ?_
    rintro e w2 ⟨rfl, hO2⟩
    have hO2' := Lib.hid hO2
    clear hO2
    go_wp2_with fail
    refine (q1.out _ hO2'.out).mono ?_
    rintro e w3 ⟨rfl, hO3⟩
    have hO3' := Lib.hid (hO2'.out.trans' hO3)
    clear hO3
    go_wp2_with fail
    refine (q2.out _ hO3'.out).mono ?_
    rintro e w4 ⟨rfl, hO4⟩
    have hO4' := Lib.hid (hO3'.out.trans' hO4)
    clear hO4
    go_upto_if 42 with fail
    go_cut [11, 12, 13] from 42 to 71 (fun _ _ _ wc => Only (fun _ => False) w wc)
    case first =>
      cases K with
      | false =>
        go_wp2_with fail
        go_meet
        case rel => exact hO4'.out
      | true =>
        have hT2 := hT'.out
        rw [if_pos rfl] at hT2
        rw [← hT2] at q3
        replace q3 := Lib.hid (fun W hW => q3.out W hW rfl)
        clear hT2
        go_wp2_with fail
        refine (q3.out _ hO4'.out).mono ?_
        rintro e w5 ⟨pB, cB, hB5, rfl, hW5, hO5⟩
        have hRB := Lib.hid (hW5.recs hn'.out)
        have hRA := Lib.hid ((hl'.out.new hO4'.out).new hO5)
        have hO5' := Lib.hid (hO4'.out.trans' hO5)
        clear hW5 hO5
        go_wp2
        go_loopw [59] (fun i wr => ∃ k : Nat, k ≤ n ∧ i = .int .i64 k ∧ Only (fun _ => False) w5 wr) (fun i _ => n - (intOf i).toNat)
        case atStart => exact ⟨0, Nat.zero_le _, rfl, Only.refl _ _⟩
        case round =>
          obtain ⟨k, hk, rfl, hOr⟩ := hrel
          obtain ⟨w6, hw6⟩ : ∃ ws : World, ws = wr := ⟨_, rfl⟩
          subst hw6
          have hOr' := Lib.hid hOr
          replace hRA := Lib.hid (hRA.out.new hOr)
          replace hRB := Lib.hid (hRB.out.new hOr)
          replace hO5' := Lib.hid (hO5'.out.trans' hOr)
          clear hOr
          by_cases hkn : k < n
          · have hkn' : (k : Int) < (n : Int) := by omega
            obtain ⟨x, hx⟩ : ∃ x, l[k]? = some x := ⟨_, List.getElem?_eq_getElem (by have := hn'.out; omega)⟩
            obtain ⟨g, off, rfl, hg, a0, a1, a2, a3, a4, a5, a6⟩ := hRA.out k x hx
            obtain ⟨g', off', rfl, hg', b0, b1, b2, b3, b4, b5, b6⟩ := hRB.out k x hx
            obtain ⟨x0, x1, x2, x3, x4, x5, x6⟩ := x
            dsimp only at a0 a1 a2 a3 a4 a5 a6 b0 b1 b2 b3 b4 b5 b6
            clear hx
            go_upto_region 16 with fail
            go_quiet (fail)
            go_wp2
            go_roundw
            case rel => exact ⟨k + 1, by omega, by go_num, hOr'.out.drewN _⟩
            case measure => simp [intOf]; omega
          · have hkn2 : k = n := by omega
            have hkn' : ¬ (k : Int) < (n : Int) := by omega
            clear hkn2 hkn
            go_wp2_with fail
            go_meet
            case rel => exact hO5'.out
    obtain ⟨W7, hW7⟩ : ∃ W : World, W = wc := ⟨_, rfl⟩
    subst hW7
    have hO7 := Lib.hid hcut
    clear hcut q0 q1 q2 q3
    go_wp2_with fail
    refine (q4.out _ hO7.out).mono ?_
    rintro e w8 ⟨pO, cO, hO, rfl, hW8, -, hO8⟩
    have hRO := Lib.hid (hW8.recs rfl)
    have hO8' := Lib.hid (hO7.out.trans' hO8)
    clear hW8 hO8
    have hlen := ofL_len t j l
    obtain ⟨F, hF⟩ : ∃ F, F = ofL t j l := ⟨_, rfl⟩
    rw [← hF] at hRO hlen ⊢
    obtain ⟨m, hm⟩ : ∃ m, m = F.length := ⟨_, rfl⟩
    rw [← hm] at hlen ⊢
    have hF' := Lib.hid hF
    have hm' := Lib.hid hm
    clear hF hm
    go_wp2
    have hC' := Lib.hid (show (w8.alloc (.cells #[.int .i64 0, .int .i64 0, .int .i64 0, .int .i64 0, .int .i64 0, .int .i64 0, .int .i64 0, .int .i64 0, .int .i64 0] 37)).heap[w8.heap.size]? = some (.cells (row9 (cntL [])).toArray 37 (0, 0)) from heap_new_at _ _ rfl)
    have hO0 := Lib.hid (show Only (fun _ => False) w8 (w8.alloc (.cells #[.int .i64 0, .int .i64 0, .int .i64 0, .int .i64 0, .int .i64 0, .int .i64 0, .int .i64 0, .int .i64 0, .int .i64 0] 37)) from (Only.refl _ _).alloc _)
    generalize w8.alloc (.cells #[.int .i64 0, .int .i64 0, .int .i64 0, .int .i64 0, .int .i64 0, .int .i64 0, .int .i64 0, .int .i64 0, .int .i64 0] 37) = W0 at hC' hO0 ⊢
    go_loopw [16, 78] (fun q i wr => ∃ k : Nat, k ≤ n ∧ i = .int .i64 k ∧ q = .int .i64 (ofL t j (l.take k)).length ∧ wr.heap[w8.heap.size]? = some (.cells (row9 (cntL (l.take k))).toArray 37 (0, 0)) ∧ Only (fun x => x = w8.heap.size) W0 wr) (fun _ i _ => n - (intOf i).toNat)
    case atStart => exact ⟨0, Nat.zero_le _, rfl, rfl, hC'.out, Only.refl _ _⟩
    case round =>
      obtain ⟨k, hk, rfl, rfl, hrow, hO⟩ := hrel
      obtain ⟨ws, hws⟩ : ∃ ws : World, ws = wr := ⟨_, rfl⟩
      subst hws
      have hrow' := Lib.hid hrow
      have hO' := Lib.hid hO
      have hO8w := Lib.hid (show Only (fun _ => False) w8 ws from hO0.out.trans hO (fun x hx e => by omega))
      have hOw := Lib.hid (hO8'.out.trans' hO8w.out)
      have hlw := row_lt hrow
      clear hrow hO
      by_cases hkn : k < n
      · have hkn' : (k : Int) < (n : Int) := by omega
        obtain ⟨x, hx⟩ : ∃ x, l[k]? = some x := ⟨_, List.getElem?_eq_getElem (by have := hn'.out; omega)⟩
        obtain ⟨b, off, rfl, hbl, hc⟩ := hl'.out.new hOw.out k x hx
        have hle := Lib.hid (cntL_le (l.take k))
        have hsn := Lib.hid (show cntL (l.take (k + 1)) = upd (cntL (l.take k)) (slotK x.k) (cntL (l.take k) (slotK x.k) + 1) by rw [List.take_add_one, hx]; exact cntL_snoc _ _)
        have hso := Lib.hid (ofL_snoc (t := t) (j := j) hx)
        have hat := Lib.hid (ofL_at (t := t) (j := j) hx)
        rw [← hF'.out] at hat
        have htl : (l.take k).length ≤ n := by rw [List.length_take]; have := hn'.out; omega
        obtain ⟨C, hC⟩ : ∃ C, C = cntL (l.take k) := ⟨_, rfl⟩
        rw [← hC] at hrow' hle hsn
        obtain ⟨G, hG⟩ : ∃ G, G = ofL t j (l.take k) := ⟨_, rfl⟩
        have hGl : G.length ≤ n := by rw [hG]; exact Nat.le_trans (ofL_len _ _ _) htl
        rw [← hG] at hso hat ⊢
        obtain ⟨q, hq⟩ : ∃ q, q = G.length := ⟨_, rfl⟩
        rw [← hq] at hat hGl ⊢
        have hq' := Lib.hid hq
        obtain ⟨v, hv⟩ : ∃ v, v = slotK x.k := ⟨_, rfl⟩
        have hv9 := slotK_lt x.k
        rw [← hv] at hsn hv9
        have hcm := hle.out v
        have hrow := hrow'.out
        obtain ⟨d0, d1, d2, d3, d4, d5, d6⟩ := hc
        obtain ⟨x0, x1, x2, x3, x4, x5, x6⟩ := x
        dsimp only at d0 d1 d2 d3 d4 d5 d6 hv hat hso
        obtain ⟨z, hz⟩ : ∃ z, z = C v := ⟨_, rfl⟩
        rw [← hz] at hsn hcm
        have y0 : ws.cell? ⟨w8.heap.size, v, none⟩ = some (.int .i64 z) := by rw [hz]; exact row_cell hrow (row9_get C hv9)
        have f0 := row_free hrow v
        have hnew := Lib.hid (show (ws.setCell ⟨w8.heap.size, v, none⟩ (.int .i64 (z + 1))).heap[w8.heap.size]? = some (.cells (row9 (upd C v (z + 1))).toArray 37 (0, 0)) from by
          have := row_set hrow v (.int .i64 (z + 1))
          rwa [row9_set C hv9] at this)
        have hz1 : z + 1 ≤ 1000001 := by omega
        clear hrow hx hC hz hG hq
        by_cases k1 : 1 ≤ x1
        · by_cases k2 : x1 ≤ 8
          · obtain rfl : x1 = (v : Int) := by rw [hv]; unfold slotK; rw [if_pos (show okK x1 = true from decide_eq_true ⟨k1, k2⟩)]; omega
            clear hv
            by_cases h1 : x2 = t
            · by_cases h2 : x3 = j
              · have e1 : (x2 == t) = true := by simpa using h1
                have e2 : (x3 == j) = true := by simpa using h2
                obtain ⟨g', off', hpO, hg', b0, b1, b2, b3, b4, b5, b6⟩ := (hRO.out.new hO8w.out) q _ (hat.out ⟨h1, h2⟩)
                obtain ⟨g'', off'', hpO2, hg2, -⟩ := hRO.out q _ (hat.out ⟨h1, h2⟩)
                cases hpO
                cases hpO2
                have hgn : ¬ g' = w8.heap.size := by omega
                have hgn2 : ¬ w8.heap.size = g' := by omega
                dsimp only at b0 b1 b2 b3 b4 b5 b6
                have hqm : q < m := by have := (List.getElem?_eq_some_iff.1 (hat.out ⟨h1, h2⟩)).1; rw [hm'.out]; exact this
                have hd : decide ((m : Int) ≤ (q : Int)) = false := decide_eq_false (by omega)
                rw [if_pos ⟨h1, h2⟩] at hso
                clear h1 h2 hg2
                go_upto_region 29 with fail
                go_quiet (fail)
                go_wp2
                go_roundw
                case rel => exact ⟨k + 1, by omega, by go_num, by rw [hso.out, List.length_append, ← hq'.out]; rfl, by rw [hsn.out]; exact ((Only.refl (fun _ => False) _).drewN _).heap (heap_kept_alloc hnew.out _) (fun h => h), (((hO'.out.trans (only_set _ _ _ _) (fun _ _ h => h)).alloc _).drewN _)⟩
                case measure => simp [intOf]; omega
              · have e1 : (x2 == t) = true := by simpa using h1
                have e2 : (x3 == j) = false := by simpa using h2
                rw [if_neg (fun h => h2 h.2), List.append_nil] at hso
                clear h1 h2
                go_wp2
                go_roundw
                case rel => exact ⟨k + 1, by omega, by go_num, by rw [hso.out, ← hq'.out], by rw [hsn.out]; exact heap_kept_alloc hnew.out _, (hO'.out.trans (only_set _ _ _ _) (fun _ _ h => h)).alloc _⟩
                case measure => simp [intOf]; omega
            · have e1 : (x2 == t) = false := by simpa using h1
              rw [if_neg (fun h => h1 h.1), List.append_nil] at hso
              clear h1
              go_wp2
              go_roundw
              case rel => exact ⟨k + 1, by omega, by go_num, by rw [hso.out, ← hq'.out], by rw [hsn.out]; exact heap_kept_alloc hnew.out _, (hO'.out.trans (only_set _ _ _ _) (fun _ _ h => h)).alloc _⟩
              case measure => simp [intOf]; omega
          · obtain rfl : v = 0 := by rw [hv]; unfold slotK; rw [if_neg (fun h => k2 (of_decide_eq_true h).2)]
            clear hv
            by_cases h1 : x2 = t
            · by_cases h2 : x3 = j
              · have e1 : (x2 == t) = true := by simpa using h1
                have e2 : (x3 == j) = true := by simpa using h2
                obtain ⟨g', off', hpO, hg', b0, b1, b2, b3, b4, b5, b6⟩ := (hRO.out.new hO8w.out) q _ (hat.out ⟨h1, h2⟩)
                obtain ⟨g'', off'', hpO2, hg2, -⟩ := hRO.out q _ (hat.out ⟨h1, h2⟩)
                cases hpO
                cases hpO2
                have hgn : ¬ g' = w8.heap.size := by omega
                have hgn2 : ¬ w8.heap.size = g' := by omega
                dsimp only at b0 b1 b2 b3 b4 b5 b6
                have hqm : q < m := by have := (List.getElem?_eq_some_iff.1 (hat.out ⟨h1, h2⟩)).1; rw [hm'.out]; exact this
                have hd : decide ((m : Int) ≤ (q : Int)) = false := decide_eq_false (by omega)
                rw [if_pos ⟨h1, h2⟩] at hso
                clear h1 h2 hg2
                go_upto_region 29 with fail
                go_quiet (fail)
                go_wp2
                go_roundw
                case rel => exact ⟨k + 1, by omega, by go_num, by rw [hso.out, List.length_append, ← hq'.out]; rfl, by rw [hsn.out]; exact ((Only.refl (fun _ => False) _).drewN _).heap (heap_kept_alloc hnew.out _) (fun h => h), (((hO'.out.trans (only_set _ _ _ _) (fun _ _ h => h)).alloc _).drewN _)⟩
                case measure => simp [intOf]; omega
              · have e1 : (x2 == t) = true := by simpa using h1
                have e2 : (x3 == j) = false := by simpa using h2
                rw [if_neg (fun h => h2 h.2), List.append_nil] at hso
                clear h1 h2
                go_wp2
                go_roundw
                case rel => exact ⟨k + 1, by omega, by go_num, by rw [hso.out, ← hq'.out], by rw [hsn.out]; exact heap_kept_alloc hnew.out _, (hO'.out.trans (only_set _ _ _ _) (fun _ _ h => h)).alloc _⟩
                case measure => simp [intOf]; omega
            · have e1 : (x2 == t) = false := by simpa using h1
              rw [if_neg (fun h => h1 h.1), List.append_nil] at hso
              clear h1
              go_wp2
              go_roundw
              case rel => exact ⟨k + 1, by omega, by go_num, by rw [hso.out, ← hq'.out], by rw [hsn.out]; exact heap_kept_alloc hnew.out _, (hO'.out.trans (only_set _ _ _ _) (fun _ _ h => h)).alloc _⟩
              case measure => simp [intOf]; omega
        · obtain rfl : v = 0 := by rw [hv]; unfold slotK; rw [if_neg (fun h => k1 (of_decide_eq_true h).1)]
          clear hv
          by_cases h1 : x2 = t
          · by_cases h2 : x3 = j
            · have e1 : (x2 == t) = true := by simpa using h1
              have e2 : (x3 == j) = true := by simpa using h2
              obtain ⟨g', off', hpO, hg', b0, b1, b2, b3, b4, b5, b6⟩ := (hRO.out.new hO8w.out) q _ (hat.out ⟨h1, h2⟩)
              obtain ⟨g'', off'', hpO2, hg2, -⟩ := hRO.out q _ (hat.out ⟨h1, h2⟩)
              cases hpO
              cases hpO2
              have hgn : ¬ g' = w8.heap.size := by omega
              have hgn2 : ¬ w8.heap.size = g' := by omega
              dsimp only at b0 b1 b2 b3 b4 b5 b6
              have hqm : q < m := by have := (List.getElem?_eq_some_iff.1 (hat.out ⟨h1, h2⟩)).1; rw [hm'.out]; exact this
              have hd : decide ((m : Int) ≤ (q : Int)) = false := decide_eq_false (by omega)
              rw [if_pos ⟨h1, h2⟩] at hso
              clear h1 h2 hg2
              go_upto_region 29 with fail
              go_quiet (fail)
              go_wp2
              go_roundw
              case rel => exact ⟨k + 1, by omega, by go_num, by rw [hso.out, List.length_append, ← hq'.out]; rfl, by rw [hsn.out]; exact ((Only.refl (fun _ => False) _).drewN _).heap (heap_kept_alloc hnew.out _) (fun h => h), (((hO'.out.trans (only_set _ _ _ _) (fun _ _ h => h)).alloc _).drewN _)⟩
              case measure => simp [intOf]; omega
            · have e1 : (x2 == t) = true := by simpa using h1
              have e2 : (x3 == j) = false := by simpa using h2
              rw [if_neg (fun h => h2 h.2), List.append_nil] at hso
              clear h1 h2
              go_wp2
              go_roundw
              case rel => exact ⟨k + 1, by omega, by go_num, by rw [hso.out, ← hq'.out], by rw [hsn.out]; exact heap_kept_alloc hnew.out _, (hO'.out.trans (only_set _ _ _ _) (fun _ _ h => h)).alloc _⟩
              case measure => simp [intOf]; omega
          · have e1 : (x2 == t) = false := by simpa using h1
            rw [if_neg (fun h => h1 h.1), List.append_nil] at hso
            clear h1
            go_wp2
            go_roundw
            case rel => exact ⟨k + 1, by omega, by go_num, by rw [hso.out, ← hq'.out], by rw [hsn.out]; exact heap_kept_alloc hnew.out _, (hO'.out.trans (only_set _ _ _ _) (fun _ _ h => h)).alloc _⟩
            case measure => simp [intOf]; omega
      · have hkn2 : k = n := by omega
        subst hkn2
        have htk := Lib.hid (show l.take k = l from List.take_of_length_le (by have := hn'.out; omega))
        rw [htk.out] at hrow' ⊢
        rw [← hF'.out, ← hm'.out]
        have y0 := row_cell hrow'.out (i := 0) rfl
        have y1 := row_cell hrow'.out (i := 1) rfl
        have y2 := row_cell hrow'.out (i := 2) rfl
        have y3 := row_cell hrow'.out (i := 3) rfl
        have y4 := row_cell hrow'.out (i := 4) rfl
        have y5 := row_cell hrow'.out (i := 5) rfl
        have y6 := row_cell hrow'.out (i := 6) rfl
        have y7 := row_cell hrow'.out (i := 7) rfl
        have y8 := row_cell hrow'.out (i := 8) rfl
        have hcount := Lib.hid (fun (x : Wd ws) => Calls.wd (x := x) (q5.out x.W (hOw.out.trans' x.ok)))
        unfold row9 at hcount
        have heq := equal9
        go_upto_region 33 with fail
        have hex := wd_ex ws
        replace y0 := wd_cell y0
        replace y1 := wd_cell y1
        replace y2 := wd_cell y2
        replace y3 := wd_cell y3
        replace y4 := wd_cell y4
        replace y5 := wd_cell y5
        replace y6 := wd_cell y6
        replace y7 := wd_cell y7
        replace y8 := wd_cell y8
        refine wp_region_wd (by kernel_rfl) (by kernel_rfl) ?_
        repeat (go_big_quiet_step (first | (go_at_call 16; exact hcount.out _)))
        refine wpQuiet_nil ?_
        rintro _ ⟨x, rfl⟩
        have hx := Lib.hid x.ok
        clear hex heq y0 y1 y2 y3 y4 y5 y6 y7 y8
        go_wp2
        go_ret
        exact ⟨rfl, hOw.out.trans' hx.out⟩
end Go.Proofs.YthippdgmbfaijaaDoor
