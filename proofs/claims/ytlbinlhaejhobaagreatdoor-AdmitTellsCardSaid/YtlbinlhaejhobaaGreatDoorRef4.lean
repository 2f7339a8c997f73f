/- The document's layer 9: Blocks. -/
import Derived.Test.YtlbinlhaejhobaaGreatDoorPK
import Derived.Deep.RegionHeld3
namespace Go.Proofs.YtlbinlhaejhobaaGreatDoor
namespace Rld
open Go Go.RowKit Rca Srt
theorem ins_lt {L : List Int} (h : L.Pairwise (· < ·)) {a : Int} {j : Nat} (hj : j ≤ L.length) (h1 : ∀ i z, i < j → L[i]? = some z → z < a) (h2 : ∀ z, L[j]? = some z → a < z) : (L.take j ++ a :: L.drop j).Pairwise (· < ·) := by
  have hd : ∀ z ∈ L.drop j, a < z := fun z hz => by
    obtain ⟨i, hi⟩ := List.mem_iff_getElem?.1 hz
    rw [List.getElem?_drop] at hi
    have hjl : j < L.length := by have := (List.getElem?_eq_some_iff.1 hi).1; omega
    have hy := h2 _ (List.getElem?_eq_getElem hjl)
    by_cases hi0 : i = 0
    · subst hi0
      exact h2 z hi
    · obtain ⟨hi1, rfl⟩ := List.getElem?_eq_some_iff.1 hi
      have := List.pairwise_iff_getElem.1 h j (j + i) hjl hi1 (by omega)
      omega
  have ht : ∀ z ∈ L.take j, z < a := fun z hz => by
    obtain ⟨i, hi⟩ := List.mem_iff_getElem?.1 hz
    have hij : i < j := by have := (List.getElem?_eq_some_iff.1 hi).1; rw [List.length_take] at this; omega
    rw [List.getElem?_take_of_lt hij] at hi
    exact h1 i z hij hi
  rw [List.pairwise_append]
  refine ⟨h.sublist (List.take_sublist _ _), List.pairwise_cons.2 ⟨hd, h.sublist (List.drop_sublist _ _)⟩, fun x hx y hy => ?_⟩
  have := ht x hx
  rcases List.mem_cons.1 hy with rfl | hy
  · exact this
  · have := hd y hy; omega
theorem ins_mem {L : List Int} {a x : Int} {j : Nat} : x ∈ L.take j ++ a :: L.drop j ↔ x ∈ L ∨ x = a := by
  have e : x ∈ L ↔ x ∈ L.take j ∨ x ∈ L.drop j := by rw [← List.mem_append, List.take_append_drop]
  rw [e, List.mem_append, List.mem_cons]
  constructor
  · rintro (h | h | h)
    · exact .inl (.inl h)
    · exact .inr h
    · exact .inl (.inr h)
  · rintro ((h | h) | h)
    · exact .inl h
    · exact .inr (.inr h)
    · exact .inr (.inl h)
theorem acc_take {l : List Opn} {k : Nat} {o : Opn} (h : l[k]? = some o) (x : Int) : (∃ p ∈ l.take (k + 1), p.k = 2 ∧ p.a = x) ↔ (∃ p ∈ l.take k, p.k = 2 ∧ p.a = x) ∨ (o.k = 2 ∧ x = o.a) := by
  rw [List.take_add_one, h]
  constructor
  · rintro ⟨p, hp, h2, rfl⟩
    rcases List.mem_append.1 hp with hp | hp
    · exact .inl ⟨p, hp, h2, rfl⟩
    · obtain rfl : p = o := by simpa using hp
      exact .inr ⟨h2, rfl⟩
  · rintro (⟨p, hp, h2, rfl⟩ | ⟨h2, rfl⟩)
    · exact ⟨p, List.mem_append.2 (.inl hp), h2, rfl⟩
    · exact ⟨o, List.mem_append.2 (.inr (by simp)), h2, rfl⟩
theorem ints_one (L : List Int) : ∀ u ∈ ints L, u.oneCell' = true := by
  intro u hu
  unfold ints at hu
  obtain ⟨z, -, rfl⟩ := List.mem_map.1 hu
  rfl
theorem win_none (w : World) (p : Option Addr) (e : TypeId) : Win w e 1 (.slice p 0 0) none 0 [] := ⟨rfl, p, 0, rfl, Nat.le_refl _, by unfold maxLen; omega, .inl ⟨rfl, rfl⟩⟩
theorem win_src {w : World} {p : Option Addr} {m cp : Nat} {hq : Option Nat} {L : List Int} (hW : Win w 3 1 (.slice p m cp) hq m (ints L)) (h0 : 0 < m) : ∃ ad : Addr, p = some ad ∧ ∀ i u, (ints L)[i]? = some u → w.cell? (ad.add i) = some u := by
  obtain ⟨g, off, cap', _, hv, _, _, hlt, hc, _⟩ := hW.at_ (by omega)
  simp only [Value.slice.injEq, true_and] at hv
  obtain ⟨rfl, rfl⟩ := hv
  exact ⟨_, rfl, fun i u hu => by rw [Addr.add_lit]; exact hc i u hu⟩
theorem win_take {w : World} {p : Option Addr} {m cp : Nat} {hq : Option Nat} {L : List Int} (hW : Win w 3 1 (.slice p m cp) hq m (ints L)) {j : Nat} (hj : j ≤ m) (h0 : 0 < j) : ∃ ad : Addr, p = some ad ∧ ∀ i u, (ints (L.take j))[i]? = some u → w.cell? (ad.add i) = some u := by
  obtain ⟨ad, rfl, h⟩ := win_src hW (by omega)
  refine ⟨ad, rfl, fun i u hu => h i u ?_⟩
  unfold ints at hu ⊢
  rw [List.map_take] at hu
  have hij : i < j := by have := (List.getElem?_eq_some_iff.1 hu).1; rw [List.length_take] at this; omega
  rwa [List.getElem?_take_of_lt hij] at hu
theorem win_drop {w : World} {gb go : Nat} {m cp : Nat} {hq : Option Nat} {L : List Int} (hW : Win w 3 1 (.slice (some ⟨gb, go, none⟩) m cp) hq m (ints L)) {j : Nat} (hj : j ≤ m) (h0 : 0 < m - j) : ∀ i u, (ints (L.drop j))[i]? = some u → w.cell? ((⟨gb, go + j, none⟩ : Addr).add i) = some u := by
  obtain ⟨g, off, cap', _, hv, _, _, hlt, hc, _⟩ := hW.at_ (by omega)
  simp only [Value.slice.injEq, true_and] at hv
  obtain ⟨h8, rfl⟩ := hv
  cases h8
  intro i u hu
  rw [Addr.add_lit]
  unfold ints at hu hc
  rw [List.map_drop, List.getElem?_drop] at hu
  have := hc _ u hu
  rwa [← Nat.add_assoc] at this
theorem blk_end2 {l : List Opn} {w w' : World} {p : Option Addr} {c : Nat} {h : Option Nat} (hok : accOk l) {C : List Int} (h1 : C.Pairwise (· < ·)) (hmem : ∀ x : Int, x ∈ C ↔ ∃ o ∈ l, o.k = 2 ∧ o.a = x) (hW : Win w' 3 1 (.slice p C.length c) h C.length (ints C)) (hf : ∀ b, h = some b → w.heap.size ≤ b) (hO : Only (fun _ => False) w w') :
    BlkEnd l w (.returned (.slice p C.length c)) w' := by
  have hpos : ∀ x ∈ C, 0 ≤ x := by
    intro x hx
    obtain ⟨o, ho, hk, rfl⟩ := (hmem x).1 hx
    exact (hok o ho hk).1
  have hcast : C = (C.map Int.toNat).map (fun (k : Nat) => (k : Int)) := by
    rw [List.map_map]
    conv => lhs; rw [← List.map_id C]
    refine List.map_congr_left fun x hx => ?_
    have := hpos x hx
    simp only [id, Function.comp]
    omega
  have hlen : C.length = (C.map Int.toNat).length := by simp
  refine ⟨C.map Int.toNat, p, c, h, by rw [← hlen], ?_, fun x => ?_, ?_, hf, hO⟩
  · refine List.pairwise_map.2 (h1.imp_of_mem fun {a b} ha hb hab => ?_)
    have h2 := hpos a ha
    have h3 := hpos b hb
    omega
  · rw [List.mem_map, accN_mem]
    constructor
    · rintro ⟨z, hz, rfl⟩
      obtain ⟨o, ho, hk, rfl⟩ := (hmem z).1 hz
      exact ⟨o, ho, hk, rfl⟩
    · rintro ⟨o, ho, hk, rfl⟩
      exact ⟨o.a, (hmem _).2 ⟨o, ho, hk, rfl⟩, rfl⟩
  · rw [← ints_dat, ← hcast, ← hlen]
    exact hW
set_option maxRecDepth 100000 in
set_option maxHeartbeats 8000000 in
theorem rblocks_any {w : World} {A : Option Addr} {n cap : Nat} {l : List Opn} (hl : OpnRow w A l) (hn : l.length = n) (h9 : n ≤ 1000000) (hok : accOk l) :
    Calls Tryz.prog 125 #[.slice A n cap] w (BlkEnd l w) := by
  obtain ⟨Z, hZ⟩ : ∃ Z, Z = BlkEnd l w := ⟨_, rfl⟩
  rw [← hZ]
  have hfin := Lib.hid (fun (w' : World) (p : Option Addr) (m c : Nat) (h : Option Nat) (C : List Int) (hm : m = C.length) (h1 : C.Pairwise (· < ·)) (h2 : ∀ x : Int, x ∈ C ↔ ∃ o ∈ l.take n, o.k = 2 ∧ o.a = x) (h3 : Win w' 3 1 (.slice p m c) h m (ints C)) (h4 : ∀ b, h = some b → w.heap.size ≤ b) (h5 : Only (fun _ => False) w w') => show Z (.returned (.slice p m c)) w' from by
    subst hm
    rw [hZ]
    exact blk_end2 hok h1 (by rwa [← hn, List.take_length] at h2) h3 h4 h5)
  have hl' := Lib.hid hl
  have hn' := Lib.hid hn
  clear hl hn hZ hok
  go_enter Tryz.func125, Tryz.ntmps125
  go_wp2
  go_loopw [3, 6, 9] (fun v _ i wr => ∃ (k m : Nat) (L : List Int) (q : Option Addr) (cq : Nat) (hq : Option Nat), k ≤ n ∧ i = .int .i64 k ∧ v = .slice q m cq ∧ Hid (m = L.length) ∧ m ≤ k ∧ Hid (L.Pairwise (· < ·)) ∧ Hid (∀ x : Int, x ∈ L ↔ ∃ o ∈ l.take k, o.k = 2 ∧ o.a = x) ∧ Hid (Win wr 3 1 (.slice q m cq) hq m (ints L)) ∧ Hid (∀ b, hq = some b → w.heap.size ≤ b) ∧ Hid (Only (fun _ => False) w wr)) (fun _ _ i _ => n - (intOf i).toNat)
  case atStart => exact ⟨0, 0, [], none, 0, none, Nat.zero_le _, rfl, rfl, Lib.hid rfl, Nat.le_refl _, Lib.hid List.Pairwise.nil, Lib.hid (fun x => by simp), Lib.hid (Win.nil _ _ _), Lib.hid (fun b hb => by cases hb), Lib.hid (Only.refl _ _)⟩
  case round =>
    obtain ⟨k, m, L, q, cq, hq, hk, rfl, rfl, hml, hmk, hSo, hMe, hW, hf, hO⟩ := hrel
    obtain ⟨ws, hws⟩ : ∃ ws : World, ws = wr := ⟨_, rfl⟩
    subst hws
    by_cases hkn : k < n
    · have hkn' : (k : Int) < (n : Int) := by omega
      obtain ⟨o, ho⟩ : ∃ o, l[k]? = some o := ⟨_, List.getElem?_eq_getElem (by have := hn'.out; omega)⟩
      obtain ⟨b, off, hA, hb, c0, c1, c2⟩ := (hl'.out.new hO.out) k o ho
      subst hA
      have hsu := Lib.hid (acc_take ho)
      obtain ⟨ok, oa, ob⟩ := o
      dsimp only at c0 c1 c2 hsu
      clear ho
      have hOa := Lib.hid ((Only.refl (fun _ => False) ws).alloc (.cells #[.int .i64 ok, .int .i64 oa, .int .i64 ob] 90))
      by_cases h2 : ok = 2
      · subst h2
        simp only [true_and] at hsu
        obtain ⟨X, hX⟩ : ∃ X, X = ws.heap.size := ⟨_, rfl⟩
        go_wp2
        obtain ⟨wb, hwb⟩ : ∃ wb, wb = ws.alloc (.cells #[.int .i64 2, .int .i64 oa, .int .i64 ob] 90) := ⟨_, rfl⟩
        rw [← hwb] at hOa ⊢
        rw [← hX]
        have hOb := Lib.hid hOa.out
        have hbx := Lib.hid (show wb.heap[X]? = some (.cells #[.int .i64 2, .int .i64 oa, .int .i64 ob] 90 (0, 0)) from by rw [hwb, hX]; exact heap_new_at _ _ rfl)
        have hWb := Lib.hid (hW.out.kept hOb.out (fun _ _ h => h))
        clear hOa hwb hX c0 c1 c2 hb
        go_loopw [6] (fun i' wi => ∃ j : Nat, i' = .int .i64 j ∧ j ≤ m ∧ Hid (∀ i z, i < j → L[i]? = some z → z < oa) ∧ Hid (Only (fun _ => False) wb wi)) (fun i' _ => m - (intOf i').toNat)
        case atStart => exact ⟨0, rfl, Nat.zero_le _, Lib.hid (fun i z hi => by omega), Lib.hid (Only.refl _ _)⟩
        case round =>
          obtain ⟨j, rfl, hj, hlow, hOi⟩ := hrel
          obtain ⟨wi, hwi⟩ : ∃ wi : World, wi = wr := ⟨_, rfl⟩
          subst hwi
          have hpi : Only (fun _ => False) wb wi := hOi.out
          have e0 := row_cell (L := [.int .i64 2, .int .i64 oa, .int .i64 ob]) (hpi.heap hbx.out (fun h => h)) (i := 0) rfl
          have e1 := row_cell (L := [.int .i64 2, .int .i64 oa, .int .i64 ob]) (hpi.heap hbx.out (fun h => h)) (i := 1) rfl
          have e2 := row_cell (L := [.int .i64 2, .int .i64 oa, .int .i64 ob]) (hpi.heap hbx.out (fun h => h)) (i := 2) rfl
          have hxl := row_lt (hpi.heap hbx.out (fun h => h))
          obtain ⟨p0, cq0, hv0, hmc, hcm⟩ := hWb.out.form
          simp only [Value.slice.injEq, true_and] at hv0
          obtain ⟨rfl, rfl⟩ := hv0
          have hjc : (j : Int) ≤ (cq : Int) := by omega
          have hmc' : (m : Int) ≤ (cq : Int) := by omega
          have hj' : (j : Int) ≤ (m : Int) := by omega
          have hj0 : ¬ (j : Int) < 0 := by omega
          have hj1 : (0 : Int) ≤ (j : Int) := by omega
          by_cases hjm : j < m
          · have hjm' : (j : Int) < (m : Int) := by omega
            have hjm0 : ((j : Int) == (m : Int)) = false := beq_eq_false_iff_ne.2 (by omega)
            obtain ⟨z, hz⟩ : ∃ z, L[j]? = some z := ⟨_, List.getElem?_eq_getElem (by have := hml.out; omega)⟩
            obtain ⟨g1, o1, cp1, _, hv1, _, _, hgl, hgc, _⟩ := (hWb.out.kept hpi (fun _ _ h => h)).at_ (by omega)
            simp only [Value.slice.injEq, true_and] at hv1
            obtain ⟨rfl, rfl⟩ := hv1
            have ez := hgc j (.int .i64 z) (by unfold ints; rw [List.getElem?_map, hz]; rfl)
            clear hgc
            by_cases hlt : z < oa
            · have hlow2 := Lib.hid (show ∀ i y, i < j + 1 → L[i]? = some y → y < oa from fun i y hi hy => by
                by_cases hij : i = j
                · subst hij; rw [hz] at hy; cases hy; exact hlt
                · exact hlow.out i y (by omega) hy)
              clear hz
              go_wp2
              go_quiet (fail)
              go_wp2
              go_roundw
              case rel => exact ⟨j + 1, by go_num, by omega, hlow2, Lib.hid (by repeat (first | exact hpi | apply Only.drewN | apply Only.drew))⟩
              case measure => simp [intOf]; omega
            · by_cases heq : z = oa
              · subst heq
                have hsu2 := Lib.hid (show ∀ x : Int, x ∈ L ↔ ∃ o ∈ l.take (k + 1), o.k = 2 ∧ o.a = x from fun x => by
                  rw [hsu.out x, ← hMe.out x]
                  exact ⟨.inl, fun h => h.elim id (fun h => h ▸ List.mem_iff_getElem?.2 ⟨j, hz⟩)⟩)
                clear hz
                go_wp2
                go_quiet (fail)
                go_wp2
                go_quiet (fail)
                go_wp2
                go_roundw
                case rel => exact ⟨k + 1, m, L, _, cq, hq, by omega, by go_num, rfl, hml, by omega, hSo, hsu2, Lib.hid (hWb.out.kept (by repeat (first | exact hpi | apply Only.drewN | apply Only.drew)) (fun _ _ h => h)), hf, Lib.hid ((hO.out.trans' hOb.out).trans' (by repeat (first | exact hpi | apply Only.drewN | apply Only.drew)))⟩
                case measure => simp [intOf]; omega
              · have hne : (z == oa) = false := beq_eq_false_iff_ne.2 heq
                have hne2 : (z != oa) = true := by simp [heq]
                have hup := Lib.hid (show ∀ y, L[j]? = some y → oa < y from fun y hy => by rw [hz] at hy; cases hy; omega)
                clear hz heq
                go_wp2
                go_quiet (fail)
                go_wp2
                go_quiet (fail)
                clear e0 e1 e2 ez hxl
                have hl1 := Lib.hid (show (ints (L.take j)).length = j * 1 from by have := hml.out; simp [ints]; omega)
                have hl2 := Lib.hid (show (ints (L.drop j)).length = (m - j) * 1 from by have := hml.out; simp [ints]; omega)
                have hsb := Lib.hid (fun W (ho : Only (fun _ => False) wb W) => hWb.out.kept ho (fun _ _ h => h))
                have hst := Lib.hid (fun W (ho : Only (fun _ => False) wb W) => win_take (hsb.out W ho) hj)
                have hsd := Lib.hid (fun W (ho : Only (fun _ => False) wb W) => win_drop (hsb.out W ho) hj)
                have hend := Lib.hid (And.intro (Lib.hid (ins_lt hSo.out (by have := hml.out; omega) hlow.out hup.out)) (Lib.hid (show ∀ x : Int, x ∈ L.take j ++ oa :: L.drop j ↔ ∃ o ∈ l.take (k + 1), o.k = 2 ∧ o.a = x from fun x => by rw [ins_mem, hMe.out x, hsu.out x])))
                have hk5 := Lib.hid (fun W (ho : Only (fun _ => False) wb W) => show W.cell? ⟨X, 0, none⟩ = some (.int .i64 2) ∧ W.cell? ⟨X, 1, none⟩ = some (.int .i64 oa) ∧ W.cell? ⟨X, 2, none⟩ = some (.int .i64 ob) ∧ X < W.heap.size from ⟨row_cell (L := [.int .i64 2, .int .i64 oa, .int .i64 ob]) (ho.heap hbx.out (fun h => h)) (i := 0) rfl, row_cell (L := [.int .i64 2, .int .i64 oa, .int .i64 ob]) (ho.heap hbx.out (fun h => h)) (i := 1) rfl, row_cell (L := [.int .i64 2, .int .i64 oa, .int .i64 ob]) (ho.heap hbx.out (fun h => h)) (i := 2) rfl, row_lt (ho.heap hbx.out (fun h => h))⟩)
                go_upto_region 10 with fail
                go_region_held3 (fun W0 => W0.cell? ⟨X, 0, none⟩ = some (.int .i64 2) ∧ W0.cell? ⟨X, 1, none⟩ = some (.int .i64 oa) ∧ W0.cell? ⟨X, 2, none⟩ = some (.int .i64 ob) ∧ X < W0.heap.size)
                  (exact hk5.out _ (by repeat (first | (with_reducible assumption) | exact Only.refl _ _ | apply Only.drew | apply Only.drewN | apply Only.alloc)))
                  (first
                    | (refine step_append_win rfl (.tmp 44) (.tmp 47) 24 rfl 3 (Value.int .i64 0) 1 8 Tryz.underlying24 info3 rfl (by decide) (h := none) (by rfl) (win_none _ _ _) _ j _ (by rfl) (ints (L.take j)) hl1.out (fun h0 => hst.out _ (by repeat (first | (with_reducible assumption) | exact Only.refl _ _ | apply Only.drew | apply Only.drewN | apply Only.alloc)) h0) (by first | exact ints_one _ | simp [Value.oneCell']) (by unfold maxLen; omega) (by omega) ?_; intro v5 w5 h5 hW5 hO5 hh5; rw [Nat.zero_add, List.nil_append] at hW5; obtain ⟨p5, c5, rfl, _, _⟩ := hW5.out.form; have hs5 := step_fresh (w := wb) (by repeat (first | (with_reducible assumption) | exact Only.refl _ _ | apply Only.drew | apply Only.drewN | apply Only.alloc)) hO5.out (fun _ h => by cases h) hh5.out; have hp5 := hs5.1)
                    | (refine step_append_win rfl (.tmp 48) (.tmp 51) 24 rfl 3 (Value.int .i64 0) 1 8 Tryz.underlying24 info3 rfl (by decide) (h := h5) (by rfl) (hW5.out.kept (by repeat (first | exact Only.refl _ _ | apply Only.drew | apply Only.drewN | apply Only.alloc)) (fun _ _ h => h)) _ 1 _ (by rfl) [.int .i64 oa] rfl (fun _ => ⟨_, rfl, row_one (by repeat (first | exact heap_new_at _ _ rfl | exact heap_new_at _ _ (by simp) | apply heap_kept_alloc | (refine Only.heap hO5.out ?_ (fun e => by cases e))))⟩) (by first | exact ints_one _ | simp [Value.oneCell']) (by unfold maxLen; omega) (by omega) ?_; intro v6 w6 h6 hW6 hO6 hh6; obtain ⟨p6, c6, rfl, _, _⟩ := hW6.out.form; have hs6 := step_fresh (w := wb) (by repeat (first | (with_reducible assumption) | exact Only.refl _ _ | apply Only.drew | apply Only.drewN | apply Only.alloc)) hO6.out hs5.2 hh6.out; have hp6 := hs6.1)
                    | (refine step_append_win rfl (.tmp 52) (.tmp 55) 24 rfl 3 (Value.int .i64 0) 1 8 Tryz.underlying24 info3 rfl (by decide) (h := h6) (by rfl) (hW6.out.kept (by repeat (first | exact Only.refl _ _ | apply Only.drew | apply Only.drewN | apply Only.alloc)) (fun _ _ h => h)) _ _ _ (by rfl) (ints (L.drop j)) (by first | exact hl2.out | (have h9 := hl2.out; simp only [Nat.mul_one] at h9 ⊢; rw [h9]; omega)) (by intro h0; rw [if_neg (show ¬ cq = j by omega)]; exact ⟨_, rfl, hsd.out _ (by repeat (first | (with_reducible assumption) | exact Only.refl _ _ | apply Only.drew | apply Only.drewN | apply Only.alloc)) (by omega)⟩) (by first | exact ints_one _ | simp [Value.oneCell']) (by unfold maxLen; omega) (by omega) ?_; intro v7 w7 h7 hW7 hO7 hh7; obtain ⟨p7, c7, rfl, _, _⟩ := hW7.out.form; have hs7 := step_fresh (w := wb) (by repeat (first | (with_reducible assumption) | exact Only.refl _ _ | apply Only.drew | apply Only.drewN | apply Only.alloc)) hO7.out hs6.2 hh7.out; have hp7 := hs7.1))
                all_goals
                  have hWz := Lib.hid hW7.out
                  have hsz := Lib.hid hs7
                  go_wp2
                  go_roundw
                  case rel =>
                    refine ⟨k + 1, _, L.take j ++ oa :: L.drop j, p7, c7, h7, by omega, by go_num, rfl, Lib.hid (by have := hml.out; simp; omega), by omega, hend.out.1, hend.out.2, ?_, Lib.hid (fun b hb => by have := hsz.out.2 b hb; have := hOb.out.size; have := hO.out.size; omega), Lib.hid ((hO.out.trans' hOb.out).trans' hsz.out.1)⟩
                    have := hWz.out
                    rw [show ints (L.take j) ++ [Value.int .i64 oa] ++ ints (L.drop j) = ints (L.take j ++ oa :: L.drop j) by simp [ints]] at this
                    exact Lib.hid this
                  case measure => simp [intOf]; omega
          · obtain rfl : j = m := by omega
            have hjm' : ¬ (j : Int) < (j : Int) := by omega
            have hup := Lib.hid (show ∀ y, L[j]? = some y → oa < y from fun y hy => by have := (List.getElem?_eq_some_iff.1 hy).1; have := hml.out; omega)
            go_wp2
            go_quiet (fail)
            go_wp2
            go_quiet (fail)
            clear e0 e1 e2 hxl
            have hl1 := Lib.hid (show (ints (L.take j)).length = j * 1 from by have := hml.out; simp [ints]; omega)
            have hl2 := Lib.hid (show (ints (L.drop j)).length = (j - j) * 1 from by have := hml.out; simp [ints]; omega)
            have hsb := Lib.hid (fun W (ho : Only (fun _ => False) wb W) => hWb.out.kept ho (fun _ _ h => h))
            have hst := Lib.hid (fun W (ho : Only (fun _ => False) wb W) => win_take (hsb.out W ho) hj)
            have hend := Lib.hid (And.intro (Lib.hid (ins_lt hSo.out (by have := hml.out; omega) hlow.out hup.out)) (Lib.hid (show ∀ x : Int, x ∈ L.take j ++ oa :: L.drop j ↔ ∃ o ∈ l.take (k + 1), o.k = 2 ∧ o.a = x from fun x => by rw [ins_mem, hMe.out x, hsu.out x])))
            have hk5 := Lib.hid (fun W (ho : Only (fun _ => False) wb W) => show W.cell? ⟨X, 0, none⟩ = some (.int .i64 2) ∧ W.cell? ⟨X, 1, none⟩ = some (.int .i64 oa) ∧ W.cell? ⟨X, 2, none⟩ = some (.int .i64 ob) ∧ X < W.heap.size from ⟨row_cell (L := [.int .i64 2, .int .i64 oa, .int .i64 ob]) (ho.heap hbx.out (fun h => h)) (i := 0) rfl, row_cell (L := [.int .i64 2, .int .i64 oa, .int .i64 ob]) (ho.heap hbx.out (fun h => h)) (i := 1) rfl, row_cell (L := [.int .i64 2, .int .i64 oa, .int .i64 ob]) (ho.heap hbx.out (fun h => h)) (i := 2) rfl, row_lt (ho.heap hbx.out (fun h => h))⟩)
            go_upto_region 10 with fail
            go_region_held3 (fun W0 => W0.cell? ⟨X, 0, none⟩ = some (.int .i64 2) ∧ W0.cell? ⟨X, 1, none⟩ = some (.int .i64 oa) ∧ W0.cell? ⟨X, 2, none⟩ = some (.int .i64 ob) ∧ X < W0.heap.size)
              (exact hk5.out _ (by repeat (first | (with_reducible assumption) | exact Only.refl _ _ | apply Only.drew | apply Only.drewN | apply Only.alloc)))
              (first
                | (refine step_append_win rfl (.tmp 44) (.tmp 47) 24 rfl 3 (Value.int .i64 0) 1 8 Tryz.underlying24 info3 rfl (by decide) (h := none) (by rfl) (win_none _ _ _) _ j _ (by rfl) (ints (L.take j)) hl1.out (fun h0 => hst.out _ (by repeat (first | (with_reducible assumption) | exact Only.refl _ _ | apply Only.drew | apply Only.drewN | apply Only.alloc)) h0) (by first | exact ints_one _ | simp [Value.oneCell']) (by unfold maxLen; omega) (by omega) ?_; intro v5 w5 h5 hW5 hO5 hh5; rw [Nat.zero_add, List.nil_append] at hW5; obtain ⟨p5, c5, rfl, _, _⟩ := hW5.out.form; have hs5 := step_fresh (w := wb) (by repeat (first | (with_reducible assumption) | exact Only.refl _ _ | apply Only.drew | apply Only.drewN | apply Only.alloc)) hO5.out (fun _ h => by cases h) hh5.out; have hp5 := hs5.1)
                | (refine step_append_win rfl (.tmp 48) (.tmp 51) 24 rfl 3 (Value.int .i64 0) 1 8 Tryz.underlying24 info3 rfl (by decide) (h := h5) (by rfl) (hW5.out.kept (by repeat (first | exact Only.refl _ _ | apply Only.drew | apply Only.drewN | apply Only.alloc)) (fun _ _ h => h)) _ 1 _ (by rfl) [.int .i64 oa] rfl (fun _ => ⟨_, rfl, row_one (by repeat (first | exact heap_new_at _ _ rfl | exact heap_new_at _ _ (by simp) | apply heap_kept_alloc | (refine Only.heap hO5.out ?_ (fun e => by cases e))))⟩) (by first | exact ints_one _ | simp [Value.oneCell']) (by unfold maxLen; omega) (by omega) ?_; intro v6 w6 h6 hW6 hO6 hh6; obtain ⟨p6, c6, rfl, _, _⟩ := hW6.out.form; have hs6 := step_fresh (w := wb) (by repeat (first | (with_reducible assumption) | exact Only.refl _ _ | apply Only.drew | apply Only.drewN | apply Only.alloc)) hO6.out hs5.2 hh6.out; have hp6 := hs6.1)
                | (refine step_append_win rfl (.tmp 52) (.tmp 55) 24 rfl 3 (Value.int .i64 0) 1 8 Tryz.underlying24 info3 rfl (by decide) (h := h6) (by rfl) (hW6.out.kept (by repeat (first | exact Only.refl _ _ | apply Only.drew | apply Only.drewN | apply Only.alloc)) (fun _ _ h => h)) _ _ _ (by rfl) (ints (L.drop j)) (by first | exact hl2.out | (have h9 := hl2.out; simp only [Nat.mul_one] at h9 ⊢; rw [h9]; omega)) (by intro h0; exact absurd h0 (by omega)) (by first | exact ints_one _ | simp [Value.oneCell']) (by unfold maxLen; omega) (by omega) ?_; intro v7 w7 h7 hW7 hO7 hh7; obtain ⟨p7, c7, rfl, _, _⟩ := hW7.out.form; have hs7 := step_fresh (w := wb) (by repeat (first | (with_reducible assumption) | exact Only.refl _ _ | apply Only.drew | apply Only.drewN | apply Only.alloc)) hO7.out hs6.2 hh7.out; have hp7 := hs7.1))
            all_goals
              have hWz := Lib.hid hW7.out
              have hsz := Lib.hid hs7
              go_wp2
              go_roundw
              case rel =>
                refine ⟨k + 1, _, L.take j ++ oa :: L.drop j, p7, c7, h7, by omega, by go_num, rfl, Lib.hid (by have := hml.out; simp; omega), by omega, hend.out.1, hend.out.2, ?_, Lib.hid (fun b hb => by have := hsz.out.2 b hb; have := hOb.out.size; have := hO.out.size; omega), Lib.hid ((hO.out.trans' hOb.out).trans' hsz.out.1)⟩
                have := hWz.out
                rw [show ints (L.take j) ++ [Value.int .i64 oa] ++ ints (L.drop j) = ints (L.take j ++ oa :: L.drop j) by simp [ints]] at this
                exact Lib.hid this
              case measure => simp [intOf]; omega
      · have h2' : (ok == 2) = false := beq_eq_false_iff_ne.2 h2
        have hsu2 := Lib.hid (show ∀ x : Int, x ∈ L ↔ ∃ o ∈ l.take (k + 1), o.k = 2 ∧ o.a = x from fun x => by rw [hMe.out x, hsu.out x]; simp [h2])
        clear h2 hsu
        go_wp2
        go_roundw
        case rel => exact ⟨k + 1, m, L, q, cq, hq, by omega, by go_num, rfl, hml, by omega, hSo, hsu2, Lib.hid (hW.out.kept hOa.out (fun _ _ h => h)), hf, Lib.hid (hO.out.trans' hOa.out)⟩
        case measure => simp [intOf]; omega
    · obtain rfl : k = n := by omega
      have hkn' : ¬ (k : Int) < (k : Int) := by omega
      have hfz := Lib.hid (hfin.out _ _ _ _ _ _ hml.out hSo.out hMe.out hW.out hf.out hO.out)
      go_wp2
      exact hfz.out
end Rld
end Go.Proofs.YtlbinlhaejhobaaGreatDoor
