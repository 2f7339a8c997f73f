/- misses: of a program on a cache. -/
import Derived.Test.YteeleelkepjoaaaBnd
namespace Go.Proofs.Yteeleelkepjoaaa
namespace Rld
open Go Go.RowKit Rca Srt

theorem RC.other {w w' : World} {a b S W S' W' : Nat} {h h' : Option Nat} {U U' : List Nat} (H : RC w a S W h U) (H' : RC w b S' W' h' U') (hab : a ≠ b) (ho : Only (fun k => k = b) w w') : RC w' a S W h U := by
  refine H.kept ho hab (fun g hg e => ?_)
  subst e
  obtain ⟨p, c, _, _, _, _, _, _, _, h3⟩ := H.box
  obtain ⟨p', c', h1', _⟩ := H'.box
  rcases h3 with h3 | ⟨g', _, _, q1, _, q2, _⟩
  · rw [h3.1] at hg; cases hg
  · rw [hg] at q1
    cases q1
    rw [h1'] at q2
    simp at q2
theorem accN_succ {l : List Opn} {k : Nat} {o : Opn} (h : l[k]? = some o) : accN (l.take (k + 1)) = accN (l.take k) ++ (if o.k = 2 then [o.a.toNat] else []) := by
  unfold accN
  rw [List.take_add_one, h, List.filter_append, List.map_append]
  congr 1
  by_cases hk : o.k = 2 <;> simp [hk]
theorem accN_take_len (l : List Opn) (k : Nat) : (accN (l.take k)).length ≤ k := Nat.le_trans (accN_len _) (List.length_take_le _ _)
def MisEnd (a S W : Nat) (U : List Nat) (l : List Opn) (w : World) (e : Ending) (w' : World) : Prop :=
  e = .returned (.int .i64 (Lru.missN S W U.reverse (accN l) : Int)) ∧ (∃ h', RC w' a S W h' (U ++ accN l)) ∧ Only (fun k => k = a) w w'

set_option maxRecDepth 100000 in
set_option maxHeartbeats 4000000 in
theorem misses_any {w : World} {A : Option Addr} {n cap a S W : Nat} {h : Option Nat} {U : List Nat} {l : List Opn} (hl : OpnRow w A l) (hn : l.length = n) (h9 : n ≤ 1000) (hok : accOk l) (H : RC w a S W h U) (hA : ∀ b off, A = some ⟨b, off, none⟩ → b ≠ a) (hS : 0 < S) (hU : U.length ≤ 1000) (hW : W ≤ 1000) :
    Calls Try.prog 12 #[.slice A n cap, .pointer (some ⟨a, 0, none⟩)] w (MisEnd a S W U l w) := by
  obtain ⟨Z, hZ⟩ : ∃ Z, Z = MisEnd a S W U l w := ⟨_, rfl⟩
  rw [← hZ]
  have hZ' := Lib.hid hZ
  have hl' := Lib.hid hl
  have hn' := Lib.hid hn
  have hok' := Lib.hid hok
  have hA' := Lib.hid hA
  have H' := Lib.hid H
  have haw := Lib.hid H.lt.1
  clear hZ hl hn hok hA H
  go_enter Try.func12, Try.ntmps12
  go_wp2
  go_loopw [5, 10] (fun v i wr => ∃ (k : Nat) (m : Nat), k ≤ n ∧ m ≤ k ∧ i = .int .i64 k ∧ v = .int .i64 (m : Int) ∧ m = Lru.missN S W U.reverse (accN (l.take k)) ∧ (∃ h', RC wr a S W h' (U ++ accN (l.take k))) ∧ Only (fun k => k = a) w wr) (fun _ i _ => n - (intOf i).toNat)
  case atStart => exact ⟨0, 0, Nat.zero_le _, Nat.le_refl _, rfl, rfl, rfl, ⟨h, by simpa [accN] using H'.out⟩, Only.refl _ _⟩
  case round =>
    obtain ⟨k, m, hk, hmk, rfl, rfl, hm, ⟨h', hR⟩, hO⟩ := hrel
    obtain ⟨ws, hws⟩ : ∃ ws : World, ws = wr := ⟨_, rfl⟩
    subst hws
    have hR' := Lib.hid hR
    have hO' := Lib.hid hO
    have hm' := Lib.hid hm
    clear hR hO hm
    by_cases hkn : k < n
    · have hkn' : (k : Int) < (n : Int) := by omega
      obtain ⟨o, ho⟩ : ∃ o, l[k]? = some o := ⟨_, List.getElem?_eq_getElem (by have := hn'.out; omega)⟩
      obtain ⟨b, off, hAe, hb, c0, c1, c2⟩ := hl'.out k o ho
      have hba := hA'.out b off hAe
      subst hAe
      replace c0 := hO'.out.cell c0 hba
      replace c1 := hO'.out.cell c1 hba
      replace c2 := hO'.out.cell c2 hba
      replace hb := Nat.lt_of_lt_of_le hb hO'.out.size
      have hsu := accN_succ ho
      have hrg := hok'.out o (List.mem_of_getElem? ho)
      obtain ⟨ok, oa, ob⟩ := o
      dsimp only at c0 c1 c2 hsu hrg
      clear ho
      by_cases h2 : ok = 2
      · subst h2
        obtain ⟨r1, r2⟩ := hrg rfl
        obtain ⟨x, hx⟩ : ∃ x : Nat, oa = (x : Int) := ⟨oa.toNat, by omega⟩
        subst hx
        have hx9 : x ≤ 255 := by omega
        rw [if_pos rfl, Int.toNat_natCast] at hsu
        have hms : Lru.missN S W U.reverse (accN (l.take (k + 1))) = m + (if Lru.hitB S W (U ++ accN (l.take k)).reverse x then 0 else 1) := by
          rw [hsu, Lru.missN_append, ← hm'.out, List.reverse_append]
          simp [Lru.missN]
        have hsu' := Lib.hid hsu
        have hOa := Lib.hid ((Only.refl (fun _ => False) ws).alloc (.cells #[.int .i64 2, .int .i64 (x : Int), .int .i64 ob] 39))
        have hll := accN_take_len l k
        have hacc := Lib.hid (fun W0 (h0 : Only (fun _ => False) ws W0) => access_any (hR'.out.new h0) hS (by rw [List.length_append]; omega) hW x hx9)
        obtain ⟨B, hB⟩ : ∃ B, B = Lru.hitB S W (U ++ accN (l.take k)).reverse x := ⟨_, rfl⟩
        have hB' := Lib.hid hB
        rw [← hB] at hms
        have hms' := Lib.hid hms
        clear hsu hrg r1 r2 hms hB
        go_wp2_with fail
        refine (hacc.out _ hOa.out).mono ?_
        rintro e w2 ⟨rfl, h2', hR2, hO2, _⟩
        rw [← hB'.out]
        have hR2' := Lib.hid (show ∃ h9, RC w2 a S W h9 (U ++ accN (l.take (k + 1))) from ⟨h2', by rw [hsu'.out, ← List.append_assoc]; exact hR2⟩)
        have hO2' := Lib.hid (hO'.out.trans' ((hOa.out.mono (fun _ _ h => h.elim)).trans' hO2))
        clear hR2 hO2 hacc hB'
        cases B
        · go_wp2
          go_roundw
          case rel => exact ⟨k + 1, m + 1, by omega, by omega, by go_num, by go_num, by rw [hms'.out]; rfl, hR2'.out, hO2'.out⟩
          case measure => simp [intOf]; omega
        · go_wp2
          go_roundw
          case rel => exact ⟨k + 1, m, by omega, by omega, by go_num, by go_num, by rw [hms'.out]; rfl, hR2'.out, hO2'.out⟩
          case measure => simp [intOf]; omega
      · rw [if_neg h2, List.append_nil] at hsu
        have h2' : (ok == 2) = false := beq_eq_false_iff_ne.2 h2
        have hsu' := Lib.hid hsu
        have hOa := Lib.hid ((Only.refl (fun _ => False) ws).alloc (.cells #[.int .i64 ok, .int .i64 oa, .int .i64 ob] 39))
        clear h2 hsu hrg
        go_wp2
        go_roundw
        case rel => exact ⟨k + 1, m, by omega, by omega, by go_num, by go_num, by rw [hsu'.out]; exact hm'.out, ⟨h', by rw [hsu'.out]; exact hR'.out.new hOa.out⟩, hO'.out.trans' (hOa.out.mono (fun _ _ h => h.elim))⟩
        case measure => simp [intOf]; omega
    · obtain rfl : k = n := by omega
      have hkn' : ¬ (k : Int) < (k : Int) := by omega
      have hz : accN (l.take k) = accN l := by rw [← hn'.out, List.take_length]
      have hfin := Lib.hid (show Z (.returned (.int .i64 (m : Int))) ws from by
        rw [hZ'.out]
        have h1 := hm'.out
        have h2 := hR'.out
        rw [hz] at h1 h2
        exact ⟨by rw [h1], ⟨h', h2⟩, hO'.out⟩)
      go_wp2
      exact hfin.out
end Rld
end Go.Proofs.Yteeleelkepjoaaa
