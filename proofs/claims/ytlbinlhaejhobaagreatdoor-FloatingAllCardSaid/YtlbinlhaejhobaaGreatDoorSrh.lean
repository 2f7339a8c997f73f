/- assign: highest, Search. Written by mksrh.py. -/
import Derived.Test.YtlbinlhaejhobaaGreatDoorPas
import Derived.Test.YtlbinlhaejhobaaGreatDoorPK
namespace Go.Proofs.YtlbinlhaejhobaaGreatDoor
namespace Twn
open Go Go.RowKit Krn Asn Pre Adm

theorem chg_congr {f g : Nat → TaskV → TaskV} {pl : Tks} (h : ∀ i t, i < pl.length → f i t = g i t) : chg f pl = chg g pl := by
  refine List.ext_getElem? (fun i => ?_)
  rw [chg_at, chg_at]
  cases hp : pl[i]? with
  | none => rfl
  | some x =>
    have e := h i x.1 (List.getElem?_eq_some_iff.1 hp).1
    show some (f i x.1, x.2) = some (g i x.1, x.2)
    rw [e]
theorem pasB_pass {c : ConfV} {d : ConfL} {pl : Tks} (hl : pl.length = c.ta.n) {T : List Int} (hT : T.length = c.ta.n) {S : Nat → Int} (hS : ∀ i, i < c.ta.n → T.getD i 0 = S i) : pasB c d pl T = passT c d pl S := by
  unfold pasB passT
  rw [decide_eq_true hT, Bool.true_and, chg_congr (f := thL T) (g := thF S) (fun i t hi => by unfold thL thF; show ({ t with th := T.getD i 0 } : TaskV) = { t with th := S i }; rw [hS i (by omega)])]
theorem lo_getD {pl : Tks} (i : Nat) : (pl.ts.map (·.p)).getD i 0 = prio pl.ts i := rfl
theorem lo_len {c : ConfV} {pl : Tks} (hl : pl.length = c.ta.n) : (pl.ts.map (·.p)).length = c.ta.n := by unfold Tks.ts; simp [hl]
theorem getD_set {l : List Int} {k i : Nat} {x : Int} (hk : k < l.length) : (l.set k x).getD i 0 = if i = k then x else l.getD i 0 := by
  rw [List.getD_eq_getElem?_getD, List.getD_eq_getElem?_getD]
  by_cases e : i = k
  · subst e; rw [List.getElem?_set_self hk, if_pos rfl]; rfl
  · rw [List.getElem?_set_ne (fun h => e h.symm), if_neg e]
/-- What highest has of the priorities ahead of place j. -/
def Hij (c : ConfV) (d : ConfL) (pl : Tks) (k : Nat) (S : List Int) (j : Nat) : Prop := ∀ a z, a < j → S[a]? = some z → prio pl.ts k < z → okT c d pl k z
theorem Hij.next {c : ConfV} {d : ConfL} {pl : Tks} {k : Nat} {S : List Int} {j : Nat} {z : Int} (h : Hij c d pl k S j) (hz : S[j]? = some z) (ho : prio pl.ts k < z → okT c d pl k z) : Hij c d pl k S (j + 1) := fun a y ha hy hp => by
  by_cases e : a = j
  · subst e; rw [hz] at hy; cases hy; exact ho hp
  · exact h a y (by omega) hy hp
theorem sorted_of {c : ConfV} {pl : Tks} (hl : pl.length = c.ta.n) {S : List Int} (hS : S = Srt.up (pl.ts.map (·.p))) : S.length = c.ta.n ∧ (∀ (a b : Nat) y z, a ≤ b → S[a]? = some y → S[b]? = some z → y ≤ z) ∧ (∀ i, i < c.ta.n → ∃ a, a < c.ta.n ∧ S[a]? = some (prio pl.ts i)) ∧ ∀ (a : Nat) z, S[a]? = some z → ∃ i, i < c.ta.n ∧ prio pl.ts i = z := by
  have h1 : S.length = c.ta.n := by rw [hS]; unfold Srt.up; rw [List.length_mergeSort]; exact lo_len hl
  have h2 := Srt.up_sorted (pl.ts.map (·.p))
  rw [← hS] at h2
  refine ⟨h1, fun a b y z hab ha hb => ?_, fun i hi => ?_, fun a z ha => ?_⟩
  · by_cases e : a = b
    · subst e; rw [ha] at hb; cases hb; exact Int.le_refl _
    · obtain ⟨a1, rfl⟩ := List.getElem?_eq_some_iff.1 ha
      obtain ⟨b1, rfl⟩ := List.getElem?_eq_some_iff.1 hb
      exact List.pairwise_iff_getElem.1 h2 a b a1 b1 (by omega)
  · obtain ⟨⟨t, l⟩, hp⟩ : ∃ x, pl[i]? = some x := ⟨_, List.getElem?_eq_getElem (by omega)⟩
    have hm : prio pl.ts i ∈ S := by
      rw [hS, Srt.up_mem, prio_at' hp]
      exact List.mem_map.2 ⟨t, List.mem_of_getElem? (ts_some hp), rfl⟩
    obtain ⟨a, ha⟩ := List.getElem?_of_mem hm
    exact ⟨a, by have := (List.getElem?_eq_some_iff.1 ha).1; omega, ha⟩
  · have hm : z ∈ S := List.mem_of_getElem? ha
    rw [hS, Srt.up_mem] at hm
    obtain ⟨t, ht, rfl⟩ := List.mem_map.1 hm
    obtain ⟨i, hi⟩ := List.getElem?_of_mem ht
    refine ⟨i, ?_, prio_at hi⟩
    have := (List.getElem?_eq_some_iff.1 hi).1
    unfold Tks.ts at this
    rw [List.length_map] at this
    omega
theorem lo_63 {c : ConfV} {d : ConfL} {pl : Tks} (hl : pl.length = c.ta.n) (h : passT c d pl (prio pl.ts) = true) : ∀ i, i < c.ta.n → 0 ≤ prio pl.ts i ∧ prio pl.ts i ≤ 63 := fun i hi => by
  obtain ⟨q1, -, q3⟩ := (passT_iff hl _).1 h
  obtain ⟨⟨t, l⟩, hp⟩ : ∃ x, pl[i]? = some x := ⟨_, List.getElem?_eq_getElem (by omega)⟩
  have := q1.nums hi (t := thF (prio pl.ts) i t) (l := l) (by rw [chg_at, hp]; rfl)
  rw [prio_at' hp]
  exact this.1
/-- A priority above the task's own that doesn't pass: the answer is one less. -/
theorem high_stop {c : ConfV} {d : ConfL} {pl : Tks} {k j : Nat} {S L : List Int} {z : Int} (hl : pl.length = c.ta.n) (h : passT c d pl (prio pl.ts) = true) (hk : k < c.ta.n) (hS : S = Srt.up (pl.ts.map (·.p))) (hH : Hij c d pl k S j) (hz : S[j]? = some z) (hp : prio pl.ts k < z) (hL : L.length = c.ta.n) (hL2 : ∀ i, i < c.ta.n → L.getD i 0 = rais pl k z i) :
    (pasB c d pl L = false → Hi c d pl k (z - 1)) ∧ (pasB c d pl L = true → Hij c d pl k S (j + 1)) ∧ 0 < z ∧ z ≤ 63 := by
  obtain ⟨s1, s2, s3, s4⟩ := sorted_of hl hS
  obtain ⟨i, hi, e⟩ := s4 j z hz
  have h63 := lo_63 hl h
  have hpas := pasB_pass (d := d) hl hL hL2
  have hr := passT_rais hl h hk (x := z) (by omega) (by have := h63 i hi; omega)
  refine ⟨fun hb => ?_, fun hb => hH.next hz (fun _ => hr.1 (by rw [← hpas]; exact hb)), by have := h63 k hk; omega, by have := h63 i hi; omega⟩
  refine hi_stop (((passT_iff hl _).1 h).2.2 k hk).2.2 hp (by have := h63 i hi; omega) (fun ho => ?_) (fun i2 hi2 hp2 hlt => ?_)
  · have := hr.2 ho
    rw [← hpas, hb] at this
    cases this
  · obtain ⟨a, ha, ha2⟩ := s3 i2 hi2
    refine hH a _ ?_ ha2 hp2
    refine Nat.lt_of_not_le (fun hja => ?_)
    have := s2 j a _ _ hja hz ha2
    omega
theorem high_all {c : ConfV} {d : ConfL} {pl : Tks} {k : Nat} {S : List Int} (hl : pl.length = c.ta.n) (h : passT c d pl (prio pl.ts) = true) (hk : k < c.ta.n) (hS : S = Srt.up (pl.ts.map (·.p))) (hH : Hij c d pl k S c.ta.n) : Hi c d pl k 63 := by
  obtain ⟨s1, s2, s3, s4⟩ := sorted_of hl hS
  refine hi_all (fun i hi => (lo_63 hl h i hi).2) hk (fun i hi hp => ?_)
  obtain ⟨a, ha, ha2⟩ := s3 i hi
  exact hH a _ ha ha2 hp

def HighEnd (c : ConfV) (d : ConfL) (pl : Tks) (k : Nat) (w : World) (e : Ending) (w' : World) : Prop := ∃ x : Int, e = .returned (.int .i64 x) ∧ Hi c d pl k x ∧ Only (fun _ => False) w w'
def TwoRows (n : Nat) (L S : List Int) (B : Nat) (p5 p6 : Option Addr) (c5 c6 : Nat) (h5 h6 : Option Nat) (w : World) : Prop :=
  Win w 3 1 (.slice p5 n c5) h5 n (icells L) ∧ Win w 3 1 (.slice p6 n c6) h6 n (icells S) ∧ (∀ g, h5 = some g → B ≤ g) ∧ (∀ g, h6 = some g → B ≤ g) ∧ ∀ g, h5 = some g → h6 ≠ some g
set_option maxRecDepth 100000 in
set_option maxHeartbeats 8000000 in
theorem highest_any {w : World} {c : ConfV} {d : ConfL} {pl : Tks} (h0 : Cf0 w c d pl) (hp : passT c d pl (prio pl.ts) = true) {k : Nat} (hk : k < c.ta.n) :
    Calls Tryz.prog 61 #[c.val, .int .i64 (k : Int)] w (HighEnd c d pl k w) := by
  obtain ⟨q, hq⟩ : ∃ q, q = w.heap.size := ⟨_, rfl⟩
  obtain ⟨W2, hW2⟩ : ∃ W2, W2 = w.alloc (.cells c.cells.toArray 27) := ⟨_, rfl⟩
  have hO2 : Only (fun _ => False) w W2 := by rw [hW2]; exact (Only.refl _ w).alloc _
  have b0 : W2.heap[q]? = some (.cells c.cells.toArray 27 (0, 0)) := by rw [hW2]; exact heap_new_at _ _ hq.symm
  have hs2 : W2.heap.size = q + 1 := by rw [hW2, hq]; simp
  have hq' := Lib.hid hq
  have hcy := Lib.hid (fun W (ho : Only (fun _ => False) W2 W) => cyv_of (ho.heap b0 (fun h => h)))
  obtain ⟨cv, hcv⟩ : ∃ cv, cv = c.val := ⟨_, rfl⟩
  have hlen := h0.len
  have hn9 := h0.n
  have kle := Lib.hid (fun W (ho : Only (fun _ => False) W2 W) => show Calls Tryz.prog 29 #[cv] W (LeastEnd pl c.ta.n W) from by rw [hcv]; exact least_any (h0.new (hO2.trans' ho)))
  obtain ⟨S, hS⟩ : ∃ S, S = Srt.up (pl.ts.map (·.p)) := ⟨_, rfl⟩
  obtain ⟨LO, hLO⟩ : ∃ L, L = pl.ts.map (·.p) := ⟨_, rfl⟩
  have kso := Lib.hid (fun W p cap hh (hW : Win W 3 1 (.slice p c.ta.n cap) hh c.ta.n (icells LO)) => show Calls Tryz.prog 92 #[.slice p c.ta.n cap] W (fun e w' => e = .returned (.tuple #[]) ∧ Win w' 3 1 (.slice p c.ta.n cap) hh c.ta.n (icells S) ∧ Only (fun k => some k = hh) W w') from by
    rw [hS, ← hLO]
    exact Srt.sort_any hW (by omega))
  have kpa := Lib.hid (fun W (ho : Only (fun _ => False) W2 W) A cap hh L (hW : Win W 3 1 (.slice A c.ta.n cap) hh c.ta.n (icells L)) => show Calls Tryz.prog 27 #[cv, .slice A c.ta.n cap] W (GrowB (pasB c d pl L) W) from by rw [hcv]; exact passes_any (h0.new (hO2.trans' ho)) (ints_of (x := ⟨A, c.ta.n, cap⟩) hW) (by omega))
  have hta := Lib.hid (fun W (ho : Only (fun _ => False) W2 W) => show ∃ b off t, c.ta.A = some ⟨b, off, none⟩ ∧ b < W.heap.size ∧ TaskCells W b (off + k * 7) t ∧ prio pl.ts k = t.p from by
    have hT := (h0.C.new (hO2.trans' ho)).t
    obtain ⟨t, ht⟩ : ∃ t, pl.ts[k]? = some t := ⟨_, List.getElem?_eq_getElem (by rw [hT.len]; exact hk)⟩
    obtain ⟨b, off, hA, hb, hCe⟩ := hT.at_ k t ht
    exact ⟨b, off, t, hA, hb, hCe, prio_at ht⟩)
  obtain ⟨Z, hZ⟩ : ∃ Z, Z = HighEnd c d pl k w := ⟨_, rfl⟩
  rw [← hZ]
  obtain ⟨LK, hLK⟩ : ∃ P : List Int → Prop, P = fun L => L.length = c.ta.n ∧ ∀ i, i < c.ta.n → i ≠ k → L.getD i 0 = prio pl.ts i := ⟨_, rfl⟩
  have hLK0 := Lib.hid (show LK LO from by rw [hLK, hLO]; exact ⟨lo_len hlen, fun i hi _ => lo_getD i⟩)
  have hLKs := Lib.hid (fun L z (h : LK L) => show LK (L.set k z) from by
    rw [hLK] at *
    refine ⟨by rw [List.length_set]; exact h.1, fun i hi hne => ?_⟩
    rw [getD_set (by omega), if_neg hne]
    exact h.2 i hi hne)
  obtain ⟨HJ, hHJ⟩ : ∃ P : Nat → Prop, P = Hij c d pl k S := ⟨_, rfl⟩
  have hHJ0 := Lib.hid (show HJ 0 from by rw [hHJ]; intro a z ha; omega)
  obtain ⟨s1, s2, s3, s4⟩ := sorted_of hlen hS
  have hSz := Lib.hid (fun j (hj : j < c.ta.n) => show ∃ z, S[j]? = some z from ⟨_, List.getElem?_eq_getElem (by omega)⟩)
  have hskip := Lib.hid (fun j z (h : HJ j) (hz : S[j]? = some z) (hle : z ≤ prio pl.ts k) => show HJ (j + 1) from by
    rw [hHJ] at *
    exact Hij.next h hz (fun hlt => by omega))
  have hstep := Lib.hid (fun L j z (h : LK L) (hj : HJ j) (hz : S[j]? = some z) (hgt : prio pl.ts k < z) => show (pasB c d pl (L.set k z) = false → ∀ W, Only (fun _ => False) W2 W → Z (.returned (.int .i64 (z - 1))) W) ∧ (pasB c d pl (L.set k z) = true → HJ (j + 1)) ∧ 0 < z ∧ z ≤ 63 from by
    rw [hHJ] at *
    rw [hLK] at h
    obtain ⟨a1, a2, a3⟩ := high_stop (L := L.set k z) hlen hp hk hS hj hz hgt (by rw [List.length_set]; exact h.1) (fun i hi => by
      rw [getD_set (by omega)]
      unfold rais
      by_cases e : i = k
      · rw [if_pos e, if_pos e]
      · rw [if_neg e, if_neg e]; exact h.2 i hi e)
    exact ⟨fun hb W ho => by rw [hZ]; exact ⟨_, rfl, a1 hb, hO2.trans' ho⟩, a2, a3⟩)
  have hfin := Lib.hid (fun (h : HJ c.ta.n) W (ho : Only (fun _ => False) W2 W) => show Z (.returned (.int .i64 63)) W from by
    rw [hHJ] at h
    rw [hZ]
    exact ⟨63, rfl, high_all hlen hp hk hS h, hO2.trans' ho⟩)
  obtain ⟨PK, hPK⟩ : ∃ P, P = prio pl.ts k := ⟨_, rfl⟩
  rw [← hPK] at hta hskip hstep
  unfold LeastEnd at kle
  rw [← hLO] at kle
  have kle2 := Lib.hid kle.out
  obtain ⟨PB, hPB⟩ : ∃ P, P = pasB c d pl := ⟨_, rfl⟩
  rw [← hPB] at kpa hstep
  rw [← hcv]
  unfold ConfV.val at hcv
  subst hcv
  unfold CYv at hcy
  unfold ConfV.cells at hW2
  have hW2' := Lib.hid hW2
  have hs2' := Lib.hid hs2
  have hkn0 := hk
  clear h0 hlen hq hO2 b0 hW2 hs2 hZ hLK hHJ hS hLO hPK hPB hp s1 s2 s3 s4
  obtain ⟨c0, wy, h, mi, ⟨mA, mn, mc⟩, g, ⟨cA, cn, cc⟩, ⟨eA, en, ec⟩, ⟨tA, tn, tc⟩, ⟨lA, ln, lc⟩⟩ := c
  dsimp only at *
  obtain ⟨d0, d1, d2, d3, d4, d5, d6, d7, d8, d9, dl⟩ := hcy.out W2 (Only.refl _ _)
  go_enter Tryz.func61, Tryz.ntmps61
  go_upto_region 1 with fail
  rw [← hq'.out]
  rw [← hW2'.out]
  go_cut [5, 6] from 9 to 12 (fun u5 u6 wd => ∃ p5 c5 h5 p6 c6 h6, u5 = .slice p5 tn c5 ∧ u6 = .slice p6 tn c6 ∧ TwoRows tn LO LO (q + 1) p5 p6 c5 c6 h5 h6 wd ∧ Only (fun _ => False) W2 wd)
  case first =>
    go_region_held3 (fun W0 => W0.cell? ⟨q, 0, none⟩ = some (.int .i64 c0) ∧ W0.cell? ⟨q, 1, none⟩ = some (.int .i64 wy) ∧ W0.cell? ⟨q, 2, none⟩ = some (.int .i64 h) ∧ W0.cell? ⟨q, 3, none⟩ = some (.int .i64 mi) ∧ W0.cell? ⟨q, 4, none⟩ = some (.slice mA mn mc) ∧ W0.cell? ⟨q, 5, none⟩ = some (.int .i64 g) ∧ W0.cell? ⟨q, 6, none⟩ = some (.slice cA cn cc) ∧ W0.cell? ⟨q, 7, none⟩ = some (.slice eA en ec) ∧ W0.cell? ⟨q, 8, none⟩ = some (.slice tA tn tc) ∧ W0.cell? ⟨q, 9, none⟩ = some (.slice lA ln lc) ∧ q < W0.heap.size)
      (exact hcy.out _ (by repeat (first | with_reducible assumption | with_reducible exact Only.refl _ _ | with_reducible apply Only.drew | with_reducible apply Only.alloc)))
      (first
        | (go_at_call 29; (with_reducible refine (kle.out _ (by repeat (first | with_reducible assumption | with_reducible exact Only.refl _ _ | with_reducible apply Only.drew | with_reducible apply Only.alloc))).mono ?_); rintro _ w5 ⟨p5, c5, h5, rfl, hW5, hf5, ho5⟩; have hO5 : Only (fun _ => False) W2 w5 := Only.trans' (by repeat (first | with_reducible assumption | with_reducible exact Only.refl _ _ | with_reducible apply Only.drew | with_reducible apply Only.alloc)) ho5; have hA5 := Lib.hid (fun W (h : Only (fun _ => False) w5 W) => hW5.kept h (fun _ _ h => h)); have hB5 := Lib.hid (show (∀ g, h5 = some g → q + 1 ≤ g ∧ g < w5.heap.size) from fun g hg => ⟨Nat.le_trans (by rw [← hs2'.out]; exact Only.size (S := fun _ => False) (by repeat (first | with_reducible assumption | with_reducible exact Only.refl _ _ | with_reducible apply Only.drew | with_reducible apply Only.alloc))) (hf5 g hg), hW5.lt g hg⟩); clear hW5 hf5 kle)
        | (go_at_call 29; (with_reducible refine (kle2.out _ (by repeat (first | with_reducible assumption | with_reducible exact Only.refl _ _ | with_reducible apply Only.drew | with_reducible apply Only.alloc))).mono ?_); rintro _ w6 ⟨p6, c6, h6, rfl, hW6, hf6, ho6⟩; have hO6 : Only (fun _ => False) W2 w6 := Only.trans' (by repeat (first | with_reducible assumption | with_reducible exact Only.refl _ _ | with_reducible apply Only.drew | with_reducible apply Only.alloc)) ho6; have hA6 := Lib.hid (fun W (h : Only (fun _ => False) w6 W) => hW6.kept h (fun _ _ h => h)); have hx6 : Only (fun _ => False) w5 w6 := Only.trans' (by repeat (first | with_reducible assumption | with_reducible exact Only.refl _ _ | with_reducible apply Only.drew | with_reducible apply Only.alloc)) ho6; have hB6 := Lib.hid (show (∀ g, h6 = some g → w5.heap.size ≤ g) from fun g hg => Nat.le_trans (Only.size (S := fun _ => False) (by repeat (first | with_reducible assumption | with_reducible exact Only.refl _ _ | with_reducible apply Only.drew | with_reducible apply Only.alloc))) (hf6 g hg)); clear hW6 hf6))
    all_goals
      go_wp2
      go_meet
      case rel =>
        refine ⟨p5, c5, h5, p6, c6, h6, rfl, rfl, ⟨hA5.out _ (by repeat (first | with_reducible assumption | with_reducible exact Only.refl _ _ | with_reducible apply Only.drew | with_reducible apply Only.alloc)), hA6.out _ (by repeat (first | with_reducible assumption | with_reducible exact Only.refl _ _ | with_reducible apply Only.drew | with_reducible apply Only.alloc)), fun g hg => (hB5.out g hg).1, fun g hg => ?_, fun g hg hg2 => ?_⟩, (by repeat (first | with_reducible assumption | with_reducible exact Only.refl _ _ | with_reducible apply Only.drew | with_reducible apply Only.alloc))⟩
        · have := hB6.out g hg
          have := hO5.size
          have := hs2'.out
          omega
        · have := hB6.out g hg2
          have := (hB5.out g hg).2
          omega
  obtain ⟨p5, c5, h5, p6, c6, h6, rfl, rfl, ⟨hW5, hW6, hb5, hb6, hne⟩, hOc⟩ := hcut
  obtain ⟨w4, hw4⟩ : ∃ w4 : World, w4 = wc := ⟨_, rfl⟩
  subst hw4
  have hO4 := Lib.hid hOc
  have hA5 := Lib.hid (fun W (h : Only (fun k => some k = h6) w4 W) => hW5.kept h (fun g hg e => hne g hg e.symm))
  have hB5 := Lib.hid hb5
  have hB6 := Lib.hid hb6
  have hne' := Lib.hid hne
  have hW6' := Lib.hid hW6
  clear hOc hW5 hb5 hb6 hne hW6 d0 d1 d2 d3 d4 d5 d6 d7 d8 d9 dl kle kle2
  go_wp2_with fail
  refine (kso.out w4 _ _ _ hW6'.out).mono ?_
  rintro e w7 ⟨rfl, hW7, ho⟩
  have hRows := Lib.hid (show TwoRows tn LO S (q + 1) p5 p6 c5 c6 h5 h6 w7 from ⟨hA5.out w7 ho, hW7, hB5.out, hB6.out, hne'.out⟩)
  have hO7 := Lib.hid (show Only (fun _ => False) W2 w7 from hO4.out.trans ho (fun x hx e => by have := hB6.out x e.symm; have := hs2'.out; omega))
  clear ho hW7 hA5 hB5 hB6 hne' hW6' hO4 kso
  go_wp2
  go_loopw [8, 17] (fun _ i wr => ∃ (j : Nat) (L : List Int), i = .int .i64 j ∧ j ≤ tn ∧ Hid (LK L) ∧ Hid (HJ j) ∧ Hid (TwoRows tn L S (q + 1) p5 p6 c5 c6 h5 h6 wr) ∧ Hid (Only (fun _ => False) W2 wr)) (fun _ i _ => tn - (intOf i).toNat)
  case atStart => exact ⟨0, LO, rfl, Nat.zero_le _, hLK0, hHJ0, hRows, hO7⟩
  case round =>
    obtain ⟨j, L, rfl, hj, hL, hH, hR, hO⟩ := hrel
    obtain ⟨ws, hws⟩ : ∃ ws : World, ws = wr := ⟨_, rfl⟩
    subst hws
    by_cases hjn : j < tn
    · have hjn' : (j : Int) < (tn : Int) := by omega
      obtain ⟨z, hz⟩ := hSz.out j hjn
      obtain ⟨hW5, hW6, hb5, hb6, hne⟩ := hR.out
      obtain ⟨g6, o6, cc6, e6, v6, -, -, hl6, hc6, -⟩ := hW6.at_ (by omega)
      obtain ⟨g5, o5, cc5, e5, v5, -, -, hl5, hc5, hf5⟩ := hW5.at_ (by omega)
      injection v6 with v6 _ v6'
      injection v5 with v5 _ v5'
      subst v6 v5 e5 e6 v6' v5'
      have x6 := hc6 j (.int .i64 z) (by unfold icells; rw [List.getElem?_map, hz]; rfl)
      obtain ⟨tb, toff, t, rfl, htb, hCe, hpe⟩ := hta.out ws hO.out
      have f0 := hCe.c0
      rw [← hpe] at f0
      obtain ⟨d0, d1, d2, d3, d4, d5, d6, d7, d8, d9, dl⟩ := hcy.out ws hO.out
      have hkn' : (k : Int) < (tn : Int) := by omega
      have h56 : g5 ≠ g6 := fun e => hne g5 rfl (by rw [e])
      obtain ⟨u0, hu0⟩ : ∃ u, (icells L)[k]? = some u := ⟨_, List.getElem?_eq_getElem (by rw [hW5.1]; omega)⟩
      have hGk := hc5 k u0 hu0
      have hset := win_setCell (k := k) hW5 (by omega) (by omega) (.int .i64 z)
      rw [show (icells L).set k (.int .i64 z) = icells (L.set k z) from by unfold icells; rw [List.map_set]] at hset
      have hkp : Only (fun b => b = g5) ws (ws.setCell ⟨g5, o5 + k, none⟩ (.int .i64 z)) := (Only.refl (fun b => b = g5) ws).setCell (p := ⟨g5, o5 + k, none⟩) (fun _ => rfl) _
      have hR8 := Lib.hid (show TwoRows tn (L.set k z) S (q + 1) (some ⟨g5, o5, none⟩) (some ⟨g6, o6, none⟩) c5 c6 (some g5) (some g6) (ws.setCell ⟨g5, o5 + k, none⟩ (.int .i64 z)) from ⟨hset, hW6.kept hkp (fun g hg e => by cases hg; exact h56 e.symm), hb5, hb6, hne⟩)
      have hO8 := Lib.hid (show Only (fun _ => False) W2 (ws.setCell ⟨g5, o5 + k, none⟩ (.int .i64 z)) from hO.out.trans hkp (fun x hx e => by have := hb5 g5 rfl; have := hs2'.out; omega))
      have hfz := hf5 (o5 + k)
      clear hc6 hc5 hf5 hW5 hW6 hb5 hb6 hne hCe hpe hset hkp h56 hu0
      by_cases hle : z ≤ PK
      · have hH' := Lib.hid (hskip.out j z hH.out hz hle)
        clear hR8 hO8
        go_wp2
        go_roundw
        case rel => exact ⟨j + 1, L, by go_num, by omega, hL, hH', hR, hO⟩
        case measure => simp [intOf]; omega
      · obtain ⟨a1, a2, a3, a4⟩ := hstep.out L j z hL.out hH.out hz (by omega)
        have hL8 := hLKs.out L z hL.out
        have b1 := Lib.hid a1
        have b2 := Lib.hid a2
        obtain ⟨PBV, hPV⟩ : ∃ b, b = PB (L.set k z) := ⟨_, rfl⟩
        rw [← hPV] at b1 b2
        have kp := Lib.hid (fun W (hR9 : TwoRows tn (L.set k z) S (q + 1) (some ⟨g5, o5, none⟩) (some ⟨g6, o6, none⟩) c5 c6 (some g5) (some g6) W) (ho : Only (fun _ => False) W2 W) => kpa.out W ho _ _ _ _ hR9.1)
        rw [← hPV] at kp
        have hw1 : IntKind.i64.wrap (z - 1) = z - 1 := IntWalk.i64_in _ (by omega)
        have hL8' := Lib.hid hL8
        clear a1 a2 hPV hL8
        go_upto_region 8 with fail
        obtain ⟨w8, hw8⟩ : ∃ W, W = ws.setCell ⟨g5, o5 + k, none⟩ (.int .i64 z) := ⟨_, rfl⟩
        rw [← hw8] at hR8 hO8 ⊢
        clear hw8 d0 d1 d2 d3 d4 d5 d6 d7 d8 d9 dl x6 f0 hfz hl5 hl6 htb
        obtain ⟨d0, d1, d2, d3, d4, d5, d6, d7, d8, d9, dl⟩ := hcy.out w8 hO8.out
        go_wp2_with fail
        refine (kp.out w8 hR8.out hO8.out).mono ?_
        rintro e w9 ⟨rfl, ho⟩
        have hR9 := Lib.hid (show TwoRows tn (L.set k z) S (q + 1) (some ⟨g5, o5, none⟩) (some ⟨g6, o6, none⟩) c5 c6 (some g5) (some g6) w9 from ⟨hR8.out.1.kept ho (fun _ _ h => h), hR8.out.2.1.kept ho (fun _ _ h => h), hR8.out.2.2⟩)
        have hO9 := Lib.hid (hO8.out.trans' ho)
        clear ho d0 d1 d2 d3 d4 d5 d6 d7 d8 d9 dl
        cases PBV with
        | false =>
          have hf := Lib.hid (b1.out rfl w9 hO9.out)
          go_wp2
          exact hf.out
        | true =>
          have hH9 := Lib.hid (b2.out rfl)
          go_wp2
          go_roundw
          case rel => exact ⟨j + 1, L.set k z, by go_num, by omega, hL8', hH9, hR9, hO9⟩
          case measure => simp [intOf]; omega
    · obtain rfl : j = tn := by omega
      have hjn' : ¬ (j : Int) < (j : Int) := by omega
      have hf := Lib.hid (hfin.out hH.out ws hO.out)
      go_wp2
      exact hf.out

/-- What Search leaves. -/
def SrEnd (c : ConfV) (d : ConfL) (pl : Tks) (w : World) (e : Ending) (w' : World) : Prop :=
  Only (fun _ => False) w w' ∧ (passT c d pl (prio pl.ts) = false → e = .returned (.tuple #[.slice none 0 0, .bool false])) ∧
  (passT c d pl (prio pl.ts) = true → ∃ A cap h B, e = .returned (.tuple #[.slice A c.ta.n cap, .bool true]) ∧ Win w' 3 1 (.slice A c.ta.n cap) h c.ta.n (icells B) ∧ (∀ g, h = some g → w.heap.size ≤ g) ∧ ∀ k, k < c.ta.n → Hi c d pl k (B.getD k 0))
set_option maxRecDepth 100000 in
set_option maxHeartbeats 8000000 in
theorem search_any {w : World} {c : ConfV} {d : ConfL} {pl : Tks} (h0 : Cf0 w c d pl) :
    Calls Tryz.prog 31 #[c.val] w (SrEnd c d pl w) := by
  obtain ⟨q, hq⟩ : ∃ q, q = w.heap.size := ⟨_, rfl⟩
  obtain ⟨W2, hW2⟩ : ∃ W2, W2 = w.alloc (.cells c.cells.toArray 27) := ⟨_, rfl⟩
  have hO2 : Only (fun _ => False) w W2 := by rw [hW2]; exact (Only.refl _ w).alloc _
  have b0 : W2.heap[q]? = some (.cells c.cells.toArray 27 (0, 0)) := by rw [hW2]; exact heap_new_at _ _ hq.symm
  have hs2 : W2.heap.size = q + 1 := by rw [hW2, hq]; simp
  have hq' := Lib.hid hq
  have hcy := Lib.hid (fun W (ho : Only (fun _ => False) W2 W) => cyv_of (ho.heap b0 (fun h => h)))
  obtain ⟨cv, hcv⟩ : ∃ cv, cv = c.val := ⟨_, rfl⟩
  have hlen := h0.len
  have hn9 := h0.n
  have kle := Lib.hid (fun W (ho : Only (fun _ => False) W2 W) => show Calls Tryz.prog 29 #[cv] W (LeastEnd pl c.ta.n W) from by rw [hcv]; exact least_any (h0.new (hO2.trans' ho)))
  obtain ⟨LO, hLO⟩ : ∃ L, L = pl.ts.map (·.p) := ⟨_, rfl⟩
  obtain ⟨P0, hP0⟩ : ∃ b, b = passT c d pl (prio pl.ts) := ⟨_, rfl⟩
  have hpl : pasB c d pl LO = P0 := by rw [hP0, hLO]; exact pasB_pass hlen (lo_len hlen) (fun i _ => lo_getD i)
  have kpa := Lib.hid (fun W (ho : Only (fun _ => False) W2 W) A cap hh (hW : Win W 3 1 (.slice A c.ta.n cap) hh c.ta.n (icells LO)) => show Calls Tryz.prog 27 #[cv, .slice A c.ta.n cap] W (GrowB P0 W) from by rw [hcv, ← hpl]; exact passes_any (h0.new (hO2.trans' ho)) (ints_of (x := ⟨A, c.ta.n, cap⟩) hW) (by omega))
  have khi := Lib.hid (fun (hp : P0 = true) W (ho : Only (fun _ => False) W2 W) k (hk : k < c.ta.n) => show Calls Tryz.prog 61 #[cv, .int .i64 (k : Int)] W (HighEnd c d pl k W) from by rw [hcv]; exact highest_any (h0.new (hO2.trans' ho)) (by rw [← hP0]; exact hp) hk)
  unfold LeastEnd at kle
  rw [← hLO] at kle
  unfold HighEnd at khi
  obtain ⟨HI, hHI⟩ : ∃ P, P = Hi c d pl := ⟨_, rfl⟩
  rw [← hHI] at khi
  obtain ⟨Z, hZ⟩ : ∃ Z, Z = SrEnd c d pl w := ⟨_, rfl⟩
  rw [← hZ]
  have hf0 := Lib.hid (fun (hp : P0 = false) W (ho : Only (fun _ => False) W2 W) => show Z (.returned (.tuple #[.slice none 0 0, .bool false])) W from by
    rw [hZ]
    exact ⟨hO2.trans' ho, fun _ => rfl, fun h => by rw [← hP0, hp] at h; cases h⟩)
  have hf1 := Lib.hid (fun (hp : P0 = true) W (ho : Only (fun _ => False) W2 W) A cap hh B (hW : Win W 3 1 (.slice A c.ta.n cap) hh c.ta.n (icells B)) (hg : ∀ g, hh = some g → q + 1 ≤ g) (hB : ∀ k, k < c.ta.n → HI k (B.getD k 0)) => show Z (.returned (.tuple #[.slice A c.ta.n cap, .bool true])) W from by
    rw [hZ]
    rw [hHI] at hB
    exact ⟨hO2.trans' ho, fun h => (by rw [← hP0, hp] at h; cases h), fun _ => ⟨A, cap, hh, B, rfl, hW, fun g hg' => by have := hg g hg'; omega, hB⟩⟩)
  have hmk := Lib.hid (fun W => run_make_list (P := Tryz.prog) W 24 3 (.int .i64 0) 8 rfl infoI rfl c.ta.n (by omega) (by omega))
  have hW0 := Lib.hid (fun W => show Win (World.alloc W (.cells (List.replicate c.ta.n (.int .i64 0)).toArray 3)) 3 1 (.slice (some ⟨W.heap.size, 0, none⟩) c.ta.n c.ta.n) (some W.heap.size) c.ta.n (icells (List.replicate c.ta.n 0)) from by
    rw [show icells (List.replicate c.ta.n 0) = List.replicate c.ta.n (.int .i64 0) from by unfold icells; rw [List.map_replicate]]
    exact Win.of_row (heap_new_at _ _ rfl) (by simp) (by unfold maxLen; omega))
  rw [← hcv]
  unfold ConfV.val at hcv
  subst hcv
  unfold CYv at hcy
  unfold ConfV.cells at hW2
  have hW2' := Lib.hid hW2
  have hs2' := Lib.hid hs2
  clear h0 hlen hq hO2 b0 hW2 hs2 hZ hLO hP0 hpl hHI
  obtain ⟨c0, wy, h, mi, ⟨mA, mn, mc⟩, g, ⟨cA, cn, cc⟩, ⟨eA, en, ec⟩, ⟨tA, tn, tc⟩, ⟨lA, ln, lc⟩⟩ := c
  dsimp only at *
  obtain ⟨d0, d1, d2, d3, d4, d5, d6, d7, d8, d9, dl⟩ := hcy.out W2 (Only.refl _ _)
  go_enter Tryz.func31, Tryz.ntmps31
  go_upto_region 1 with fail
  rw [← hq'.out]
  rw [← hW2'.out]
  go_cut [10] from 6 to 10 (fun v wd => v = .bool (!P0) ∧ Only (fun _ => False) W2 wd)
  case first =>
    go_region_held3 (fun W0 => W0.cell? ⟨q, 0, none⟩ = some (.int .i64 c0) ∧ W0.cell? ⟨q, 1, none⟩ = some (.int .i64 wy) ∧ W0.cell? ⟨q, 2, none⟩ = some (.int .i64 h) ∧ W0.cell? ⟨q, 3, none⟩ = some (.int .i64 mi) ∧ W0.cell? ⟨q, 4, none⟩ = some (.slice mA mn mc) ∧ W0.cell? ⟨q, 5, none⟩ = some (.int .i64 g) ∧ W0.cell? ⟨q, 6, none⟩ = some (.slice cA cn cc) ∧ W0.cell? ⟨q, 7, none⟩ = some (.slice eA en ec) ∧ W0.cell? ⟨q, 8, none⟩ = some (.slice tA tn tc) ∧ W0.cell? ⟨q, 9, none⟩ = some (.slice lA ln lc) ∧ q < W0.heap.size)
      (exact hcy.out _ (by repeat (first | with_reducible assumption | with_reducible exact Only.refl _ _ | with_reducible apply Only.drew | with_reducible apply Only.alloc)))
      (first
        | (go_at_call 29; (with_reducible refine (kle.out _ (by repeat (first | with_reducible assumption | with_reducible exact Only.refl _ _ | with_reducible apply Only.drew | with_reducible apply Only.alloc))).mono ?_); rintro _ w5 ⟨p5, c5, h5, rfl, hW5, -, ho5⟩; have hO5 : Only (fun _ => False) W2 w5 := Only.trans' (by repeat (first | with_reducible assumption | with_reducible exact Only.refl _ _ | with_reducible apply Only.drew | with_reducible apply Only.alloc)) ho5; have hA5 := Lib.hid (fun W (h : Only (fun _ => False) w5 W) => hW5.kept h (fun _ _ h => h)); clear hW5)
        | (go_at_call 27; (with_reducible refine (kpa.out _ (by repeat (first | with_reducible assumption | with_reducible exact Only.refl _ _ | with_reducible apply Only.drew | with_reducible apply Only.alloc)) _ _ _ (hA5.out _ (by repeat (first | with_reducible assumption | with_reducible exact Only.refl _ _ | with_reducible apply Only.drew | with_reducible apply Only.alloc)))).mono ?_); rintro _ w6 ⟨rfl, ho6⟩; have hO6 : Only (fun _ => False) W2 w6 := Only.trans' (by repeat (first | with_reducible assumption | with_reducible exact Only.refl _ _ | with_reducible apply Only.drew | with_reducible apply Only.alloc)) ho6))
    all_goals
      go_wp2
      go_meet
      case rel => exact ⟨rfl, (by repeat (first | with_reducible assumption | with_reducible exact Only.refl _ _ | with_reducible apply Only.drew | with_reducible apply Only.alloc))⟩
  obtain ⟨rfl, hOc⟩ := hcut
  obtain ⟨w4, hw4⟩ : ∃ w4 : World, w4 = wc := ⟨_, rfl⟩
  subst hw4
  have hO4 := Lib.hid hOc
  clear hOc d0 d1 d2 d3 d4 d5 d6 d7 d8 d9 dl kle kpa
  cases P0 with
  | false =>
    have hf := Lib.hid (hf0.out rfl w4 hO4.out)
    go_wp2
    exact hf.out
  | true =>
    have khi2 := Lib.hid (khi.out rfl)
    have hf2 := Lib.hid (hf1.out rfl)
    clear khi hf1 hf0
    obtain ⟨d0, d1, d2, d3, d4, d5, d6, d7, d8, d9, dl⟩ := hcy.out w4 hO4.out
    have hm := hmk.out w4
    obtain ⟨G, hG⟩ : ∃ G, G = w4.heap.size := ⟨_, rfl⟩
    have hW3 := hW0.out w4
    obtain ⟨w5, hw5⟩ : ∃ W, W = w4.alloc (.cells (List.replicate tn (.int .i64 0)).toArray 3) := ⟨_, rfl⟩
    rw [← hw5, ← hG] at hm hW3
    have hO5 := Lib.hid (show Only (fun _ => False) w4 w5 from by rw [hw5]; exact (Only.refl _ _).alloc _)
    have hW3' := Lib.hid hW3
    have hGq := Lib.hid (show q + 1 ≤ G from by have := hO4.out.size; have := hs2'.out; omega)
    clear hW3 hw5 hmk hW0 hG
    go_upto_region 4 with fail
    clear d0 d1 d2 d3 d4 d5 d6 d7 d8 d9 dl hm
    go_wp2
    go_loopw [5, 17] (fun _ i wr => ∃ (k : Nat) (B : List Int), i = .int .i64 k ∧ k ≤ tn ∧ Hid (B.length = tn ∧ ∀ j, j < k → HI j (B.getD j 0)) ∧ Hid (Win wr 3 1 (.slice (some ⟨G, 0, none⟩) tn tn) (some G) tn (icells B)) ∧ Hid (Only (fun _ => False) W2 wr)) (fun _ i _ => tn - (intOf i).toNat)
    case atStart => exact ⟨0, List.replicate tn 0, rfl, Nat.zero_le _, Lib.hid ⟨by simp, fun j hj => by omega⟩, hW3', Lib.hid (hO4.out.trans' hO5.out)⟩
    case round =>
      obtain ⟨k, B, rfl, hk, hB, hW, hO⟩ := hrel
      obtain ⟨ws, hws⟩ : ∃ ws : World, ws = wr := ⟨_, rfl⟩
      subst hws
      by_cases hkn : k < tn
      · have hkn' : (k : Int) < (tn : Int) := by omega
        obtain ⟨d0, d1, d2, d3, d4, d5, d6, d7, d8, d9, dl⟩ := hcy.out ws hO.out
        go_wp2_with fail
        refine (khi2.out ws hO.out k hkn).mono ?_
        rintro e w8 ⟨x, rfl, hx, ho⟩
        have hW8 := hW.out.kept ho (fun _ _ h => h)
        obtain ⟨g5, o5, cc5, e5, v5, -, -, hl5, hc5, hf5⟩ := hW8.at_ (by omega)
        obtain ⟨u0, hu0⟩ : ∃ u, (icells B)[k]? = some u := ⟨_, List.getElem?_eq_getElem (by rw [hW8.1]; omega)⟩
        have hGk := hc5 k u0 hu0
        injection v5 with v5 _ v5'
        cases v5
        subst v5'
        rw [Nat.zero_add] at hGk
        have hset := win_setCell (k := k) hW8 (by omega) (by omega) (.int .i64 x)
        rw [Nat.zero_add, show (icells B).set k (.int .i64 x) = icells (B.set k x) from by unfold icells; rw [List.map_set]] at hset
        have hset' := Lib.hid hset
        have hO9 := Lib.hid (show Only (fun _ => False) W2 (w8.setCell ⟨G, k, none⟩ (.int .i64 x)) from (hO.out.trans' ho).trans ((Only.refl (fun b => b = G) w8).setCell (p := ⟨G, k, none⟩) (fun _ => rfl) _) (fun y hy e => by have := hGq.out; have := hs2'.out; omega))
        have hB9 := Lib.hid (show (B.set k x).length = tn ∧ ∀ j, j < k + 1 → HI j ((B.set k x).getD j 0) from ⟨by rw [List.length_set]; exact hB.out.1, fun j hj => by
          rw [getD_set (by have := hB.out.1; omega)]
          by_cases e : j = k
          · subst e; rw [if_pos rfl]; exact hx
          · rw [if_neg e]; exact hB.out.2 j (by omega)⟩)
        have hfz := hf5 k
        clear ho hW8 hset hx hf5 hc5 hu0 d0 d1 d2 d3 d4 d5 d6 d7 d8 d9 dl
        go_wp2
        go_roundw
        case rel => exact ⟨k + 1, B.set k x, by go_num, by omega, hB9, hset', hO9⟩
        case measure => simp [intOf]; omega
      · obtain rfl : k = tn := by omega
        have hkn' : ¬ (k : Int) < (k : Int) := by omega
        have hf := Lib.hid (hf2.out ws hO.out _ _ _ _ hW.out (fun g hg => by cases hg; exact hGq.out) hB.out.2)
        go_wp2
        exact hf.out
end Twn
end Go.Proofs.YtlbinlhaejhobaaGreatDoor
