/- section.Reach. -/
import Derived.Test.YteeleelkepjoaaaPure24
import Derived.Test.YteeleelkepjoaaaSrt
import Derived.Deep.QuietTactic
namespace Go.Proofs.Yteeleelkepjoaaa
namespace Sct
open Go Go.RowKit Lin Lck Cst Srt

theorem sorted_ext : ∀ {a b : List Int}, a.Pairwise (· < ·) → b.Pairwise (· < ·) → (∀ x, x ∈ a ↔ x ∈ b) → a = b
  | [], [], _, _, _ => rfl
  | [], y :: b, _, _, h => absurd ((h y).2 (by simp)) (by simp)
  | x :: a, [], _, _, h => absurd ((h x).1 (by simp)) (by simp)
  | x :: a, y :: b, ha, hb, h => by
    rw [List.pairwise_cons] at ha hb
    have hxy : x = y := by
      have h1 := (h x).1 (by simp)
      have h2 := (h y).2 (by simp)
      rcases List.mem_cons.1 h1 with h1 | h1
      · exact h1
      · rcases List.mem_cons.1 h2 with h2 | h2
        · exact h2.symm
        · have := hb.1 x h1
          have := ha.1 y h2
          omega
    subst hxy
    congr 1
    refine sorted_ext ha.2 hb.2 (fun z => ⟨fun hz => ?_, fun hz => ?_⟩)
    · rcases List.mem_cons.1 ((h z).1 (List.mem_cons_of_mem _ hz)) with e | e
      · subst e; exact absurd (ha.1 z hz) (by omega)
      · exact e
    · rcases List.mem_cons.1 ((h z).2 (List.mem_cons_of_mem _ hz)) with e | e
      · subst e; exact absurd (hb.1 z hz) (by omega)
      · exact e
/-- The levels behind the first k operations that are above the threshold. -/
def rchU (th : Int) (LV : Nat → Int) : Nat → List Int
  | 0 => []
  | k + 1 => rchU th LV k ++ (if th < LV (k + 1) then [LV (k + 1)] else [])
theorem rchU_len (th : Int) (LV : Nat → Int) : ∀ k, (rchU th LV k).length ≤ k
  | 0 => Nat.le_refl _
  | k + 1 => by
    have := rchU_len th LV k
    unfold rchU
    rw [List.length_append]
    split <;> simp <;> omega
theorem rchU_mem {th : Int} {LV : Nat → Int} {x : Int} : ∀ {k : Nat}, x ∈ rchU th LV k ↔ ∃ j, j < k ∧ LV (j + 1) = x ∧ th < x
  | 0 => by simp [rchU]
  | k + 1 => by
    unfold rchU
    rw [List.mem_append, rchU_mem]
    constructor
    · rintro (⟨j, h1, h2, h3⟩ | h)
      · exact ⟨j, by omega, h2, h3⟩
      · split at h
        · simp at h; subst h; exact ⟨k, by omega, rfl, by assumption⟩
        · simp at h
    · rintro ⟨j, h1, h2, h3⟩
      by_cases hj : j = k
      · subst hj
        right
        rw [h2, if_pos h3]
        simp
      · exact .inl ⟨j, by omega, h2, h3⟩
def rchL (th : Int) (LV : Nat → Int) (m : Nat) : List Int := Lib.compact (up (rchU th LV m))
theorem rchL_sorted (th : Int) (LV : Nat → Int) (m : Nat) : (rchL th LV m).Pairwise (· < ·) := compact_lt (up_sorted _)
theorem rchL_mem {th : Int} {LV : Nat → Int} {m : Nat} {x : Int} : x ∈ rchL th LV m ↔ ∃ j, j < m ∧ LV (j + 1) = x ∧ th < x := by
  unfold rchL
  rw [compact_mem, up_mem, rchU_mem]
/-- An answer that is a row of numbers. -/
def IntsEnd (w : World) (R : List Int) (e : Ending) (w' : World) : Prop :=
  ∃ p c h, e = .returned (.slice p R.length c) ∧ Win w' 3 1 (.slice p R.length c) h R.length (ints R) ∧ (∀ b, h = some b → w.heap.size ≤ b) ∧ Only (fun _ => False) w w'

set_option maxRecDepth 100000 in
set_option maxHeartbeats 4000000 in
theorem reach_any {w : World} {c : ConfV} {d : ConfL} {pl : Tks} (hC : ConfIn w c d pl) (hen : c.ce.n ≤ 4096) {i : Nat} {t : TaskV} {l : List Opn} (hi : pl[i]? = some (t, l)) (hl9 : l.length ≤ 1000) (htn : c.ta.n ≤ 1000000) :
    Calls Try.prog 18 #[c.val, .int .i64 (i : Int)] w (IntsEnd w (rchL t.th (levK t.th (ceZ d.ce) c.ce.n l) l.length)) := by
  obtain ⟨m, hm⟩ : ∃ m, m = l.length := ⟨_, rfl⟩
  obtain ⟨LV, hLV⟩ : ∃ LV, LV = levK t.th (ceZ d.ce) c.ce.n l := ⟨_, rfl⟩
  rw [← hm, ← hLV]
  obtain ⟨Z, hZ⟩ : ∃ Z, Z = IntsEnd w (rchL t.th LV m) := ⟨_, rfl⟩
  rw [← hZ]
  have hZ' := Lib.hid hZ
  clear hZ
  have hO := (Only.refl (fun _ => False) w).alloc (.cells c.cells.toArray 27)
  have hB := heap_new_at w (.cells c.cells.toArray 27) rfl
  obtain ⟨W1, hW1⟩ : ∃ W1, W1 = w.alloc (.cells c.cells.toArray 27) := ⟨_, rfl⟩
  rw [← hW1] at hB hO
  have hB' := Lib.hid hB
  have hO' := Lib.hid hO
  have hitn : i < c.ta.n := by
    have h1 := hC.t.len
    unfold Tks.ts at h1
    rw [List.length_map] at h1
    have := (List.getElem?_eq_some_iff.1 hi).1
    omega
  have hlv := Lib.hid (fun W (h : Only (fun _ => False) w W) => levels_any (hC.new h) hen hi hl9 htn)
  have hta := Lib.hid (fun W (h : Only (fun _ => False) w W) => (hC.new h).t.at_ i t (ts_some hi))
  obtain ⟨q, hqq⟩ : ∃ q, q = w.heap.size := ⟨_, rfl⟩
  have hqq' := Lib.hid hqq
  rw [← hqq] at hB'
  have hLVs := Lib.hid (fun (W w' : World) (e : Ending) (hE : LvsEnd t.th (ceZ d.ce) c.ce.n l W e w') => show ∃ G, e = .returned (.slice (some ⟨G, 0, none⟩) m m) ∧ (∀ k, k < m → w'.cell? ⟨G, k * 2, none⟩ = some (.int .i64 (LV k)) ∧ w'.cell? ⟨G, k * 2 + 1, none⟩ = some (.int .i64 (LV (k + 1)))) ∧ G < w'.heap.size ∧ Only (fun _ => False) W w' from by
    obtain ⟨G, h1, _, h3, h4⟩ := hE
    rw [← hm] at h1 h3
    refine ⟨G, h1, fun k hk => ?_, row_lt h3, h4⟩
    obtain ⟨a1, a2⟩ := pairs_at (th := t.th) (z := ceZ d.ce) (n := c.ce.n) (l := l) hk
    rw [hLV]
    exact ⟨row_cell h3 a1, row_cell h3 a2⟩)
  have hm9 : m ≤ 1000 := by omega
  clear hO hB hqq hC hi hm hLV
  rw [show c.val = .agg #[.int .i64 c.s, .int .i64 c.wy, .int .i64 c.h, .int .i64 c.mi, .slice c.mb.A c.mb.n c.mb.cap, .int .i64 c.g, .slice c.cn.A c.cn.n c.cn.cap, .slice c.ce.A c.ce.n c.ce.cap, .slice c.ta.A c.ta.n c.ta.cap, .slice c.li.A c.li.n c.li.cap] from rfl] at hlv ⊢
  unfold ConfV.cells at hW1 hB'
  obtain ⟨s, wy, h, mi, ⟨mA, mn, mc⟩, g, ⟨cA, cn, cc⟩, ⟨eA, en, ec⟩, ⟨tA, tn, tc⟩, ⟨lA, ln, lc⟩⟩ := c
  dsimp only at *
  have hW1' := Lib.hid hW1
  clear hW1
  obtain ⟨th, hth⟩ : ∃ th, th = t.th := ⟨_, rfl⟩
  rw [← hth] at hZ'
  have hth' := Lib.hid hth
  have e0 := row_cell hB'.out (i := 0) rfl
  have e1 := row_cell hB'.out (i := 1) rfl
  have e2 := row_cell hB'.out (i := 2) rfl
  have e3 := row_cell hB'.out (i := 3) rfl
  have e4 := row_cell hB'.out (i := 4) rfl
  have e5 := row_cell hB'.out (i := 5) rfl
  have e6 := row_cell hB'.out (i := 6) rfl
  have e7 := row_cell hB'.out (i := 7) rfl
  have e8 := row_cell hB'.out (i := 8) rfl
  have e9 := row_cell hB'.out (i := 9) rfl
  have hqlt := row_lt hB'.out
  have hi2 : (i : Int) < (tn : Int) := by omega
  clear hth
  go_enter Try.func18, Try.ntmps18
  go_wp2_with fail
  rw [← hqq'.out, ← hW1'.out]
  go_wp2_with fail
  refine (hlv.out _ hO'.out).mono ?_
  intro ee w3 hE
  obtain ⟨G, rfl, hcells, hGl, hO3⟩ := hLVs.out _ _ _ hE
  have hcells' := Lib.hid hcells
  have hGl' := Lib.hid hGl
  have hO3' := Lib.hid (hO'.out.trans' hO3)
  have hB3 := Lib.hid (hO3.heap hB'.out (fun h => h))
  clear hE hcells hGl hO3 e0 e1 e2 e3 e4 e5 e6 e7 e8 e9 hqlt hLVs hlv hB' hO' hW1'
  go_wp2
  go_loopw [5, 12] (fun v i' wr => ∃ (k y : Nat) (p : Option Addr) (cp : Nat) (hh : Option Nat), k ≤ m ∧ y ≤ k ∧ i' = .int .i64 k ∧ v = .slice p y cp ∧ y = (rchU th LV k).length ∧ Win wr 3 1 (.slice p y cp) hh y (ints (rchU th LV k)) ∧ (∀ b, hh = some b → w3.heap.size ≤ b) ∧ Only (fun _ => False) w3 wr) (fun _ i' _ => m - (intOf i').toNat)
  case atStart => exact ⟨0, 0, none, 0, none, Nat.zero_le _, Nat.le_refl _, rfl, rfl, rfl, Win.nil _ _ _, (fun b hb => by cases hb), Only.refl _ _⟩
  case round =>
    obtain ⟨k, y, p, cp, hh, hk, hyk, rfl, rfl, hyl, hW, hf, hO⟩ := hrel
    obtain ⟨ws, hws⟩ : ∃ ws : World, ws = wr := ⟨_, rfl⟩
    subst hws
    have hW' := Lib.hid hW
    have hf' := Lib.hid hf
    have hOs := Lib.hid hO
    have hyl' := Lib.hid hyl
    have hOw := Lib.hid (hO3'.out.trans' hO)
    have hBs := Lib.hid (hO.heap hB3.out (fun h => h))
    clear hO hW hf hyl
    by_cases hkm : k < m
    · have hkm' : (k : Int) < (m : Int) := by omega
      obtain ⟨g0, g1⟩ := hcells'.out k hkm
      replace g0 := hOs.out.cell g0 (fun h => h)
      replace g1 := hOs.out.cell g1 (fun h => h)
      have hGs := Nat.lt_of_lt_of_le hGl'.out hOs.out.size
      have hsu : rchU th LV (k + 1) = rchU th LV k ++ (if th < LV (k + 1) then [LV (k + 1)] else []) := rfl
      obtain ⟨u0, hu0⟩ : ∃ u0, u0 = LV k := ⟨_, rfl⟩
      obtain ⟨u1, hu1⟩ : ∃ u1, u1 = LV (k + 1) := ⟨_, rfl⟩
      rw [← hu0] at g0
      rw [← hu1] at g1 hsu
      obtain ⟨tb, toff, htA, htb, htC⟩ := hta.out _ hOw.out
      subst htA
      have d1 := htC.c1
      rw [← hth'.out] at d1
      have e8 := row_cell hBs.out (i := 8) rfl
      have hqs := row_lt hBs.out
      have hsu' := Lib.hid hsu
      have hOa := Lib.hid ((Only.refl (fun _ => False) ws).alloc (.cells #[.int .i64 u0, .int .i64 u1] 53))
      have hWa := Lib.hid (hW'.out.kept hOa.out (fun _ _ h => h))
      clear hu0 hu1 hsu htC
      by_cases hlt : th < u1
      · have hs2 := Lib.hid (show rchU th LV (k + 1) = rchU th LV k ++ [u1] by rw [hsu'.out, if_pos hlt])
        go_wp2
        go_quiet (fail)
        go_wp2_with (at_builtin; go_loud (refine wpList_append_win rfl _ _ 24 rfl 3 (Value.int .i64 0) 1 8 Try.underlying24 info3 rfl (by decide) rfl ((hWa.out.same (by first | rfl | exact drewN_heap _ _)).kept ((Only.refl (fun _ => False) _).alloc _) (fun _ _ h => h)) _ 1 1 rfl [.int .i64 u1] rfl (fun _ => ⟨_, rfl, row_one (heap_new_at _ _ (by simp [World.drewN]))⟩) (by simp [Value.oneCell']) (by unfold maxLen; omega) (by omega) ?_; intro v4 w6 h4 hW4 hO4' hh4; obtain ⟨p4, c4', rfl, _, _⟩ := hW4.out.form))
        go_roundw
        case rel =>
          refine ⟨k + 1, y + 1, p4, c4', h4, by omega, by omega, by go_num, rfl, ?_, ?_, fun x hx => ?_, ?_⟩
          · rw [hs2.out, List.length_append, ← hyl'.out]; rfl
          · rw [hs2.out]
            have := hW4.out
            rw [show ints (rchU th LV k) ++ [Value.int .i64 u1] = ints (rchU th LV k ++ [u1]) by simp [ints]] at this
            exact this
          · rcases hh4.out with rfl | ⟨g5, hg5, hge5⟩
            · exact hf'.out x hx
            · rw [hg5] at hx
              cases hx
              have h7 := hOs.out.size
              simp [World.drewN] at hge5
              omega
          · exact (((hOs.out.trans' hOa.out).drewN _).alloc _).trans hO4'.out (fun x hx e => by
              have h7 := hf'.out x e.symm
              omega)
        case measure => simp [intOf]; omega
      · have hs2 := Lib.hid (show rchU th LV (k + 1) = rchU th LV k by rw [hsu'.out, if_neg hlt, List.append_nil])
        go_wp2
        go_quiet (fail)
        go_wp2
        go_roundw
        case rel =>
          refine ⟨k + 1, y, p, cp, hh, by omega, by omega, by go_num, rfl, by rw [hs2.out]; exact hyl'.out, ?_, hf'.out, (hOs.out.trans' hOa.out).drewN _⟩
          rw [hs2.out]
          exact hWa.out.same (by first | rfl | exact drewN_heap _ _)
        case measure => simp [intOf]; omega
    · obtain rfl : k = m := by omega
      have hkm' : ¬ (k : Int) < (k : Int) := by omega
      go_wp2_with fail
      refine (sort_any hW'.out (by omega)).mono ?_
      rintro e w1 ⟨rfl, hW1, hO1⟩
      have hOx := Lib.hid (hOs.out.trans hO1 (fun x hx e => by have := hf'.out x e.symm; omega))
      have hW1' := Lib.hid hW1
      clear hW1 hO1
      go_wp2_with fail
      refine (compact_any hW1'.out (by omega)).mono ?_
      rintro e w2 ⟨rfl, hW2, hO2⟩
      have hend := Lib.hid (show Z (.returned (.slice p (Lib.compact (up (rchU th LV k))).length cp)) w2 from by
        rw [hZ'.out]
        exact ⟨p, cp, hh, rfl, hW2, fun b hb => Nat.le_trans hO3'.out.size (hf'.out b hb), hO3'.out.trans' (hOx.out.trans hO2 (fun x hx e => by have := hf'.out x e.symm; omega))⟩)
      obtain ⟨mm, hmm⟩ : ∃ mm, mm = (Lib.compact (up (rchU th LV k))).length := ⟨_, rfl⟩
      rw [← hmm] at hend ⊢
      clear hW2 hO2 hmm
      go_wp2
      exact hend.out
end Sct
end Go.Proofs.Yteeleelkepjoaaa
