/- Merged: Fin Lvl Lvs Lon Rsm Pre1. -/
import Derived.Test.YtlbinlhaejhobaaGreatDoorPF
import Derived.Test.YtlbinlhaejhobaaGreatDoorPG
import Derived.Test.YtlbinlhaejhobaaGreatDoorPE
import Derived.Deep.CutRange
/- What a configuration that may be has, all of it. -/
namespace Go.Proofs.YtlbinlhaejhobaaGreatDoor
namespace Fin0
open Go Go.RowKit

structure Fine (c : ConfV) (d : ConfL) (pl : Tks) : Prop where
  mach : machB c.s c.wy c.h c.mi = true
  many : manyB c = false
  n0 : 0 < c.ta.n
  g0 : 0 ≤ c.g
  obj : objB c d = true
  task : ∀ (i : Nat) t l, i < c.ta.n → pl[i]? = some (t, l) → t.okB = true ∧ checkZ l c.room = 0 ∧ l.any (lowB d.ce t.p) = false ∧ (pl.ts.take i).any (fun u => decide (u.p = t.p)) = false
theorem firstNZ_all {f : Nat → Int} {n : Nat} (h : firstNZ f n = 0) : ∀ j, j < n → f j = 0 := by
  induction n with
  | zero => intro j hj; omega
  | succ n ih =>
    unfold firstNZ at h
    by_cases h0 : firstNZ f n ≠ 0
    · rw [if_pos h0] at h
      exact absurd h h0
    · rw [if_neg h0] at h
      intro j hj
      by_cases hjn : j = n
      · subst hjn; exact h
      · exact ih (Classical.byContradiction h0) j (by omega)
theorem of_zero {c : ConfV} {d : ConfL} {pl : Tks} (h : confZ c d pl = 0) : Fine c d pl := by
  unfold confZ at h
  split at h
  · simp at h
  rename_i h1
  split at h
  · simp at h
  rename_i h2
  split at h
  · simp at h
  rename_i h3
  split at h
  · simp at h
  rename_i h4
  refine ⟨by simpa using h1, by simpa using h2, by omega, by omega, by simpa using h4, fun i t l hi ht => ?_⟩
  have hz := firstNZ_all h i hi
  rw [taskAt_some ht] at hz
  unfold taskZ at hz
  split at hz
  · simp at hz
  rename_i h5
  split at hz
  · rename_i h6; exact absurd hz h6
  rename_i h6
  split at hz
  · simp at hz
  rename_i h7
  split at hz
  · simp at hz
  rename_i h8
  exact ⟨by simpa using h5, Classical.byContradiction h6, by simpa using h7, by simpa using h8⟩
theorem inB_in {lo hi z : Int} (h : inB lo hi z = true) : lo ≤ z ∧ z ≤ hi := by unfold inB at h; simpa using h
theorem Fine.machine {c : ConfV} {d : ConfL} {pl : Tks} (h : Fine c d pl) : (1 ≤ c.s ∧ c.s ≤ 16) ∧ (1 ≤ c.wy ∧ c.wy ≤ 4) ∧ (1 ≤ c.h ∧ c.h ≤ 100) ∧ (c.h ≤ c.mi ∧ c.mi ≤ 100) := by
  have := h.mach
  unfold machB at this
  simp only [Bool.and_eq_true] at this
  exact ⟨inB_in this.1.1.1, inB_in this.1.1.2, inB_in this.1.2, inB_in this.2⟩
theorem Fine.counts {c : ConfV} {d : ConfL} {pl : Tks} (h : Fine c d pl) : c.mb.n ≤ 4 ∧ c.g ≤ 4 ∧ c.cn.n ≤ 4 ∧ c.ce.n ≤ 4 ∧ c.ta.n ≤ 8 ∧ c.li.n ≤ 8 := by
  have := h.many
  unfold manyB at this
  simp at this
  omega
theorem Fine.nums {c : ConfV} {d : ConfL} {pl : Tks} (h : Fine c d pl) {i : Nat} {t : TaskV} {l : List Opn} (hi : i < c.ta.n) (ht : pl[i]? = some (t, l)) :
    (0 ≤ t.p ∧ t.p ≤ 63) ∧ (t.p ≤ t.th ∧ t.th ≤ 63) ∧ (1 ≤ t.pe ∧ t.pe ≤ 1048576) ∧ (1 ≤ t.de ∧ t.de ≤ t.pe) ∧ (0 ≤ t.fr ∧ t.fr ≤ 4096) ∧ (0 ≤ t.fl ∧ t.fl ≤ 1048576) := by
  have := (h.task i t l hi ht).1
  unfold TaskV.okB taskB at this
  simp only [Bool.and_eq_true] at this
  exact ⟨inB_in this.1.1.1.1.1, inB_in this.1.1.1.1.2, inB_in this.1.1.1.2, inB_in this.1.1.2, inB_in this.1.2, inB_in this.2⟩
theorem Fine.prog {c : ConfV} {d : ConfL} {pl : Tks} (h : Fine c d pl) {i : Nat} {t : TaskV} {l : List Opn} (hi : i < c.ta.n) (ht : pl[i]? = some (t, l)) : 0 < l.length ∧ l.length ≤ 64 ∧ ∀ o ∈ l, opZ o c.room = 0 := by
  have hz := (h.task i t l hi ht).2.1
  refine ⟨?_, ?_, checkZ_ops hz⟩
  · unfold checkZ at hz
    split at hz
    · simp at hz
    · omega
  · unfold checkZ at hz
    split at hz
    · simp at hz
    · split at hz
      · simp at hz
      · omega
theorem acc_in {o : Opn} {r : RoomV} (h : opZ o r = 0) (hk : o.k = 2) : 0 ≤ o.a ∧ o.a ≤ 255 := by
  obtain ⟨k, a, b⟩ := o
  simp only at hk
  subst hk
  unfold opZ at h
  simp [opV, loA, hiA, hiB, inB] at h
  simp only
  omega
end Fin0
end Go.Proofs.YtlbinlhaejhobaaGreatDoor
/- section.Levels. -/
namespace Go.Proofs.YtlbinlhaejhobaaGreatDoor
namespace Sct
open Go Go.RowKit Lin Lck

/-- The level ahead of operation k. -/
def levK (th : Int) (z : Nat → Int) (n : Nat) (l : List Opn) (k : Nat) : Int := levS th z n (stS (l.take k))
theorem stS_succ {l : List Opn} {k : Nat} {o : Opn} (h : l[k]? = some o) : stS (l.take (k + 1)) = doS (stS (l.take k)) o := by
  unfold stS
  rw [List.take_add_one, h]
  simp [List.foldl_append]
theorem reg_le : ∀ (l : List Opn) (s : St), (l.foldl doS s).reg ≤ s.reg + l.length
  | [], _ => Nat.le_refl _
  | o :: l, s => by
    have h := reg_le l (doS s o)
    have : (doS s o).reg ≤ s.reg + 1 := by
      unfold doS
      split
      · simp
      · split
        · simp; omega
        · split
          · simp
          · split <;> simp
    simp only [List.foldl_cons, List.length_cons]
    omega
theorem reg_take (l : List Opn) (k : Nat) : (stS (l.take k)).reg ≤ k := by
  have := reg_le (l.take k) st0
  have h := List.length_take_le k l
  simp [st0] at this
  unfold stS
  exact Nat.le_trans this (by simp at *; omega)
/-- The pairs, the first k of m laid. -/
def pairs (th : Int) (z : Nat → Int) (n : Nat) (l : List Opn) (m k : Nat) : List Value := (List.range m).flatMap (fun i => if i < k then [.int .i64 (levK th z n l i), .int .i64 (levK th z n l (i + 1))] else [.int .i64 0, .int .i64 0])
theorem flat_two {f : Nat → List Value} (hf : ∀ i, (f i).length = 2) : ∀ (m : Nat), ((List.range m).flatMap f).length = 2 * m
  | 0 => rfl
  | m + 1 => by rw [List.range_succ, List.flatMap_append, List.length_append, flat_two hf m]; simp [hf]; omega
theorem flat_at {f : Nat → List Value} (hf : ∀ i, (f i).length = 2) {i j m : Nat} (hi : i < m) (hj : j < 2) : ((List.range m).flatMap f)[i * 2 + j]? = (f i)[j]? := by
  induction m with
  | zero => omega
  | succ m ih =>
    rw [List.range_succ, List.flatMap_append]
    by_cases h : i < m
    · rw [List.getElem?_append_left (by rw [flat_two hf]; omega), ih h]
    · obtain rfl : i = m := by omega
      rw [List.getElem?_append_right (by rw [flat_two hf]; omega), flat_two hf, show i * 2 + j - 2 * i = j by omega]
      simp
theorem pairs_len (th : Int) (z : Nat → Int) (n : Nat) (l : List Opn) (m k : Nat) : (pairs th z n l m k).length = 2 * m := flat_two (fun i => by split <;> rfl) m
theorem pairs_at {th : Int} {z : Nat → Int} {n : Nat} {l : List Opn} {m i : Nat} (hi : i < m) : (pairs th z n l m m)[i * 2]? = some (.int .i64 (levK th z n l i)) ∧ (pairs th z n l m m)[i * 2 + 1]? = some (.int .i64 (levK th z n l (i + 1))) := by
  have h0 := flat_at (f := fun i => if i < m then [Value.int .i64 (levK th z n l i), .int .i64 (levK th z n l (i + 1))] else [.int .i64 0, .int .i64 0]) (fun i => by split <;> rfl) hi (show 0 < 2 by omega)
  have h1 := flat_at (f := fun i => if i < m then [Value.int .i64 (levK th z n l i), .int .i64 (levK th z n l (i + 1))] else [.int .i64 0, .int .i64 0]) (fun i => by split <;> rfl) hi (show 1 < 2 by omega)
  simp only [if_pos hi] at h0 h1
  exact ⟨h0, h1⟩
theorem pairs_set {th : Int} {z : Nat → Int} {n : Nat} {l : List Opn} {m k : Nat} (hk : k < m) : ((pairs th z n l m k).set (k * 2) (.int .i64 (levK th z n l k))).set (k * 2 + 1) (.int .i64 (levK th z n l (k + 1))) = pairs th z n l m (k + 1) := by
  have hf : ∀ q i, ((if i < q then [Value.int .i64 (levK th z n l i), .int .i64 (levK th z n l (i + 1))] else [.int .i64 0, .int .i64 0]) : List Value).length = 2 := fun q i => by split <;> rfl
  apply List.ext_getElem?
  intro x
  by_cases hx : x < 2 * m
  · obtain ⟨i, j, hj, rfl⟩ : ∃ i j, j < 2 ∧ x = i * 2 + j := ⟨x / 2, x % 2, Nat.mod_lt _ (by omega), by omega⟩
    have hi : i < m := by omega
    unfold pairs
    rw [List.getElem?_set, List.getElem?_set, flat_at (hf (k + 1)) hi hj, flat_at (hf k) hi hj]
    simp only [List.length_set, flat_two (hf k)]
    by_cases e : i = k
    · subst e
      have : j = 0 ∨ j = 1 := by omega
      rcases this with rfl | rfl
      · rw [if_neg (by omega), if_pos (by omega), if_pos (by omega), if_pos (by omega)]; rfl
      · rw [if_pos (by omega), if_pos (by omega), if_pos (by omega)]; rfl
    · rw [if_neg (by omega), if_neg (by omega)]
      have : (i < k) = (i < k + 1) := by apply propext; omega
      simp only [this]
  · rw [List.getElem?_eq_none (by simp [pairs_len]; omega), List.getElem?_eq_none (by rw [pairs_len]; omega)]
theorem pairs_zero (th : Int) (z : Nat → Int) (n : Nat) (l : List Opn) (m : Nat) : pairs th z n l m 0 = List.replicate (m * 2) (.int .i64 0) := by
  have hf : ∀ i : Nat, ((if i < 0 then [Value.int .i64 (levK th z n l i), .int .i64 (levK th z n l (i + 1))] else [.int .i64 0, .int .i64 0]) : List Value).length = 2 := fun i => by split <;> rfl
  apply List.ext_getElem?
  intro x
  by_cases hx : x < 2 * m
  · obtain ⟨i, j, hj, rfl⟩ : ∃ i j, j < 2 ∧ x = i * 2 + j := ⟨x / 2, x % 2, Nat.mod_lt _ (by omega), by omega⟩
    have hi : i < m := by omega
    unfold pairs
    have h8 : i * 2 + j < m * 2 := by omega
    rw [List.getElem?_replicate, if_pos h8]
    have h9 := flat_at hf hi hj
    rw [h9, if_neg (Nat.not_lt_zero _)]
    have : j = 0 ∨ j = 1 := by omega
    rcases this with rfl | rfl <;> rfl
  · rw [List.getElem?_eq_none (by rw [pairs_len]; omega), List.getElem?_eq_none (by simp; omega)]
end Sct
end Go.Proofs.YtlbinlhaejhobaaGreatDoor
/- section.Levels: the walk. -/
namespace Go.Proofs.YtlbinlhaejhobaaGreatDoor
namespace Sct
open Go Go.RowKit Lin Lck

theorem run_make_pairs (w : World) (n : Nat) (hn : n ≤ 1000000) : (Instr.makeSlice 116 (.int .i64 (n : Int)) (.int .i64 (n : Int))).run Tryz.prog w = .ok (.slice (some ⟨w.heap.size, 0, none⟩) n n) (w.alloc (.cells (List.replicate (n * 2) (Value.int .i64 0)).toArray 119)) := by
  have hinfo : (Tryz.prog.info? 119).map (fun i => (i.zero, i.size, i.bytes)) = some (some (.agg #[.int .i64 0, .int .i64 0]), 2, 16) := by kernel_rfl
  obtain ⟨i, hi, hzz⟩ := Option.map_eq_some_iff.1 hinfo
  simp only [Prod.mk.injEq] at hzz
  obtain ⟨hz, hs, hb⟩ := hzz
  have hr := run_make (P := Tryz.prog) w 116 119 i _ Tryz.underlying116 hi hz .i64 .i64 n n (by omega) (Int.le_refl _) (by rw [hb]; omega) (by omega)
  simp only [Int.toNat_natCast, hs] at hr
  rw [hr]
  have : madeCells (Value.agg #[Value.int .i64 0, Value.int .i64 0]).cells (n * 2) = (List.replicate (n * 2) (Value.int .i64 0)).toArray := by
    show madeCells #[Value.int .i64 0, Value.int .i64 0] (n * 2) = _
    unfold madeCells
    apply Array.ext_getElem?
    intro j
    simp only [Array.getElem?_map, Array.getElem?_range, List.getElem?_toArray, List.getElem?_replicate]
    by_cases h : j < n * 2
    · rw [if_pos h, if_pos h]
      have : j % 2 = 0 ∨ j % 2 = 1 := by omega
      rcases this with h2 | h2 <;> simp [h2]
    · rw [if_neg h, if_neg h]
      rfl
  rw [this]

/-- What Levels answers. -/
def LvsEnd (th : Int) (z : Nat → Int) (n : Nat) (l : List Opn) (w : World) (e : Ending) (w' : World) : Prop :=
  ∃ G, e = .returned (.slice (some ⟨G, 0, none⟩) l.length l.length) ∧ w.heap.size ≤ G ∧ w'.heap[G]? = some (.cells (pairs th z n l l.length l.length).toArray 119 (0, 0)) ∧ Only (fun _ => False) w w'
def ceZ (ce : List Int) (i : Nat) : Int := ce.getD i 0
theorem ce_row {w : World} {x : Sl} {ce : List Int} (h : IntsAt w x ce) : Row w x.A x.n (fun i => .int .i64 (ceZ ce i)) := fun k hk => by
  have hz : ce[k]? = some (ceZ ce k) := by
    unfold ceZ
    rw [List.getD_eq_getElem?_getD, List.getElem?_eq_getElem (by have := h.len; omega)]
    rfl
  obtain ⟨b, off, h1, h2, h3⟩ := h.at_ k _ hz
  exact ⟨b, off, h1, h3, h2⟩
theorem opn_row {w : World} {A : Option Addr} {l : List Opn} (h : OpnRow w A l) {k : Nat} {o : Opn} (ho : l[k]? = some o) : ∃ b off, A = some ⟨b, off, none⟩ ∧ b < w.heap.size ∧ w.cell? ⟨b, off + k * 3, none⟩ = some (.int .i64 o.k) ∧ w.cell? ⟨b, off + k * 3 + 1, none⟩ = some (.int .i64 o.a) ∧ w.cell? ⟨b, off + k * 3 + 2, none⟩ = some (.int .i64 o.b) := by
  obtain ⟨b, off, e, hb, c0, c1, c2⟩ := h k o ho
  exact ⟨b, off, e, hb, c0, c1, c2⟩

theorem lv_a {w2 w3 : World} {en : Nat} {zz : Nat → Int} {th : Int} (hL : LkAt w3 (w2.heap.size + 1) w2.heap.size en zz (fun _ => 0) (fun _ => false)) (hO : Only (fun _ => False) w2 w3) :
    ∃ a b g, Value.pointer (some ⟨w3.heap.size, 0, none⟩) = .pointer (some ⟨a, 0, none⟩) ∧ WkAt (w3.alloc (.cells #[.int .i64 th, .pointer (some ⟨w2.heap.size + 1, 0, none⟩), .int .i64 0] 149)) a b g en zz th st0 ∧ Only (fun _ => False) w2 (w3.alloc (.cells #[.int .i64 th, .pointer (some ⟨w2.heap.size + 1, 0, none⟩), .int .i64 0] 149)) ∧ w2.heap.size ≤ a ∧ w2.heap.size ≤ g := by
  have h1 := hL.lt
  refine ⟨_, w2.heap.size + 1, w2.heap.size, rfl, ⟨heap_new_at w3 _ rfl, hL.new ((Only.refl _ w3).alloc _), ?_, ?_⟩, hO.alloc _, hO.size, Nat.le_refl _⟩ <;> omega
theorem lv_b {w2 w3 : World} {en : Nat} {zz : Nat → Int} {th : Int} (hL : LkAt w3 (w2.heap.size + 1 + 1) (w2.heap.size + 1) en zz (fun _ => 0) (fun _ => false)) (hO : Only (fun _ => False) w2 w3) (hz : w3.heap[w2.heap.size]? = some (.cells #[.int .i64 0, .pointer none, .int .i64 0] 149 (0, 0))) :
    ∃ a b g, Value.pointer (some ⟨w2.heap.size, 0, none⟩) = .pointer (some ⟨a, 0, none⟩) ∧ WkAt (((w3.setCell ⟨w2.heap.size, 0, none⟩ (.int .i64 th)).setCell ⟨w2.heap.size, 1, none⟩ (.pointer (some ⟨w2.heap.size + 1 + 1, 0, none⟩))).setCell ⟨w2.heap.size, 2, none⟩ (.int .i64 0)) a b g en zz th st0 ∧ Only (fun _ => False) w2 (((w3.setCell ⟨w2.heap.size, 0, none⟩ (.int .i64 th)).setCell ⟨w2.heap.size, 1, none⟩ (.pointer (some ⟨w2.heap.size + 1 + 1, 0, none⟩))).setCell ⟨w2.heap.size, 2, none⟩ (.int .i64 0)) ∧ w2.heap.size ≤ a ∧ w2.heap.size ≤ g := by
  have s0 := row_set (L := [.int .i64 0, .pointer none, .int .i64 0]) hz 0 (.int .i64 th)
  have s1 := row_set s0 1 (.pointer (some ⟨w2.heap.size + 1 + 1, 0, none⟩))
  have s2 := row_set s1 2 (.int .i64 0)
  have o9 : Only (fun k => k = w2.heap.size) w3 (((w3.setCell ⟨w2.heap.size, 0, none⟩ (.int .i64 th)).setCell ⟨w2.heap.size, 1, none⟩ (.pointer (some ⟨w2.heap.size + 1 + 1, 0, none⟩))).setCell ⟨w2.heap.size, 2, none⟩ (.int .i64 0)) :=
    (((Only.refl (fun k => k = w2.heap.size) w3).setCell (p := ⟨w2.heap.size, 0, none⟩) (fun _ => rfl) _).setCell (p := ⟨w2.heap.size, 1, none⟩) (fun _ => rfl) _).setCell (p := ⟨w2.heap.size, 2, none⟩) (fun _ => rfl) _
  refine ⟨_, w2.heap.size + 1 + 1, w2.heap.size + 1, rfl, ⟨s2, hL.kept o9 (fun e => by omega) (fun e => by omega), ?_, ?_⟩, hO.trans o9 (fun x hx e => by omega), Nat.le_refl _, by omega⟩ <;> omega

set_option maxRecDepth 100000 in
set_option maxHeartbeats 4000000 in
theorem levels_any {w : World} {c : ConfV} {d : ConfL} {pl : Tks} (hC : ConfIn w c d pl) (hen : c.ce.n ≤ 4096) {i : Nat} {t : TaskV} {l : List Opn} (hi : pl[i]? = some (t, l)) (hl9 : l.length ≤ 1000) (htn : c.ta.n ≤ 1000000) :
    Calls Tryz.prog 93 #[c.val, .int .i64 (i : Int)] w (LvsEnd t.th (ceZ d.ce) c.ce.n l w) := by
  obtain ⟨Z, hZ⟩ : ∃ Z, Z = LvsEnd t.th (ceZ d.ce) c.ce.n l w := ⟨_, rfl⟩
  rw [← hZ]
  have hZ' := Lib.hid hZ
  clear hZ
  have hO := (Only.refl (fun _ => False) w).alloc (.cells c.cells.toArray 27)
  have hB := heap_new_at w (.cells c.cells.toArray 27) rfl
  obtain ⟨W1, hW1⟩ : ∃ W1, W1 = w.alloc (.cells c.cells.toArray 27) := ⟨_, rfl⟩
  rw [← hW1] at hB hO
  have hB' := Lib.hid hB
  have hO' := Lib.hid hO
  have hitn : i < c.ta.n := by
    have h1 := hC.t.len
    unfold Tks.ts at h1
    rw [List.length_map] at h1
    have := (List.getElem?_eq_some_iff.1 hi).1
    omega
  have hnew := Lib.hid (fun W (h : Only (fun _ => False) w W) => new_any W c.ce.A c.ce.n c.ce.cap (ceZ d.ce) hen (ce_row (hC.new h).ce))
  have hrow := Lib.hid (fun W (h : Only (fun _ => False) w W) => ((hC.new h).p i t l hi).1)
  have hln : l.length = t.o.n := (hC.p i t l hi).2.1
  obtain ⟨tb, toff, htA, htb, htC⟩ := (hC.new hO).t.at_ i t (ts_some hi)
  obtain ⟨q, hqq⟩ : ∃ q, q = w.heap.size := ⟨_, rfl⟩
  have hqq' := Lib.hid hqq
  rw [← hqq] at hB'
  clear hO hB hqq hC hi
  rw [show c.val = .agg #[.int .i64 c.s, .int .i64 c.wy, .int .i64 c.h, .int .i64 c.mi, .slice c.mb.A c.mb.n c.mb.cap, .int .i64 c.g, .slice c.cn.A c.cn.n c.cn.cap, .slice c.ce.A c.ce.n c.ce.cap, .slice c.ta.A c.ta.n c.ta.cap, .slice c.li.A c.li.n c.li.cap] from rfl]
  unfold ConfV.cells at hW1 hB'
  obtain ⟨s, wy, h, mi, ⟨mA, mn, mc⟩, g, ⟨cA, cn, cc⟩, ⟨eA, en, ec⟩, ⟨tA, tn, tc⟩, ⟨lA, ln, lc⟩⟩ := c
  dsimp only at *
  subst htA
  have hW1' := Lib.hid hW1
  clear hW1
  obtain ⟨tp, th, tpe, tde, tfr, tfl, ⟨oA, on, oc⟩⟩ := t
  dsimp only at *
  obtain ⟨zz, hzz⟩ : ∃ zz, zz = ceZ d.ce := ⟨_, rfl⟩
  rw [← hzz] at hnew hZ'
  clear hzz
  obtain ⟨c0, c1, c2, c3, c4, c5, c6⟩ := htC
  dsimp only at c0 c1 c2 c3 c4 c5 c6
  have e8 := row_cell hB'.out (i := 8) rfl
  have hqlt := row_lt hB'.out
  have hi0 : ¬ (i : Int) < 0 := by omega
  have hi1 : ¬ (tn : Int) ≤ (i : Int) := by omega
  have hi2 : (i : Int) < (tn : Int) := by omega
  go_enter Tryz.func93, Tryz.ntmps93
  go_upto_region 1 with fail
  rw [← hqq'.out, ← hW1'.out]
  go_upto_region 4 with fail
  obtain ⟨Y, hY⟩ : ∃ Y, Y = W1.heap.size := ⟨_, rfl⟩
  have hY' := Lib.hid hY
  clear hY
  rw [← hY'.out]
  generalize hw2 : W1.alloc (.cells #[.int .i64 tp, .int .i64 th, .int .i64 tpe, .int .i64 tde, .int .i64 tfr, .int .i64 tfl, .slice oA on oc] 49) = w2
  have hO2 := Lib.hid (show Only (fun _ => False) w w2 by rw [← hw2]; exact hO'.out.alloc _)
  have hB2 := Lib.hid (((Only.refl (fun _ => False) W1).alloc (.cells #[.int .i64 tp, .int .i64 th, .int .i64 tpe, .int .i64 tde, .int .i64 tfr, .int .i64 tfl, .slice oA on oc] 49)).heap hB'.out (fun h => h))
  rw [hw2] at hB2
  have hy2 := Lib.hid (show w2.heap[Y]? = some (.cells #[.int .i64 tp, .int .i64 th, .int .i64 tpe, .int .i64 tde, .int .i64 tfr, .int .i64 tfl, .slice oA on oc] 49 (0, 0)) by rw [← hw2]; exact heap_new_at _ _ hY'.out.symm)
  have hwY : w.heap.size ≤ Y ∧ Y < w2.heap.size := ⟨by rw [hY'.out]; exact hO'.out.size, row_lt hy2.out⟩
  clear hw2 e8 hqlt c0 c1 c2 c3 c4 c5 c6 htb hB' hO' hW1'
  have hkeep := Lib.hid (fun W0 (h0 : Only (fun _ => False) w2 W0) => show W0.cell? ⟨Y, 1, none⟩ = some (.int .i64 th) ∧ W0.cell? ⟨q, 7, none⟩ = some (.slice eA en ec) ∧ Y < W0.heap.size ∧ q < W0.heap.size from by
    have q1 := h0.heap hy2.out (fun h => h)
    have q2 := h0.heap hB2.out (fun h => h)
    exact ⟨row_cell (L := [.int .i64 tp, .int .i64 th, .int .i64 tpe, .int .i64 tde, .int .i64 tfr, .int .i64 tfl, .slice oA on oc]) q1 (i := 1) rfl, row_cell q2 (i := 7) rfl, row_lt q1, row_lt q2⟩)
  obtain ⟨k1, k2, k3, k4⟩ := hkeep.out _ (Only.refl _ _)
  have hnew2 := Lib.hid (fun W (h : Only (fun _ => False) w2 W) => hnew.out W (hO2.out.trans' h))
  have hfr := Lib.hid (fun (W0 W3 : World) (ho : Only (fun _ => False) W0 W3) (h : W0.heap[w2.heap.size]? = some (.cells #[.int .i64 0, .pointer none, .int .i64 0] 149 (0, 0))) => show W3.cell? ⟨w2.heap.size, 0, none⟩ = some (.int .i64 0) ∧ W3.cell? ⟨w2.heap.size, 1, none⟩ = some (.pointer none) ∧ W3.cell? ⟨w2.heap.size, 2, none⟩ = some (.int .i64 0) ∧ W3.frozen? ⟨w2.heap.size, 0, none⟩ = false ∧ W3.frozen? ⟨w2.heap.size, 1, none⟩ = false ∧ W3.frozen? ⟨w2.heap.size, 2, none⟩ = false ∧ w2.heap.size < W3.heap.size from by
    have q := ho.heap h (fun h => h)
    exact ⟨row_cell (L := [.int .i64 0, .pointer none, .int .i64 0]) q (i := 0) rfl, row_cell (L := [.int .i64 0, .pointer none, .int .i64 0]) q (i := 1) rfl, row_cell (L := [.int .i64 0, .pointer none, .int .i64 0]) q (i := 2) rfl, row_free (L := [.int .i64 0, .pointer none, .int .i64 0]) q 0, row_free (L := [.int .i64 0, .pointer none, .int .i64 0]) q 1, row_free (L := [.int .i64 0, .pointer none, .int .i64 0]) q 2, row_lt q⟩)
  go_cut [6] from 25 to 30 (fun v wd => ∃ a b g, v = .pointer (some ⟨a, 0, none⟩) ∧ WkAt wd a b g en zz th st0 ∧ Only (fun _ => False) w2 wd ∧ w2.heap.size ≤ a ∧ w2.heap.size ≤ g)
  case first =>
    go_region_held3 (fun W0 => W0.cell? ⟨Y, 1, none⟩ = some (.int .i64 th) ∧ W0.cell? ⟨q, 7, none⟩ = some (.slice eA en ec) ∧ Y < W0.heap.size ∧ q < W0.heap.size)
      (exact hkeep.out _ (by repeat (first | assumption | exact Only.refl _ _ | apply Only.drew | apply Only.alloc | (refine Only.setCell ?_ (fun h => (Nat.lt_irrefl _ h).elim) _) | (refine Only.setCell ?_ (fun h => absurd h (Nat.not_lt.2 hO3.size)) _))))
      (first
        | (go_at_call 130; (with_reducible refine (hnew2.out _ (by repeat (first | assumption | exact Only.refl _ _ | apply Only.drew | apply Only.alloc))).mono ?_); rintro _ w3 ⟨rfl, hL3, ho3⟩; have hO3 : Only (fun _ => False) w2 w3 := Only.trans' (by repeat (first | assumption | exact Only.refl _ _ | apply Only.drew | apply Only.alloc)) ho3; have hL3' := Lib.hid hL3; (first | (have hfr9 := hfr.out _ _ ho3 (heap_new_at _ _ rfl); obtain ⟨z0, z1, z2, f0, f1, f2, zl⟩ := hfr9; have hz9 := Lib.hid (ho3.heap (heap_new_at w2 (.cells #[.int .i64 0, .pointer none, .int .i64 0] 149) rfl) (fun h => h))) | skip); clear hL3 ho3))
    all_goals
      go_wp2
      go_meet
      case rel => first | exact lv_a hL3'.out hO3 | exact lv_b (by simpa using hL3'.out) hO3 hz9.out
  obtain ⟨a, b, g9, rfl, hk, hO3, ha, hg⟩ := hcut
  have hk' := Lib.hid hk
  have hO3' := Lib.hid hO3
  have hyc := Lib.hid (hO3.heap hy2.out (fun h => h))
  clear hk hO3 hkeep hnew hnew2 k1 k2 k3 k4 hfr
  have y6 := row_cell (L := [.int .i64 tp, .int .i64 th, .int .i64 tpe, .int .i64 tde, .int .i64 tfr, .int .i64 tfl, .slice oA on oc]) hyc.out (i := 6) rfl
  have hyl := row_lt hyc.out
  obtain ⟨G, hG⟩ : ∃ G, G = wc.heap.size := ⟨_, rfl⟩
  have hG' := Lib.hid hG
  clear hG
  have mk := fun W0 : World => run_make_pairs W0 on (by omega)
  go_wp2_with fail
  rw [← hG'.out]
  clear mk
  obtain ⟨w5, hw5⟩ : ∃ w5, w5 = wc.alloc (.cells (Array.replicate (on * 2) (Value.int .i64 0)) 119) := ⟨_, rfl⟩
  rw [← hw5]
  have hr5 := Lib.hid (show w5.heap[G]? = some (.cells (pairs th zz en l on 0).toArray 119 (0, 0)) by rw [hw5, pairs_zero, List.toArray_replicate]; exact heap_new_at _ _ hG'.out.symm)
  have hOc5 : Only (fun _ => False) wc w5 := by rw [hw5]; exact (Only.refl _ _).alloc _
  have hO5 := Lib.hid (hO2.out.trans' (hO3'.out.trans' hOc5))
  have hk5 := Lib.hid (hk'.out.new hOc5)
  have hy5 := Lib.hid (hyc.out |> fun h => hOc5.heap h (fun h => h))
  have hGs : w2.heap.size ≤ G ∧ a ≠ G ∧ g9 ≠ G ∧ b ≠ G := by
    have h1 := hO3'.out.size
    have h2 := hG'.out
    have h3 := row_lt hk'.out.box
    have h4 := hk'.out.lk.lt
    omega
  have hYn : Y < w2.heap.size := hwY.2
  have hww := Lib.hid (show w.heap.size ≤ w2.heap.size from hO2.out.size)
  have hqy := Lib.hid (And.intro ha hg)
  clear hOc5 hw5 hyc hk' hO3' y6 hyl ha hg hY'
  refine (wlevel_any hk5.out hen (by simp [st0])).mono ?_
  rintro e w6 ⟨rfl, hO6⟩
  have hl0 : levS th zz en st0 = levK th zz en l 0 := by unfold levK stS; simp
  rw [hl0]
  have hr6 := Lib.hid (hO6.heap hr5.out (fun h => h))
  have hk6 := Lib.hid (hk5.out.new hO6)
  have hy6 := Lib.hid (hO6.heap hy5.out (fun h => h))
  have hO6' := Lib.hid (hO5.out.trans' hO6)
  have y6 := row_cell (L := [.int .i64 tp, .int .i64 th, .int .i64 tpe, .int .i64 tde, .int .i64 tfr, .int .i64 tfl, .slice oA on oc]) hy6.out (i := 6) rfl
  have hyl := row_lt hy6.out
  have hln' := Lib.hid hln
  have hon9 : on ≤ 1000 := by omega
  obtain ⟨LV, hLV⟩ : ∃ LV, LV = levK th zz en l := ⟨_, rfl⟩
  rw [← hLV]
  have hLV' := Lib.hid hLV
  clear hO6 hk5 hr5 hy5 hO5 hl0 hln hLV
  go_wp2_with fail
  go_loopw [8, 39] (fun v i' wr => ∃ k : Nat, k ≤ on ∧ i' = .int .i64 k ∧ v = .int .i64 (LV k) ∧ wr.heap[G]? = some (.cells (pairs th zz en l on k).toArray 119 (0, 0)) ∧ WkAt wr a b g9 en zz th (stS (l.take k)) ∧ Only (fun x => x = a ∨ x = g9 ∨ x = G) w6 wr) (fun _ i' _ => on - (intOf i').toNat)
  case atStart => exact ⟨0, Nat.zero_le _, rfl, rfl, hr6.out, by simpa [stS] using hk6.out, Only.refl _ _⟩
  case round =>
    obtain ⟨k, hk, rfl, rfl, hr, hK, hO⟩ := hrel
    obtain ⟨ws, hws⟩ : ∃ ws : World, ws = wr := ⟨_, rfl⟩
    subst hws
    have hr' := Lib.hid hr
    have hK' := Lib.hid hK
    have hOs := Lib.hid hO
    have hOw := Lib.hid (show Only (fun _ => False) w ws from hO6'.out.trans hO (fun x hx e => by have h1 := hqy.out; have h2 := hww.out; omega))
    clear hr hK hO
    by_cases hkn : k < on
    · have hkn' : (k : Int) < (on : Int) := by omega
      obtain ⟨o, ho⟩ : ∃ o, l[k]? = some o := ⟨_, List.getElem?_eq_getElem (by have := hln'.out; omega)⟩
      obtain ⟨vb, voff, hvA, hvb, c0, c1, c2⟩ := opn_row (hrow.out _ hOw.out) ho
      subst hvA
      have hst := Lib.hid (stS_succ ho)
      have hrg := reg_take l k
      have hlevs := Lib.hid (show levS th zz en (doS (stS (l.take k)) o) = LV (k + 1) by rw [hLV'.out]; unfold levK; rw [stS_succ ho])
      have hdo := Lib.hid (fun W (h : Only (fun _ => False) ws W) => wdo_any (hK'.out.new h) (by omega) o)
      unfold Opn.val at hdo
      obtain ⟨ok, oa, ob⟩ := o
      dsimp only at c0 c1 c2 hdo
      have hOa := Lib.hid ((Only.refl (fun _ => False) ws).alloc (.cells #[.int .i64 ok, .int .i64 oa, .int .i64 ob] 90))
      clear ho
      go_wp2_with fail
      refine (hdo.out _ hOa.out).mono ?_
      rintro e w7 ⟨rfl, hK7, hO7⟩
      have hK7' := Lib.hid hK7
      have hr7 := Lib.hid (hO7.heap (hOa.out.heap hr'.out (fun h => h)) (by omega))
      have hO7' := Lib.hid (hOs.out.trans' ((hOa.out.mono (fun _ _ h => h.elim)).trans hO7 (fun x _ e => by rcases e with e | e <;> simp [e])))
      have hlev := Lib.hid (wlevel_any hK7 hen (by have := reg_take l (k + 1); rw [hst.out] at this; omega))
      rw [hlevs.out] at hlev
      clear hK7 hO7 hdo c0 c1 c2
      go_wp2_with fail
      refine hlev.out.mono ?_
      rintro e w8 ⟨rfl, hO8⟩
      have hr8 := Lib.hid (hO8.heap hr7.out (fun h => h))
      have hK8 := Lib.hid (hK7'.out.new hO8)
      have hO8' := Lib.hid (hO7'.out.trans hO8 (fun _ _ h => h.elim))
      clear hO8 hlev
      have hpl := pairs_len th zz en l on k
      have g0 : ∃ u0, w8.cell? ⟨G, k * 2, none⟩ = some u0 := ⟨_, row_cell hr8.out (List.getElem?_eq_getElem (by omega))⟩
      have g1 : ∃ u1, w8.cell? ⟨G, k * 2 + 1, none⟩ = some u1 := ⟨_, row_cell hr8.out (List.getElem?_eq_getElem (by omega))⟩
      obtain ⟨u0, g0⟩ := g0
      obtain ⟨u1, g1⟩ := g1
      have f0 := row_free hr8.out (k * 2)
      have f1 := row_free hr8.out (k * 2 + 1)
      have hGl := row_lt hr8.out
      clear hpl
      have hps := Lib.hid (pairs_set (th := th) (z := zz) (n := en) (l := l) hkn)
      rw [← hLV'.out] at hps
      have ho9 := Lib.hid (fun (v0 v1 : Value) => show Only (fun x => x = G) w8 ((w8.setCell ⟨G, k * 2, none⟩ v0).setCell ⟨G, k * 2 + 1, none⟩ v1) from ((Only.refl (fun x => x = G) w8).setCell (p := ⟨G, k * 2, none⟩) (fun _ => rfl) v0).setCell (p := ⟨G, k * 2 + 1, none⟩) (fun _ => rfl) v1)
      go_wp2
      go_roundw
      case rel =>
        refine ⟨k + 1, by omega, by go_num, rfl, ?_, ?_, ?_⟩
        · rw [← hps.out]
          exact row_set (row_set hr8.out _ _) _ _
        · rw [hst.out]
          exact hK8.out.kept (ho9.out _ _) (by omega) (by omega) (by omega)
        · exact hO8'.out.trans (ho9.out _ _) (fun x _ e => .inr (.inr e))
      case measure => simp [intOf]; omega
    · obtain rfl : k = on := by omega
      have hkn' : ¬ (k : Int) < (k : Int) := by omega
      have hfin := Lib.hid (show Z (.returned (.slice (some ⟨G, 0, none⟩) k k)) ws from by
        rw [hZ'.out]
        refine ⟨G, by rw [hln'.out], by have := hww.out; omega, ?_, hOw.out⟩
        rw [hln'.out]
        exact hr'.out)
      go_wp2
      exact hfin.out
end Sct
end Go.Proofs.YtlbinlhaejhobaaGreatDoor
/- section.Longest. -/
namespace Go.Proofs.YtlbinlhaejhobaaGreatDoor
namespace Sct
open Go Go.RowKit Lin Lck Cst

/-- The longest so far, and the sum. -/
def lonU (LV : Nat → Int) (co : Nat → Int) (lev : Int) : Nat → Int × Int
  | 0 => (0, 0)
  | k + 1 => if max (LV k) (LV (k + 1)) < lev then ((lonU LV co lev k).1, 0) else (max (lonU LV co lev k).1 ((lonU LV co lev k).2 + co k), (lonU LV co lev k).2 + co k)
theorem lonU_bound {LV co : Nat → Int} {lev : Int} (h0 : ∀ k, 0 ≤ co k ∧ co k ≤ 1073741824) : ∀ k : Nat, (0 ≤ (lonU LV co lev k).1 ∧ (lonU LV co lev k).1 ≤ 1073741824 * (k : Int)) ∧ (0 ≤ (lonU LV co lev k).2 ∧ (lonU LV co lev k).2 ≤ 1073741824 * (k : Int))
  | 0 => by simp [lonU]
  | k + 1 => by
    have ih := lonU_bound (LV := LV) (lev := lev) h0 k
    have hk := h0 k
    unfold lonU
    split
    · simp only; omega
    · simp only; omega
def costK (l : List Opn) (h mi : Int) (k : Nat) : Int := ofZ (l.getD k ⟨0, 0, 0⟩) h mi false
theorem costK_at {l : List Opn} {h mi : Int} {k : Nat} {o : Opn} (ho : l[k]? = some o) : costK l h mi k = ofZ o h mi false := by
  unfold costK
  rw [List.getD_eq_getElem?_getD, ho]
  rfl
theorem costK_le (l : List Opn) (h mi : Int) (k : Nat) : 0 ≤ costK l h mi k ∧ costK l h mi k ≤ 1073741824 := ofZ_le _ _ _ _
def lonZ (th : Int) (z : Nat → Int) (n : Nat) (l : List Opn) (h mi lev : Int) : Int := (lonU (levK th z n l) (costK l h mi) lev l.length).1

set_option maxRecDepth 100000 in
set_option maxHeartbeats 4000000 in
theorem longest_any {w : World} {c : ConfV} {d : ConfL} {pl : Tks} (hC : ConfIn w c d pl) (hen : c.ce.n ≤ 4096) {i : Nat} {t : TaskV} {l : List Opn} (hi : pl[i]? = some (t, l)) (hl9 : l.length ≤ 1000) (htn : c.ta.n ≤ 1000000) (lev : Int) :
    Calls Tryz.prog 67 #[c.val, .int .i64 (i : Int), .int .i64 lev] w (GrowI (lonZ t.th (ceZ d.ce) c.ce.n l c.h c.mi lev) w) := by
  obtain ⟨V, hV⟩ : ∃ V, V = lonZ t.th (ceZ d.ce) c.ce.n l c.h c.mi lev := ⟨_, rfl⟩
  rw [← hV]
  have hV' := Lib.hid hV
  clear hV
  have hO := (Only.refl (fun _ => False) w).alloc (.cells c.cells.toArray 27)
  have hB := heap_new_at w (.cells c.cells.toArray 27) rfl
  obtain ⟨W1, hW1⟩ : ∃ W1, W1 = w.alloc (.cells c.cells.toArray 27) := ⟨_, rfl⟩
  rw [← hW1] at hB hO
  have hB' := Lib.hid hB
  have hO' := Lib.hid hO
  have hitn : i < c.ta.n := by
    have h1 := hC.t.len
    unfold Tks.ts at h1
    rw [List.length_map] at h1
    have := (List.getElem?_eq_some_iff.1 hi).1
    omega
  have hlv := Lib.hid (fun W (h : Only (fun _ => False) w W) => levels_any (hC.new h) hen hi hl9 htn)
  have hrow := Lib.hid (fun W (h : Only (fun _ => False) w W) => ((hC.new h).p i t l hi).1)
  have hln : l.length = t.o.n := (hC.p i t l hi).2.1
  have hta := Lib.hid (fun W (h : Only (fun _ => False) w W) => (hC.new h).t.at_ i t (ts_some hi))
  obtain ⟨q, hqq⟩ : ∃ q, q = w.heap.size := ⟨_, rfl⟩
  have hqq' := Lib.hid hqq
  rw [← hqq] at hB'
  clear hO hB hqq hC hi
  rw [show c.val = .agg #[.int .i64 c.s, .int .i64 c.wy, .int .i64 c.h, .int .i64 c.mi, .slice c.mb.A c.mb.n c.mb.cap, .int .i64 c.g, .slice c.cn.A c.cn.n c.cn.cap, .slice c.ce.A c.ce.n c.ce.cap, .slice c.ta.A c.ta.n c.ta.cap, .slice c.li.A c.li.n c.li.cap] from rfl] at hlv ⊢
  unfold ConfV.cells at hW1 hB'
  obtain ⟨s, wy, h, mi, ⟨mA, mn, mc⟩, g, ⟨cA, cn, cc⟩, ⟨eA, en, ec⟩, ⟨tA, tn, tc⟩, ⟨lA, ln, lc⟩⟩ := c
  dsimp only at *
  have hW1' := Lib.hid hW1
  clear hW1
  obtain ⟨m, hm⟩ : ∃ m, m = l.length := ⟨_, rfl⟩
  have hm' := Lib.hid hm
  have hmn : m = t.o.n := by omega
  obtain ⟨LV, hLV⟩ : ∃ LV, LV = levK t.th (ceZ d.ce) en l := ⟨_, rfl⟩
  obtain ⟨co, hco⟩ : ∃ co, co = costK l h mi := ⟨_, rfl⟩
  have hVV := Lib.hid (show V = (lonU LV co lev m).1 by rw [hV'.out, hLV, hco, hm]; rfl)
  have hLVs := Lib.hid (fun (G : Nat) (W w' : World) (e : Ending) (hE : LvsEnd t.th (ceZ d.ce) en l W e w') => show ∃ G, e = .returned (.slice (some ⟨G, 0, none⟩) m m) ∧ (∀ k, k < m → w'.cell? ⟨G, k * 2, none⟩ = some (.int .i64 (LV k)) ∧ w'.cell? ⟨G, k * 2 + 1, none⟩ = some (.int .i64 (LV (k + 1)))) ∧ G < w'.heap.size ∧ Only (fun _ => False) W w' from by
    obtain ⟨G, h1, _, h3, h4⟩ := hE
    rw [← hm] at h1 h3
    refine ⟨G, h1, fun k hk => ?_, row_lt h3, h4⟩
    obtain ⟨a1, a2⟩ := pairs_at (th := t.th) (z := ceZ d.ce) (n := en) (l := l) hk
    rw [hLV]
    exact ⟨row_cell h3 a1, row_cell h3 a2⟩)
  have hcb := Lib.hid (fun k => show 0 ≤ co k ∧ co k ≤ 1073741824 from by rw [hco]; exact costK_le _ _ _ _)
  have hca := Lib.hid (fun k o (ho : l[k]? = some o) => show co k = ofZ o h mi false from by rw [hco]; exact costK_at ho)
  have hm9 : m ≤ 1000 := by omega
  have e0 := row_cell hB'.out (i := 0) rfl
  have e1 := row_cell hB'.out (i := 1) rfl
  have e2 := row_cell hB'.out (i := 2) rfl
  have e3 := row_cell hB'.out (i := 3) rfl
  have e4 := row_cell hB'.out (i := 4) rfl
  have e5 := row_cell hB'.out (i := 5) rfl
  have e6 := row_cell hB'.out (i := 6) rfl
  have e7 := row_cell hB'.out (i := 7) rfl
  have e8 := row_cell hB'.out (i := 8) rfl
  have e9 := row_cell hB'.out (i := 9) rfl
  have hqlt := row_lt hB'.out
  have hi2 : (i : Int) < (tn : Int) := by omega
  have hmn' := Lib.hid hmn
  clear hm hLV hco hV' hln hmn
  go_enter Tryz.func67, Tryz.ntmps67
  go_wp2_with fail
  rw [← hqq'.out, ← hW1'.out]
  go_wp2_with fail
  refine (hlv.out _ hO'.out).mono ?_
  intro ee w3 hE
  obtain ⟨G, rfl, hcells, hGl, hO3⟩ := hLVs.out 0 _ _ _ hE
  have hcells' := Lib.hid hcells
  have hGl' := Lib.hid hGl
  have hO3' := Lib.hid (hO'.out.trans' hO3)
  have hB3 := Lib.hid (hO3.heap hB'.out (fun h => h))
  clear hE hcells hGl hO3 e0 e1 e2 e3 e4 e5 e6 e7 e8 e9 hqlt hLVs hlv hB' hO' hW1'
  go_wp2
  go_loopw [7, 8, 15] (fun a b i' wr => ∃ k : Nat, k ≤ m ∧ i' = .int .i64 k ∧ a = .int .i64 (lonU LV co lev k).1 ∧ b = .int .i64 (lonU LV co lev k).2 ∧ Only (fun _ => False) w3 wr) (fun _ _ i' _ => m - (intOf i').toNat)
  case atStart => exact ⟨0, Nat.zero_le _, rfl, rfl, rfl, Only.refl _ _⟩
  case round =>
    obtain ⟨k, hk, rfl, rfl, rfl, hO⟩ := hrel
    obtain ⟨ws, hws⟩ : ∃ ws : World, ws = wr := ⟨_, rfl⟩
    subst hws
    have hOs := Lib.hid hO
    have hOw := Lib.hid (hO3'.out.trans' hO)
    have hBs := Lib.hid (hO.heap hB3.out (fun h => h))
    clear hO
    obtain ⟨⟨b1, b2⟩, b3, b4⟩ := lonU_bound (LV := LV) (lev := lev) hcb.out k
    have hsu := Lib.hid (show lonU LV co lev (k + 1) = _ from rfl)
    by_cases hkm : k < m
    · have hkm' : (k : Int) < (m : Int) := by omega
      obtain ⟨g0, g1⟩ := hcells'.out k hkm
      replace g0 := hOs.out.cell g0 (fun h => h)
      replace g1 := hOs.out.cell g1 (fun h => h)
      have hGs := Nat.lt_of_lt_of_le hGl'.out hOs.out.size
      obtain ⟨P, hP⟩ : ∃ P, P = lonU LV co lev (k + 1) := ⟨_, rfl⟩
      have hP' : P = if max (LV k) (LV (k + 1)) < lev then ((lonU LV co lev k).1, 0) else (max (lonU LV co lev k).1 ((lonU LV co lev k).2 + co k), (lonU LV co lev k).2 + co k) := by rw [hP]; rfl
      obtain ⟨⟨x, y⟩, hQ⟩ : ∃ Q, Q = lonU LV co lev k := ⟨_, rfl⟩
      rw [← hQ] at hP' b1 b2 b3 b4 ⊢
      obtain ⟨u0, hu0⟩ : ∃ u0, u0 = LV k := ⟨_, rfl⟩
      obtain ⟨u1, hu1⟩ : ∃ u1, u1 = LV (k + 1) := ⟨_, rfl⟩
      rw [← hu0] at g0 hP'
      rw [← hu1] at g1 hP'
      have hPP := Lib.hid hP
      dsimp only at b1 b2 b3 b4 hP' ⊢
      have hOa := Lib.hid ((Only.refl (fun _ => False) ws).alloc (.cells #[.int .i64 u0, .int .i64 u1] 119))
      clear hP hQ hu0 hu1
      by_cases hlt : max u0 u1 < lev
      · rw [if_pos hlt] at hP'
        have hP2 := Lib.hid hP'
        clear hP'
        go_wp2
        go_roundw
        case rel => exact ⟨k + 1, by omega, by go_num, by rw [← hPP.out, hP2.out], by rw [← hPP.out, hP2.out], hOs.out.trans' hOa.out⟩
        case measure => simp [intOf]; omega
      · rw [if_neg hlt] at hP'
        have hP2 := Lib.hid hP'
        obtain ⟨o, ho⟩ : ∃ o, l[k]? = some o := ⟨_, List.getElem?_eq_getElem (by have := hm'.out; omega)⟩
        have hck := hca.out k o ho
        have hcb2 := hcb.out k
        obtain ⟨C, hCC⟩ : ∃ C, C = co k := ⟨_, rfl⟩
        rw [← hCC] at hP2 hck hcb2
        obtain ⟨hc1, hc2⟩ := hcb2
        have hof := Lib.hid (fun W => of_any o s wy h mi false W)
        rw [← hck] at hof
        unfold Opn.val at hof
        have hop := Lib.hid (fun W (h : Only (fun _ => False) ws W) => opn_row (hrow.out _ (hOw.out.trans' h)) ho)
        have htk := Lib.hid (fun W (h : Only (fun _ => False) ws W) => hta.out _ (hOw.out.trans' h))
        obtain ⟨tb, toff, htA, htb, htC⟩ := htk.out ws (Only.refl _ _)
        subst htA
        obtain ⟨vb, voff, hvA, hvb, d0, d1, d2⟩ := hop.out ws (Only.refl _ _)
        have hkn : (k : Int) < (t.o.n : Int) := by have := hmn'.out; omega
        obtain ⟨ok, oa, ob⟩ := o
        dsimp only at d0 d1 d2 hof
        have hkeep := Lib.hid (fun W0 (h0 : Only (fun _ => False) ws W0) => show W0.cell? ⟨q, 8, none⟩ = some (.slice (some ⟨tb, toff, none⟩) tn tc) ∧ W0.cell? ⟨tb, toff + i * 7 + 6, none⟩ = some (.slice t.o.A t.o.n t.o.cap) ∧ W0.cell? ⟨vb, voff + k * 3, none⟩ = some (.int .i64 ok) ∧ W0.cell? ⟨vb, voff + k * 3 + 1, none⟩ = some (.int .i64 oa) ∧ W0.cell? ⟨vb, voff + k * 3 + 2, none⟩ = some (.int .i64 ob) ∧ W0.cell? ⟨q, 0, none⟩ = some (.int .i64 s) ∧ W0.cell? ⟨q, 1, none⟩ = some (.int .i64 wy) ∧ W0.cell? ⟨q, 2, none⟩ = some (.int .i64 h) ∧ W0.cell? ⟨q, 3, none⟩ = some (.int .i64 mi) ∧ q < W0.heap.size ∧ tb < W0.heap.size ∧ vb < W0.heap.size from by
          have z := h0.heap hBs.out (fun h => h)
          exact ⟨row_cell z (i := 8) rfl, h0.cell htC.c6 (fun h => h), h0.cell d0 (fun h => h), h0.cell d1 (fun h => h), h0.cell d2 (fun h => h), row_cell z (i := 0) rfl, row_cell z (i := 1) rfl, row_cell z (i := 2) rfl, row_cell z (i := 3) rfl, row_lt z, Nat.lt_of_lt_of_le htb h0.size, Nat.lt_of_lt_of_le hvb h0.size⟩)
        rw [hvA] at hkeep
        clear hP' ho hCC hck htb htC d0 d1 d2 hvb hop htk
        go_upto_region 7 with fail
        generalize hwp : ws.alloc (.cells #[.int .i64 u0, .int .i64 u1] 119) = wp at hOa
        have hkeep2 := Lib.hid (fun W0 (h0 : Only (fun _ => False) wp W0) => hkeep.out W0 (hOa.out.trans' h0))
        clear hwp hkeep g0 g1 hGs hlt
        generalize (if u0 < u1 then u1 else u0) = mx
        have hy1 : y ≤ 2000000000000 := by omega
        have hy0 : 0 ≤ y := b3
        have hC1 : C ≤ 1073741824 := hc2
        have hC0 : 0 ≤ C := hc1
        have hwr : IntKind.i64.wrap (y + C) = y + C := IntWalk.i64_in _ (by omega)
        obtain ⟨f8, f6, d0, d1, d2, f0, f1, f2, f3, fq, ft, fv⟩ := hkeep2.out _ (Only.refl _ _)
        go_region_held3 (fun W0 => W0.cell? ⟨q, 8, none⟩ = some (.slice (some ⟨tb, toff, none⟩) tn tc) ∧ W0.cell? ⟨tb, toff + i * 7 + 6, none⟩ = some (.slice (some ⟨vb, voff, none⟩) t.o.n t.o.cap) ∧ W0.cell? ⟨vb, voff + k * 3, none⟩ = some (.int .i64 ok) ∧ W0.cell? ⟨vb, voff + k * 3 + 1, none⟩ = some (.int .i64 oa) ∧ W0.cell? ⟨vb, voff + k * 3 + 2, none⟩ = some (.int .i64 ob) ∧ W0.cell? ⟨q, 0, none⟩ = some (.int .i64 s) ∧ W0.cell? ⟨q, 1, none⟩ = some (.int .i64 wy) ∧ W0.cell? ⟨q, 2, none⟩ = some (.int .i64 h) ∧ W0.cell? ⟨q, 3, none⟩ = some (.int .i64 mi) ∧ q < W0.heap.size ∧ tb < W0.heap.size ∧ vb < W0.heap.size)
          (exact hkeep2.out _ (by repeat (first | assumption | exact Only.refl _ _ | apply Only.drew)))
          (first
            | (go_at_call 94; (with_reducible refine (hof.out _).mono ?_); rintro _ w4 ⟨rfl, ho4⟩; have hO4 : Only (fun _ => False) wp w4 := Only.trans' (by repeat (first | assumption | exact Only.refl _ _ | apply Only.drew)) ho4; clear ho4))
        all_goals
          go_wp2
          go_roundw
          case rel => exact ⟨k + 1, by omega, by go_num, by rw [← hPP.out, hP2.out]; dsimp only; congr 1; split <;> omega, by rw [← hPP.out, hP2.out], hOs.out.trans' (hOa.out.trans' hO4)⟩
          case measure => simp [intOf]; omega
    · obtain rfl : k = m := by omega
      have hkm' : ¬ (k : Int) < (k : Int) := by omega
      rw [← hVV.out]
      have hend := Lib.hid (show GrowI V w (.returned (.int .i64 V)) ws from ⟨rfl, hOw.out⟩)
      go_wp2
      go_ret
      exact hend.out
end Sct
end Go.Proofs.YtlbinlhaejhobaaGreatDoor
/- The reference's costs of operations, and their sum. -/
namespace Go.Proofs.YtlbinlhaejhobaaGreatDoor
namespace Sct
open Go Go.RowKit Lin Lck Cst

theorem rclamp_any (z : Int) (w : World) : Calls Tryz.prog 95 #[.int .i64 z] w (fun e w' => e = .returned (.int .i64 (cntZ z)) ∧ w = w') := by
  go_enter Tryz.func95, Tryz.ntmps95
  by_cases h0 : z < 0
  · have : cntZ z = 0 := by unfold cntZ; omega
    rw [this]
    go_wp2
    go_ret
    exact ⟨rfl, rfl⟩
  · by_cases h1 : 1073741824 < z
    · have : cntZ z = 1073741824 := by unfold cntZ; omega
      rw [this]
      go_wp2
      go_ret
      exact ⟨rfl, rfl⟩
    · have : cntZ z = z := by unfold cntZ; omega
      rw [this]
      go_wp2
      go_ret
      exact ⟨rfl, rfl⟩
set_option maxRecDepth 100000 in
theorem rof_any (x : Opn) (s wy h mi : Int) (w : World) : Calls Tryz.prog 69 #[x.val, .agg #[.int .i64 s, .int .i64 wy, .int .i64 h, .int .i64 mi], .bool false] w (GrowI (ofZ x h mi false) w) := by
  obtain ⟨k, a, b⟩ := x
  unfold Opn.val
  by_cases h1 : k = 1
  · have e : ofZ ⟨k, a, b⟩ h mi false = cntZ a := by simp [ofZ, h1]
    rw [e]
    subst h1
    clear e
    go_enter Tryz.func69, Tryz.ntmps69
    go_wp2_with (go_at_call 95; refine (rclamp_any a _).mono ?_; rintro e w' ⟨rfl, rfl⟩)
    go_ret
    exact ⟨rfl, ((Only.refl _ w).alloc _).alloc _⟩
  · by_cases h2 : k = 2
    · subst h2
      have e : ofZ ⟨2, a, b⟩ h mi false = cntZ mi := by simp [ofZ]
      rw [e]
      clear e
      go_enter Tryz.func69, Tryz.ntmps69
      go_wp2_with (go_at_call 95; refine (rclamp_any mi _).mono ?_; rintro e w' ⟨rfl, rfl⟩)
      go_ret
      exact ⟨rfl, ((Only.refl _ w).alloc _).alloc _⟩
    · have e : ofZ ⟨k, a, b⟩ h mi false = 1 := by simp [ofZ, h1, h2]
      rw [e]
      clear e
      have g1 : (k == 1) = false := by simpa using h1
      have g2 : (k == 2) = false := by simpa using h2
      go_enter Tryz.func69, Tryz.ntmps69
      go_wp2
      go_ret
      exact ⟨rfl, ((Only.refl _ w).alloc _).alloc _⟩
def sumU (co : Nat → Int) : Nat → Int
  | 0 => 0
  | k + 1 => sumU co k + co k
theorem sumU_bound {co : Nat → Int} (h0 : ∀ k, 0 ≤ co k ∧ co k ≤ 1073741824) : ∀ k : Nat, 0 ≤ sumU co k ∧ sumU co k ≤ 1073741824 * (k : Int)
  | 0 => by simp [sumU]
  | k + 1 => by
    have ih := sumU_bound h0 k
    have hk := h0 k
    unfold sumU
    omega
set_option maxRecDepth 100000 in
set_option maxHeartbeats 2000000 in
theorem rsum_any {w : World} {A : Option Addr} {n cap : Nat} {l : List Opn} (hl : OpnRow w A l) (hn : l.length = n) (h9 : n ≤ 1000) (s wy h mi : Int) :
    Calls Tryz.prog 58 #[.slice A n cap, .agg #[.int .i64 s, .int .i64 wy, .int .i64 h, .int .i64 mi], .bool false] w (GrowI (sumU (costK l h mi) n) w) := by
  obtain ⟨W1, hW1⟩ : ∃ W1, W1 = w.alloc (.cells #[.int .i64 s, .int .i64 wy, .int .i64 h, .int .i64 mi] 23) := ⟨_, rfl⟩
  have hO : Only (fun _ => False) w W1 := by rw [hW1]; exact (Only.refl (fun _ => False) w).alloc _
  have hb := heap_new_at w (.cells #[.int .i64 s, .int .i64 wy, .int .i64 h, .int .i64 mi] 23) rfl
  rw [← hW1] at hb
  have hb' := Lib.hid hb
  have hO' := Lib.hid hO
  have hl' := Lib.hid (fun W (h : Only (fun _ => False) w W) => hl.new h)
  have hn' := Lib.hid hn
  obtain ⟨co, hco⟩ : ∃ co, co = costK l h mi := ⟨_, rfl⟩
  rw [← hco]
  have hcb := Lib.hid (fun k => show 0 ≤ co k ∧ co k ≤ 1073741824 from by rw [hco]; exact costK_le _ _ _ _)
  have hca := Lib.hid (fun k o (ho : l[k]? = some o) => show co k = ofZ o h mi false from by rw [hco]; exact costK_at ho)
  obtain ⟨q, hqq⟩ : ∃ q, q = w.heap.size := ⟨_, rfl⟩
  have hqq' := Lib.hid hqq
  rw [← hqq] at hb'
  have hW1' := Lib.hid hW1
  clear hl hn hO hb hW1 hco hqq
  go_enter Tryz.func58, Tryz.ntmps58
  go_wp2
  rw [← hqq'.out, ← hW1'.out]
  go_loopw [7, 12] (fun a i' wr => ∃ k : Nat, k ≤ n ∧ i' = .int .i64 k ∧ a = .int .i64 (sumU co k) ∧ Only (fun _ => False) W1 wr) (fun _ i' _ => n - (intOf i').toNat)
  case atStart => exact ⟨0, Nat.zero_le _, rfl, rfl, Only.refl _ _⟩
  case round =>
    obtain ⟨k, hk, rfl, rfl, hOk⟩ := hrel
    obtain ⟨ws, hws⟩ : ∃ ws : World, ws = wr := ⟨_, rfl⟩
    subst hws
    have hOk' := Lib.hid hOk
    have hbs := Lib.hid (hOk.heap hb'.out (fun h => h))
    clear hOk
    obtain ⟨b1, b2⟩ := sumU_bound hcb.out k
    by_cases hkn : k < n
    · have hkn' : (k : Int) < (n : Int) := by omega
      obtain ⟨o, ho⟩ : ∃ o, l[k]? = some o := ⟨_, List.getElem?_eq_getElem (by have := hn'.out; omega)⟩
      have hck := hca.out k o ho
      obtain ⟨hc1, hc2⟩ := hcb.out k
      have hsu : sumU co (k + 1) = sumU co k + co k := rfl
      obtain ⟨C, hCC⟩ : ∃ C, C = co k := ⟨_, rfl⟩
      obtain ⟨y, hy⟩ : ∃ y, y = sumU co k := ⟨_, rfl⟩
      rw [← hCC] at hck hc1 hc2 hsu
      rw [← hy] at hsu b1 b2 ⊢
      have hsu' := Lib.hid hsu
      have hof := Lib.hid (fun W => rof_any o s wy h mi W)
      rw [← hck] at hof
      unfold Opn.val at hof
      obtain ⟨vb, voff, hvA, hvb, d0, d1, d2⟩ := opn_row (hl'.out _ (hO'.out.trans' hOk'.out)) ho
      subst hvA
      obtain ⟨ok, oa, ob⟩ := o
      dsimp only at d0 d1 d2 hof
      have c0 := row_cell (L := [.int .i64 s, .int .i64 wy, .int .i64 h, .int .i64 mi]) hbs.out (i := 0) rfl
      have c1 := row_cell (L := [.int .i64 s, .int .i64 wy, .int .i64 h, .int .i64 mi]) hbs.out (i := 1) rfl
      have c2 := row_cell (L := [.int .i64 s, .int .i64 wy, .int .i64 h, .int .i64 mi]) hbs.out (i := 2) rfl
      have c3 := row_cell (L := [.int .i64 s, .int .i64 wy, .int .i64 h, .int .i64 mi]) hbs.out (i := 3) rfl
      have hlt := row_lt hbs.out
      have hOa := Lib.hid ((Only.refl (fun _ => False) ws).alloc (.cells #[.int .i64 ok, .int .i64 oa, .int .i64 ob] 90))
      clear ho hck hCC hy hsu
      go_wp2_with fail
      refine (hof.out _).mono ?_
      rintro e w4 ⟨rfl, hO4⟩
      have hO4' := Lib.hid (hOk'.out.trans' (hOa.out.trans' hO4))
      clear hO4 c0 c1 c2 c3 hlt d0 d1 d2 hof
      go_wp2
      go_roundw
      case rel => exact ⟨k + 1, by omega, by go_num, by rw [hsu'.out], hO4'.out⟩
      case measure => simp [intOf]; omega
    · obtain rfl : k = n := by omega
      have hkn' : ¬ (k : Int) < (k : Int) := by omega
      have hend := Lib.hid (show GrowI (sumU co k) w (.returned (.int .i64 (sumU co k))) ws from ⟨rfl, hO'.out.trans' hOk'.out⟩)
      go_wp2
      go_ret
      exact hend.out
end Sct
end Go.Proofs.YtlbinlhaejhobaaGreatDoor
/- preempt: who is lower, who is higher. -/
namespace Go.Proofs.YtlbinlhaejhobaaGreatDoor
namespace Pre
open Go Go.RowKit Rca

/-- The tasks, rising, of whose priority something holds. -/
def thoseU (g : Int → Int → Bool) (ts : List TaskV) (own : Int) (k : Nat) : List Nat := (List.range k).filter (fun i => g (prio ts i) own)
theorem thoseU_succ (g : Int → Int → Bool) (ts : List TaskV) (own : Int) (k : Nat) : thoseU g ts own (k + 1) = thoseU g ts own k ++ (if g (prio ts k) own = true then [k] else []) := by
  unfold thoseU
  rw [List.range_succ, List.filter_append]
  congr 1
  by_cases h : g (prio ts k) own = true
  · rw [if_pos h]; simp [h]
  · rw [if_neg h]; simp [h]
theorem thoseU_len (g : Int → Int → Bool) (ts : List TaskV) (own : Int) (k : Nat) : (thoseU g ts own k).length ≤ k := by
  have := List.length_filter_le (fun i => g (prio ts i) own) (List.range k)
  rw [List.length_range] at this
  exact this
theorem thoseU_mem {g : Int → Int → Bool} {ts : List TaskV} {own : Int} {k i : Nat} : i ∈ thoseU g ts own k ↔ i < k ∧ g (prio ts i) own = true := by
  unfold thoseU
  rw [List.mem_filter, List.mem_range]

theorem phas_any (w : World) (c : ConfV) (z : Int) : Calls Tryz.prog 134 #[c.val, .int .i64 z] w (GrowB (Rld.hasT c.ta.n z) w) := by
  have hO := (Only.refl (fun _ => False) w).alloc (.cells c.cells.toArray 27)
  have hB := heap_new_at w (.cells c.cells.toArray 27) rfl
  obtain ⟨W1, hW1⟩ : ∃ W1, W1 = w.alloc (.cells c.cells.toArray 27) := ⟨_, rfl⟩
  have e8 := row_cell hB (i := 8) rfl
  have hlt1 := row_lt hB
  rw [← hW1] at e8 hO hlt1
  obtain ⟨V, hV⟩ : ∃ V, V = Rld.hasT c.ta.n z := ⟨_, rfl⟩
  rw [← hV]
  unfold Rld.hasT at hV
  rw [show c.val = .agg #[.int .i64 c.s, .int .i64 c.wy, .int .i64 c.h, .int .i64 c.mi, .slice c.mb.A c.mb.n c.mb.cap, .int .i64 c.g, .slice c.cn.A c.cn.n c.cn.cap, .slice c.ce.A c.ce.n c.ce.cap, .slice c.ta.A c.ta.n c.ta.cap, .slice c.li.A c.li.n c.li.cap] from rfl]
  unfold ConfV.cells at hW1
  obtain ⟨s, wy, h, mi, ⟨mA, mn, mc⟩, g, ⟨cA, cn, cc⟩, ⟨eA, en, ec⟩, ⟨tA, tn, tc⟩, ⟨lA, ln, lc⟩⟩ := c
  simp only at *
  have hW1' := Lib.hid hW1
  have hO' := Lib.hid hO
  have hV' := Lib.hid hV
  clear hB hW1 hO hV
  go_enter Tryz.func134, Tryz.ntmps134
  by_cases h0 : 0 ≤ z
  · by_cases h1 : z < (tn : Int)
    · have : V = true := by rw [hV'.out]; simp [h0, h1]
      subst this
      go_wp2
      rw [← hW1'.out]
      go_wp2
      go_ret
      exact ⟨rfl, hO'.out⟩
    · have : V = false := by rw [hV'.out]; simp [h1]
      subst this
      go_wp2
      rw [← hW1'.out]
      go_wp2
      go_ret
      exact ⟨rfl, hO'.out⟩
  · have : V = false := by rw [hV'.out]; simp [h0]
    subst this
    go_wp2
    rw [← hW1'.out]
    go_ret
    exact ⟨rfl, hO'.out⟩


def lowB (a b : Int) : Bool := decide (a < b)
def highB (a b : Int) : Bool := decide (b ≤ a)
theorem low_any (a b : Int) (w : World) : Calls Tryz.prog 147 #[.int .i64 a, .int .i64 b] w (fun e w' => e = .returned (.bool (lowB a b)) ∧ w' = w) := by
  unfold lowB
  go_enter Tryz.func147, Tryz.ntmps147
  go_wp2
  go_ret
  exact ⟨rfl, rfl⟩
theorem high_any (a b : Int) (w : World) : Calls Tryz.prog 97 #[.int .i64 a, .int .i64 b] w (fun e w' => e = .returned (.bool (highB a b)) ∧ w' = w) := by
  unfold highB
  go_enter Tryz.func97, Tryz.ntmps97
  go_wp2
  go_ret
  exact ⟨rfl, rfl⟩
set_option maxRecDepth 100000 in
set_option maxHeartbeats 2000000 in
theorem those_low {w : World} {c : ConfV} {ts : List TaskV} (hT : TasksAt w c.ta ts) (hs9 : c.ta.n ≤ 1000000) {i : Nat} {ti : TaskV} (hi : ts[i]? = some ti) :
    Calls Tryz.prog 96 #[c.val, .int .i64 (i : Int), .func (.func 147) #[] #[]] w (RowEnd w (thoseU lowB ts ti.p c.ta.n)) := by
  obtain ⟨Z, hZ⟩ : ∃ Z, Z = RowEnd w (thoseU lowB ts ti.p c.ta.n) := ⟨_, rfl⟩
  rw [← hZ]
  have hZ' := Lib.hid hZ
  clear hZ
  have hO := (Only.refl (fun _ => False) w).alloc (.cells c.cells.toArray 27)
  have hB := heap_new_at w (.cells c.cells.toArray 27) rfl
  obtain ⟨W1, hW1⟩ : ∃ W1, W1 = w.alloc (.cells c.cells.toArray 27) := ⟨_, rfl⟩
  rw [← hW1] at hB hO
  have hB' := Lib.hid hB
  have hO' := Lib.hid hO
  have hT' := Lib.hid (hT.new hO)
  have hlen' := Lib.hid hT.len
  have hilt : i < c.ta.n := by rw [← hT.len]; exact (List.getElem?_eq_some_iff.1 hi).1
  have hbt : (Rld.hasT c.ta.n (i : Int)) = true := by unfold Rld.hasT; simp; omega
  have hq := Lib.hid (fun W => phas_any W c (i : Int))
  rw [hbt] at hq
  obtain ⟨q, hqq⟩ : ∃ q, q = w.heap.size := ⟨_, rfl⟩
  have hqq' := Lib.hid hqq
  rw [← hqq] at hB'
  have hi' := Lib.hid hi
  have hK' := Lib.hid low_any
  clear hT hB hO hi hbt hqq
  rw [show c.val = .agg #[.int .i64 c.s, .int .i64 c.wy, .int .i64 c.h, .int .i64 c.mi, .slice c.mb.A c.mb.n c.mb.cap, .int .i64 c.g, .slice c.cn.A c.cn.n c.cn.cap, .slice c.ce.A c.ce.n c.ce.cap, .slice c.ta.A c.ta.n c.ta.cap, .slice c.li.A c.li.n c.li.cap] from rfl] at hq ⊢
  unfold ConfV.cells at hW1 hB'
  obtain ⟨s, wy, h, mi, ⟨mA, mn, mc⟩, g, ⟨cA, cn, cc⟩, ⟨eA, en, ec⟩, ⟨tA, n, tc⟩, ⟨lA, ln, lc⟩⟩ := c
  dsimp only at *
  have hW1' := Lib.hid hW1
  clear hW1
  have hilt' : (i : Int) < (n : Int) := by omega
  go_enter Tryz.func96, Tryz.ntmps96
  have e0 := row_cell hB'.out (i := 0) rfl
  have e1 := row_cell hB'.out (i := 1) rfl
  have e2 := row_cell hB'.out (i := 2) rfl
  have e3 := row_cell hB'.out (i := 3) rfl
  have e4 := row_cell hB'.out (i := 4) rfl
  have e5 := row_cell hB'.out (i := 5) rfl
  have e6 := row_cell hB'.out (i := 6) rfl
  have e7 := row_cell hB'.out (i := 7) rfl
  have e8 := row_cell hB'.out (i := 8) rfl
  have e9 := row_cell hB'.out (i := 9) rfl
  have hqlt := row_lt hB'.out
  go_wp2_with fail
  rw [← hqq'.out, ← hW1'.out]
  go_wp2_with fail
  refine (hq.out _).mono ?_
  rintro e W2 ⟨rfl, hOx⟩
  have hO2' := Lib.hid (hO'.out.trans' hOx)
  have hB2 := Lib.hid (hOx.heap hB'.out (fun h => h))
  have hT2 := Lib.hid (hT'.out.new hOx)
  clear e0 e1 e2 e3 e4 e5 e6 e7 e8 e9 hqlt hOx
  have e8 := row_cell hB2.out (i := 8) rfl
  have hqlt := row_lt hB2.out
  go_wp2
  clear e8 hqlt
  go_loopw [7, 17] (fun v i' wr => ∃ (k m : Nat) (p : Option Addr) (cp : Nat) (hh : Option Nat), k ≤ n ∧ m ≤ k ∧ i' = .int .i64 k ∧ v = .slice p m cp ∧ m = (thoseU lowB ts ti.p k).length ∧ Win wr 3 1 (.slice p m cp) hh m (dat (thoseU lowB ts ti.p k)) ∧ (∀ b, hh = some b → W2.heap.size ≤ b) ∧ Only (fun _ => False) W2 wr) (fun _ i' _ => n - (intOf i').toNat)
  case atStart => exact ⟨0, 0, none, 0, none, Nat.zero_le _, Nat.le_refl _, rfl, rfl, rfl, Win.nil _ _ _, (fun b hb => by cases hb), Only.refl _ _⟩
  case round =>
    obtain ⟨k, m, p, cp, hh, hk, hmk, rfl, rfl, hml, hW, hf, hO⟩ := hrel
    obtain ⟨ws, hws⟩ : ∃ ws : World, ws = wr := ⟨_, rfl⟩
    subst hws
    have hW' := Lib.hid hW
    have hf' := Lib.hid hf
    have hO' := Lib.hid hO
    have hml' := Lib.hid hml
    have hbs := Lib.hid (hO.heap hB2.out (fun h => h))
    have e8 := row_cell hbs.out (i := 8) rfl
    have hqlt := row_lt hbs.out
    clear hW hf hO hml
    by_cases hkn : k < n
    · have hkn' : (k : Int) < (n : Int) := by omega
      obtain ⟨t, ht⟩ : ∃ t, ts[k]? = some t := ⟨_, List.getElem?_eq_getElem (by have := hlen'.out; omega)⟩
      obtain ⟨b, off, hA, hb, hC⟩ := (hT2.out.new hO'.out).at_ k t ht
      obtain ⟨b2, off2, hA2, hb2, hC2⟩ := (hT2.out.new hO'.out).at_ i ti hi'.out
      rw [hA] at hA2
      cases hA2
      simp only at hA
      subst hA
      have htp := prio_at ht
      have hsu := Lib.hid (thoseU_succ lowB ts ti.p k)
      rw [htp] at hsu
      obtain ⟨c0, c1, c2, c3, c4, c5, c6⟩ := hC
      have d1 := hC2.c0
      obtain ⟨T, hT⟩ : ∃ T, T = ti.p := ⟨_, rfl⟩
      rw [← hT] at hsu d1 hW' hml'
      have hTh := Lib.hid hT
      clear hC2 ht htp hT
      obtain ⟨tp, tth, tpe, tde, tfr, tfl, ⟨oA, on, oc⟩⟩ := t
      simp only at *
      have hOa := Lib.hid ((Only.refl (fun _ => False) ws).alloc (.cells #[.int .i64 tp, .int .i64 tth, .int .i64 tpe, .int .i64 tde, .int .i64 tfr, .int .i64 tfl, .slice oA on oc] 49))
      have hWa := Lib.hid (hW'.out.kept hOa.out (fun _ _ h => h))
      obtain ⟨bb, hbb⟩ : ∃ bb, bb = lowB tp T := ⟨_, rfl⟩
      have hKb := Lib.hid (fun W => hK'.out tp T W)
      rw [← hbb] at hsu hKb
      clear hbb
      cases bb with
      | true =>
        rw [if_pos rfl] at hsu
        go_wp2
        go_quiet (exact Calls.quiet_of_same (hKb.out _))
        go_wp2_with (at_builtin; (refine wpList_append_win rfl _ _ 24 rfl 3 (Value.int .i64 0) 1 8 Tryz.underlying24 info3 rfl (by decide) rfl ((hWa.out.same (by first | rfl | exact drewN_heap _ _)).kept ((Only.refl (fun _ => False) _).alloc _) (fun _ _ h => h)) _ 1 1 rfl [.int .i64 (k : Int)] rfl (fun _ => ⟨_, rfl, row_one (heap_new_at _ _ (by simp [World.drewN]))⟩) (by simp [Value.oneCell']) (by unfold maxLen; omega) (by omega) ?_; intro v4 w6 h4 hW4 hO4' hh4; obtain ⟨p4, c4', rfl, _, _⟩ := hW4.out.form))
        go_roundw
        case rel =>
          refine ⟨k + 1, m + 1, p4, c4', h4, by omega, by omega, by go_num, rfl, ?_, ?_, fun x hx => ?_, ?_⟩
          · rw [← hTh.out, hsu.out, List.length_append, ← hml'.out]; rfl
          · rw [← hTh.out, hsu.out]
            have := hW4.out
            rw [show [Value.int .i64 (k : Int)] = dat [k] from rfl, dat_append] at this
            exact this
          · rcases hh4.out with rfl | ⟨g5, hg5, hge5⟩
            · exact hf'.out x hx
            · rw [hg5] at hx
              cases hx
              have h7 := hO'.out.size
              simp [World.drewN] at hge5
              omega
          · exact (((hO'.out.trans' hOa.out).drewN _).alloc _).trans hO4'.out (fun x hx e => by
              have h7 := hf'.out x e.symm
              omega)
        case measure => simp [intOf]; omega
      | false =>
        rw [if_neg (by simp), List.append_nil] at hsu
        go_wp2
        go_quiet (exact Calls.quiet_of_same (hKb.out _))
        go_wp2
        go_roundw
        case rel =>
          refine ⟨k + 1, m, p, cp, hh, by omega, by omega, by go_num, rfl, by rw [← hTh.out, hsu.out]; exact hml'.out, ?_, hf'.out, (hO'.out.trans' hOa.out).drewN _⟩
          rw [← hTh.out, hsu.out]
          exact hWa.out.same (by first | rfl | exact drewN_heap _ _)
        case measure => simp [intOf]; omega
    · obtain rfl : k = n := by omega
      have hkn' : ¬ (k : Int) < (k : Int) := by omega
      have hfin : Z (.returned (.slice p m cp)) ws := by
        rw [hZ'.out]
        have h7 := hW'.out
        have h8 := hml'.out
        subst h8
        exact ⟨p, cp, hh, rfl, h7, fun b hb => Nat.le_trans hO2'.out.size (hf'.out b hb), hO2'.out.trans' hO'.out⟩
      have hfin' := Lib.hid hfin
      clear hfin
      go_wp2
      exact hfin'.out



set_option maxRecDepth 100000 in
set_option maxHeartbeats 2000000 in
theorem those_high {w : World} {c : ConfV} {ts : List TaskV} (hT : TasksAt w c.ta ts) (hs9 : c.ta.n ≤ 1000000) {i : Nat} {ti : TaskV} (hi : ts[i]? = some ti) :
    Calls Tryz.prog 96 #[c.val, .int .i64 (i : Int), .func (.func 97) #[] #[]] w (RowEnd w (thoseU highB ts ti.p c.ta.n)) := by
  obtain ⟨Z, hZ⟩ : ∃ Z, Z = RowEnd w (thoseU highB ts ti.p c.ta.n) := ⟨_, rfl⟩
  rw [← hZ]
  have hZ' := Lib.hid hZ
  clear hZ
  have hO := (Only.refl (fun _ => False) w).alloc (.cells c.cells.toArray 27)
  have hB := heap_new_at w (.cells c.cells.toArray 27) rfl
  obtain ⟨W1, hW1⟩ : ∃ W1, W1 = w.alloc (.cells c.cells.toArray 27) := ⟨_, rfl⟩
  rw [← hW1] at hB hO
  have hB' := Lib.hid hB
  have hO' := Lib.hid hO
  have hT' := Lib.hid (hT.new hO)
  have hlen' := Lib.hid hT.len
  have hilt : i < c.ta.n := by rw [← hT.len]; exact (List.getElem?_eq_some_iff.1 hi).1
  have hbt : (Rld.hasT c.ta.n (i : Int)) = true := by unfold Rld.hasT; simp; omega
  have hq := Lib.hid (fun W => phas_any W c (i : Int))
  rw [hbt] at hq
  obtain ⟨q, hqq⟩ : ∃ q, q = w.heap.size := ⟨_, rfl⟩
  have hqq' := Lib.hid hqq
  rw [← hqq] at hB'
  have hi' := Lib.hid hi
  have hK' := Lib.hid high_any
  clear hT hB hO hi hbt hqq
  rw [show c.val = .agg #[.int .i64 c.s, .int .i64 c.wy, .int .i64 c.h, .int .i64 c.mi, .slice c.mb.A c.mb.n c.mb.cap, .int .i64 c.g, .slice c.cn.A c.cn.n c.cn.cap, .slice c.ce.A c.ce.n c.ce.cap, .slice c.ta.A c.ta.n c.ta.cap, .slice c.li.A c.li.n c.li.cap] from rfl] at hq ⊢
  unfold ConfV.cells at hW1 hB'
  obtain ⟨s, wy, h, mi, ⟨mA, mn, mc⟩, g, ⟨cA, cn, cc⟩, ⟨eA, en, ec⟩, ⟨tA, n, tc⟩, ⟨lA, ln, lc⟩⟩ := c
  dsimp only at *
  have hW1' := Lib.hid hW1
  clear hW1
  have hilt' : (i : Int) < (n : Int) := by omega
  go_enter Tryz.func96, Tryz.ntmps96
  have e0 := row_cell hB'.out (i := 0) rfl
  have e1 := row_cell hB'.out (i := 1) rfl
  have e2 := row_cell hB'.out (i := 2) rfl
  have e3 := row_cell hB'.out (i := 3) rfl
  have e4 := row_cell hB'.out (i := 4) rfl
  have e5 := row_cell hB'.out (i := 5) rfl
  have e6 := row_cell hB'.out (i := 6) rfl
  have e7 := row_cell hB'.out (i := 7) rfl
  have e8 := row_cell hB'.out (i := 8) rfl
  have e9 := row_cell hB'.out (i := 9) rfl
  have hqlt := row_lt hB'.out
  go_wp2_with fail
  rw [← hqq'.out, ← hW1'.out]
  go_wp2_with fail
  refine (hq.out _).mono ?_
  rintro e W2 ⟨rfl, hOx⟩
  have hO2' := Lib.hid (hO'.out.trans' hOx)
  have hB2 := Lib.hid (hOx.heap hB'.out (fun h => h))
  have hT2 := Lib.hid (hT'.out.new hOx)
  clear e0 e1 e2 e3 e4 e5 e6 e7 e8 e9 hqlt hOx
  have e8 := row_cell hB2.out (i := 8) rfl
  have hqlt := row_lt hB2.out
  go_wp2
  clear e8 hqlt
  go_loopw [7, 17] (fun v i' wr => ∃ (k m : Nat) (p : Option Addr) (cp : Nat) (hh : Option Nat), k ≤ n ∧ m ≤ k ∧ i' = .int .i64 k ∧ v = .slice p m cp ∧ m = (thoseU highB ts ti.p k).length ∧ Win wr 3 1 (.slice p m cp) hh m (dat (thoseU highB ts ti.p k)) ∧ (∀ b, hh = some b → W2.heap.size ≤ b) ∧ Only (fun _ => False) W2 wr) (fun _ i' _ => n - (intOf i').toNat)
  case atStart => exact ⟨0, 0, none, 0, none, Nat.zero_le _, Nat.le_refl _, rfl, rfl, rfl, Win.nil _ _ _, (fun b hb => by cases hb), Only.refl _ _⟩
  case round =>
    obtain ⟨k, m, p, cp, hh, hk, hmk, rfl, rfl, hml, hW, hf, hO⟩ := hrel
    obtain ⟨ws, hws⟩ : ∃ ws : World, ws = wr := ⟨_, rfl⟩
    subst hws
    have hW' := Lib.hid hW
    have hf' := Lib.hid hf
    have hO' := Lib.hid hO
    have hml' := Lib.hid hml
    have hbs := Lib.hid (hO.heap hB2.out (fun h => h))
    have e8 := row_cell hbs.out (i := 8) rfl
    have hqlt := row_lt hbs.out
    clear hW hf hO hml
    by_cases hkn : k < n
    · have hkn' : (k : Int) < (n : Int) := by omega
      obtain ⟨t, ht⟩ : ∃ t, ts[k]? = some t := ⟨_, List.getElem?_eq_getElem (by have := hlen'.out; omega)⟩
      obtain ⟨b, off, hA, hb, hC⟩ := (hT2.out.new hO'.out).at_ k t ht
      obtain ⟨b2, off2, hA2, hb2, hC2⟩ := (hT2.out.new hO'.out).at_ i ti hi'.out
      rw [hA] at hA2
      cases hA2
      simp only at hA
      subst hA
      have htp := prio_at ht
      have hsu := Lib.hid (thoseU_succ highB ts ti.p k)
      rw [htp] at hsu
      obtain ⟨c0, c1, c2, c3, c4, c5, c6⟩ := hC
      have d1 := hC2.c0
      obtain ⟨T, hT⟩ : ∃ T, T = ti.p := ⟨_, rfl⟩
      rw [← hT] at hsu d1 hW' hml'
      have hTh := Lib.hid hT
      clear hC2 ht htp hT
      obtain ⟨tp, tth, tpe, tde, tfr, tfl, ⟨oA, on, oc⟩⟩ := t
      simp only at *
      have hOa := Lib.hid ((Only.refl (fun _ => False) ws).alloc (.cells #[.int .i64 tp, .int .i64 tth, .int .i64 tpe, .int .i64 tde, .int .i64 tfr, .int .i64 tfl, .slice oA on oc] 49))
      have hWa := Lib.hid (hW'.out.kept hOa.out (fun _ _ h => h))
      obtain ⟨bb, hbb⟩ : ∃ bb, bb = highB tp T := ⟨_, rfl⟩
      have hKb := Lib.hid (fun W => hK'.out tp T W)
      rw [← hbb] at hsu hKb
      clear hbb
      cases bb with
      | true =>
        rw [if_pos rfl] at hsu
        go_wp2
        go_quiet (exact Calls.quiet_of_same (hKb.out _))
        go_wp2_with (at_builtin; (refine wpList_append_win rfl _ _ 24 rfl 3 (Value.int .i64 0) 1 8 Tryz.underlying24 info3 rfl (by decide) rfl ((hWa.out.same (by first | rfl | exact drewN_heap _ _)).kept ((Only.refl (fun _ => False) _).alloc _) (fun _ _ h => h)) _ 1 1 rfl [.int .i64 (k : Int)] rfl (fun _ => ⟨_, rfl, row_one (heap_new_at _ _ (by simp [World.drewN]))⟩) (by simp [Value.oneCell']) (by unfold maxLen; omega) (by omega) ?_; intro v4 w6 h4 hW4 hO4' hh4; obtain ⟨p4, c4', rfl, _, _⟩ := hW4.out.form))
        go_roundw
        case rel =>
          refine ⟨k + 1, m + 1, p4, c4', h4, by omega, by omega, by go_num, rfl, ?_, ?_, fun x hx => ?_, ?_⟩
          · rw [← hTh.out, hsu.out, List.length_append, ← hml'.out]; rfl
          · rw [← hTh.out, hsu.out]
            have := hW4.out
            rw [show [Value.int .i64 (k : Int)] = dat [k] from rfl, dat_append] at this
            exact this
          · rcases hh4.out with rfl | ⟨g5, hg5, hge5⟩
            · exact hf'.out x hx
            · rw [hg5] at hx
              cases hx
              have h7 := hO'.out.size
              simp [World.drewN] at hge5
              omega
          · exact (((hO'.out.trans' hOa.out).drewN _).alloc _).trans hO4'.out (fun x hx e => by
              have h7 := hf'.out x e.symm
              omega)
        case measure => simp [intOf]; omega
      | false =>
        rw [if_neg (by simp), List.append_nil] at hsu
        go_wp2
        go_quiet (exact Calls.quiet_of_same (hKb.out _))
        go_wp2
        go_roundw
        case rel =>
          refine ⟨k + 1, m, p, cp, hh, by omega, by omega, by go_num, rfl, by rw [← hTh.out, hsu.out]; exact hml'.out, ?_, hf'.out, (hO'.out.trans' hOa.out).drewN _⟩
          rw [← hTh.out, hsu.out]
          exact hWa.out.same (by first | rfl | exact drewN_heap _ _)
        case measure => simp [intOf]; omega
    · obtain rfl : k = n := by omega
      have hkn' : ¬ (k : Int) < (k : Int) := by omega
      have hfin : Z (.returned (.slice p m cp)) ws := by
        rw [hZ'.out]
        have h7 := hW'.out
        have h8 := hml'.out
        subst h8
        exact ⟨p, cp, hh, rfl, h7, fun b hb => Nat.le_trans hO2'.out.size (hf'.out b hb), hO2'.out.trans' hO'.out⟩
      have hfin' := Lib.hid hfin
      clear hfin
      go_wp2
      exact hfin'.out



end Pre
end Go.Proofs.YtlbinlhaejhobaaGreatDoor
