/- Merged: Srt Blk Lod Tou Bnd. -/
import Derived.Test.YtlbinlhaejhobaaGreatDoorPE
import Derived.Test.YtlbinlhaejhobaaGreatDoorShelf
import Derived.Shelf.Slices.In.SortNone
import Derived.Shelf.Sort.Plain
import Derived.Shelf.Slices.CompactI
import Derived.Lib.SortBridge
import Derived.Deep.LoopGhost
import Derived.Deep.RegionHeld3
/- slices.Sort and slices.Compact over numbers. -/
namespace Go.Proofs.YtlbinlhaejhobaaGreatDoor
namespace Srt
open Go Go.RowKit Go.Sort

def ints (l : List Int) : List Value := l.map (Value.int .i64)
theorem ints_dat (l : List Nat) : ints (l.map (fun (k : Nat) => (k : Int))) = dat l := by simp [ints, dat]
def up (l : List Int) : List Int := l.mergeSort fun x y => decide (x ≤ y)

theorem Win.set {w : World} {e : TypeId} {p : Option Addr} {n cap g off : Nat} {xs ys : List Value} (hW : Win w e 1 (.slice (some ⟨g, off, none⟩) n cap) (some g) n xs) (hy : ys.length = n) (hp : p = some ⟨g, off, none⟩) :
    Win (w.setCells g off ys) e 1 (.slice p n cap) (some g) n ys ∧ Only (fun k => some k = some g) w (w.setCells g off ys) := by
  subst hp
  obtain ⟨hl, p', cap', hv, h1, h2, h3⟩ := hW
  simp only [Value.slice.injEq, true_and] at hv
  obtain ⟨rfl, rfl⟩ := hv
  rcases h3 with ⟨h3, _⟩ | ⟨g', off', L, hg, hp, hh, h4, h5⟩
  · cases h3
  · cases hg
    cases hp
    refine ⟨⟨by omega, _, cap, rfl, h1, h2, .inr ⟨g, off, _, rfl, rfl, heap_setCells ys off w L hh, by rw [setList_length]; exact h4, ?_⟩⟩, (only_setCells ys off w).mono (fun x _ e => by rw [e])⟩
    have := setList_take (L := L) (xs := []) (news := ys) (off := off) (a := 0) (by simp) rfl (by omega)
    rw [Nat.add_zero, Nat.zero_add, List.nil_append, hy] at this
    rwa [Nat.mul_one]
theorem only_grow (w : World) (os : Array Obj) : Only (fun _ => False) w (grow w os) :=
  ⟨rfl, rfl, rfl, by simp, fun k hk _ => heap_grow_old w os hk⟩
theorem holds_win {w : World} {g off n cap : Nat} {zs : List Int} (hW : Win w 3 1 (.slice (some ⟨g, off, none⟩) n cap) (some g) n (ints zs)) : Holds (Value.int .i64) w g off zs.toArray := by
  intro j hj
  have hz : zs.length = n := by have := hW.1; simpa [ints] using this
  have hj' : j < zs.length := by simpa using hj
  obtain ⟨g', off', cap', e1, e2, _, _, _, hc, hf⟩ := hW.at_ (by omega)
  cases e1
  cases e2
  refine ⟨?_, hf _⟩
  rw [hc j (.int .i64 (zs[j])) (by simp [ints, hj'])]
  simp [hj']

/-- Behind a sort: the same slice, its numbers in order. -/
theorem sort_any {w : World} {p : Option Addr} {n cap : Nat} {h : Option Nat} {zs : List Int} (hW : Win w 3 1 (.slice p n cap) h n (ints zs)) (hn : n ≤ 1000000) :
    Calls Tryz.prog 92 #[.slice p n cap] w fun e w' => e = .returned (.tuple #[]) ∧ Win w' 3 1 (.slice p n cap) h n (ints (up zs)) ∧ Only (fun k => some k = h) w w' := by
  have hz : zs.length = n := by have := hW.1; simpa [ints] using this
  by_cases h0 : n = 0
  · subst h0
    obtain rfl : zs = [] := List.eq_nil_of_length_eq_zero hz
    exact (Any.slices_Sort_int_none Tryz.laysSort p cap w).mono fun e w' ⟨h1, h2⟩ => by
      subst h2
      exact ⟨h1, by simpa [up, ints] using hW, Only.refl _ _⟩
  · obtain ⟨g, off, cap', rfl, hv, _, _, hlt, _, _⟩ := hW.at_ (by omega)
    cases hv
    have hH := holds_win hW
    have hs := Any.slices_Sort_int Tryz.laysSort g off cap zs w hH hlt (by omega)
    rw [hz] at hs
    refine hs.mono fun e w' ⟨h1, q, os, h2⟩ => ⟨h1, ?_⟩
    rw [show (zs.mergeSort fun x y => decide (x ≤ y)) = up zs from rfl, Lib.sorted_world (Value.int .i64) w g off q zs.toArray (up zs) os hH (by simp [up])] at h2
    have hW2 : Win (w.drewN q) 3 1 (.slice (some ⟨g, off, none⟩) n cap) (some g) n (ints zs) := hW.same rfl
    obtain ⟨a1, a2⟩ := Win.set hW2 (ys := (up zs).map (Value.int .i64)) (by simp [up, hz]) rfl
    have a3 := only_grow ((w.drewN q).setCells g off ((up zs).map (Value.int .i64))) os
    rw [h2]
    exact ⟨a1.kept a3 (fun _ _ h => h), (((Only.refl (fun k => some k = some g) w).drewN q).trans' a2).trans a3 (fun _ _ h => h.elim)⟩

/-- Behind a compacting: the slice's head. -/
theorem compact_any {w : World} {p : Option Addr} {n cap : Nat} {h : Option Nat} {zs : List Int} (hW : Win w 3 1 (.slice p n cap) h n (ints zs)) (hn : n ≤ 1000000) :
    Calls Tryz.prog 183 #[.slice p n cap] w fun e w' => e = .returned (.slice p (Lib.compact zs).length cap) ∧ Win w' 3 1 (.slice p (Lib.compact zs).length cap) h (Lib.compact zs).length (ints (Lib.compact zs)) ∧ Only (fun k => some k = h) w w' := by
  have hz : zs.length = n := by have := hW.1; simpa [ints] using this
  by_cases h0 : n = 0
  · subst h0
    obtain rfl : zs = [] := List.eq_nil_of_length_eq_zero hz
    exact (Any.slices_Compact_int_empty Tryz.laysCompact p cap w).mono fun e w' ⟨h1, h2⟩ => by
      subst h2
      exact ⟨h1, hW, Only.refl _ _⟩
  · obtain ⟨g, off, cap', rfl, hv, hcap, _, hlt, _, _⟩ := hW.at_ (by omega)
    cases hv
    have hH := holds_win hW
    have hs := Any.slices_Compact_int Tryz.laysCompact g off cap zs w hH (by omega) (by omega)
    rw [hz] at hs
    refine hs.mono fun e w' ⟨h1, q, h2⟩ => ⟨h1, ?_⟩
    have hle : (Lib.compact zs).length ≤ n := by
      unfold Lib.compact Lib.compactUpTo
      rw [List.length_map]
      refine Nat.le_trans (List.length_filter_le _ _) ?_
      simp [hz]
    rw [Lib.putRow_eq_setCells (Value.int .i64) w g off zs.toArray _ q hH (by simp; omega)] at h2
    have hW2 : Win (w.drewN q) 3 1 (.slice (some ⟨g, off, none⟩) n cap) (some g) n (ints zs) := hW.same rfl
    obtain ⟨a1, a2⟩ := Win.set hW2 (ys := (Lib.compact zs ++ List.replicate (n - (Lib.compact zs).length) 0).map (Value.int .i64)) (by simp; omega) rfl
    rw [h2]
    have a4 := a1.take hle
    have e1 : ((Lib.compact zs ++ List.replicate (n - (Lib.compact zs).length) 0).map (Value.int .i64)).take ((Lib.compact zs).length * 1) = ints (Lib.compact zs) := by
      rw [List.map_append, Nat.mul_one]
      exact List.take_left' (by simp)
    rw [e1] at a4
    exact ⟨a4, ((Only.refl (fun k => some k = some g) w).drewN q).trans' a2⟩

theorem up_sorted (l : List Int) : (up l).Pairwise (· ≤ ·) := by
  have := List.pairwise_mergeSort (le := fun x y : Int => decide (x ≤ y)) (fun a b c h1 h2 => by simp at *; omega) (fun a b => by simp; omega) l
  exact this.imp (fun h => by simpa using h)
theorem up_mem {l : List Int} {x : Int} : x ∈ up l ↔ x ∈ l := by unfold up; exact List.mem_mergeSort
theorem get_bang {l : List Int} {j : Nat} (h : j < l.length) : l.toArray[j]! = l[j] := by simp [h]
theorem compact_mem {l : List Int} {x : Int} : x ∈ Lib.compact l ↔ x ∈ l := by
  unfold Lib.compact Lib.compactUpTo
  simp only [List.mem_map, List.mem_filter, List.mem_range]
  constructor
  · rintro ⟨j, ⟨hj, _⟩, rfl⟩
    rw [get_bang hj]
    exact List.getElem_mem hj
  · intro hx
    have hex : ∃ j, ∃ h : j < l.length, l[j] = x := List.getElem_of_mem hx
    have : ∃ j, (∃ h : j < l.length, l[j] = x) ∧ ∀ i, i < j → ¬ ∃ h : i < l.length, l[i] = x := by
      obtain ⟨j, hj⟩ := hex
      induction j using Nat.strongRecOn with
      | ind j ih =>
        by_cases hm : ∃ i, i < j ∧ ∃ h : i < l.length, l[i] = x
        · obtain ⟨i, hi, h⟩ := hm
          exact ih i hi h
        · exact ⟨j, hj, fun i hi h => hm ⟨i, hi, h⟩⟩
    obtain ⟨j, ⟨hj, e⟩, hmin⟩ := this
    refine ⟨j, ⟨hj, ?_⟩, by rw [get_bang hj]; exact e⟩
    unfold Lib.keeps
    rw [decide_eq_true_eq]
    by_cases h0 : j = 0
    · exact .inl h0
    · refine .inr fun h => hmin (j - 1) (by omega) ⟨by omega, ?_⟩
      rw [get_bang hj, get_bang (by omega)] at h
      rw [← h, e]
theorem compact_lt {l : List Int} (hs : l.Pairwise (· ≤ ·)) : (Lib.compact l).Pairwise (· < ·) := by
  unfold Lib.compact Lib.compactUpTo
  rw [List.pairwise_map]
  refine ((List.pairwise_lt_range (n := l.length)).filter _).imp_of_mem (fun {a b} ha hb hab => ?_)
  rw [List.mem_filter, List.mem_range] at ha hb
  obtain ⟨hb1, hb2⟩ := hb
  unfold Lib.keeps at hb2
  rw [decide_eq_true_eq] at hb2
  rw [get_bang ha.1, get_bang hb1]
  rcases hb2 with hb2 | hb2
  · omega
  · rw [get_bang hb1, get_bang (by omega)] at hb2
    have hp := List.pairwise_iff_getElem.1 hs
    have h1 := hp (b - 1) b (by omega) hb1 (by omega)
    have h2 : l[a] ≤ l[b - 1] := by
      by_cases h : a = b - 1
      · subst h; exact Int.le_refl _
      · exact hp a (b - 1) ha.1 (by omega) (by omega)
    omega
end Srt
end Go.Proofs.YtlbinlhaejhobaaGreatDoor
/- cost.Blocks: the blocks that a program accesses, each once. -/
namespace Go.Proofs.YtlbinlhaejhobaaGreatDoor
namespace Rld
open Go Go.RowKit Rca Srt

def accZ (l : List Opn) : List Int := (l.filter (fun o => decide (o.k = 2))).map (·.a)
theorem accZ_succ {l : List Opn} {k : Nat} {o : Opn} (h : l[k]? = some o) : accZ (l.take (k + 1)) = accZ (l.take k) ++ (if o.k = 2 then [o.a] else []) := by
  unfold accZ
  rw [List.take_add_one, h, List.filter_append, List.map_append]
  congr 1
  by_cases hk : o.k = 2 <;> simp [hk]
theorem accZ_len (l : List Opn) (k : Nat) : (accZ (l.take k)).length ≤ k := by
  unfold accZ
  rw [List.length_map]
  refine Nat.le_trans (List.length_filter_le _ _) (List.length_take_le _ _)
def BlkEnd (l : List Opn) (w : World) (e : Ending) (w' : World) : Prop :=
  ∃ (B : List Nat) (p : Option Addr) (c : Nat) (h : Option Nat), e = .returned (.slice p B.length c) ∧ B.Nodup ∧ (∀ x, x ∈ B ↔ x ∈ accN l) ∧ Win w' 3 1 (.slice p B.length c) h B.length (dat B) ∧ (∀ b, h = some b → w.heap.size ≤ b) ∧ Only (fun _ => False) w w'
theorem blk_end {l : List Opn} {w w' : World} {p : Option Addr} {c : Nat} {h : Option Nat} (hok : accOk l) {C : List Int} (hC : C = Lib.compact (up (accZ l))) (hW : Win w' 3 1 (.slice p C.length c) h C.length (ints C)) (hf : ∀ b, h = some b → w.heap.size ≤ b) (hO : Only (fun _ => False) w w') :
    BlkEnd l w (.returned (.slice p C.length c)) w' := by
  have hmem : ∀ x : Int, x ∈ C ↔ ∃ o ∈ l, o.k = 2 ∧ o.a = x := by
    intro x
    rw [hC, compact_mem, up_mem]
    unfold accZ
    simp [List.mem_map, List.mem_filter, and_assoc]
  have hpos : ∀ x ∈ C, 0 ≤ x := by
    intro x hx
    obtain ⟨o, ho, hk, rfl⟩ := (hmem x).1 hx
    exact (hok o ho hk).1
  have hcast : C = (C.map Int.toNat).map (fun (k : Nat) => (k : Int)) := by
    rw [List.map_map]
    conv => lhs; rw [← List.map_id C]
    refine List.map_congr_left fun x hx => ?_
    have := hpos x hx
    simp only [id, Function.comp]
    omega
  have hlen : C.length = (C.map Int.toNat).length := by simp
  refine ⟨C.map Int.toNat, p, c, h, by rw [← hlen], ?_, fun x => ?_, ?_, hf, hO⟩
  · have h1 := compact_lt (up_sorted (accZ l))
    rw [← hC] at h1
    refine List.pairwise_map.2 (h1.imp_of_mem fun {a b} ha hb hab => ?_)
    have h2 := hpos a ha
    have h3 := hpos b hb
    omega
  · rw [List.mem_map, accN_mem]
    constructor
    · rintro ⟨z, hz, rfl⟩
      obtain ⟨o, ho, hk, rfl⟩ := (hmem z).1 hz
      exact ⟨o, ho, hk, rfl⟩
    · rintro ⟨o, ho, hk, rfl⟩
      exact ⟨o.a, (hmem _).2 ⟨o, ho, hk, rfl⟩, rfl⟩
  · rw [← ints_dat, ← hcast, ← hlen]
    exact hW

set_option maxRecDepth 100000 in
set_option maxHeartbeats 2000000 in
theorem blocks_any {w : World} {A : Option Addr} {n cap : Nat} {l : List Opn} (hl : OpnRow w A l) (hn : l.length = n) (h9 : n ≤ 1000000) (hok : accOk l) :
    Calls Tryz.prog 150 #[.slice A n cap] w (BlkEnd l w) := by
  obtain ⟨Z, hZ⟩ : ∃ Z, Z = BlkEnd l w := ⟨_, rfl⟩
  rw [← hZ]
  have hfin : ∀ (w' : World) (p : Option Addr) (c : Nat) (h : Option Nat) (C : List Int), C = Lib.compact (up (accZ l)) → Win w' 3 1 (.slice p C.length c) h C.length (ints C) → (∀ b, h = some b → w.heap.size ≤ b) → Only (fun _ => False) w w' → Z (.returned (.slice p C.length c)) w' := by
    intro w' p c h C h1 h2 h3 h4
    rw [hZ]
    exact blk_end hok h1 h2 h3 h4
  have hfin' := Lib.hid hfin
  have hl' := Lib.hid hl
  have hn' := Lib.hid hn
  clear hfin hl hn hZ
  go_enter Tryz.func150, Tryz.ntmps150
  go_wp2
  go_loopw [3, 8] (fun v i wr => ∃ (k m : Nat) (q : Option Addr) (cq : Nat) (hq : Option Nat), k ≤ n ∧ m ≤ k ∧ i = .int .i64 k ∧ v = .slice q m cq ∧ Win wr 3 1 (.slice q m cq) hq m (ints (accZ (l.take k))) ∧ (∀ b, hq = some b → w.heap.size ≤ b) ∧ Only (fun _ => False) w wr) (fun _ i _ => n - (intOf i).toNat)
  case atStart => exact ⟨0, 0, none, 0, none, Nat.zero_le _, Nat.le_refl _, rfl, rfl, Win.nil _ _ _, (fun b hb => by cases hb), Only.refl _ _⟩
  case round =>
    obtain ⟨k, m, q, cq, hq, hk, hmk, rfl, rfl, hW, hf, hO⟩ := hrel
    obtain ⟨ws, hws⟩ : ∃ ws : World, ws = wr := ⟨_, rfl⟩
    subst hws
    have hW' := Lib.hid hW
    have hf' := Lib.hid hf
    have hO' := Lib.hid hO
    clear hW hf hO
    by_cases hkn : k < n
    · have hkn' : (k : Int) < (n : Int) := by omega
      obtain ⟨o, ho⟩ : ∃ o, l[k]? = some o := ⟨_, List.getElem?_eq_getElem (by have := hn'.out; omega)⟩
      obtain ⟨b, off, hA, hb, c0, c1, c2⟩ := (hl'.out.new hO'.out) k o ho
      subst hA
      have hsu := Lib.hid (accZ_succ ho)
      obtain ⟨ok, oa, ob⟩ := o
      dsimp only at c0 c1 c2 hsu
      clear ho
      have hOa := Lib.hid ((Only.refl (fun _ => False) ws).alloc (.cells #[.int .i64 ok, .int .i64 oa, .int .i64 ob] 90))
      have hWa := Lib.hid (hW'.out.kept hOa.out (fun _ _ h => h))
      by_cases h2 : ok = 2
      · subst h2
        rw [if_pos rfl] at hsu
        go_wp2_with (at_builtin; (refine wpList_append_win rfl _ _ 24 rfl 3 (Value.int .i64 0) 1 8 Tryz.underlying24 info3 rfl (by decide) rfl (hWa.out.kept ((Only.refl (fun _ => False) _).alloc _) (fun _ _ h => h)) _ 1 1 rfl [.int .i64 oa] rfl (fun _ => ⟨_, rfl, row_one (heap_new_at _ _ (by simp))⟩) (by simp [Value.oneCell']) (by unfold maxLen; omega) (by omega) ?_; intro v4 w6 h4 hW4 hO4' hh4; obtain ⟨p4, c4, rfl, _, _⟩ := hW4.out.form))
        go_roundw
        case rel =>
          refine ⟨k + 1, m + 1, p4, c4, h4, by omega, by omega, by go_num, rfl, ?_, fun x hx => ?_, ?_⟩
          · rw [hsu.out]
            have := hW4.out
            rw [show ints (accZ (l.take k)) ++ [Value.int .i64 oa] = ints (accZ (l.take k) ++ [oa]) by simp [ints]] at this
            exact this
          · rcases hh4.out with rfl | ⟨g5, hg5, hge5⟩
            · exact hf'.out x hx
            · rw [hg5] at hx
              cases hx
              have := hO'.out.size
              rw [alloc_size, alloc_size] at hge5
              omega
          · exact ((hO'.out.trans' hOa.out).alloc _).trans hO4'.out (fun x hx e => by have := hf'.out x e.symm; omega)
        case measure => simp [intOf]; omega
      · rw [if_neg h2, List.append_nil] at hsu
        have h2' : (ok == 2) = false := beq_eq_false_iff_ne.2 h2
        clear h2
        go_wp2
        go_roundw
        case rel =>
          refine ⟨k + 1, m, q, cq, hq, by omega, by omega, by go_num, rfl, ?_, hf'.out, hO'.out.trans' hOa.out⟩
          rw [hsu.out]
          exact hWa.out
        case measure => simp [intOf]; omega
    · obtain rfl : k = n := by omega
      have hkn' : ¬ (k : Int) < (k : Int) := by omega
      have hz : accZ (l.take k) = accZ l := by rw [← hn'.out, List.take_length]
      rw [hz] at hW'
      go_wp2_with fail
      refine (sort_any hW'.out (by omega)).mono ?_
      rintro e w1 ⟨rfl, hW1, hO1⟩
      have hOx := Lib.hid (hO'.out.trans hO1 (fun x hx e => by have := hf'.out x e.symm; omega))
      have hW1' := Lib.hid hW1
      clear hW1 hO1
      go_wp2_with fail
      refine (compact_any hW1'.out (by omega)).mono ?_
      rintro e w2 ⟨rfl, hW2, hO2⟩
      have hend := Lib.hid (hfin'.out _ _ _ _ _ rfl hW2 hf'.out (hOx.out.trans hO2 (fun x hx e => by have := hf'.out x e.symm; omega)))
      obtain ⟨mm, hmm⟩ : ∃ mm, mm = (Lib.compact (up (accZ l))).length := ⟨_, rfl⟩
      rw [← hmm] at hend ⊢
      clear hW2 hO2 hmm
      go_wp2
      exact hend.out
end Rld
end Go.Proofs.YtlbinlhaejhobaaGreatDoor
/- reload: loads, who is above. -/
namespace Go.Proofs.YtlbinlhaejhobaaGreatDoor
namespace Rld
open Go Go.RowKit Rca Srt

theorem sets_any (w : World) (S : Nat) (wy h mi : Int) (h1 : 1 ≤ S) (h2 : S ≤ 16) : Calls Tryz.prog 149 #[.agg #[.int .i64 (S : Int), .int .i64 wy, .int .i64 h, .int .i64 mi]] w (GrowI (S : Int) w) := by
  have a1 : ¬ (S : Int) < 1 := by omega
  have a2 : ¬ (16 : Int) < (S : Int) := by omega
  have hO := (Only.refl (fun _ => False) w).alloc (.cells #[.int .i64 (S : Int), .int .i64 wy, .int .i64 h, .int .i64 mi] 23)
  have hO' := Lib.hid hO
  clear hO h1 h2
  go_enter Tryz.func149, Tryz.ntmps149
  go_wp2
  go_ret
  exact ⟨rfl, hO'.out⟩
def clZ (z : Int) : Int := min (max z 0) 100
/-- The loads of a row's first blocks. -/
def lrow (S : Nat) (B : List Nat) : List Value := (List.range S).map (fun s => Value.int .i64 (Lru.loadN S B s : Int))
theorem lrow_len (S : Nat) (B : List Nat) : (lrow S B).length = S := by simp [lrow]
theorem loadN_succ {S k b s : Nat} {B : List Nat} (h : B[k]? = some b) : Lru.loadN S (B.take (k + 1)) s = Lru.loadN S (B.take k) s + (if b % S = s then 1 else 0) := by
  unfold Lru.loadN
  rw [List.take_add_one, h, List.filter_append, List.length_append]
  congr 1
  by_cases hb : b % S = s <;> simp [hb]
theorem lrow_at {S : Nat} {B : List Nat} {s : Nat} (hs : s < S) : (lrow S B)[s]? = some (.int .i64 (Lru.loadN S B s : Int)) := by
  unfold lrow
  rw [List.getElem?_map, List.getElem?_range hs]
  rfl
theorem lrow_set {S k b : Nat} {B : List Nat} (h : B[k]? = some b) : (lrow S (B.take k)).set (b % S) (.int .i64 ((Lru.loadN S (B.take k) (b % S) : Int) + 1)) = lrow S (B.take (k + 1)) := by
  apply List.ext_getElem?
  intro j
  by_cases hj : j < S
  · rw [List.getElem?_set, lrow_at (B := B.take (k + 1)) hj, loadN_succ h]
    by_cases he : b % S = j
    · subst he
      rw [if_pos rfl, if_pos (by rw [lrow_len]; exact hj), if_pos rfl]
      push_cast
      rfl
    · rw [if_neg he, if_neg he, lrow_at hj]
      rfl
  · rw [List.getElem?_eq_none (by simp [lrow_len]; omega), List.getElem?_eq_none (by rw [lrow_len]; omega)]
theorem lrow_zero (S : Nat) : lrow S [] = List.replicate S (.int .i64 0) := by
  apply List.ext_getElem?
  intro j
  by_cases hj : j < S
  · rw [lrow_at hj, List.getElem?_replicate, if_pos hj]
    simp [Lru.loadN]
  · rw [List.getElem?_eq_none (by rw [lrow_len]; omega), List.getElem?_eq_none (by simp; omega)]
theorem loadN_le (S : Nat) (B : List Nat) (s : Nat) : Lru.loadN S B s ≤ B.length := by
  unfold Lru.loadN
  exact List.length_filter_le _ _
def loadsL (S : Nat) (l : List Opn) : List Value := (List.range S).map (fun s => Value.int .i64 (loadS S l s : Int))
theorem lrow_loads {S : Nat} {l : List Opn} {B : List Nat} (hb : B.Nodup) (h : ∀ x, x ∈ B ↔ x ∈ accN l) : lrow S B = loadsL S l := by
  unfold lrow loadsL
  refine List.map_congr_left fun s _ => ?_
  rw [loadS_of hb h]
theorem accN_len (l : List Opn) : (accN l).length ≤ l.length := by
  unfold accN
  rw [List.length_map]
  exact List.length_filter_le _ _

/-- What Loads answers. -/
def LodEnd (S : Nat) (l : List Opn) (w : World) (e : Ending) (w' : World) : Prop :=
  ∃ g, e = .returned (.slice (some ⟨g, 0, none⟩) S S) ∧ w.heap.size ≤ g ∧ w'.heap[g]? = some (.cells (loadsL S l).toArray 3 (0, 0)) ∧ Only (fun _ => False) w w'
set_option maxRecDepth 100000 in
set_option maxHeartbeats 2000000 in
theorem loads_any {w : World} {A : Option Addr} {n cap : Nat} {l : List Opn} (hl : OpnRow w A l) (hn : l.length = n) (h9 : n ≤ 1000000) (hok : accOk l) (S : Nat) (wy h mi : Int) (h1 : 1 ≤ S) (h2 : S ≤ 16) :
    Calls Tryz.prog 114 #[.slice A n cap, .agg #[.int .i64 (S : Int), .int .i64 wy, .int .i64 h, .int .i64 mi]] w (LodEnd S l w) := by
  obtain ⟨Z, hZ⟩ : ∃ Z, Z = LodEnd S l w := ⟨_, rfl⟩
  rw [← hZ]
  have hZ' := Lib.hid hZ
  obtain ⟨W1, hW1⟩ : ∃ W1, W1 = w.alloc (.cells #[.int .i64 (S : Int), .int .i64 wy, .int .i64 h, .int .i64 mi] 23) := ⟨_, rfl⟩
  have hO : Only (fun _ => False) w W1 := by rw [hW1]; exact (Only.refl (fun _ => False) w).alloc _
  have hb := heap_new_at w (.cells #[.int .i64 (S : Int), .int .i64 wy, .int .i64 h, .int .i64 mi] 23) rfl
  rw [← hW1] at hb
  have hb' := Lib.hid hb
  have hO' := Lib.hid hO
  have hq := Lib.hid (fun W (hW : Only (fun _ => False) w W) => blocks_any (cap := cap) (hl.new hW) hn h9 hok)
  have hs := Lib.hid (fun W => sets_any W S wy h mi h1 h2)
  have hlen9 := Lib.hid (show (accN l).length ≤ n from hn ▸ accN_len l)
  have c0 := row_cell (L := [.int .i64 (S : Int), .int .i64 wy, .int .i64 h, .int .i64 mi]) hb (i := 0) rfl
  have c1 := row_cell (L := [.int .i64 (S : Int), .int .i64 wy, .int .i64 h, .int .i64 mi]) hb (i := 1) rfl
  have c2 := row_cell (L := [.int .i64 (S : Int), .int .i64 wy, .int .i64 h, .int .i64 mi]) hb (i := 2) rfl
  have c3 := row_cell (L := [.int .i64 (S : Int), .int .i64 wy, .int .i64 h, .int .i64 mi]) hb (i := 3) rfl
  have hlt := row_lt hb
  have hW1' := Lib.hid hW1
  have hS0 : ((S : Int) == 0) = false := beq_eq_false_iff_ne.2 (by omega)
  have hSp : (0 : Int) < (S : Int) := by omega
  have hSn : (S : Int) ≠ 0 := by omega
  have mk := fun W0 : World => run_make_list (P := Tryz.prog) W0 24 3 (.int .i64 0) 8 Tryz.underlying24 (by kernel_rfl) rfl S (by omega) (by omega)
  clear hl hn hok hO hb hW1 hZ
  go_enter Tryz.func114, Tryz.ntmps114
  go_wp2_with fail
  rw [← hW1'.out]
  go_wp2_with fail
  refine (hs.out _).mono ?_
  rintro e w2 ⟨rfl, hO2⟩
  have hO2' := Lib.hid hO2
  have hb2 := Lib.hid (hO2.heap hb'.out (fun h => h))
  replace c0 := hO2.cell c0 (fun h => h)
  replace hlt := Nat.lt_of_lt_of_le hlt hO2.size
  clear hO2 c1 c2 c3 hs
  obtain ⟨G, hG⟩ : ∃ G, G = w2.heap.size := ⟨_, rfl⟩
  have hG' := Lib.hid hG
  clear hG
  go_wp2_with fail
  rw [← hG'.out]
  clear mk
  have hO3 := Lib.hid ((hO'.out.trans' hO2'.out).alloc (.cells (List.replicate S (Value.int .i64 0)).toArray 3))
  have hr3 := Lib.hid (heap_new_at w2 (.cells (List.replicate S (Value.int .i64 0)).toArray 3) hG'.out.symm)
  have hGw : w.heap.size ≤ G := by
    have h3 := hO'.out.size
    have h4 := hO2'.out.size
    have h5 := hG'.out
    omega
  refine (hq.out _ hO3.out).mono ?_
  rintro e w4 ⟨B, p, cp, hh, rfl, hnd, hmem, hWB, hfr, hO4⟩
  have hr4 := Lib.hid (hO4.heap hr3.out (fun h => h))
  have hO4' := Lib.hid (hO3.out.trans' hO4)
  have hb4 := Lib.hid (hO4.heap (heap_kept_alloc hb2.out _) (fun h => h))
  obtain ⟨m, hm⟩ : ∃ m, m = B.length := ⟨_, rfl⟩
  rw [← hm] at hWB ⊢
  have hm9 : m ≤ n := by
    have := Lru.nodup_le hnd (fun x hx => (hmem x).1 hx)
    have := hlen9.out
    omega
  have hm' := Lib.hid hm
  have hWB' := Lib.hid hWB
  have hnd' := Lib.hid hnd
  have hmem' := Lib.hid hmem
  have hne : ∀ k, hh = some k → ¬ k = G := by
    intro k hk e
    have := hfr k hk
    rw [alloc_size] at this
    have := hG'.out
    omega
  have hne' := Lib.hid hne
  have c4 := row_cell (L := [.int .i64 (S : Int), .int .i64 wy, .int .i64 h, .int .i64 mi]) hb4.out (i := 0) rfl
  have hlt4 := row_lt hb4.out
  have hGlt := row_lt hr4.out
  have hGb : ¬ w.heap.size = G := by
    have h3 := hO2'.out.size
    have h4 := row_lt hb'.out
    have h5 := hG'.out
    omega
  clear hO4 hm hWB hnd hmem hne hfr c0 hlt
  go_wp2
  go_loopw [17] (fun i wr => ∃ k : Nat, k ≤ m ∧ i = .int .i64 k ∧ wr.heap[G]? = some (.cells (lrow S (B.take k)).toArray 3 (0, 0)) ∧ Only (fun k => k = G) w4 wr) (fun i _ => m - (intOf i).toNat)
  case atStart => exact ⟨0, Nat.zero_le _, rfl, by rw [List.take_zero, lrow_zero]; exact hr4.out, Only.refl _ _⟩
  case round =>
    obtain ⟨k, hk, rfl, hr, hO5⟩ := hrel
    obtain ⟨ws, hws⟩ : ∃ ws : World, ws = wr := ⟨_, rfl⟩
    subst hws
    have hr' := Lib.hid hr
    have hO5' := Lib.hid hO5
    have c5 := hO5.cell c4 (fun e => hGb e)
    replace hlt4 := Nat.lt_of_lt_of_le hlt4 hO5.size
    replace hGlt := Nat.lt_of_lt_of_le hGlt hO5.size
    clear c4 hr hO5
    by_cases hkm : k < m
    · have hkm' : (k : Int) < (m : Int) := by omega
      obtain ⟨b, hbk⟩ : ∃ b, B[k]? = some b := ⟨_, List.getElem?_eq_getElem (by have := hm'.out; omega)⟩
      obtain ⟨g2, goff2, capp2, _, hv2, _, _, hgl2, hgc2, _⟩ := (hWB'.out.kept hO5'.out (fun x hx e => hne'.out x hx e)).at_ (by omega)
      cases hv2
      have g1 := hgc2 k _ (dat_at hbk)
      have hbp : (0 : Int) ≤ (b : Int) := by omega
      have hbS : b % S < S := Nat.mod_lt _ (by omega)
      have d1 := row_cell hr'.out (lrow_at (B := B.take k) hbS)
      have d2 := row_free hr'.out (b % S)
      obtain ⟨q, hqe⟩ : ∃ q, q = b % S := ⟨_, rfl⟩
      have hrem : (b : Int) % (S : Int) = (q : Int) := by omega
      rw [← hqe] at hbS d1 d2
      obtain ⟨x, hx⟩ : ∃ x, x = Lru.loadN S (B.take k) q := ⟨_, rfl⟩
      have hx9 : x ≤ m := by
        rw [hx]
        refine Nat.le_trans (loadN_le _ _ _) ?_
        rw [List.length_take]
        omega
      have hset := lrow_set (S := S) hbk
      rw [← hqe, ← hx] at hset
      rw [← hx] at d1
      have hset' := Lib.hid hset
      have hbS' : (q : Int) < (S : Int) := by omega
      clear hgc2 hbk hset hx hqe
      go_wp2
      go_roundw
      case rel =>
        refine ⟨k + 1, by omega, by go_num, ?_, hO5'.out.setCell (p := ⟨G, q, none⟩) (fun _ => rfl) _⟩
        rw [← hset'.out]
        exact row_set hr'.out q _
      case measure => simp [intOf]; omega
    · obtain rfl : k = m := by omega
      have hkm' : ¬ (k : Int) < (k : Int) := by omega
      have hfin : Z (.returned (.slice (some ⟨G, 0, none⟩) S S)) ws := by
        rw [hZ'.out]
        refine ⟨G, rfl, hGw, ?_, hO4'.out.trans hO5'.out (fun x hx e => by omega)⟩
        have := hr'.out
        rw [hm'.out, List.take_length, lrow_loads hnd'.out hmem'.out] at this
        exact this
      have hfin' := Lib.hid hfin
      clear hfin
      go_wp2
      exact hfin'.out
end Rld
end Go.Proofs.YtlbinlhaejhobaaGreatDoor
/- reload.Touched: which sets some tasks touch. -/
namespace Go.Proofs.YtlbinlhaejhobaaGreatDoor
namespace Rld
open Go Go.RowKit Rca Srt

/-- What a machine and a configuration's tasks must be for these calls. -/
structure CfOk (w : World) (c : ConfV) (pl : Tks) (S : Nat) : Prop where
  s : c.s = (S : Int)
  s1 : 1 ≤ S
  s2 : S ≤ 16
  n : c.ta.n ≤ 1000000
  t : TasksAt w c.ta pl.ts
  p : ProgsAt w pl
  ok : ∀ (i : Nat) t l, pl[i]? = some (t, l) → accOk l
theorem CfOk.new {w w' : World} {c : ConfV} {pl : Tks} {S : Nat} (h : CfOk w c pl S) (ho : Only (fun _ => False) w w') : CfOk w' c pl S :=
  ⟨h.s, h.s1, h.s2, h.n, h.t.new ho, h.p.new ho, h.ok⟩
def brow (S : Nat) (f : Nat → Bool) : List Value := (List.range S).map (fun s => Value.bool (f s))
theorem brow_len (S : Nat) (f : Nat → Bool) : (brow S f).length = S := by simp [brow]
theorem brow_at {S : Nat} {f : Nat → Bool} {s : Nat} (hs : s < S) : (brow S f)[s]? = some (.bool (f s)) := by
  unfold brow
  rw [List.getElem?_map, List.getElem?_range hs]
  rfl
theorem brow_set {S : Nat} {f g : Nat → Bool} {s : Nat} {b : Bool} (hg : g s = b) (h : ∀ j, j ≠ s → f j = g j) : (brow S f).set s (.bool b) = brow S g := by
  apply List.ext_getElem?
  intro j
  by_cases hj : j < S
  · rw [List.getElem?_set, brow_at (f := g) hj]
    by_cases he : s = j
    · subst he
      rw [if_pos rfl, if_pos (by rw [brow_len]; exact hj), hg]
    · rw [if_neg he, brow_at hj, h j (fun e => he e.symm)]
  · rw [List.getElem?_eq_none (by simp [brow_len]; omega), List.getElem?_eq_none (by rw [brow_len]; omega)]
theorem brow_congr {S : Nat} {f g : Nat → Bool} (h : ∀ j, j < S → f j = g j) : brow S f = brow S g := by
  unfold brow
  refine List.map_congr_left fun s hs => ?_
  rw [h s (List.mem_range.1 hs)]
theorem brow_zero (S : Nat) : brow S (fun _ => false) = List.replicate S (.bool false) := by
  unfold brow
  rw [List.map_const']
  simp
theorem touB_succ {S : Nat} {pl : Tks} {T : List Nat} {k i : Nat} {t : TaskV} {l : List Opn} (hk : T[k]? = some i) (hi : pl[i]? = some (t, l)) (s : Nat) : touB S pl (T.take (k + 1)) s = (touB S pl (T.take k) s || decide (0 < loadS S l s)) := by
  unfold touB
  rw [List.take_add_one, hk, List.any_append]
  simp [hi]
def midB (S : Nat) (pl : Tks) (T : List Nat) (l : List Opn) (j s : Nat) : Bool := touB S pl T s || (decide (s < j) && decide (0 < loadS S l s))
/-- What Touched answers. -/
def TouEnd (S : Nat) (pl : Tks) (T : List Nat) (w : World) (e : Ending) (w' : World) : Prop :=
  ∃ g, e = .returned (.slice (some ⟨g, 0, none⟩) S S) ∧ w.heap.size ≤ g ∧ w'.heap[g]? = some (.cells (brow S (touB S pl T)).toArray 4 (0, 0)) ∧ Only (fun _ => False) w w'

set_option maxRecDepth 100000 in
set_option maxHeartbeats 4000000 in
theorem touched_any {w : World} {c : ConfV} {pl : Tks} {S : Nat} (hc : CfOk w c pl S) {A : Option Addr} {n cap : Nat} {hT : Option Nat} {T : List Nat} (hW : Win w 3 1 (.slice A n cap) hT n (dat T)) (hTn : ∀ i ∈ T, i < pl.length) (hn9 : n ≤ 1000000) :
    Calls Tryz.prog 112 #[c.val, .slice A n cap] w (TouEnd S pl T w) := by
  obtain ⟨Z, hZ⟩ : ∃ Z, Z = TouEnd S pl T w := ⟨_, rfl⟩
  rw [← hZ]
  have hZ' := Lib.hid hZ
  clear hZ
  have hO := (Only.refl (fun _ => False) w).alloc (.cells c.cells.toArray 27)
  have hB := heap_new_at w (.cells c.cells.toArray 27) rfl
  obtain ⟨W1, hW1⟩ : ∃ W1, W1 = w.alloc (.cells c.cells.toArray 27) := ⟨_, rfl⟩
  rw [← hW1] at hB hO
  have hB' := Lib.hid hB
  have hO' := Lib.hid hO
  have hlen' := Lib.hid (show pl.length = c.ta.n by have := hc.t.len; unfold Tks.ts at this; simpa using this)
  have hTl : n = T.length := by have := hW.1; rw [dat_length] at this; omega
  have hTl' := Lib.hid hTl
  have hTn' := Lib.hid hTn
  have hWT := Lib.hid (fun W (h : Only (fun _ => False) w W) => hW.kept h (fun _ _ h => h))
  have hq := Lib.hid (fun W (i : Nat) (h : i < pl.length) => show Calls Tryz.prog 111 #[c.val, .int .i64 (i : Int)] W (GrowB true W) from by
    have h1 := has_any W c (i : Int)
    have h2 : hasT c.ta.n (i : Int) = true := by unfold hasT; have := hlen'.out; simp; omega
    rwa [h2] at h1)
  have hs := Lib.hid (fun W => sets_any W S c.wy c.h c.mi hc.s1 hc.s2)
  have hld := Lib.hid (fun W (h : Only (fun _ => False) w W) (i : Nat) t l (hi : pl[i]? = some (t, l)) => loads_any (cap := t.o.cap) ((hc.p.row i t l hi).1.new h) (hc.p.row i t l hi).2.1 (hc.p.row i t l hi).2.2.1 (hc.ok i t l hi) S c.wy c.h c.mi hc.s1 hc.s2)
  have hta := Lib.hid (fun W (h : Only (fun _ => False) w W) => hc.t.new h)
  have hss := hc.s
  have hs1 := hc.s1
  have hs2 := hc.s2
  have hnn := hc.n
  obtain ⟨q, hqq⟩ : ∃ q, q = w.heap.size := ⟨_, rfl⟩
  have hqq' := Lib.hid hqq
  rw [← hqq] at hB'
  clear hO hB hTl hTn hW hqq hc
  rw [show c.val = .agg #[.int .i64 c.s, .int .i64 c.wy, .int .i64 c.h, .int .i64 c.mi, .slice c.mb.A c.mb.n c.mb.cap, .int .i64 c.g, .slice c.cn.A c.cn.n c.cn.cap, .slice c.ce.A c.ce.n c.ce.cap, .slice c.ta.A c.ta.n c.ta.cap, .slice c.li.A c.li.n c.li.cap] from rfl] at hq ⊢
  unfold ConfV.cells at hW1 hB'
  obtain ⟨s, wy, h, mi, ⟨mA, mn, mc⟩, g, ⟨cA, cn, cc⟩, ⟨eA, en, ec⟩, ⟨tA, tn, tc⟩, ⟨lA, ln, lc⟩⟩ := c
  dsimp only at *
  subst hss
  have hW1' := Lib.hid hW1
  clear hW1
  have mk := fun W0 : World => run_make_list (P := Tryz.prog) W0 110 4 (.bool false) 1 Tryz.underlying110 (by kernel_rfl) rfl S (by omega) (by omega)
  have e0 := row_cell hB'.out (i := 0) rfl
  have e1 := row_cell hB'.out (i := 1) rfl
  have e2 := row_cell hB'.out (i := 2) rfl
  have e3 := row_cell hB'.out (i := 3) rfl
  have hqlt := row_lt hB'.out
  go_enter Tryz.func112, Tryz.ntmps112
  go_wp2_with fail
  rw [← hqq'.out, ← hW1'.out]
  go_wp2_with fail
  refine (hs.out _).mono ?_
  rintro e w2 ⟨rfl, hO2⟩
  have hO2' := Lib.hid (hO'.out.trans' hO2)
  have hB2 := Lib.hid (hO2.heap hB'.out (fun h => h))
  clear e0 e1 e2 e3 hqlt hO2
  obtain ⟨G, hG⟩ : ∃ G, G = w2.heap.size := ⟨_, rfl⟩
  have hG' := Lib.hid hG
  clear hG
  go_wp2_with fail
  rw [← hG'.out]
  clear mk
  obtain ⟨w3, hw3⟩ : ∃ w3, w3 = w2.alloc (.cells (Array.replicate S (Value.bool false)) 4) := ⟨_, rfl⟩
  rw [← hw3]
  have hr3 := Lib.hid (show w3.heap[G]? = some (.cells (brow S (fun _ => false)).toArray 4 (0, 0)) by rw [hw3, brow_zero, List.toArray_replicate]; exact heap_new_at _ _ hG'.out.symm)
  have hO3 := Lib.hid (show Only (fun _ => False) w w3 by rw [hw3]; exact hO2'.out.alloc _)
  have hB3 := Lib.hid (((Only.refl (fun _ => False) w2).alloc (.cells (Array.replicate S (Value.bool false)) 4)).heap hB2.out (fun h => h))
  rw [← hw3] at hB3
  have hGq : q < G := by
    have h3 := row_lt hB2.out
    have h5 := hG'.out
    omega
  have hGw : w.heap.size ≤ G := by rw [← hqq'.out]; omega
  clear hw3 hB2 hO2' hB' hs hO' hW1' hG'
  have hfirst := Lib.hid (fun W (hW : Only (fun k => k = G) w3 W) => show Only (fun _ => False) w W from hO3.out.trans hW (fun x hx e => by omega))
  go_loopw [16] (fun i wr => ∃ k : Nat, k ≤ n ∧ i = .int .i64 k ∧ wr.heap[G]? = some (.cells (brow S (touB S pl (T.take k))).toArray 4 (0, 0)) ∧ Only (fun k => k = G) w3 wr) (fun i _ => n - (intOf i).toNat)
  case atStart => exact ⟨0, Nat.zero_le _, rfl, by rw [List.take_zero]; exact hr3.out, Only.refl _ _⟩
  case round =>
    obtain ⟨k, hk, rfl, hr, hO⟩ := hrel
    obtain ⟨ws, hws⟩ : ∃ ws : World, ws = wr := ⟨_, rfl⟩
    subst hws
    have hr' := Lib.hid hr
    have hO' := Lib.hid hO
    have hOw := Lib.hid (hfirst.out _ hO)
    have hBs := Lib.hid (hO.heap hB3.out (fun e => by omega))
    clear hr hO
    by_cases hkn : k < n
    · have hkn' : (k : Int) < (n : Int) := by omega
      obtain ⟨i, hi⟩ : ∃ i, T[k]? = some i := ⟨_, List.getElem?_eq_getElem (by have := hTl'.out; omega)⟩
      have hip := hTn'.out i (List.mem_of_getElem? hi)
      obtain ⟨⟨t, l⟩, hpi⟩ : ∃ x, pl[i]? = some x := ⟨_, List.getElem?_eq_getElem hip⟩
      obtain ⟨g2, goff2, capp2, _, hv2, _, _, hgl2, hgc2, _⟩ := (hWT.out ws hOw.out).at_ (by omega)
      cases hv2
      have g1 := hgc2 k _ (dat_at hi)
      have e0 := row_cell hBs.out (i := 0) rfl
      have e1 := row_cell hBs.out (i := 1) rfl
      have e2 := row_cell hBs.out (i := 2) rfl
      have e3 := row_cell hBs.out (i := 3) rfl
      have e4 := row_cell hBs.out (i := 4) rfl
      have e5 := row_cell hBs.out (i := 5) rfl
      have e6 := row_cell hBs.out (i := 6) rfl
      have e7 := row_cell hBs.out (i := 7) rfl
      have e8 := row_cell hBs.out (i := 8) rfl
      have e9 := row_cell hBs.out (i := 9) rfl
      have hqlt := row_lt hBs.out
      have hqi := Lib.hid (fun W => hq.out W i hip)
      have htou := Lib.hid (touB_succ (S := S) hi hpi)
      have hpi' := Lib.hid hpi
      clear hgc2 hi hpi
      go_wp2_with fail
      refine (hqi.out _).mono ?_
      rintro e w4 ⟨rfl, hO4⟩
      have hO4' := Lib.hid (hOw.out.trans' hO4)
      have hB4 := Lib.hid (hO4.heap hBs.out (fun h => h))
      have hr4 := Lib.hid (hO4.heap hr'.out (fun h => h))
      have hO4g := Lib.hid (hO'.out.trans hO4 (fun _ _ h => h.elim))
      clear e0 e1 e2 e3 e4 e5 e6 e7 e8 e9 hqlt hO4 g1 hqi
      obtain ⟨b, off, hA, hb, hC⟩ := (hta.out _ hO4'.out).at_ i t (ts_some hpi'.out)
      dsimp only at hA
      subst hA
      have htn : i < tn := by rw [← hlen'.out]; exact hip
      have htn' : (i : Int) < (tn : Int) := by omega
      have hkeep := Lib.hid (fun W0 (h0 : Only (fun _ => False) w4 W0) => show W0.cell? ⟨q, 8, none⟩ = some (.slice (some ⟨b, off, none⟩) tn tc) ∧ W0.cell? ⟨b, off + i * 7 + 6, none⟩ = some (.slice t.o.A t.o.n t.o.cap) ∧ W0.cell? ⟨q, 0, none⟩ = some (.int .i64 (S : Int)) ∧ W0.cell? ⟨q, 1, none⟩ = some (.int .i64 wy) ∧ W0.cell? ⟨q, 2, none⟩ = some (.int .i64 h) ∧ W0.cell? ⟨q, 3, none⟩ = some (.int .i64 mi) ∧ q < W0.heap.size ∧ b < W0.heap.size from by
        have z := h0.heap hB4.out (fun h => h)
        exact ⟨row_cell z (i := 8) rfl, h0.cell hC.c6 (fun h => h), row_cell z (i := 0) rfl, row_cell z (i := 1) rfl, row_cell z (i := 2) rfl, row_cell z (i := 3) rfl, row_lt z, Nat.lt_of_lt_of_le hb h0.size⟩)
      have hld2 := Lib.hid (fun W (h : Only (fun _ => False) w4 W) => hld.out W (hO4'.out.trans' h) i t l hpi'.out)
      obtain ⟨f8, f6, f0, f1, f2, f3, fq, fb⟩ := hkeep.out _ (Only.refl _ _)
      clear hC hb
      go_wp2_with fail
      go_region_held3 (fun W' => W'.cell? ⟨q, 8, none⟩ = some (.slice (some ⟨b, off, none⟩) tn tc) ∧ W'.cell? ⟨b, off + i * 7 + 6, none⟩ = some (.slice t.o.A t.o.n t.o.cap) ∧ W'.cell? ⟨q, 0, none⟩ = some (.int .i64 (S : Int)) ∧ W'.cell? ⟨q, 1, none⟩ = some (.int .i64 wy) ∧ W'.cell? ⟨q, 2, none⟩ = some (.int .i64 h) ∧ W'.cell? ⟨q, 3, none⟩ = some (.int .i64 mi) ∧ q < W'.heap.size ∧ b < W'.heap.size)
        (exact hkeep.out _ (by repeat (first | assumption | exact Only.refl _ _ | apply Only.drew)))
        (first
          | (go_at_call 114; (with_reducible refine (hld2.out _ (by repeat (first | assumption | exact Only.refl _ _ | apply Only.drew))).mono ?_); rintro _ w5 ⟨g3, rfl, hge3, hrow3, ho5⟩; have hO5 : Only (fun _ => False) w4 w5 := Only.trans' (by repeat (first | assumption | exact Only.refl _ _ | apply Only.drew)) ho5; have hge3' := Lib.hid (show w4.heap.size ≤ g3 from hge3); have hrow3' := Lib.hid hrow3; clear hrow3 hge3 ho5))
      have hr5 := Lib.hid (hO5.heap hr4.out (fun h => h))
      have hO5' := Lib.hid (hO4g.out.trans hO5 (fun _ _ h => h.elim))
      have hO5w := Lib.hid (hO4'.out.trans' hO5)
      have hGl5 := row_lt hr5.out
      have hg3G : g3 ≠ G := by
        have h1 := row_lt hr4.out
        have h2 := hge3'.out
        omega
      clear f8 f6 f0 f1 f2 f3 fq fb hO5 hr4 hB4 hBs hkeep hld2 hO4g hO4' hr'
      have hSi : (S : Int) < 9223372036854775807 := by omega
      go_wp2
      go_loopw [34] (fun i' wq => ∃ j : Nat, j ≤ S ∧ i' = .int .i64 j ∧ wq.heap[G]? = some (.cells (brow S (midB S pl (T.take k) l j)).toArray 4 (0, 0)) ∧ Only (fun k => k = G) w5 wq) (fun i' _ => S - (intOf i').toNat)
      case atStart => exact ⟨0, Nat.zero_le _, rfl, by rw [brow_congr (g := touB S pl (T.take k)) (fun j hj => by simp [midB])]; exact hr5.out, Only.refl _ _⟩
      case round =>
        obtain ⟨j, hj, rfl, hrj, hOj⟩ := hrel
        obtain ⟨wo, hwo⟩ : ∃ wo : World, wo = wr := ⟨_, rfl⟩
        subst hwo
        have hrj' := Lib.hid hrj
        have hOj' := Lib.hid hOj
        have h3 := hOj.heap hrow3'.out hg3G
        replace hGl5 := row_lt hrj
        clear hrj hOj
        by_cases hjS : j < S
        · have hjS' : (j : Int) < (S : Int) := by omega
          have c3 := row_cell h3 (show (loadsL S l)[j]? = some (.int .i64 (loadS S l j : Int)) by unfold loadsL; rw [List.getElem?_map, List.getElem?_range hjS]; rfl)
          have hl3 := row_lt h3
          obtain ⟨x, hx⟩ : ∃ x, x = loadS S l j := ⟨_, rfl⟩
          rw [← hx] at c3
          obtain ⟨B, hBB⟩ : ∃ B, B = midB S pl (T.take k) l j j := ⟨_, rfl⟩
          have cj := row_cell hrj'.out (brow_at (f := midB S pl (T.take k) l j) hjS)
          have fj := row_free hrj'.out j
          rw [← hBB] at cj
          have hB2 : B = touB S pl (T.take k) j := by rw [hBB]; simp [midB]
          have hset : ∀ V : Bool, V = (B || decide (0 < x)) → (brow S (midB S pl (T.take k) l j)).set j (.bool V) = brow S (midB S pl (T.take k) l (j + 1)) := by
            intro V hV
            refine brow_set ?_ (fun y hy => ?_)
            · rw [hV, hB2, hx]
              unfold midB
              simp
            · unfold midB
              congr 2
              have : (y < j) = (y < j + 1) := by
                apply propext
                omega
              simp only [this]
          have hset' := Lib.hid hset
          clear hset hBB hB2 hx h3
          have hstep := Lib.hid (fun (V : Bool) (hV : V = (B || decide (0 < x))) => show (wo.setCell ⟨G, j, none⟩ (.bool V)).heap[G]? = some (.cells (brow S (midB S pl (T.take k) l (j + 1))).toArray 4 (0, 0)) from by
            rw [← hset'.out V hV]
            exact row_set hrj'.out j _)
          by_cases hx0 : 0 < x
          · have hx1 : (0 : Int) < (x : Int) := by omega
            have hd : decide (0 < x) = true := by simpa using hx0
            clear hset' hx0
            cases B
            · go_wp2
              go_roundw
              case rel => exact ⟨j + 1, by omega, by go_num, hstep.out true (by rw [hd]; rfl), hOj'.out.setCell (p := ⟨G, j, none⟩) (fun _ => rfl) _⟩
              case measure => simp [intOf]; omega
            · go_wp2
              go_roundw
              case rel => exact ⟨j + 1, by omega, by go_num, hstep.out true (by rfl), hOj'.out.setCell (p := ⟨G, j, none⟩) (fun _ => rfl) _⟩
              case measure => simp [intOf]; omega
          · have hx1 : ¬ (0 : Int) < (x : Int) := by omega
            have hd : decide (0 < x) = false := by simpa using hx0
            clear hset' hx0
            cases B
            · go_wp2
              go_roundw
              case rel => exact ⟨j + 1, by omega, by go_num, hstep.out false (by rw [hd]; rfl), hOj'.out.setCell (p := ⟨G, j, none⟩) (fun _ => rfl) _⟩
              case measure => simp [intOf]; omega
            · go_wp2
              go_roundw
              case rel => exact ⟨j + 1, by omega, by go_num, hstep.out true (by rfl), hOj'.out.setCell (p := ⟨G, j, none⟩) (fun _ => rfl) _⟩
              case measure => simp [intOf]; omega
        · obtain rfl : j = S := by omega
          have hjS' : ¬ (j : Int) < (j : Int) := by omega
          have hend := Lib.hid (show wo.heap[G]? = some (.cells (brow j (touB j pl (T.take (k + 1)))).toArray 4 (0, 0)) from by
            rw [brow_congr (g := midB j pl (T.take k) l j) (fun y hy => by rw [htou.out]; simp [midB, hy])]
            exact hrj'.out)
          clear h3
          go_wp2
          go_roundw
          case rel => exact ⟨k + 1, by omega, by go_num, hend.out, hO5'.out.trans' hOj'.out⟩
          case measure => simp [intOf]; omega
    · obtain rfl : k = n := by omega
      have hkn' : ¬ (k : Int) < (k : Int) := by omega
      have hfin : Z (.returned (.slice (some ⟨G, 0, none⟩) S S)) ws := by
        rw [hZ'.out]
        refine ⟨G, rfl, hGw, ?_, hOw.out⟩
        have := hr'.out
        rw [hTl'.out, List.take_length] at this
        exact this
      have hfin' := Lib.hid hfin
      clear hfin
      go_wp2
      exact hfin'.out
end Rld
end Go.Proofs.YtlbinlhaejhobaaGreatDoor
/- reload.Bound and Cost. -/
namespace Go.Proofs.YtlbinlhaejhobaaGreatDoor
namespace Rld
open Go Go.RowKit Rca Srt

/-- The sum over the first k sets. -/
def bndU (W : Int) (T : Nat → Bool) (L : Nat → Nat) : Nat → Int
  | 0 => 0
  | k + 1 => bndU W T L k + (if T k then min W (L k : Int) else 0)
theorem bndU_bound {W : Int} {T : Nat → Bool} {L : Nat → Nat} (hW : 0 ≤ W) (hW2 : W ≤ 1000) : ∀ {k : Nat}, 0 ≤ bndU W T L k ∧ bndU W T L k ≤ 1000 * (k : Int)
  | 0 => by simp [bndU]
  | k + 1 => by
    have := bndU_bound (T := T) (L := L) hW hW2 (k := k)
    unfold bndU
    split <;> omega
/-- What Bound answers. -/
def bndZ (c : ConfV) (pl : Tks) (S : Nat) (th : Int) (l : List Opn) : Int := bndU c.wy (touB S pl (aboU pl.ts th c.ta.n)) (loadS S l) S

set_option maxRecDepth 100000 in
set_option maxHeartbeats 4000000 in
theorem bound_any {w : World} {c : ConfV} {pl : Tks} {S : Nat} (hc : CfOk w c pl S) (hw0 : 0 ≤ c.wy) (hw1 : c.wy ≤ 1000) {i : Nat} {t : TaskV} {l : List Opn} (hi : pl[i]? = some (t, l)) :
    Calls Tryz.prog 77 #[c.val, .int .i64 (i : Int)] w (AnsI (bndZ c pl S t.th l) w) := by
  obtain ⟨V, hV⟩ : ∃ V, V = bndZ c pl S t.th l := ⟨_, rfl⟩
  rw [← hV]
  have hV' := Lib.hid hV
  clear hV
  have hO := (Only.refl (fun _ => False) w).alloc (.cells c.cells.toArray 27)
  have hB := heap_new_at w (.cells c.cells.toArray 27) rfl
  obtain ⟨W1, hW1⟩ : ∃ W1, W1 = w.alloc (.cells c.cells.toArray 27) := ⟨_, rfl⟩
  rw [← hW1] at hB hO
  have hB' := Lib.hid hB
  have hO' := Lib.hid hO
  have hlen' := Lib.hid (show pl.length = c.ta.n by have := hc.t.len; unfold Tks.ts at this; simpa using this)
  have hip : i < pl.length := (List.getElem?_eq_some_iff.1 hi).1
  have hq := Lib.hid (fun W => show Calls Tryz.prog 111 #[c.val, .int .i64 (i : Int)] W (GrowB true W) from by
    have h1 := has_any W c (i : Int)
    have h2 : hasT c.ta.n (i : Int) = true := by unfold hasT; have := hlen'.out; simp; omega
    rwa [h2] at h1)
  have hab := Lib.hid (fun W (h : Only (fun _ => False) w W) => above_any (hc.new h).t hc.n (ts_some hi))
  have hto := Lib.hid (fun W (h : Only (fun _ => False) w W) (A : Option Addr) (n cap : Nat) (hT : Option Nat) (hW : Win W 3 1 (.slice A n cap) hT n (dat (aboU pl.ts t.th c.ta.n))) (hn : n ≤ 1000000) => touched_any (hc.new h) hW (fun i hi => by have := (aboU_mem.1 hi).1; have := hlen'.out; omega) hn)
  have hld := Lib.hid (fun W (h : Only (fun _ => False) w W) => loads_any (cap := t.o.cap) ((hc.p.row i t l hi).1.new h) (hc.p.row i t l hi).2.1 (hc.p.row i t l hi).2.2.1 (hc.ok i t l hi) S c.wy c.h c.mi hc.s1 hc.s2)
  have hta := Lib.hid (fun W (h : Only (fun _ => False) w W) => (hc.t.new h).at_ i t (ts_some hi))
  have hal := Lib.hid (Nat.le_trans (aboU_len pl.ts t.th c.ta.n) hc.n)
  obtain ⟨T, hT⟩ : ∃ T, T = touB S pl (aboU pl.ts t.th c.ta.n) := ⟨_, rfl⟩
  obtain ⟨L, hL⟩ : ∃ L, L = loadS S l := ⟨_, rfl⟩
  have hL9 : ∀ j, L j ≤ 1000000 := by
    intro j
    rw [hL]
    have h1 := loadN_le S (Lru.dd (accN l)) j
    have h2 := Lru.nodup_le (Lru.dd_nodup (accN l)) (fun x hx => Lru.dd_mem.1 hx)
    have h3 := accN_len l
    have h4 := (hc.p.row i t l hi).2.1
    have h5 := (hc.p.row i t l hi).2.2.1
    unfold loadS
    omega
  have hL9' := Lib.hid hL9
  have hVV := Lib.hid (show V = bndU c.wy T L S by rw [hV'.out, hT, hL]; rfl)
  have hT' := Lib.hid hT
  have hL' := Lib.hid hL
  have hss := hc.s
  have hs1 := hc.s1
  have hs2 := hc.s2
  have hnn := hc.n
  obtain ⟨q, hqq⟩ : ∃ q, q = w.heap.size := ⟨_, rfl⟩
  have hqq' := Lib.hid hqq
  rw [← hqq] at hB'
  clear hO hB hqq hc hi hT hL hL9 hV'
  rw [show c.val = .agg #[.int .i64 c.s, .int .i64 c.wy, .int .i64 c.h, .int .i64 c.mi, .slice c.mb.A c.mb.n c.mb.cap, .int .i64 c.g, .slice c.cn.A c.cn.n c.cn.cap, .slice c.ce.A c.ce.n c.ce.cap, .slice c.ta.A c.ta.n c.ta.cap, .slice c.li.A c.li.n c.li.cap] from rfl] at hq hab hto ⊢
  unfold ConfV.cells at hW1 hB'
  obtain ⟨s, wy, h, mi, ⟨mA, mn, mc⟩, g, ⟨cA, cn, cc⟩, ⟨eA, en, ec⟩, ⟨tA, tn, tc⟩, ⟨lA, ln, lc⟩⟩ := c
  dsimp only at *
  subst hss
  have hW1' := Lib.hid hW1
  clear hW1
  obtain ⟨AB, hAB⟩ : ∃ AB, AB = aboU pl.ts t.th tn := ⟨_, rfl⟩
  rw [← hAB] at hab hto hal hT'
  obtain ⟨na, hna⟩ : ∃ na, na = AB.length := ⟨_, rfl⟩
  have hna' := Lib.hid hna
  clear hAB hna
  have e0 := row_cell hB'.out (i := 0) rfl
  have e1 := row_cell hB'.out (i := 1) rfl
  have e2 := row_cell hB'.out (i := 2) rfl
  have e3 := row_cell hB'.out (i := 3) rfl
  have e4 := row_cell hB'.out (i := 4) rfl
  have e5 := row_cell hB'.out (i := 5) rfl
  have e6 := row_cell hB'.out (i := 6) rfl
  have e7 := row_cell hB'.out (i := 7) rfl
  have e8 := row_cell hB'.out (i := 8) rfl
  have e9 := row_cell hB'.out (i := 9) rfl
  have hqlt := row_lt hB'.out
  go_enter Tryz.func77, Tryz.ntmps77
  go_wp2_with fail
  rw [← hqq'.out, ← hW1'.out]
  go_wp2_with fail
  refine (hq.out _).mono ?_
  rintro e w2 ⟨rfl, hO2⟩
  have hO2' := Lib.hid (hO'.out.trans' hO2)
  have hB2 := Lib.hid (hO2.heap hB'.out (fun h => h))
  clear e0 e1 e2 e3 e4 e5 e6 e7 e8 e9 hqlt hO2
  have hkeep := Lib.hid (fun W0 (h0 : Only (fun _ => False) w2 W0) => show W0.cell? ⟨q, 0, none⟩ = some (.int .i64 (S : Int)) ∧ W0.cell? ⟨q, 1, none⟩ = some (.int .i64 wy) ∧ W0.cell? ⟨q, 2, none⟩ = some (.int .i64 h) ∧ W0.cell? ⟨q, 3, none⟩ = some (.int .i64 mi) ∧ W0.cell? ⟨q, 4, none⟩ = some (.slice mA mn mc) ∧ W0.cell? ⟨q, 5, none⟩ = some (.int .i64 g) ∧ W0.cell? ⟨q, 6, none⟩ = some (.slice cA cn cc) ∧ W0.cell? ⟨q, 7, none⟩ = some (.slice eA en ec) ∧ W0.cell? ⟨q, 8, none⟩ = some (.slice tA tn tc) ∧ W0.cell? ⟨q, 9, none⟩ = some (.slice lA ln lc) ∧ q < W0.heap.size from by
    have z := h0.heap hB2.out (fun h => h)
    exact ⟨row_cell z (i := 0) rfl, row_cell z (i := 1) rfl, row_cell z (i := 2) rfl, row_cell z (i := 3) rfl, row_cell z (i := 4) rfl, row_cell z (i := 5) rfl, row_cell z (i := 6) rfl, row_cell z (i := 7) rfl, row_cell z (i := 8) rfl, row_cell z (i := 9) rfl, row_lt z⟩)
  obtain ⟨e0, e1, e2, e3, e4, e5, e6, e7, e8, e9, hqlt⟩ := hkeep.out _ (Only.refl _ _)
  have hab2 := Lib.hid (fun W (h : Only (fun _ => False) w2 W) => hab.out W (hO2'.out.trans' h))
  have hto2 := Lib.hid (fun W (h : Only (fun _ => False) w2 W) (A : Option Addr) (cap : Nat) (hT : Option Nat) (hW : Win W 3 1 (.slice A na cap) hT na (dat AB)) => hto.out W (hO2'.out.trans' h) A _ cap hT hW (by rw [hna'.out]; exact hal.out))
  have hab3 := Lib.hid (fun (e : Ending) (W w' : World) (hR : RowEnd W AB e w') => show ∃ p c h, e = .returned (.slice p na c) ∧ Win w' 3 1 (.slice p na c) h na (dat AB) ∧ Only (fun _ => False) W w' from by
    obtain ⟨p, c, h, h1, h2, _, h4⟩ := hR
    rw [hna'.out]
    exact ⟨p, c, h, h1, h2, h4⟩)
  have hto3 := Lib.hid (fun (e : Ending) (W w' : World) (hR : TouEnd S pl AB W e w') => show ∃ g, e = .returned (.slice (some ⟨g, 0, none⟩) S S) ∧ w'.heap[g]? = some (.cells (brow S T).toArray 4 (0, 0)) ∧ Only (fun _ => False) W w' from by
    obtain ⟨g, h1, _, h3, h4⟩ := hR
    rw [hT'.out]
    exact ⟨g, h1, h3, h4⟩)
  clear hab hto
  go_wp2_with fail
  go_region_held3 (fun W0 => W0.cell? ⟨q, 0, none⟩ = some (.int .i64 (S : Int)) ∧ W0.cell? ⟨q, 1, none⟩ = some (.int .i64 wy) ∧ W0.cell? ⟨q, 2, none⟩ = some (.int .i64 h) ∧ W0.cell? ⟨q, 3, none⟩ = some (.int .i64 mi) ∧ W0.cell? ⟨q, 4, none⟩ = some (.slice mA mn mc) ∧ W0.cell? ⟨q, 5, none⟩ = some (.int .i64 g) ∧ W0.cell? ⟨q, 6, none⟩ = some (.slice cA cn cc) ∧ W0.cell? ⟨q, 7, none⟩ = some (.slice eA en ec) ∧ W0.cell? ⟨q, 8, none⟩ = some (.slice tA tn tc) ∧ W0.cell? ⟨q, 9, none⟩ = some (.slice lA ln lc) ∧ q < W0.heap.size)
    (exact hkeep.out _ (by repeat (first | assumption | exact Only.refl _ _ | apply Only.drew)))
    (first
      | (go_at_call 113; (with_reducible refine (hab2.out _ (by repeat (first | assumption | exact Only.refl _ _ | apply Only.drew))).mono ?_); intro e3 w3 hR3; obtain ⟨p3, c3, h3, rfl, hW3, ho3⟩ := hab3.out _ _ _ hR3; clear hR3; have hO3 : Only (fun _ => False) w2 w3 := Only.trans' (by repeat (first | assumption | exact Only.refl _ _ | apply Only.drew)) ho3; have hW3' := Lib.hid hW3; clear hW3)
      | (go_at_call 112; (with_reducible refine (hto2.out _ (by repeat (first | assumption | exact Only.refl _ _ | apply Only.drew)) _ _ _ (by first | exact hW3'.out | exact hW3'.out.same rfl)).mono ?_); intro e4 w4 hR4; obtain ⟨g4, rfl, hrow4, ho4⟩ := hto3.out _ _ _ hR4; clear hR4; have hO4 : Only (fun _ => False) w2 w4 := Only.trans' (by repeat (first | assumption | exact Only.refl _ _ | apply Only.drew)) ho4; have hrow4' := Lib.hid hrow4; clear hrow4))
  have hO4' := Lib.hid hO4
  clear e0 e1 e2 e3 e4 e5 e6 e7 e8 e9 hqlt hkeep hab2 hto2 hab3 hto3 hO3 ho3 ho4 hO4 hW3'
  have hB4 := Lib.hid (hO4'.out.heap hB2.out (fun h => h))
  obtain ⟨b, off, hA, hb, hC⟩ := hta.out _ (hO2'.out.trans' hO4'.out)
  subst hA
  have htn' : (i : Int) < (tn : Int) := by have := hlen'.out; omega
  have hkeep := Lib.hid (fun W0 (h0 : Only (fun _ => False) w4 W0) => show W0.cell? ⟨q, 8, none⟩ = some (.slice (some ⟨b, off, none⟩) tn tc) ∧ W0.cell? ⟨b, off + i * 7 + 6, none⟩ = some (.slice t.o.A t.o.n t.o.cap) ∧ W0.cell? ⟨q, 0, none⟩ = some (.int .i64 (S : Int)) ∧ W0.cell? ⟨q, 1, none⟩ = some (.int .i64 wy) ∧ W0.cell? ⟨q, 2, none⟩ = some (.int .i64 h) ∧ W0.cell? ⟨q, 3, none⟩ = some (.int .i64 mi) ∧ q < W0.heap.size ∧ b < W0.heap.size from by
    have z := h0.heap hB4.out (fun h => h)
    exact ⟨row_cell z (i := 8) rfl, h0.cell hC.c6 (fun h => h), row_cell z (i := 0) rfl, row_cell z (i := 1) rfl, row_cell z (i := 2) rfl, row_cell z (i := 3) rfl, row_lt z, Nat.lt_of_lt_of_le hb h0.size⟩)
  have hld2 := Lib.hid (fun W (h : Only (fun _ => False) w4 W) => hld.out W (hO2'.out.trans' (hO4'.out.trans' h)))
  obtain ⟨f8, f6, f0, f1, f2, f3, fq, fb⟩ := hkeep.out _ (Only.refl _ _)
  clear hC hb
  go_wp2_with fail
  go_region_held3 (fun W' => W'.cell? ⟨q, 8, none⟩ = some (.slice (some ⟨b, off, none⟩) tn tc) ∧ W'.cell? ⟨b, off + i * 7 + 6, none⟩ = some (.slice t.o.A t.o.n t.o.cap) ∧ W'.cell? ⟨q, 0, none⟩ = some (.int .i64 (S : Int)) ∧ W'.cell? ⟨q, 1, none⟩ = some (.int .i64 wy) ∧ W'.cell? ⟨q, 2, none⟩ = some (.int .i64 h) ∧ W'.cell? ⟨q, 3, none⟩ = some (.int .i64 mi) ∧ q < W'.heap.size ∧ b < W'.heap.size)
    (exact hkeep.out _ (by repeat (first | assumption | exact Only.refl _ _ | apply Only.drew)))
    (first
      | (go_at_call 114; (with_reducible refine (hld2.out _ (by repeat (first | assumption | exact Only.refl _ _ | apply Only.drew))).mono ?_); rintro _ w5 ⟨g3, rfl, hge3, hrow3, ho5⟩; have hO5 : Only (fun _ => False) w4 w5 := Only.trans' (by repeat (first | assumption | exact Only.refl _ _ | apply Only.drew)) ho5; have hrow3' := Lib.hid hrow3; clear hrow3 hge3 ho5))
  have hrT := Lib.hid (hO5.heap hrow4'.out (fun h => h))
  have hB5 := Lib.hid (hO5.heap hB4.out (fun h => h))
  have hO5w := Lib.hid (hO2'.out.trans' (hO4'.out.trans' hO5))
  clear f8 f6 f0 f1 f2 f3 fq fb hkeep hld2 hO5 hB4
  go_wp2
  go_loopw [6, 28] (fun v i' wr => ∃ k : Nat, k ≤ S ∧ i' = .int .i64 k ∧ v = .int .i64 (bndU wy T L k) ∧ w5 = wr) (fun _ i' _ => S - (intOf i').toNat)
  case atStart => exact ⟨0, Nat.zero_le _, rfl, rfl, rfl⟩
  case round =>
    obtain ⟨k, hk, rfl, rfl, rfl⟩ := hrel
    have hlt5 := row_lt hB5.out
    by_cases hkS : k < S
    · have hkS' : (k : Int) < (S : Int) := by omega
      have c3 := row_cell hrow3'.out (show (loadsL S l)[k]? = some (.int .i64 (L k : Int)) by unfold loadsL; rw [List.getElem?_map, List.getElem?_range hkS, hL'.out]; rfl)
      have hl3 := row_lt hrow3'.out
      have cT := row_cell hrT.out (brow_at (f := T) hkS)
      have hlT := row_lt hrT.out
      have cw := row_cell hB5.out (i := 1) rfl
      have hx9 := hL9'.out k
      obtain ⟨x, hx⟩ : ∃ x, x = L k := ⟨_, rfl⟩
      obtain ⟨B, hBB⟩ : ∃ B, B = T k := ⟨_, rfl⟩
      rw [← hx] at c3 hx9
      rw [← hBB] at cT
      have hsu := Lib.hid (show bndU wy T L (k + 1) = bndU wy T L k + (if B then min wy (x : Int) else 0) by rw [bndU, hBB, hx])
      obtain ⟨z1, z2⟩ := bndU_bound (T := T) (L := L) hw0 hw1 (k := k)
      obtain ⟨z, hz⟩ : ∃ z, z = bndU wy T L k := ⟨_, rfl⟩
      rw [← hz] at hsu z1 z2 ⊢
      clear hz hBB hx
      cases B
      · go_wp2
        go_roundw
        case rel => exact ⟨k + 1, by omega, by go_num, by rw [hsu.out]; simp, by simp⟩
        case measure => simp [intOf]; omega
      · have hmn : min wy (x : Int) ≤ 1000 := by omega
        have hmn0 : 0 ≤ min wy (x : Int) := by omega
        obtain ⟨y, hy⟩ : ∃ y, y = min wy (x : Int) := ⟨_, rfl⟩
        have hrun := Lib.hid hy
        rw [← hy] at hmn hmn0
        clear hy
        go_wp2
        go_roundw
        case rel => exact ⟨k + 1, by omega, by go_num, by rw [hsu.out]; simp, by simp⟩
        case measure => simp [intOf]; omega
    · obtain rfl : k = S := by omega
      have hkS' : ¬ (k : Int) < (k : Int) := by omega
      rw [← hVV.out]
      have hend := Lib.hid (show AnsI V w (.returned (.int .i64 V)) w5 from ⟨rfl, hO5w.out⟩)
      go_wp2
      go_ret
      exact hend.out

/-- Of no task: 0. -/
theorem bound_none {w : World} {c : ConfV} {z : Int} (hz : hasT c.ta.n z = false) : Calls Tryz.prog 77 #[c.val, .int .i64 z] w (AnsI 0 w) := by
  have hO := (Only.refl (fun _ => False) w).alloc (.cells c.cells.toArray 27)
  have hB := heap_new_at w (.cells c.cells.toArray 27) rfl
  obtain ⟨W1, hW1⟩ : ∃ W1, W1 = w.alloc (.cells c.cells.toArray 27) := ⟨_, rfl⟩
  rw [← hW1] at hB hO
  have hO' := Lib.hid hO
  have hq := Lib.hid (fun W => has_any W c z)
  rw [hz] at hq
  have e0 := row_cell hB (i := 0) rfl
  have e1 := row_cell hB (i := 1) rfl
  have e2 := row_cell hB (i := 2) rfl
  have e3 := row_cell hB (i := 3) rfl
  have e4 := row_cell hB (i := 4) rfl
  have e5 := row_cell hB (i := 5) rfl
  have e6 := row_cell hB (i := 6) rfl
  have e7 := row_cell hB (i := 7) rfl
  have e8 := row_cell hB (i := 8) rfl
  have e9 := row_cell hB (i := 9) rfl
  have hqlt := row_lt hB
  clear hB hO hz
  rw [show c.val = .agg #[.int .i64 c.s, .int .i64 c.wy, .int .i64 c.h, .int .i64 c.mi, .slice c.mb.A c.mb.n c.mb.cap, .int .i64 c.g, .slice c.cn.A c.cn.n c.cn.cap, .slice c.ce.A c.ce.n c.ce.cap, .slice c.ta.A c.ta.n c.ta.cap, .slice c.li.A c.li.n c.li.cap] from rfl] at hq ⊢
  unfold ConfV.cells at hW1
  obtain ⟨s, wy, h, mi, ⟨mA, mn, mc⟩, g, ⟨cA, cn, cc⟩, ⟨eA, en, ec⟩, ⟨tA, n, tc⟩, ⟨lA, ln, lc⟩⟩ := c
  dsimp only at *
  have hW1' := Lib.hid hW1
  clear hW1
  go_enter Tryz.func77, Tryz.ntmps77
  go_wp2_with fail
  rw [← hW1'.out]
  go_wp2_with fail
  refine (hq.out _).mono ?_
  rintro e W2 ⟨rfl, hOx⟩
  have hO2' := Lib.hid (hO'.out.trans' hOx)
  clear hOx
  go_wp2
  go_ret
  exact ⟨rfl, hO2'.out⟩

def costZ (b h mi : Int) : Int := b * max (clZ mi - clZ h) 0
end Rld
end Go.Proofs.YtlbinlhaejhobaaGreatDoor
