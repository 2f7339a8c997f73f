/- cost.Blocks: the blocks that a program accesses, each once. -/
import Derived.Test.YteeleelkepjoaaaSrt
import Derived.Test.YteeleelkepjoaaaRl
namespace Go.Proofs.Yteeleelkepjoaaa
namespace Rld
open Go Go.RowKit Rca Srt

def accZ (l : List Opn) : List Int := (l.filter (fun o => decide (o.k = 2))).map (·.a)
theorem accZ_succ {l : List Opn} {k : Nat} {o : Opn} (h : l[k]? = some o) : accZ (l.take (k + 1)) = accZ (l.take k) ++ (if o.k = 2 then [o.a] else []) := by
  unfold accZ
  rw [List.take_add_one, h, List.filter_append, List.map_append]
  congr 1
  by_cases hk : o.k = 2 <;> simp [hk]
theorem accZ_len (l : List Opn) (k : Nat) : (accZ (l.take k)).length ≤ k := by
  unfold accZ
  rw [List.length_map]
  refine Nat.le_trans (List.length_filter_le _ _) (List.length_take_le _ _)
def BlkEnd (l : List Opn) (w : World) (e : Ending) (w' : World) : Prop :=
  ∃ (B : List Nat) (p : Option Addr) (c : Nat) (h : Option Nat), e = .returned (.slice p B.length c) ∧ B.Nodup ∧ (∀ x, x ∈ B ↔ x ∈ accN l) ∧ Win w' 3 1 (.slice p B.length c) h B.length (dat B) ∧ (∀ b, h = some b → w.heap.size ≤ b) ∧ Only (fun _ => False) w w'
theorem blk_end {l : List Opn} {w w' : World} {p : Option Addr} {c : Nat} {h : Option Nat} (hok : accOk l) {C : List Int} (hC : C = Lib.compact (up (accZ l))) (hW : Win w' 3 1 (.slice p C.length c) h C.length (ints C)) (hf : ∀ b, h = some b → w.heap.size ≤ b) (hO : Only (fun _ => False) w w') :
    BlkEnd l w (.returned (.slice p C.length c)) w' := by
  have hmem : ∀ x : Int, x ∈ C ↔ ∃ o ∈ l, o.k = 2 ∧ o.a = x := by
    intro x
    rw [hC, compact_mem, up_mem]
    unfold accZ
    simp [List.mem_map, List.mem_filter, and_assoc]
  have hpos : ∀ x ∈ C, 0 ≤ x := by
    intro x hx
    obtain ⟨o, ho, hk, rfl⟩ := (hmem x).1 hx
    exact (hok o ho hk).1
  have hcast : C = (C.map Int.toNat).map (fun (k : Nat) => (k : Int)) := by
    rw [List.map_map]
    conv => lhs; rw [← List.map_id C]
    refine List.map_congr_left fun x hx => ?_
    have := hpos x hx
    simp only [id, Function.comp]
    omega
  have hlen : C.length = (C.map Int.toNat).length := by simp
  refine ⟨C.map Int.toNat, p, c, h, by rw [← hlen], ?_, fun x => ?_, ?_, hf, hO⟩
  · have h1 := compact_lt (up_sorted (accZ l))
    rw [← hC] at h1
    refine List.pairwise_map.2 (h1.imp_of_mem fun {a b} ha hb hab => ?_)
    have h2 := hpos a ha
    have h3 := hpos b hb
    omega
  · rw [List.mem_map, accN_mem]
    constructor
    · rintro ⟨z, hz, rfl⟩
      obtain ⟨o, ho, hk, rfl⟩ := (hmem z).1 hz
      exact ⟨o, ho, hk, rfl⟩
    · rintro ⟨o, ho, hk, rfl⟩
      exact ⟨o.a, (hmem _).2 ⟨o, ho, hk, rfl⟩, rfl⟩
  · rw [← ints_dat, ← hcast, ← hlen]
    exact hW

set_option maxRecDepth 100000 in
set_option maxHeartbeats 2000000 in
theorem blocks_any {w : World} {A : Option Addr} {n cap : Nat} {l : List Opn} (hl : OpnRow w A l) (hn : l.length = n) (h9 : n ≤ 1000000) (hok : accOk l) :
    Calls Try.prog 43 #[.slice A n cap] w (BlkEnd l w) := by
  obtain ⟨Z, hZ⟩ : ∃ Z, Z = BlkEnd l w := ⟨_, rfl⟩
  rw [← hZ]
  have hfin : ∀ (w' : World) (p : Option Addr) (c : Nat) (h : Option Nat) (C : List Int), C = Lib.compact (up (accZ l)) → Win w' 3 1 (.slice p C.length c) h C.length (ints C) → (∀ b, h = some b → w.heap.size ≤ b) → Only (fun _ => False) w w' → Z (.returned (.slice p C.length c)) w' := by
    intro w' p c h C h1 h2 h3 h4
    rw [hZ]
    exact blk_end hok h1 h2 h3 h4
  have hfin' := Lib.hid hfin
  have hl' := Lib.hid hl
  have hn' := Lib.hid hn
  clear hfin hl hn hZ
  go_enter Try.func43, Try.ntmps43
  go_wp2
  go_loopw [3, 8] (fun v i wr => ∃ (k m : Nat) (q : Option Addr) (cq : Nat) (hq : Option Nat), k ≤ n ∧ m ≤ k ∧ i = .int .i64 k ∧ v = .slice q m cq ∧ Win wr 3 1 (.slice q m cq) hq m (ints (accZ (l.take k))) ∧ (∀ b, hq = some b → w.heap.size ≤ b) ∧ Only (fun _ => False) w wr) (fun _ i _ => n - (intOf i).toNat)
  case atStart => exact ⟨0, 0, none, 0, none, Nat.zero_le _, Nat.le_refl _, rfl, rfl, Win.nil _ _ _, (fun b hb => by cases hb), Only.refl _ _⟩
  case round =>
    obtain ⟨k, m, q, cq, hq, hk, hmk, rfl, rfl, hW, hf, hO⟩ := hrel
    obtain ⟨ws, hws⟩ : ∃ ws : World, ws = wr := ⟨_, rfl⟩
    subst hws
    have hW' := Lib.hid hW
    have hf' := Lib.hid hf
    have hO' := Lib.hid hO
    clear hW hf hO
    by_cases hkn : k < n
    · have hkn' : (k : Int) < (n : Int) := by omega
      obtain ⟨o, ho⟩ : ∃ o, l[k]? = some o := ⟨_, List.getElem?_eq_getElem (by have := hn'.out; omega)⟩
      obtain ⟨b, off, hA, hb, c0, c1, c2⟩ := (hl'.out.new hO'.out) k o ho
      subst hA
      have hsu := Lib.hid (accZ_succ ho)
      obtain ⟨ok, oa, ob⟩ := o
      dsimp only at c0 c1 c2 hsu
      clear ho
      have hOa := Lib.hid ((Only.refl (fun _ => False) ws).alloc (.cells #[.int .i64 ok, .int .i64 oa, .int .i64 ob] 39))
      have hWa := Lib.hid (hW'.out.kept hOa.out (fun _ _ h => h))
      by_cases h2 : ok = 2
      · subst h2
        rw [if_pos rfl] at hsu
        go_wp2_with (at_builtin; (refine wpList_append_win rfl _ _ 24 rfl 3 (Value.int .i64 0) 1 8 Try.underlying24 info3 rfl (by decide) rfl (hWa.out.kept ((Only.refl (fun _ => False) _).alloc _) (fun _ _ h => h)) _ 1 1 rfl [.int .i64 oa] rfl (fun _ => ⟨_, rfl, row_one (heap_new_at _ _ (by simp))⟩) (by simp [Value.oneCell']) (by unfold maxLen; omega) (by omega) ?_; intro v4 w6 h4 hW4 hO4' hh4; obtain ⟨p4, c4, rfl, _, _⟩ := hW4.out.form))
        go_roundw
        case rel =>
          refine ⟨k + 1, m + 1, p4, c4, h4, by omega, by omega, by go_num, rfl, ?_, fun x hx => ?_, ?_⟩
          · rw [hsu.out]
            have := hW4.out
            rw [show ints (accZ (l.take k)) ++ [Value.int .i64 oa] = ints (accZ (l.take k) ++ [oa]) by simp [ints]] at this
            exact this
          · rcases hh4.out with rfl | ⟨g5, hg5, hge5⟩
            · exact hf'.out x hx
            · rw [hg5] at hx
              cases hx
              have := hO'.out.size
              rw [alloc_size, alloc_size] at hge5
              omega
          · exact ((hO'.out.trans' hOa.out).alloc _).trans hO4'.out (fun x hx e => by have := hf'.out x e.symm; omega)
        case measure => simp [intOf]; omega
      · rw [if_neg h2, List.append_nil] at hsu
        have h2' : (ok == 2) = false := beq_eq_false_iff_ne.2 h2
        clear h2
        go_wp2
        go_roundw
        case rel =>
          refine ⟨k + 1, m, q, cq, hq, by omega, by omega, by go_num, rfl, ?_, hf'.out, hO'.out.trans' hOa.out⟩
          rw [hsu.out]
          exact hWa.out
        case measure => simp [intOf]; omega
    · obtain rfl : k = n := by omega
      have hkn' : ¬ (k : Int) < (k : Int) := by omega
      have hz : accZ (l.take k) = accZ l := by rw [← hn'.out, List.take_length]
      rw [hz] at hW'
      go_wp2_with fail
      refine (sort_any hW'.out (by omega)).mono ?_
      rintro e w1 ⟨rfl, hW1, hO1⟩
      have hOx := Lib.hid (hO'.out.trans hO1 (fun x hx e => by have := hf'.out x e.symm; omega))
      have hW1' := Lib.hid hW1
      clear hW1 hO1
      go_wp2_with fail
      refine (compact_any hW1'.out (by omega)).mono ?_
      rintro e w2 ⟨rfl, hW2, hO2⟩
      have hend := Lib.hid (hfin'.out _ _ _ _ _ rfl hW2 hf'.out (hOx.out.trans hO2 (fun x hx e => by have := hf'.out x e.symm; omega)))
      obtain ⟨mm, hmm⟩ : ∃ mm, mm = (Lib.compact (up (accZ l))).length := ⟨_, rfl⟩
      rw [← hmm] at hend ⊢
      clear hW2 hO2 hmm
      go_wp2
      exact hend.out
end Rld
end Go.Proofs.Yteeleelkepjoaaa
