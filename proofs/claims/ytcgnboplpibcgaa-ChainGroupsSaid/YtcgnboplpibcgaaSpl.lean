/- split: the costs and the periods of loads, in rows of their own. -/
import Derived.Test.YtcgnboplpibcgaaDem
import Derived.Test.YtcgnboplpibcgaaPair
import Derived.Deep.RegionLaw
import Derived.Deep.RegionLawGrows
namespace Go.Proofs.Ytcgnboplpibcgaa
open Go Go.RowKit
theorem info22 : (Try.prog.info? 22).map (fun i => (i.zero, i.size, i.bytes)) = some (some (Value.int .u64 0), 1, 8) := by kernel_rfl
theorem take_snoc {α : Type} {m : List α} {j : Nat} {x : α} (h : m[j]? = some x) : m.take (j + 1) = m.take j ++ [x] := by
  rw [List.take_add_one, h]; rfl
def uU (n : Nat) : Value := .int .u64 (n : Int)
def SplitEnd (l : List Ld) (n : Nat) (w : World) (e : Ending) (w' : World) : Prop :=
  ∃ va ha vb hb, e = .returned (.tuple #[va, vb]) ∧ Pair 22 w w' va ha n ((l.map (·.1)).map uU) vb hb n ((l.map (·.2)).map uU)
set_option maxRecDepth 100000 in
set_option maxHeartbeats 4000000 in
theorem split_any {A : Option Addr} {n cap : Nat} {l : List Ld} {w : World} (hr : LRow w A l) (hn : l.length = n) (hnn : n ≤ 1000) :
    Calls Try.prog 11 #[.slice A n cap] w (SplitEnd l n w) := by
  have hr' := Lib.hid hr
  have hn' := Lib.hid hn
  obtain ⟨Z, hZ⟩ : ∃ Z, Z = SplitEnd l n w := ⟨_, rfl⟩
  rw [← hZ]
  have hZ' := Lib.hid hZ
  clear hr hn hZ
  go_enter Try.func11, Try.ntmps11
  go_wp2
  go_loopw [4, 5, 7, 10] (fun va vb _ i wr => ∃ (j : Nat) (ha hb : Option Nat), j ≤ n ∧ i = .int .i64 j ∧ Pair 22 w wr va ha j (((l.take j).map (·.1)).map uU) vb hb j (((l.take j).map (·.2)).map uU)) (fun _ _ _ i _ => n - (intOf i).toNat)
  case atStart => exact ⟨0, none, none, Nat.zero_le _, rfl, Win.nil _ _ _, Win.nil _ _ _, (fun _ h => by cases h), (fun _ h => by cases h), (fun _ h => by cases h), Only.refl _ _⟩
  case round =>
    obtain ⟨j, hk1, hg1, hj, rfl, hP⟩ := hrel
    obtain ⟨ws, hws⟩ : ∃ ws : World, ws = wr := ⟨_, rfl⟩
    subst hws
    by_cases hjn : j < n
    · obtain ⟨⟨c, p⟩, hx⟩ : ∃ x, l[j]? = some x := ⟨_, List.getElem?_eq_getElem (by have := hn'.out; omega)⟩
      obtain ⟨b, off, rfl, d0, d1, hbl⟩ := (hr'.out.new hP.only) j c p hx
      have hjn' : (j : Int) < (n : Int) := by omega
      have hE := Lib.hid hx
      have hkl := Lib.hid hP.k.lt
      have hgl := Lib.hid hP.g.lt
      have P0 := Lib.hid hP
      have L0 : ∀ Y o, ws.heap.size = Y → Loc (ws.alloc o) Y o hk1 hg1 := fun Y o hY => ⟨heap_new_at ws o hY, fun e => by have := hkl.out _ e; omega, fun e => by have := hgl.out _ e; omega⟩
      have L0' := Lib.hid L0
      clear hx hP L0
      go_wp2
      go_region_law (first
        | (refine step_append_win rfl (.tmp 14) (.tmp 17) 25 rfl 22 (Value.int .u64 0) 1 8 Try.underlying25 info22 rfl (by decide) (v := u4) (h := hk1) (by rfl) (by (first | exact ((P0.out.alloc _).drew.alloc _).k | exact (((P0.out.alloc _).drew.alloc _).alloc _).k | exact P6.out.k | exact (P6.out.alloc _).k)) _ 1 1 (by rfl) [U c] rfl (fun _ => ⟨_, rfl, (by (first | exact pair_one (heap_new_at _ _ (by simp)) | exact pair_one (heap_kept_alloc (heap_new_at _ _ (by simp)) _) | exact pair_one (hO6.out.heap (heap_new_at _ _ (by simp)) (fun e => by have := hgl.out _ e.symm; first | omega | (simp at this; omega))) | exact pair_one (hO6.out.heap (heap_kept_alloc (heap_new_at _ _ (by simp)) _) (fun e => by have := hgl.out _ e.symm; first | omega | (simp at this; omega)))))⟩) (by simp [Value.oneCell']) (by unfold maxLen; omega) (by omega) ?_; intro v5 w5 h5 hW5 hO5 hh5; have P5 := Lib.hid (Pair.grow_k (by (first | exact ((P0.out.alloc _).drew.alloc _) | exact (((P0.out.alloc _).drew.alloc _).alloc _) | exact P6.out | exact (P6.out.alloc _))) hW5.out hO5.out hh5.out); have L5 := Lib.hid (Loc.grow_k (by (first | exact ((L0'.out _ _ rfl).drew.alloc _) | exact (((L0'.out _ _ rfl).drew.alloc _).alloc _) | exact L6.out | exact (L6.out.alloc _))) hO5.out hh5.out); have e5 := row_cell (L := [_, _]) L5.out.at_ (i := 1) rfl)
        | (refine step_append_win rfl (.tmp 19) (.tmp 22) 25 rfl 22 (Value.int .u64 0) 1 8 Try.underlying25 info22 rfl (by decide) (v := u5) (h := hg1) (by rfl) (by (first | exact ((P0.out.alloc _).drew.alloc _).g | exact (((P0.out.alloc _).drew.alloc _).alloc _).g | exact P5.out.g | exact (P5.out.alloc _).g)) _ 1 1 (by rfl) [U p] rfl (fun _ => ⟨_, rfl, (by (first | exact pair_one (heap_new_at _ _ (by simp)) | exact pair_one (heap_kept_alloc (heap_new_at _ _ (by simp)) _) | exact pair_one (hO5.out.heap (heap_new_at _ _ (by simp)) (fun e => by have := hkl.out _ e.symm; first | omega | (simp at this; omega))) | exact pair_one (hO5.out.heap (heap_kept_alloc (heap_new_at _ _ (by simp)) _) (fun e => by have := hkl.out _ e.symm; first | omega | (simp at this; omega)))))⟩) (by simp [Value.oneCell']) (by unfold maxLen; omega) (by omega) ?_; intro v6 w6 h6 hW6 hO6 hh6; have P6 := Lib.hid (Pair.grow_g (by (first | exact ((P0.out.alloc _).drew.alloc _) | exact (((P0.out.alloc _).drew.alloc _).alloc _) | exact P5.out | exact (P5.out.alloc _))) hW6.out hO6.out hh6.out); have L6 := Lib.hid (Loc.grow_g (by (first | exact ((L0'.out _ _ rfl).drew.alloc _) | exact (((L0'.out _ _ rfl).drew.alloc _).alloc _) | exact L5.out | exact (L5.out.alloc _))) hO6.out hh6.out); have e6 := row_cell (L := [_, _]) L6.out.at_ (i := 0) rfl))
      all_goals go_wp2
      all_goals go_roundw
      all_goals first
        | (refine ⟨j + 1, h5, h6, by omega, by go_num, ?_⟩
           rw [take_snoc hE.out]
           simp only [List.map_append]
           first
             | exact P6.out
             | exact P5.out)
        | (simp [intOf]; omega)
    · obtain rfl : j = n := by omega
      have hall : l.take j = l := List.take_of_length_le (by have := hn'.out; omega)
      rw [hall] at hP
      have hP' := Lib.hid hP
      clear hP
      go_wp2
      rw [hZ'.out]
      exact ⟨_, _, _, _, rfl, hP'.out⟩
end Go.Proofs.Ytcgnboplpibcgaa
