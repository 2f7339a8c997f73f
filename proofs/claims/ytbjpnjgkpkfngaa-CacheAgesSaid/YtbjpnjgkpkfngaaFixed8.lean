/- The fixed calls of the laws on caches. -/
import Derived.Test.YtbjpnjgkpkfngaaTwin
namespace Go.Proofs.Ytbjpnjgkpkfngaa
open Go Go.RowKit

set_option maxHeartbeats 800000 in
theorem age_any {w : World} {r R M S W : Nat} {G : Nat → List Int} (h : CacheAt w r R M S W G) (b : Nat) (hb : b ≤ 255) : Calls Try.prog 10 #[.pointer (some ⟨r, 0, none⟩), .int .i64 b] w (RetI (idxZ (G (b % S)) b) w) := by
  obtain ⟨s, hs⟩ : ∃ s, s = b % S := ⟨_, rfl⟩
  have hsS : s < S := by rw [hs]; exact Nat.mod_lt _ (by have := h.hS.1; omega)
  have q2 := Lib.hid (of_any h b hb)
  rw [← hs] at q2 ⊢
  have c0 := row_cell h.root (i := 0) rfl
  have c1 := row_cell h.rows (rowsL_at M S W G s hsS)
  obtain ⟨n, hn⟩ : ∃ n, (G s).length = n := ⟨_, rfl⟩
  have hnW : n ≤ W := by rw [← hn]; exact h.len s hsS
  have hW2 := h.hW.2
  have hS2 := h.hS.2
  have q3 := Lib.hid (index_any (w := w) (B := M) (off := s * W) (cap := W) (g := G s) (fun j x hx => h.cell hsS hx) hn (by omega) b)
  unfold rowV at c1
  rw [hn] at c1
  have z1 : ((s : Int) == -1) = false := by simp
  clear h hs hn
  go_enter Try.func10, Try.ntmps10
  go_wp2_with (first | (go_at_call 11; refine q2.out.mono ?_; rintro e w' ⟨rfl, rfl⟩) | (go_at_call 13; refine q3.out.mono ?_; rintro e w' ⟨rfl, rfl⟩))
  go_ret
  exact ⟨rfl, rfl⟩

def RowEnd (g : List Int) (w : World) (e : Ending) (w' : World) : Prop :=
  ∃ p cap h, e = .returned (.slice p g.length cap) ∧ Win w' 3 1 (.slice p g.length cap) h g.length (g.map (Value.int .i64)) ∧ Only (fun _ => False) w w'
set_option maxHeartbeats 800000 in
theorem clone_any {w : World} {B off cap : Nat} {g : List Int} (hc : ∀ j x, g[j]? = some x → w.cell? ⟨B, off + j, none⟩ = some (.int .i64 x)) (h9 : g.length ≤ 100) : Calls Try.prog 15 #[.slice (some ⟨B, off, none⟩) g.length cap] w (RowEnd g w) := by
  obtain ⟨n, hn⟩ : ∃ n, n = g.length := ⟨_, rfl⟩
  have hone : ∀ u ∈ g.map (Value.int .i64), u.oneCell' = true := fun u hu => by
    obtain ⟨x, _, rfl⟩ := List.mem_map.1 hu
    rfl
  have hsrc := Lib.hid (fun (W0 : World) (ho : Only (fun _ => False) w W0) => show ∀ j u, (g.map (Value.int .i64))[j]? = some u → W0.cell? ((⟨B, off, none⟩ : Addr).add j) = some u from fun j u hu => by
    rw [List.getElem?_map] at hu
    obtain ⟨x, hx, rfl⟩ := Option.map_eq_some_iff.1 hu
    rw [Addr.add_lit]
    exact ho.cell (hc j x hx) (fun h => h))
  have hl : (g.map (Value.int .i64)).length = n * 1 := by rw [List.length_map, hn, Nat.mul_one]
  have hn' := Lib.hid hn
  unfold RowEnd
  rw [← hn] at h9 ⊢
  clear hc hn
  have hnil : Sem.run Try.prog (binOp .eql 34 (.slice (some ⟨B, off, none⟩) n cap) (.slice none 0 0)) w = .ok (.bool false) w := by kernel_rfl
  go_enter Try.func15, Try.ntmps15
  go_wp2_with (at_builtin; refine wpList_append_win rfl _ _ 34 rfl 3 (.int .i64 0) 1 8 Try.underlying34 (by kernel_rfl) rfl (by decide) rfl (Win.empty _ 3 1 _) (some ⟨B, off, none⟩) n cap rfl (g.map (Value.int .i64)) hl (fun _ => ⟨_, rfl, hsrc.out _ ((Only.refl _ w).alloc _)⟩) hone (by unfold maxLen; omega) (by omega) ?_; intro v4 w4 h4 hW4 hO4 hh4; obtain ⟨p4, c4, rfl, _, _⟩ := hW4.out.form)
  go_ret
  have hW := hW4.out
  rw [Nat.zero_add] at hW
  exact ⟨p4, c4, h4, rfl, hW, (((Only.refl _ w).alloc _)).trans hO4.out (fun x _ e => by cases e)⟩
set_option maxHeartbeats 800000 in
theorem set_any {w : World} {r R M S W : Nat} {G : Nat → List Int} (h : CacheAt w r R M S W G) (i : Nat) (hi : i < S) : Calls Try.prog 9 #[.pointer (some ⟨r, 0, none⟩), .int .i64 i] w (RowEnd (G i) w) := by
  have q1 := Lib.hid (sets_any h)
  have hS2 := h.hS.2
  have hiS : (i : Int) < (S : Int) := by omega
  have c0 := row_cell h.root (i := 0) rfl
  have c1 := row_cell h.rows (rowsL_at M S W G i hi)
  have hlen := h.len i hi
  have hW2 := h.hW.2
  have q2 := Lib.hid (clone_any (w := w) (B := M) (off := i * W) (cap := W) (g := G i) (fun j x hx => h.cell hi hx) (by omega))
  unfold rowV at c1
  clear h
  go_enter Try.func9, Try.ntmps9
  go_wp2_with (first | (go_at_call 14; refine q1.out.mono ?_; rintro e w' ⟨rfl, rfl⟩) | (go_at_call 15; refine q2.out.mono ?_; rintro e w' ⟨p, cap, hh, rfl, hW, hO⟩; have hE := Lib.hid (And.intro hW hO); clear hW hO))
  go_ret
  exact ⟨p, cap, hh, rfl, hE.out.1, hE.out.2⟩

def GrowB (v : Bool) (w : World) (e : Ending) (w' : World) : Prop := e = .returned (.bool v) ∧ Only (fun _ => False) w w'
/-- An access whose row is known. -/
theorem access_known {w : World} {r R M S W : Nat} {G : Nat → List Int} (h : CacheAt w r R M S W G) (b s : Nat) (hb : b ≤ 255) (hs : b % S = s) (g g' : List Int) (v : Bool) (hg : G s = g) (hv : decide ((b : Int) ∈ g) = v) (hg' : acc W g b = g') :
    Calls Try.prog 7 #[.pointer (some ⟨r, 0, none⟩), .int .i64 b] w fun e w' => e = .returned (.tuple #[.bool v, .int .i64 0]) ∧ CacheAt w' r R M S W (upd G s g') ∧ Only (fun k => k = R ∨ k = M) w w' := by
  refine (access_any h b hb).mono ?_
  rintro e w' ⟨rfl, h1, h2⟩
  rw [hs, hg, hg'] at h1
  rw [hs, hg, hv]
  exact ⟨rfl, h1, h2⟩
set_option maxRecDepth 100000 in
set_option maxHeartbeats 2000000 in
theorem fixed_any (w : World) : Calls Try.prog 5 #[] w (GrowB true w) := by
  have q0 := Lib.hid (new_any w 2 2 (by omega) (by omega))
  have q9 := Lib.hid (fun W0 => new_nil W0)
  have q8 := Lib.hid (fun W0 p => access_range W0 p)
  go_enter Try.func5, Try.ntmps5
  go_wp2_with fail
  refine q0.out.mono ?_
  rintro e w1 ⟨r, R, M, rfl, g1, g2, g3, hC, hO1⟩
  have hO1' := Lib.hid hO1
  have hlt := Lib.hid (And.intro g1 (And.intro g2 g3))
  have q1 := Lib.hid (access_known hC 4 0 (by omega) rfl [] [4] false rfl (by decide) (by decide))
  clear hC hO1 g1 g2 g3 q0
  go_wp2_with fail
  refine q1.out.mono ?_
  rintro e w2 ⟨rfl, hC, hO2⟩
  have q2 := Lib.hid (access_known hC 2 0 (by omega) rfl [4] [2, 4] false rfl (by decide) (by decide))
  have hO2' := Lib.hid hO2
  clear hC hO2 q1
  go_wp2_with fail
  refine q2.out.mono ?_
  rintro e w3 ⟨rfl, hC, hO3⟩
  have q3 := Lib.hid (access_known hC 4 0 (by omega) rfl [2, 4] [4, 2] true rfl (by decide) (by decide))
  have hO3' := Lib.hid hO3
  clear hC hO3 q2
  go_wp2_with fail
  refine q3.out.mono ?_
  rintro e w4 ⟨rfl, hC, hO4⟩
  have hO4' := Lib.hid hO4
  have q4 := Lib.hid (show Calls Try.prog 9 #[.pointer (some ⟨r, 0, none⟩), .int .i64 0] w4 (RowEnd [4, 2] w4) from set_any hC 0 (by omega))
  have hC' := Lib.hid hC
  clear hC hO4 q3
  go_wp2_with fail
  refine (q8.out _ _).mono ?_
  rintro e w5 ⟨rfl, hw5⟩
  subst hw5
  go_wp2_with fail
  refine q4.out.mono ?_
  rintro e w5 ⟨p, cap, hh, rfl, hW, hO5⟩
  rw [show ([4, 2] : List Int).length = 2 from rfl] at hW
  rw [show ([4, 2] : List Int).length = 2 from rfl]
  obtain ⟨g, off, cap2, _, hv, _, _, _, hcell, _⟩ := hW.at_ (by decide)
  cases hv
  have c0 := hcell 0 (.int .i64 4) rfl
  rw [Nat.add_zero] at c0
  have q5 := Lib.hid (show Calls Try.prog 10 #[.pointer (some ⟨r, 0, none⟩), .int .i64 2] w5 (RetI 1 w5) from age_any (hC'.out.new hO5) 2 (by omega))
  have q6 := Lib.hid (show Calls Try.prog 11 #[.pointer (some ⟨r, 0, none⟩), .int .i64 3] w5 (RetI 1 w5) from of_any (hC'.out.new hO5) 3 (by omega))
  have hO5' := Lib.hid hO5
  clear hW hO5 hcell q4
  go_wp2_with (first | (go_at_call 10; refine q5.out.mono ?_; rintro e w' ⟨rfl, rfl⟩) | (go_at_call 11; refine q6.out.mono ?_; rintro e w' ⟨rfl, rfl⟩) | (go_at_call 6; refine (q9.out _).mono ?_; rintro e w' ⟨rfl, rfl⟩))
  go_ret
  obtain ⟨g1, g2, g3⟩ := hlt.out
  have hf : ∀ x, x < w.heap.size → (x = R ∨ x = M) → False := fun x hx e => by rcases e with e | e <;> omega
  have A := hO1'.out.trans hO2'.out (fun x hx e => hf x hx e)
  have B := A.trans hO3'.out (fun x hx e => hf x hx e)
  have C := B.trans hO4'.out (fun x hx e => hf x hx e)
  exact ⟨rfl, C.trans' hO5'.out⟩
end Go.Proofs.Ytbjpnjgkpkfngaa
