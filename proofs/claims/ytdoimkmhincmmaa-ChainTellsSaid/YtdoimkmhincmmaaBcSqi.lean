/- chain: the iterator over a row of numbers. -/
import Derived.Test.YtdoimkmhincmmaaBcDwn
import Derived.Test.YtdoimkmhincmmaaIter
import Derived.Test.YtdoimkmhincmmaaWinIn
import Derived.Maps.OwnIn
namespace Go.Proofs.Ytdoimkmhincmmaa
namespace Bch
open Go Go.RowKit Go.Maps Go.Shelf
attribute [local go_sem] Oper.semAt_some
def encN (x : Nat) : Array Value := #[.int .i64 (x : Int)]
def RDs (Y : Nat) (h : Option Nat) (k : Nat) : Prop := k = Y ∨ h = some k
set_option maxRecDepth 100000 in
set_option maxHeartbeats 2000000 in
theorem seq_iter {w0 : World} {Y n cap : Nat} {A : Option Addr} {h : Option Nat} {L : List Nat} (hY : w0.cell? ⟨Y, 0, none⟩ = some (.slice A n cap)) (hW : Win w0 3 1 (.slice A n cap) h n (dat L)) (hn : L.length = n) (hmax : n ≤ 1000000) :
    Iterates Try.prog 76 #[.pointer (some ⟨Y, 0, none⟩)] encN L (RDs Y h) w0 := fun ly J Jx W hO0 hJ hJx hYd h0 => by
  have cB := hO0.cell hY (fun h => h (.inl rfl))
  have hW' := Lib.hid (hW.kept hO0 (fun k hk hh => hh (.inr hk)))
  have hBl : Y < W.heap.size := World.block_lt_of_cell? W _ cB
  have hJ' := Lib.hid hJ
  have hn' := Lib.hid hn
  have h0' := Lib.hid h0
  clear hJ hJx hY hW hn hO0 h0
  refine callsIn_wide (n := 4) |>.1 ?_
  refine callsIn_of_wp Try.func76 rfl trivial ?_ rfl
  simp only [Try.ntmps76, List.size_toArray, List.length_cons, List.length_nil, Nat.reduceAdd, Nat.reduceSub, Array.replicate_succ, Array.replicate_zero, List.push_toArray, List.append_toArray, List.nil_append, List.cons_append]
  gi_wp2
  gi_loopw [4, 7] (fun _ i wr => ∃ (k : Nat) (X : Nat → Prop), k ≤ n ∧ i = .int .i64 k ∧ J X (L.take k) wr ∧ Only (fun k => ¬ RDs Y h k) W wr) (fun _ i _ => n - (intOf i).toNat)
  case atStart => exact ⟨0, _, Nat.zero_le _, rfl, h0'.out, Only.refl _ W⟩
  case round =>
    obtain ⟨k, X, hk, rfl, hj, hO⟩ := hrel
    obtain ⟨ws, hws⟩ : ∃ ws : World, ws = wr := ⟨_, rfl⟩
    subst hws
    have hO' := Lib.hid hO
    have hj' := Lib.hid hj
    clear hj hO
    by_cases hkn : k < n
    · have hkn' : (k : Int) < (n : Int) := by omega
      obtain ⟨x, hx⟩ : ∃ x, L[k]? = some x := ⟨_, List.getElem?_eq_getElem (by have := hn'.out; omega)⟩
      obtain ⟨g, off, c', _, hv, _, _, hgl, hc, _⟩ := (hW'.out.kept hO'.out (fun k hk hh => hh (.inr hk))).at_ (by omega)
      simp only [Value.slice.injEq, true_and] at hv
      obtain ⟨rfl, rfl⟩ := hv
      have cx := hc k _ (dat_at hx)
      have hpre : L.take k ++ [x] <+: L := by rw [← take_snoc hx]; exact List.take_prefix _ _
      have htk := Lib.hid (take_snoc hx)
      obtain ⟨fn, tmps, assign, body, hy, hR⟩ := hYd X (L.take k) x ws hj'.out hpre
      unfold encN at hy
      have hpre' := Lib.hid hpre
      clear hc hx hpre
      gi_wp2_with fail
      refine hR.mono ?_
      rintro e W7 (⟨rfl, hJ7, hk7⟩ | ⟨rfl, hJx7, -⟩)
      · have hend := Lib.hid (And.intro hJ7 hk7)
        clear hJ7 hk7
        gi_wp2
        go_roundw
        case rel => exact ⟨k + 1, X, by omega, by go_num, by rw [htk.out]; exact hend.out.1, hO'.out.trans hend.out.2 (fun x _ h => h.1)⟩
        case measure => simp [intOf]; omega
      · have hend := Lib.hid hJx7
        clear hJx7
        gi_wp2
        refine bodyPost_ret (results_none rfl _ _ _) rfl ?_
        exact ⟨⟨_, rfl⟩, .inr ⟨X, _, hpre'.out, hend.out⟩⟩
    · obtain rfl : k = n := by omega
      gi_wp2
      go_end0
      refine ⟨⟨_, rfl⟩, .inl ⟨X, ?_⟩⟩
      have := hj'.out
      rw [List.take_of_length_le (by have := hn'.out; omega)] at this
      exact this
end Bch
end Go.Proofs.Ytdoimkmhincmmaa
