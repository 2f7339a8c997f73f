/- chain: the reference's Chains. -/
import Derived.Test.YtlbinlhaejhobaaGreatDoorBcRcw
namespace Go.Proofs.YtlbinlhaejhobaaGreatDoor
namespace Bch
open Go Go.RowKit Go.Maps Go.Shelf
theorem chains_mlen (n : Nat) (P TH : Nat → Int) : ∀ (f a : Nat), ∀ M ∈ Chn.chains n P TH f a, M.length ≤ f + 1
  | 0, a, M, h => by
    simp [Chn.chains] at h
    subst h
    simp
  | f + 1, a, M, h => by
    unfold Chn.chains at h
    rcases List.mem_cons.1 h with rfl | h
    · simp
    · obtain ⟨i, _, hM⟩ := List.mem_flatMap.1 h
      obtain ⟨L, hL, rfl⟩ := List.mem_map.1 hM
      have := chains_mlen n P TH f i L hL
      rw [List.length_cons]
      omega
theorem pow_small {n f : Nat} (hn : n ≤ 9) (hf : f ≤ 9) : (n + 1) ^ f ≤ 1000000000 := by
  have h1 : (n + 1) ^ f ≤ 10 ^ f := Nat.pow_le_pow_left (by omega) f
  have h2 : 10 ^ f ≤ 10 ^ 9 := Nat.pow_le_pow_right (by omega) hf
  omega
theorem chains_any {c : ConfV} {ts : List TaskV} (hn : c.ta.n ≤ 9) (hl : ts.length = c.ta.n) (hTH : ∀ i, i < ts.length → prio ts i ≤ thr ts i) : ∀ (f a : Nat) (w : World), f ≤ 9 → TasksAt w c.ta ts → a < ts.length → Chn.rank ts.length (prio ts) a ≤ f →
    Calls Tryz.prog 54 #[c.val, .int .i64 (a : Int)] w (GrpEnd w (Chn.chains ts.length (prio ts) (thr ts) f a))
  | 0, a, w, _, hT, ha, hr => by
    have h := chain_step (sub := fun _ => []) hT hn ha (fun _ => Nat.zero_le _) (fun _ M hM => by simp at hM) (fun i hi hc => by
      have h1 := of_decide_eq_true hc
      have h2 := hTH a ha
      have := Chn.rank_lt (P := prio ts) (a := a) hi (by omega)
      omega)
    have e : outC ts a (fun _ => []) ts.length = Chn.chains ts.length (prio ts) (thr ts) 0 a := by simp [outC, Chn.chains]
    rwa [e] at h
  | f + 1, a, w, hf, hT, ha, hr => by
    exact chain_step (sub := Chn.chains ts.length (prio ts) (thr ts) f) hT hn ha (fun i => Nat.le_trans (chains_count _ _ _ f i) (pow_small (by omega) (by omega))) (fun i M hM => by have := chains_mlen _ _ _ f i M hM; omega) (fun i hi hc W ho => by
      have h1 := of_decide_eq_true hc
      have h2 := hTH a ha
      have := Chn.rank_lt (P := prio ts) (a := a) hi (by omega)
      exact chains_any hn hl hTH f i W (by omega) (hT.new ho) hi (by omega))
end Bch
end Go.Proofs.YtlbinlhaejhobaaGreatDoor
