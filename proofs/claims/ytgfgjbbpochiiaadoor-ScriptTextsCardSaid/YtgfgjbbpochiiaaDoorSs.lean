/- The document's Split. -/
import Derived.Test.YtgfgjbbpochiiaaDoorSd
namespace Go.Proofs.YtgfgjbbpochiiaaDoor
open Go Go.RowKit

theorem split_snoc_c (c : UInt8) : ∀ t : List UInt8, splitL c (t ++ [c]) = splitL c t ++ [[]]
  | [] => by
    simp [splitL]
  | x :: t => by
    rw [List.cons_append, splitL, splitL, split_snoc_c c t]
    by_cases h : x = c
    · rw [if_pos h, if_pos h]
      rfl
    · rw [if_neg h, if_neg h]
      cases hs : splitL c t with
      | nil => exact absurd hs (splitL_ne c t)
      | cons p ps => rfl
/-- The last part grows. -/
def growLast (b : UInt8) : List (List UInt8) → List (List UInt8)
  | [] => []
  | [p] => [p ++ [b]]
  | p :: q :: ps => p :: growLast b (q :: ps)
theorem split_snoc (c b : UInt8) (hb : b ≠ c) : ∀ t : List UInt8, splitL c (t ++ [b]) = growLast b (splitL c t)
  | [] => by
    simp [splitL, hb, growLast]
  | x :: t => by
    rw [List.cons_append, splitL, splitL, split_snoc c b hb t]
    cases hs : splitL c t with
    | nil => exact absurd hs (splitL_ne c t)
    | cons p ps =>
      by_cases h : x = c
      · rw [if_pos h, if_pos h]
        cases ps <;> rfl
      · rw [if_neg h, if_neg h]
        cases ps with
        | nil => rfl
        | cons q qs => rfl
theorem growLast_set (b : UInt8) : ∀ {l : List (List UInt8)} {m : Nat} {p : List UInt8}, l.length = m + 1 → l[m]? = some p → growLast b l = l.set m (p ++ [b])
  | [x], m, p, hl, hp => by
    obtain rfl : m = 0 := by simpa using hl.symm
    simp at hp
    subst hp
    rfl
  | x :: y :: l, m, p, hl, hp => by
    obtain ⟨k, rfl⟩ : ∃ k, m = k + 1 := ⟨m - 1, by simp at hl; omega⟩
    show x :: growLast b (y :: l) = _
    rw [growLast_set b (m := k) (p := p) (by simpa using hl) (by simpa using hp)]
    rfl
theorem infoS : (Tryd.prog.info? 9).map (fun i => (i.zero, i.size, i.bytes)) = some (some (Value.string ⟨#[]⟩), 1, 16) := by kernel_rfl
theorem row_oneS {w : World} {X : Nat} {a : Value} {e : TypeId} (h : w.heap[X]? = some (.cells #[a] e (0, 0))) : ∀ j u, [a][j]? = some u → w.cell? ((⟨X, 0, none⟩ : Addr).add j) = some u := fun j u hu => by
  rw [Addr.add_lit, Nat.zero_add]
  exact row_cell (L := [a]) h hu
def PartsEnd (l : List (List UInt8)) (w : World) (e : Ending) (w' : World) : Prop :=
  ∃ p cap h, e = .returned (.slice p l.length cap) ∧ Win w' 9 1 (.slice p l.length cap) h l.length (l.map sv) ∧ (∀ k, h = some k → w.heap.size ≤ k) ∧ Only (fun _ => False) w w'
/-- One element is written. -/
theorem Win.set1 {w : World} {e : TypeId} {g off n cap : Nat} {xs : List Value} {h : Option Nat} (hW : Win w e 1 (.slice (some ⟨g, off, none⟩) n cap) h n xs) {i : Nat} (hi : i < n) (v : Value) : Win (w.setCell ⟨g, off + i, none⟩ v) e 1 (.slice (some ⟨g, off, none⟩) n cap) h n (xs.set i v) := by
  obtain ⟨hl, p, cp, hv, h1, h2, h3⟩ := hW
  cases hv
  refine ⟨by rw [List.length_set]; exact hl, _, _, rfl, h1, h2, ?_⟩
  rcases h3 with ⟨_, h3⟩ | ⟨g', off', L, hg, hp, hh, h4, h5⟩
  · omega
  · cases hp
    refine .inr ⟨g, off, L.set (off + i) v, hg, rfl, row_set hh (off + i) v, by rw [List.length_set]; exact h4, ?_⟩
    rw [← h5, Nat.mul_one]
    apply List.ext_getElem?
    intro j
    rw [List.getElem?_take, List.getElem?_set, List.getElem?_take, List.getElem?_drop, List.getElem?_drop, List.getElem?_set, List.length_take, List.length_drop]
    by_cases hj : j < n
    · by_cases hij : i = j
      · subst hij
        rw [if_pos hj, if_pos rfl, if_pos rfl, if_pos (by omega), if_pos (by omega)]
      · simp [hj, hij]
    · by_cases hij : i = j
      · omega
      · simp [hj, hij]
theorem extract_one {s : List UInt8} {k : Nat} {b : UInt8} (hb : s[k]? = some b) : (toBA s).extract k (k + 1) = toBA [b] := by
  have h : ((toBA s).extract k (k + 1)).data = (toBA [b]).data := by
    rw [ByteArray.data_extract]
    show (s.toArray).extract k (k + 1) = [b].toArray
    have hk := (List.getElem?_eq_some_iff.1 hb).1
    have e : s = s.take k ++ b :: s.drop (k + 1) := by
      have h1 := List.take_append_drop k s
      rw [List.drop_eq_getElem_cons hk] at h1
      rw [← (List.getElem?_eq_some_iff.1 hb).2]
      exact h1.symm
    simp only [List.extract_toArray]
    show ((s.drop k).take (k + 1 - k)).toArray = _
    rw [List.drop_eq_getElem_cons hk, show k + 1 - k = 1 by omega, (List.getElem?_eq_some_iff.1 hb).2]
    rfl
  cases hx : (toBA s).extract k (k + 1)
  rw [hx] at h
  simp only at h
  subst h
  rfl

set_option maxRecDepth 100000 in
set_option maxHeartbeats 2000000 in
theorem split_any (s : List UInt8) (c : UInt8) (hl : s.length ≤ 1000000) (w : World) : Calls Tryd.prog 33 #[.string (toBA s), .int .u8 (c.toNat : Int)] w (PartsEnd (splitL c s) w) := by
  obtain ⟨S, hS⟩ : ∃ S, S = toBA s := ⟨_, rfl⟩
  have hsz : S.size = s.length := by rw [hS]; exact toBA_size s
  have hget := Lib.hid (show ∀ k (h : k < S.size), s[k]? = some S[k] from fun k h => by
    subst hS
    have h2 : k < s.length := by omega
    rw [List.getElem?_eq_getElem h2]
    rfl)
  have hext := Lib.hid (show ∀ k b, s[k]? = some b → S.extract k (k + 1) = toBA [b] from fun k b h => by rw [hS]; exact extract_one h)
  obtain ⟨n, hn⟩ : ∃ n, n = s.length := ⟨_, rfl⟩
  rw [← hn] at hsz hl
  rw [← hS]
  have hn' := Lib.hid hn
  have hw0 := Win.of_row (w := w.alloc (.cells #[.string ⟨#[]⟩] 9)) (e := 9) (sz := 1) (n := 1) (g := w.heap.size) (L := [.string ⟨#[]⟩]) (heap_new_at _ _ rfl) rfl (by unfold maxLen; omega)
  have hw0' := Lib.hid hw0
  have hO0 := Lib.hid ((Only.refl (fun _ => False) w).alloc (.cells #[.string ⟨#[]⟩] 9))
  have hclt := c.toNat_lt
  clear hS hn hw0
  go_enter Tryd.func33, Tryd.ntmps33
  go_wp2
  go_loopw [5, 6] (fun o i wr => ∃ (k : Nat) (p : Option Addr) (cap : Nat) (h : Option Nat), k ≤ n ∧ i = .int .i64 k ∧ o = .slice p (splitL c (s.take k)).length cap ∧ Win wr 9 1 (.slice p (splitL c (s.take k)).length cap) h (splitL c (s.take k)).length ((splitL c (s.take k)).map sv) ∧ (∀ x, h = some x → w.heap.size ≤ x) ∧ Only (fun _ => False) w wr) (fun _ i _ => n - (intOf i).toNat)
  case atStart => exact ⟨0, _, _, _, Nat.zero_le _, rfl, rfl, hw0'.out, (fun x hx => by cases hx; exact Nat.le_refl _), hO0.out⟩
  case round =>
    obtain ⟨k, p, cap, h, hk, rfl, rfl, hW, hf, hO⟩ := hrel
    obtain ⟨ws, hws⟩ : ∃ ws : World, ws = wr := ⟨_, rfl⟩
    subst hws
    have hS := Lib.hid (And.intro hW (And.intro hf hO))
    clear hW hf hO
    by_cases hkn : k < n
    · have hks : k < S.size := by omega
      have hkn' : (k : Int) < (n : Int) := by omega
      obtain ⟨b, hbb⟩ : ∃ b, b = S[k] := ⟨_, rfl⟩
      have hb : s[k]? = some b := by rw [hbb]; exact hget.out k hks
      have hnat : S[k].toNat = b.toNat := by rw [hbb]
      clear hbb
      have htk : s.take (k + 1) = s.take k ++ [b] := by rw [List.take_add_one, hb]; rfl
      have hcount := split_count c (s.take k)
      rw [List.length_take] at hcount
      have hpos := List.length_pos_iff.2 (splitL_ne c (s.take k))
      by_cases hbc : b = c
      · subst hbc
        have hnx := Lib.hid (show splitL b (s.take (k + 1)) = splitL b (s.take k) ++ [[]] by rw [htk]; exact split_snoc_c b _)
        obtain ⟨G, hG⟩ : ∃ G, G = splitL b (s.take k) := ⟨_, rfl⟩
        rw [← hG] at hS hnx hcount hpos ⊢
        obtain ⟨m, hm⟩ : ∃ m, m = G.length := ⟨_, rfl⟩
        rw [← hm] at hS hcount hpos ⊢
        have hm' := Lib.hid hm
        have heq : ((S[k].toNat : Int) == (b.toNat : Int)) = true := by rw [hnat]; simp
        clear hG hm htk hb
        go_wp2_with (at_builtin; refine wpList_append_win rfl _ _ 54 rfl 9 (Value.string ⟨#[]⟩) 1 16 Tryd.underlying54 infoS rfl (by decide) rfl (hS.out.1.kept ((Only.refl (fun _ => False) ws).alloc _) (fun _ _ h => h)) _ 1 1 rfl [Value.string ⟨#[]⟩] rfl (fun _ => ⟨_, rfl, row_oneS (heap_new_at _ _ rfl)⟩) (by simp [Value.oneCell']) (by unfold maxLen; omega) (by omega) ?_; intro v4 w4 h4 hW4 hO4 hh4; obtain ⟨p4, c4, rfl, _, _⟩ := hW4.out.form)
        go_roundw
        case rel =>
          have hs1 := hS.out.2.2.size
          refine ⟨k + 1, p4, c4, h4, by omega, by go_num, ?_, ?_, ?_, ?_⟩
          · rw [hnx.out, List.length_append, ← hm'.out]
            rfl
          · rw [hnx.out, List.length_append, ← hm'.out, List.map_append]
            exact hW4.out
          · intro x hx
            rcases hh4.out with rfl | ⟨g, hg, hge⟩
            · exact hS.out.2.1 x hx
            · rw [hg] at hx
              cases hx
              rw [alloc_size] at hge
              omega
          · exact (hS.out.2.2.alloc _).trans hO4.out (fun x hx e => by have := hS.out.2.1 x e.symm; omega)
        case measure => simp [intOf]; omega
      · have hne : ((S[k].toNat : Int) == (c.toNat : Int)) = false := by
          rw [hnat, beq_eq_false_iff_ne]
          intro h
          exact hbc (UInt8.toNat_inj.1 (by omega))
        have hnx := Lib.hid (show splitL c (s.take (k + 1)) = growLast b (splitL c (s.take k)) by rw [htk]; exact split_snoc c b hbc _)
        have hx := hext.out k b hb
        have hlen1 := Lib.hid (split_len c (s.take k))
        obtain ⟨G, hG⟩ : ∃ G, G = splitL c (s.take k) := ⟨_, rfl⟩
        rw [← hG] at hS hnx hcount hpos hlen1 ⊢
        obtain ⟨m, hm⟩ : ∃ m, G.length = m + 1 := ⟨G.length - 1, by omega⟩
        rw [hm] at hS hcount hpos ⊢
        obtain ⟨t, ht⟩ : ∃ t, G[m]? = some t := ⟨_, List.getElem?_eq_getElem (by omega)⟩
        have htl : t.length ≤ 1000000 := by
          have h1 := hlen1.out t (List.mem_of_getElem? ht)
          rw [List.length_take] at h1
          omega
        have hset := Lib.hid (show splitL c (s.take (k + 1)) = G.set m (t ++ [b]) by rw [hnx.out]; exact growLast_set b hm ht)
        obtain ⟨g, off, cp, hgh, hv, -, -, hgl, hgc, hgf⟩ := hS.out.1.at_ (by omega)
        cases hv
        have x0 : ws.cell? ⟨g, off + m, none⟩ = some (.string (toBA t)) := hgc m _ (by rw [List.getElem?_map, ht]; rfl)
        have f0 := hgf (off + m)
        have happ := Lib.hid (show toBA t ++ toBA [b] = toBA (t ++ [b]) from toBA_app _ _)
        have hs1 : (toBA t).size ≤ 1000000 := by rw [toBA_size]; exact htl
        have hs2 : (toBA [b]).size = 1 := by rw [toBA_size]; rfl
        have hm' := Lib.hid hm
        have htt := Lib.hid ht
        obtain ⟨T, hT⟩ : ∃ T, T = toBA t := ⟨_, rfl⟩
        obtain ⟨B, hB⟩ : ∃ B, B = toBA [b] := ⟨_, rfl⟩
        rw [← hT] at x0 happ hs1
        rw [← hB] at happ hs2 hx
        clear hG hm htk hb hgc hgf hT hB ht
        go_upto_region 7 with fail
        go_region
        rw [happ.out]
        have hnew := Lib.hid ((hS.out.1.set1 (show m < m + 1 by omega) (sv (t ++ [b]))).kept ((Only.refl (fun _ => False) _).drew) (fun _ _ h => h))
        have hOn := Lib.hid (show Only (fun _ => False) w (ws.setCell ⟨g, off + m, none⟩ (sv (t ++ [b]))).drew from (hS.out.2.2.trans (only_set ws g (off + m) (sv (t ++ [b]))) (fun x hx e => by have := hS.out.2.1 g hgh; omega)).drew)
        clear x0 f0
        go_wp2
        go_roundw
        case rel =>
          refine ⟨k + 1, some ⟨g, off, none⟩, cap, h, by omega, by go_num, ?_, ?_, hS.out.2.1, hOn.out⟩
          · rw [hset.out, List.length_set, hm'.out]
          · rw [hset.out, List.length_set, hm'.out, List.map_set]
            exact hnew.out
        case measure => simp [intOf]; omega
    · obtain rfl : k = n := by omega
      have hall : s.take k = s := List.take_of_length_le (by rw [hn'.out]; exact Nat.le_refl _)
      rw [hall] at hS ⊢
      clear hall
      go_wp2
      go_ret
      exact ⟨p, cap, h, rfl, hS.out⟩
end Go.Proofs.YtgfgjbbpochiiaaDoor
