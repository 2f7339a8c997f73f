/- The document's own Advance of layer 4. -/
import Derived.Test.YtbmegpcdcbfjmaaRefW
namespace Go.Proofs.Ytbmegpcdcbfjmaa.Ref
open Go.RowKit Delta

theorem row_one {w : World} {X : Nat} {a : Value} {e : TypeId} (h : w.heap[X]? = some (.cells #[a] e (0, 0))) : ∀ j u, [a][j]? = some u → w.cell? ((⟨X, 0, none⟩ : Addr).add j) = some u := fun j u hu => by
  rw [Addr.add_lit, Nat.zero_add]
  exact row_cell (L := [a]) h hu

def AdvRows (w : World) (xs : Gaps) (t : Int) (e : Ending) (w' : World) : Prop :=
  ∃ p cap h q qcap hq, e = .returned (.tuple #[.slice p (rleft xs t).length cap, .slice q (rdue xs t).length qcap]) ∧ RowsAt w' p (rleft xs t).length cap h (rleft xs t) ∧ Win w' 3 1 (.slice q (rdue xs t).length qcap) hq (rdue xs t).length ((rdue xs t).map mkI) ∧
    (∀ k, h = some k → w.heap.size ≤ k) ∧ (∀ k, hq = some k → w.heap.size ≤ k) ∧ Only (fun _ => False) w w'

theorem rleft_snoc (m : Gaps) (x : Int × Int) (t : Int) : rleft (m ++ [x]) t = if x.2 ≤ t then rleft m t else rleft m t ++ [(x.1, x.2 - t)] := by
  unfold rleft
  rw [List.filter_append, List.map_append]
  by_cases h : x.2 ≤ t
  · rw [if_pos h, List.filter_cons_of_neg (by simp; omega)]
    simp
  · rw [if_neg h, List.filter_cons_of_pos (by simp; omega)]
    simp
theorem rdue_snoc (m : Gaps) (x : Int × Int) (t : Int) : rdue (m ++ [x]) t = if x.2 ≤ t then rdue m t ++ [x.1] else rdue m t := by
  unfold rdue
  rw [List.filter_append, List.map_append]
  by_cases h : x.2 ≤ t
  · rw [if_pos h, List.filter_cons_of_pos (by simpa using h)]
    simp
  · rw [if_neg h, List.filter_cons_of_neg (by simpa using h)]
    simp
theorem take_snoc {α : Type} {m : List α} {j : Nat} {x : α} (h : m[j]? = some x) : m.take (j + 1) = m.take j ++ [x] := by
  rw [List.take_add_one, h]
  rfl
theorem rleft_length_le (m : Gaps) (t : Int) : (rleft m t).length ≤ m.length ∧ (rdue m t).length ≤ m.length := by
  unfold rleft rdue
  simp only [List.length_map]
  exact ⟨List.length_filter_le _ _, List.length_filter_le _ _⟩

theorem adv_any {w : World} {p : Option Addr} {n cap : Nat} {h : Option Nat} {xs : Gaps} (hR : RowsAt w p n cap h xs) (hn : n ≤ 1000) (hxs : ∀ x ∈ xs, 0 ≤ x.2 ∧ x.2 ≤ 16777216) (t : Int) (ht : 0 ≤ t ∧ t ≤ 9223372036854775807) :
    Calls Try.prog 26 #[.slice p n cap, .int .i64 t] w (AdvRows w xs t) := by
  obtain ⟨ht0, ht1⟩ := ht
  have hR' := Lib.hid hR
  have hx' := Lib.hid hxs
  clear hR hxs
  go_enter Try.func26, Try.ntmps26
  go_wp2
  go_loopw [6, 7, 12] (fun v u i wr => ∃ j : Nat, j ≤ n ∧ i = .int .i64 j ∧ ∃ p1 c1 h1 p2 c2 h2, v = .slice p1 (rleft (xs.take j) t).length c1 ∧ u = .slice p2 (rdue (xs.take j) t).length c2 ∧ RowsAt wr p1 (rleft (xs.take j) t).length c1 h1 (rleft (xs.take j) t) ∧ Win wr 3 1 (.slice p2 (rdue (xs.take j) t).length c2) h2 (rdue (xs.take j) t).length ((rdue (xs.take j) t).map mkI) ∧ (∀ k, h1 = some k → w.heap.size ≤ k) ∧ (∀ k, h2 = some k → w.heap.size ≤ k) ∧ Only (fun _ => False) w wr) (fun _ _ i _ => n - (intOf i).toNat)
  case atStart => exact ⟨0, Nat.zero_le _, rfl, none, 0, none, none, 0, none, rfl, rfl, ⟨Win.nil _ _ _, rfl⟩, Win.nil _ _ _, (fun k h => by cases h), (fun k h => by cases h), Only.refl _ _⟩
  case round =>
    obtain ⟨j, hj, rfl, p1, c1, h1, p2, c2, h2, rfl, rfl, r1, r2, f1, f2, ho⟩ := hrel
    obtain ⟨ws, hws⟩ : ∃ ws : World, ws = wr := ⟨_, rfl⟩
    subst hws
    obtain ⟨Lx, hLx⟩ : ∃ Lx, Lx = rleft (xs.take j) t := ⟨_, rfl⟩
    obtain ⟨Dx, hDx⟩ : ∃ Dx, Dx = rdue (xs.take j) t := ⟨_, rfl⟩
    obtain ⟨kl, hkl⟩ : ∃ kl, kl = Lx.length := ⟨_, rfl⟩
    obtain ⟨kd, hkd⟩ : ∃ kd, kd = Dx.length := ⟨_, rfl⟩
    have hb1 := (rleft_length_le (xs.take j) t).1
    have hb2 := (rleft_length_le (xs.take j) t).2
    rw [← hLx, ← hkl] at hb1
    rw [← hDx, ← hkd] at hb2
    rw [List.length_take] at hb1 hb2
    rw [← hLx, ← hkl] at r1 ⊢
    rw [← hDx, ← hkd] at r2 ⊢
    have hlb : kl ≤ 1000 ∧ kd ≤ 1000 := by omega
    obtain ⟨hlb1, hlb2⟩ := hlb
    have hne := r1.1.ne r2 (by decide)
    have hne' := r2.ne r1.1 (by decide)
    by_cases hjn : j < n
    · obtain ⟨g, off, _, rfl, hcap, hc⟩ := (hR'.out.new ho).at_ (by omega)
      obtain ⟨x, hx⟩ : ∃ x, xs[j]? = some x := ⟨xs[j]'(by have := hR'.out.2; omega), List.getElem?_eq_getElem _⟩
      obtain ⟨d0, d1⟩ := hc j x hx
      obtain ⟨hx0, hx1⟩ := hx'.out x (List.mem_of_getElem? hx)
      have hjn' : (j : Int) < (n : Int) := by omega
      have hE := Lib.hid (And.intro hLx (And.intro hDx (And.intro hkl (And.intro hkd (And.intro hx (And.intro r1 (And.intro r2 (And.intro f1 (And.intro f2 ho)))))))))
      have hN := Lib.hid (And.intro hne hne')
      clear hLx hDx hkl hkd hx r1 r2 f1 f2 ho hc hb1 hb2 hne hne'
      by_cases hxt : x.2 ≤ t
      · go_wp2_with (at_builtin; refine wpList_append_win rfl _ _ 22 rfl 3 (Value.int .i64 0) 1 8 Try.underlying22 info3 rfl (by decide) rfl (hE.out.2.2.2.2.2.2.1.kept (((Only.refl (fun _ => False) ws).alloc _).alloc _) (fun _ _ h => h)) _ 1 1 rfl [Value.int .i64 x.1] rfl (fun _ => ⟨_, rfl, row_one (heap_new_at _ _ (by simp))⟩) (by simp [Value.oneCell']) (by unfold maxLen; omega) (by omega) ?_; intro v' w4 h4 hW4 hO4 hh4)
        obtain ⟨p4, c4, rfl, _⟩ := hW4.out.form
        go_roundw
        case rel =>
          obtain ⟨e1, e2, e3, e4, e5, r1, r2, f1, f2, ho⟩ := hE.out
          have q := step_fresh ((ho.alloc _).alloc _) hO4.out f2 hh4.out
          have t1 : rleft (xs.take (j + 1)) t = Lx := by rw [take_snoc e5, rleft_snoc, if_pos hxt, e1]
          have t2 : rdue (xs.take (j + 1)) t = Dx ++ [x.1] := by rw [take_snoc e5, rdue_snoc, if_pos hxt, e2]
          refine ⟨j + 1, by omega, by go_num, p1, c1, h1, p4, c4, h4, ?_, ?_, ?_, ?_, f1, q.2, q.1⟩
          · rw [t1, ← e3]
          · rw [t2, List.length_append, ← e4]; rfl
          · rw [t1, ← e3]
            exact (r1.new (((Only.refl _ ws).alloc _).alloc _)).kept hO4.out (fun k hk => hN.out.1 k hk)
          · rw [t2, List.length_append, List.map_append, ← e4]
            exact hW4.out
        case measure => simp [intOf]; omega
      · have hwr : IntKind.i64.wrap (x.2 - t) = x.2 - t := IntWalk.i64_in _ (by omega)
        go_wp2_with (at_builtin; refine wpList_append_win rfl _ _ 47 rfl 60 zrow 2 16 Try.underlying47 info60 rfl (by decide) rfl (hE.out.2.2.2.2.2.1.1.kept (((Only.refl (fun _ => False) ws).alloc _).alloc _) (fun _ _ h => h)) _ 1 1 rfl [.int .i64 x.1, .int .i64 (x.2 - t)] rfl (fun _ => ⟨_, rfl, row_two (heap_new_at _ _ (by simp))⟩) (by intro u hu; simp at hu; rcases hu with rfl | rfl <;> rfl) (by unfold maxLen; omega) (by omega) ?_; intro v' w4 h4 hW4 hO4 hh4)
        obtain ⟨p4, c4, rfl, _⟩ := hW4.out.form
        go_roundw
        case rel =>
          obtain ⟨e1, e2, e3, e4, e5, r1, r2, f1, f2, ho⟩ := hE.out
          have q := step_fresh ((ho.alloc _).alloc _) hO4.out f1 hh4.out
          have t1 : rleft (xs.take (j + 1)) t = Lx ++ [(x.1, x.2 - t)] := by rw [take_snoc e5, rleft_snoc, if_neg hxt, e1]
          have t2 : rdue (xs.take (j + 1)) t = Dx := by rw [take_snoc e5, rdue_snoc, if_neg hxt, e2]
          refine ⟨j + 1, by omega, by go_num, p4, c4, h4, p2, c2, h2, ?_, ?_, ?_, ?_, q.2, f2, q.1⟩
          · rw [t1, List.length_append, ← e3]; rfl
          · rw [t2, ← e4]
          · rw [t1, List.length_append, ← e3]
            refine ⟨?_, by rw [List.length_append, ← e3]⟩
            rw [flat_append]
            exact hW4.out
          · rw [t2, ← e4]
            exact (r2.kept (((Only.refl (fun _ => False) ws).alloc _).alloc _) (fun _ _ h => h)).kept hO4.out (fun k hk => hN.out.2 k hk)
        case measure => simp [intOf]; omega
    · have hE := Lib.hid (And.intro hLx (And.intro hDx (And.intro hkl (And.intro hkd (And.intro r1 (And.intro r2 (And.intro f1 (And.intro f2 ho))))))))
      clear hLx hDx hkl hkd r1 r2 f1 f2 ho hb1 hb2 hne hne'
      go_wp2
      go_ret2
      obtain ⟨e1, e2, e3, e4, r1, r2, f1, f2, ho⟩ := hE.out
      have hall : xs.take j = xs := List.take_of_length_le (by have := hR'.out.2; omega)
      rw [hall] at e1 e2
      subst e1
      subst e2
      subst e3
      subst e4
      exact ⟨p1, c1, h1, p2, c2, h2, rfl, r1, r2, f1, f2, ho⟩
end Go.Proofs.Ytbmegpcdcbfjmaa.Ref
