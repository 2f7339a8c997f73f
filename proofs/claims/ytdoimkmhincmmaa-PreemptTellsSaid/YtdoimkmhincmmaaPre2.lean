/- preempt: what is reckoned with: costs, numbers, sums. -/
import Derived.Test.YtdoimkmhincmmaaPre1
import Derived.Test.YtdoimkmhincmmaaBcRdm
namespace Go.Proofs.Ytdoimkmhincmmaa
namespace Pre
open Go Go.RowKit Rca Sct Lin Lck Cst
open Bch (U sA sC sA_le sC_le)

theorem all_any {w : World} {A : Option Addr} {n cap : Nat} {l : List Opn} (hl : OpnRow w A l) (hn : l.length = n) (h9 : n ≤ 1000) (s wy h mi : Int) :
    Calls Try.prog 53 #[.slice A n cap, .agg #[.int .i64 s, .int .i64 wy, .int .i64 h, .int .i64 mi], .bool false] w (GrowI (sumU (costK l h mi) n) w) := by
  obtain ⟨W1, hW1⟩ : ∃ W1, W1 = w.alloc (.cells #[.int .i64 s, .int .i64 wy, .int .i64 h, .int .i64 mi] 23) := ⟨_, rfl⟩
  have hO : Only (fun _ => False) w W1 := by rw [hW1]; exact (Only.refl (fun _ => False) w).alloc _
  have hb := heap_new_at w (.cells #[.int .i64 s, .int .i64 wy, .int .i64 h, .int .i64 mi] 23) rfl
  rw [← hW1] at hb
  have hb' := Lib.hid hb
  have hO' := Lib.hid hO
  have hl' := Lib.hid (fun W (h : Only (fun _ => False) w W) => hl.new h)
  have hn' := Lib.hid hn
  obtain ⟨co, hco⟩ : ∃ co, co = costK l h mi := ⟨_, rfl⟩
  rw [← hco]
  have hcb := Lib.hid (fun k => show 0 ≤ co k ∧ co k ≤ 1073741824 from by rw [hco]; exact costK_le _ _ _ _)
  have hca := Lib.hid (fun k o (ho : l[k]? = some o) => show co k = ofZ o h mi false from by rw [hco]; exact costK_at ho)
  obtain ⟨q, hqq⟩ : ∃ q, q = w.heap.size := ⟨_, rfl⟩
  have hqq' := Lib.hid hqq
  rw [← hqq] at hb'
  have hW1' := Lib.hid hW1
  clear hl hn hO hb hW1 hco hqq
  go_enter Try.func53, Try.ntmps53
  go_wp2
  rw [← hqq'.out, ← hW1'.out]
  go_loopw [7, 12] (fun a i' wr => ∃ k : Nat, k ≤ n ∧ i' = .int .i64 k ∧ a = .int .i64 (sumU co k) ∧ Only (fun _ => False) W1 wr) (fun _ i' _ => n - (intOf i').toNat)
  case atStart => exact ⟨0, Nat.zero_le _, rfl, rfl, Only.refl _ _⟩
  case round =>
    obtain ⟨k, hk, rfl, rfl, hOk⟩ := hrel
    obtain ⟨ws, hws⟩ : ∃ ws : World, ws = wr := ⟨_, rfl⟩
    subst hws
    have hOk' := Lib.hid hOk
    have hbs := Lib.hid (hOk.heap hb'.out (fun h => h))
    clear hOk
    obtain ⟨b1, b2⟩ := sumU_bound hcb.out k
    by_cases hkn : k < n
    · have hkn' : (k : Int) < (n : Int) := by omega
      obtain ⟨o, ho⟩ : ∃ o, l[k]? = some o := ⟨_, List.getElem?_eq_getElem (by have := hn'.out; omega)⟩
      have hck := hca.out k o ho
      obtain ⟨hc1, hc2⟩ := hcb.out k
      have hsu : sumU co (k + 1) = sumU co k + co k := rfl
      obtain ⟨C, hCC⟩ : ∃ C, C = co k := ⟨_, rfl⟩
      obtain ⟨y, hy⟩ : ∃ y, y = sumU co k := ⟨_, rfl⟩
      rw [← hCC] at hck hc1 hc2 hsu
      rw [← hy] at hsu b1 b2 ⊢
      have hsu' := Lib.hid hsu
      have hof := Lib.hid (fun W => Cst.of_any o s wy h mi false W)
      rw [← hck] at hof
      unfold Opn.val at hof
      obtain ⟨vb, voff, hvA, hvb, d0, d1, d2⟩ := opn_row (hl'.out _ (hO'.out.trans' hOk'.out)) ho
      subst hvA
      obtain ⟨ok, oa, ob⟩ := o
      dsimp only at d0 d1 d2 hof
      have c0 := row_cell (L := [.int .i64 s, .int .i64 wy, .int .i64 h, .int .i64 mi]) hbs.out (i := 0) rfl
      have c1 := row_cell (L := [.int .i64 s, .int .i64 wy, .int .i64 h, .int .i64 mi]) hbs.out (i := 1) rfl
      have c2 := row_cell (L := [.int .i64 s, .int .i64 wy, .int .i64 h, .int .i64 mi]) hbs.out (i := 2) rfl
      have c3 := row_cell (L := [.int .i64 s, .int .i64 wy, .int .i64 h, .int .i64 mi]) hbs.out (i := 3) rfl
      have hlt := row_lt hbs.out
      have hOa := Lib.hid ((Only.refl (fun _ => False) ws).alloc (.cells #[.int .i64 ok, .int .i64 oa, .int .i64 ob] 48))
      clear ho hck hCC hy hsu
      go_wp2_with fail
      refine (hof.out _).mono ?_
      rintro e w4 ⟨rfl, hO4⟩
      have hO4' := Lib.hid (hOk'.out.trans' (hOa.out.trans' hO4))
      clear hO4 c0 c1 c2 c3 hlt d0 d1 d2 hof
      go_wp2
      go_roundw
      case rel => exact ⟨k + 1, by omega, by go_num, by rw [hsu'.out], hO4'.out⟩
      case measure => simp [intOf]; omega
    · obtain rfl : k = n := by omega
      have hkn' : ¬ (k : Int) < (k : Int) := by omega
      have hend := Lib.hid (show GrowI (sumU co k) w (.returned (.int .i64 (sumU co k))) ws from ⟨rfl, hO'.out.trans' hOk'.out⟩)
      go_wp2
      go_ret
      exact hend.out

def wrsZ (l : List Opn) (h mi : Int) : Int := sumU (costK l h mi) l.length
theorem wrsZ_le {l : List Opn} {h mi : Int} (hl : l.length ≤ 1000) : 0 ≤ wrsZ l h mi ∧ wrsZ l h mi ≤ 1073741824000 := by
  have h1 := sumU_bound (costK_le l h mi) l.length
  unfold wrsZ
  omega
theorem worst_any {w : World} {A : Option Addr} {n cap : Nat} {l : List Opn} (hl : OpnRow w A l) (hn : l.length = n) (h9 : n ≤ 1000) (s wy h mi : Int) :
    Calls Try.prog 31 #[.slice A n cap, .agg #[.int .i64 s, .int .i64 wy, .int .i64 h, .int .i64 mi]] w (GrowI (wrsZ l h mi) w) := by
  have hO := (Only.refl (fun _ => False) w).alloc (.cells #[.int .i64 s, .int .i64 wy, .int .i64 h, .int .i64 mi] 23)
  have hq := Lib.hid (all_any (cap := cap) (hl.new hO) hn h9 s wy h mi)
  rw [hn.symm.trans rfl] at hq
  obtain ⟨V, hV⟩ : ∃ V, V = wrsZ l h mi := ⟨_, rfl⟩
  rw [← hV]
  unfold wrsZ at hV
  rw [← hV] at hq
  rw [hn] at hq
  have hO' := Lib.hid hO
  clear hl hn hO hV
  go_enter Try.func31, Try.ntmps31
  go_wp2_with fail
  refine hq.out.mono ?_
  rintro e w' ⟨rfl, ho⟩
  have ho' := Lib.hid (hO'.out.trans' ho)
  clear ho
  go_wp2
  go_ret
  exact ⟨rfl, ho'.out⟩
theorem cell_at {w : World} {e : TypeId} {A : Option Addr} {n cap : Nat} {h : Option Nat} {xs : List Value} (hW : Win w e 1 (.slice A n cap) h n xs) {i : Nat} {u : Value} (hu : xs[i]? = some u) : ∃ g off, A = some ⟨g, off, none⟩ ∧ w.cell? ⟨g, off + i, none⟩ = some u ∧ g < w.heap.size := by
  have hi := (List.getElem?_eq_some_iff.1 hu).1
  obtain ⟨g, off, cc, _, hv, _, _, hl, hc, _⟩ := hW.at_ (by have := hW.1; omega)
  simp only [Value.slice.injEq, true_and] at hv
  exact ⟨g, off, hv.1, hc i u hu, hl⟩
/-- A number that isn't below 0, of 64 bits. -/
def ofU (z : Int) : Nat := (IntKind.u64.wrap (max z 0)).toNat
theorem ofU_eq (z : Int) : ((ofU z : Nat) : Int) = IntKind.u64.wrap (max z 0) := by
  unfold ofU
  rw [IntKind.wrap_u64]
  omega
theorem ofU_le (z : Int) : ofU z ≤ 18446744073709551615 := by
  have := ofU_eq z
  rw [IntKind.wrap_u64] at this
  omega
theorem ofU_small {z : Int} (h : z ≤ 18446744073709551615) : ofU z = z.toNat := by
  have := ofU_eq z
  rw [IntKind.wrap_u64] at this
  omega
theorem satOf_any (z : Int) (w : World) : Calls Try.prog 29 #[.int .i64 z] w (fun e w' => e = .returned (U (ofU z)) ∧ w' = w) := by
  obtain ⟨V, hV⟩ : ∃ V, V = IntKind.u64.wrap (max z 0) := ⟨_, rfl⟩
  have hV' := Lib.hid (show (ofU z : Int) = V by rw [hV]; exact ofU_eq z)
  by_cases h0 : 0 ≤ z
  · rw [show max z 0 = z by omega] at hV
    have hV2 := Lib.hid hV
    clear hV
    go_enter Try.func29, Try.ntmps29
    go_wp2
    all_goals
      go_ret
      exact ⟨by rw [U, hV'.out, hV2.out] <;> first | rfl | (congr 2; omega), rfl⟩
  · rw [show max z 0 = 0 by omega] at hV
    have hV2 := Lib.hid hV
    clear hV
    go_enter Try.func29, Try.ntmps29
    go_wp2
    all_goals
      go_ret
      exact ⟨by rw [U, hV'.out, hV2.out] <;> first | rfl | (congr 2; omega), rfl⟩
end Pre
end Go.Proofs.Ytdoimkmhincmmaa
