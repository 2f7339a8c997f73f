/- DeltaPlays: what its walk uses: the two sides lie apart; Find over the rows of a list; what each act leaves. -/
import Derived.Test.YtbmegpcdcbfjmaaRefA
import Derived.Test.YtbmegpcdcbfjmaaActs
namespace Go.Proofs.Ytbmegpcdcbfjmaa.Plays4
open Go.RowKit Delta Ref

theorem seg_typed {w : World} : ∀ {ns : List Nd} {v : Value}, Seg w ns v → ∀ b ∈ blocks ns, ∃ L, w.heap[b]? = some (.cells L 74 (0, 0))
  | [], _, _, b, hb => by simp [blocks] at hb
  | n :: r, v, h, b, hb => by
    rcases List.mem_cons.1 hb with rfl | hb
    · exact ⟨_, h.1⟩
    · exact seg_typed h.2 b hb
/-- Slices of neither the list's type nor its nodes' lie apart from the list. -/
theorem apart {w : World} {l : Nat} {ns : List Nd} {e sz n : Nat} {v : Value} {h : Option Nat} {xs : List Value} (hL : ListAt w l ns) (hW : Win w e sz v h n xs) (h1 : e ≠ 76) (h2 : e ≠ 74) : ∀ k, h = some k → ¬ fp l ns k := by
  intro k hk hf
  obtain ⟨_, _, _, _, _, _, a⟩ := hW
  rcases a with a | ⟨g, _, L, hg, _, hh, _⟩
  · rw [a.1] at hk; cases hk
  · rw [hg] at hk
    cases hk
    rcases hf with rfl | hf
    · obtain ⟨u0, u1, hl⟩ := hL.1.1
      rw [hl] at hh
      simp at hh
      exact h1 hh.2.symm
    · obtain ⟨M, hm⟩ := seg_typed hL.1.2 _ hf
      rw [hm] at hh
      simp at hh
      exact h2 hh.2.symm

theorem has_split : ∀ {m : Gaps} {k : Int}, hasKey m k = true → ∃ p x q, m = p ++ x :: q ∧ (∀ y ∈ p, y.1 ≠ k) ∧ x.1 = k
  | [], k, h => by simp [hasKey] at h
  | x :: r, k, h => by
    by_cases hx : x.1 = k
    · exact ⟨[], x, r, rfl, by simp, hx⟩
    · have : hasKey r k = true := by
        simp only [hasKey, List.any_cons, Bool.or_eq_true, beq_iff_eq] at h ⊢
        exact h.resolve_left hx
      obtain ⟨p, y, q, rfl, hp, hy⟩ := has_split this
      refine ⟨x :: p, y, q, rfl, fun z hz => ?_, hy⟩
      rcases List.mem_cons.1 hz with rfl | hz
      · exact hx
      · exact hp z hz
theorem has_not {m : Gaps} {k : Int} (h : hasKey m k = false) : ∀ y ∈ m, y.1 ≠ k := by
  intro y hy e
  have : hasKey m k = true := by
    rw [hasKey, List.any_eq_true]
    exact ⟨y, hy, by simpa using e⟩
  rw [h] at this
  cases this
theorem keys_ne {m p : Gaps} (h : m.map (·.1) = p.map (·.1)) {k : Int} (hp : ∀ y ∈ p, y.1 ≠ k) : ∀ y ∈ m, y.1 ≠ k := by
  intro y hy e
  have : y.1 ∈ m.map (·.1) := List.mem_map.2 ⟨y, hy, rfl⟩
  rw [h] at this
  obtain ⟨z, hz, hzz⟩ := List.mem_map.1 this
  exact hp z hz (hzz.trans e)

/-- Where Find says that the key is. -/
def Found (m : Gaps) (k at_ : Int) : Prop := (at_ = -1 ∧ hasKey m k = false) ∨ (hasKey m k = true ∧ ∃ (i : Nat) (d : Int), at_ = i ∧ i < m.length ∧ (rows 0 m)[i]? = some (k, d) ∧ (dueIn m k 0).getD 0 = d ∧ rows 0 (gdrop m k) = (rows 0 m).take i ++ (rows 0 m).drop (i + 1))
theorem find_rows {w : World} {p : Option Addr} {n cap : Nat} {h : Option Nat} {m : Gaps} (hR : RowsAt w p n cap h (rows 0 m)) (hn : n ≤ 1000) (key : Int) :
    Calls Try.prog 21 #[.slice p n cap, .int .i64 key] w fun e w' => ∃ at_, e = .returned (.int .i64 at_) ∧ Only (fun _ => False) w w' ∧ Found m key at_ := by
  cases hk : hasKey m key with
  | false =>
    refine (find_none hR hn key (keys_ne (rows_keys m 0) (has_not hk))).mono ?_
    rintro e w' ⟨rfl, ho⟩
    exact ⟨_, rfl, ho, .inl ⟨rfl, hk⟩⟩
  | true =>
    obtain ⟨P, x, Q, rfl, hP, rfl⟩ := has_split hk
    have hd := rows_due (q := Q) hP rfl
    have hg := rows_drop (q := Q) hP (x := x) rfl 0
    have hR' := hR
    rw [rows_append] at hR'
    refine (find_some (y := (x.1, 0 + total P + x.2)) hR' hn (keys_ne (rows_keys P 0) hP)).mono ?_
    rintro e w' ⟨rfl, ho⟩
    refine ⟨_, rfl, ho, .inr ⟨hk, P.length, total P + x.2, ?_, by simp, hd.2, hd.1, hg⟩⟩
    rw [rows_length]

theorem act_cells {ws w3 : World} {kd ky tk : Int} {X : Nat} (hX : ws.heap.size = X) (ho : Only (fun _ => False) (ws.alloc (Obj.cells #[Value.int .u8 kd, Value.int .i64 ky, Value.int .i64 tk] 49)) w3) :
    w3.cell? ⟨X, 0, none⟩ = some (.int .u8 kd) ∧ w3.cell? ⟨X, 1, none⟩ = some (.int .i64 ky) ∧ w3.cell? ⟨X, 2, none⟩ = some (.int .i64 tk) := by
  have h := ho.heap (heap_new_at ws _ hX) (fun h => h)
  exact ⟨row_cell (L := [_, _, _]) h rfl, row_cell (L := [_, _, _]) h rfl, row_cell (L := [_, _, _]) h rfl⟩

/-- The list at l and the rows v tell the same. -/
def Rel (W : World) (B l k : Nat) (v : Value) (wr : World) : Prop :=
  ∃ ns p n cap h, v = .slice p n cap ∧ ListAt wr l ns ∧ RowsAt wr p n cap h (rows 0 (dat ns)) ∧ Fine (dat ns) ∧ ns.length ≤ k ∧ (∀ b, fp l ns b → B ≤ b) ∧ (∀ b, h = some b → B ≤ b) ∧ Only (fun x => B ≤ x) W wr

/-- An act that leaves the rows' slice as it is, its world made of wr's by calls on either side. -/
theorem rel_more {W : World} {B l k k' : Nat} {v : Value} {wr wr' : World} (h : Rel W B l k v wr) (hk : k ≤ k') (ho : Only (fun _ => False) wr wr') : Rel W B l k' v wr' := by
  obtain ⟨ns, p, n, cap, h, rfl, hL, hR, hf, hn, hf1, hf2, hO⟩ := h
  exact ⟨ns, p, n, cap, h, rfl, hL.new ho, hR.new ho, hf, by omega, hf1, hf2, hO.trans ho (fun _ _ h => h.elim)⟩
/-- What a list's writing call leaves. -/
def Wrote (w : World) (l : Nat) (ns : List Nd) (m' : Gaps) (w' : World) : Prop := ∃ ns', ListAt w' l ns' ∧ dat ns' = m' ∧ (∀ b ∈ blocks ns', b ∈ blocks ns ∨ w.heap.size ≤ b) ∧ Only (fp l ns) w w'
/-- New rows, then a list written. -/
theorem rel_write {W : World} {B l k : Nat} {w1 w2 : World} {ns : List Nd} {m' : Gaps} {p : Option Addr} {n cap : Nat} {h : Option Nat}
    (hB : B ≤ w1.heap.size) (hO : Only (fun x => B ≤ x) W w1) (hL : ListAt w1 l ns) (hR : RowsAt w1 p n cap h (rows 0 m')) (hw : Wrote w1 l ns m' w2) (hf : Fine m') (hn : m'.length ≤ k) (hf1 : ∀ b, fp l ns b → B ≤ b) (hf2 : ∀ b, h = some b → B ≤ b) : Rel W B l k (.slice p n cap) w2 := by
  obtain ⟨ns', hL', hd, hb, ho⟩ := hw
  have hne := apart hL hR.1 (by decide) (by decide)
  subst hd
  exact ⟨ns', p, n, cap, h, rfl, hL', hR.kept ho hne, hf, by simpa [dat] using hn, fp_of hb hf1 hB, hf2, hO.trans ho (fun x _ hx => hf1 x hx)⟩

theorem put_to {w : World} {l : Nat} {ns : List Nd} (h : ListAt w l ns) (hf : Fine (dat ns)) (hl : ns.length < 256) {key t c : Int} {m' : Gaps} (hc : putCode (dat ns) key t = c) (hm : putAll (dat ns) key t = m') :
    Calls Try.prog 23 #[.pointer (some ⟨l, 0, none⟩), .int .i64 key, .int .i64 t] w fun e w' => e = .returned (.int .i64 c) ∧ Wrote w l ns m' w' := by
  subst hc
  subst hm
  exact put_all h hf hl key t

/-- Rows that a call makes. -/
def NewRows (w : World) (m : Gaps) (p : Option Addr) (n cap : Nat) (w' : World) : Prop := ∃ h, RowsAt w' p n cap h (rows 0 m) ∧ (∀ b, h = some b → w.heap.size ≤ b) ∧ Only (fun _ => False) w w'
theorem put_rows {w : World} {p : Option Addr} {n cap : Nat} {h : Option Nat} {m : Gaps} (hR : RowsAt w p n cap h (rows 0 m)) (hn : n ≤ 1000) (key t : Int) :
    Calls Try.prog 22 #[.slice p n cap, .int .i64 key, .int .i64 t] w fun e w' => ∃ p' n' c', e = .returned (.slice p' n' c') ∧ NewRows w (gput m key t) p' n' c' w' := by
  refine (put_any hR hn key t).mono ?_
  rintro e w' ⟨p', c', h', rfl, hR', hh, ho⟩
  refine ⟨p', _, c', rfl, h', ?_, hh, ho⟩
  rw [rows_put, Int.zero_add]
  exact hR'
theorem drop_rows {w : World} {p : Option Addr} {n cap : Nat} {h : Option Nat} {m m' : Gaps} (hR : RowsAt w p n cap h (rows 0 m)) (hn : n ≤ 1000) {i : Nat} (hi : i < m.length) (hm : rows 0 m' = (rows 0 m).take i ++ (rows 0 m).drop (i + 1)) :
    Calls Try.prog 25 #[.slice p n cap, .int .i64 i] w fun e w' => ∃ p' n' c', e = .returned (.slice p' n' c') ∧ NewRows w m' p' n' c' w' := by
  refine (drop_any hR hn i (by have := hR.2; rw [rows_length] at this; omega)).mono ?_
  rintro e w' ⟨p', c', h', rfl, hR', hh, ho⟩
  refine ⟨p', _, c', rfl, h', ?_, hh, ho⟩
  rw [hm]
  exact hR'
theorem adv_rows {w : World} {p : Option Addr} {n cap : Nat} {h : Option Nat} {m : Gaps} (hR : RowsAt w p n cap h (rows 0 m)) (hn : n ≤ 1000) (hf : Fine m) (t : Int) (ht : 0 ≤ t ∧ t ≤ 9223372036854775807) :
    Calls Try.prog 26 #[.slice p n cap, .int .i64 t] w fun e w' => ∃ p' n' c' q nq qc hq, e = .returned (.tuple #[.slice p' n' c', .slice q nq qc]) ∧ NewRows w (advTicks m t) p' n' c' w' ∧ nq = (advDue m t).length ∧ Win w' 3 1 (.slice q nq qc) hq nq ((advDue m t).map mkI) := by
  have hb := rows_bound m 0 hf.1
  obtain ⟨a1, a2⟩ := rows_adv0 m t hf.1
  refine (adv_any hR hn (fun x hx => by have := hb x hx; have := hf.2; omega) t ht).mono ?_
  rintro e w' ⟨p', c', h', q, qc, hq, rfl, hR', hW, hh, _, ho⟩
  have e1 : advTicks m t = gleft m t := by rw [advTicks, if_neg (by omega)]
  have e2 : advDue m t = rdue (rows 0 m) t := by rw [advDue, if_neg (by omega), a2]
  refine ⟨p', _, c', q, _, qc, hq, rfl, ⟨h', ?_, hh, ho⟩, ?_, ?_⟩
  · rw [e1, a1]
    exact hR'
  · rw [e2]
  · rw [e2]
    exact hW
/-- Ticks go by for the list: its due beside the rows'. -/
theorem adv_to {w : World} {l : Nat} {ns : List Nd} (h : ListAt w l ns) (hf : Fine (dat ns)) (hl : ns.length ≤ 1000) (t : Int) (ht : t ≤ 9223372036854775807) {q : Option Addr} {nq qc : Nat} {hq : Option Nat} (hnq : nq = (advDue (dat ns) t).length) (hW : Win w 3 1 (.slice q nq qc) hq nq ((advDue (dat ns) t).map mkI)) :
    Calls Try.prog 28 #[.pointer (some ⟨l, 0, none⟩), .int .i64 t] w fun e w' => ∃ p n c, e = .returned (.slice p n c) ∧ Wrote w l ns (advTicks (dat ns) t) w' ∧ Calls Try.prog 27 #[.slice p n c, .slice q nq qc] w' fun e w'' => e = .returned (.bool true) ∧ ∃ m, w'' = w'.drewN m := by
  refine (adv_all h hf hl t ht).mono ?_
  rintro e w' ⟨p, cap, h1, ns', rfl, hW', hh, hL, hd, hb, ho⟩
  have hlen : (advDue (dat ns) t).length ≤ 1000 := by
    have h1 := (adv_length (dat ns) t).2
    have h2 : (dat ns).length = ns.length := by simp [dat]
    omega
  refine ⟨p, _, cap, rfl, ⟨ns', hL, hd, fun b hb' => .inl (hb b hb'), ho⟩, ?_⟩
  subst hnq
  exact same_any hW' (hW.kept ho (apart h hW (by decide) (by decide))) hlen

/-- What Rel says, by its names. -/
def Both (W : World) (B l k : Nat) (ns : List Nd) (p : Option Addr) (n cap : Nat) (h : Option Nat) (wr : World) : Prop :=
  ListAt wr l ns ∧ RowsAt wr p n cap h (rows 0 (dat ns)) ∧ Fine (dat ns) ∧ ns.length ≤ k ∧ (∀ b, fp l ns b → B ≤ b) ∧ (∀ b, h = some b → B ≤ b) ∧ Only (fun x => B ≤ x) W wr ∧ B ≤ wr.heap.size ∧ n = ns.length
theorem drop_to {w : World} {l : Nat} {ns : List Nd} (h : ListAt w l ns) (hf : Fine (dat ns)) (hl : ns.length ≤ 1000) {key : Int} {b : Bool} {m' : Gaps} (hk : hasKey (dat ns) key = b) (hm : gdrop (dat ns) key = m') :
    Calls Try.prog 24 #[.pointer (some ⟨l, 0, none⟩), .int .i64 key] w fun e w' => e = .returned (.bool b) ∧ Wrote w l ns m' w' := by
  subst hk
  subst hm
  exact drop_all h hf hl key
theorem dat_length (ns : List Nd) : (dat ns).length = ns.length := by simp [dat]
/-- The list is written, the rows stay. -/
theorem Both.write {W : World} {B l k : Nat} {ns : List Nd} {p : Option Addr} {n cap : Nat} {h : Option Nat} {wr w2 : World} (T : Both W B l k ns p n cap h wr) (hw : Wrote wr l ns (dat ns) w2) : Rel W B l (k + 1) (.slice p n cap) w2 := by
  obtain ⟨hL, hR, hf, hn, hf1, hf2, hO, hBs, _⟩ := T
  exact rel_write hBs hO hL hR hw hf (by rw [dat_length]; omega) hf1 hf2
/-- New rows, then the list is written. -/
theorem Both.rows_write {W : World} {B l k : Nat} {ns : List Nd} {p p' : Option Addr} {n cap n' cap' : Nat} {h : Option Nat} {wr w1 w2 : World} {m' : Gaps} (T : Both W B l k ns p n cap h wr) (hN : NewRows wr m' p' n' cap' w1) (hw : Wrote w1 l ns m' w2) (hf' : Fine m') (hn' : m'.length ≤ ns.length + 1) : Rel W B l (k + 1) (.slice p' n' cap') w2 := by
  obtain ⟨hL, hR, hf, hn, hf1, hf2, hO, hBs, _⟩ := T
  obtain ⟨h', hR', hh, ho⟩ := hN
  exact rel_write (Nat.le_trans hBs ho.size) (hO.trans ho (fun _ _ h => h.elim)) (hL.new ho) hR' hw hf' (by omega) hf1 (fun b hb => Nat.le_trans hBs (hh b hb))
/-- The list is written, then new rows. -/
theorem Both.write_rows {W : World} {B l k : Nat} {ns : List Nd} {p p' : Option Addr} {n cap n' cap' : Nat} {h : Option Nat} {wr w1 w2 : World} {m' : Gaps} (T : Both W B l k ns p n cap h wr) (hw : Wrote wr l ns m' w1) (hN : NewRows w1 m' p' n' cap' w2) (hf' : Fine m') (hn' : m'.length ≤ ns.length + 1) : Rel W B l (k + 1) (.slice p' n' cap') w2 := by
  obtain ⟨hL, hR, hf, hn, hf1, hf2, hO, hBs, _⟩ := T
  obtain ⟨h', hR', hh, ho⟩ := hN
  obtain ⟨ns', hL', hd, hb, ho'⟩ := hw
  subst hd
  refine ⟨ns', p', n', cap', h', rfl, hL'.new ho, hR', hf', by rw [dat_length] at hn'; omega, fp_of hb hf1 hBs, fun b hb => ?_, (hO.trans ho' (fun x _ hx => hf1 x hx)).trans ho (fun _ _ h => h.elim)⟩
  exact Nat.le_trans hBs (Nat.le_trans ho'.size (hh b hb))
theorem Rel.drewN {W : World} {B l k m : Nat} {v : Value} {w' : World} (h : Rel W B l k v w') : Rel W B l k v (w'.drewN m) := rel_more h (Nat.le_refl _) ((Only.refl _ w').drewN m)
end Go.Proofs.Ytbmegpcdcbfjmaa.Plays4
