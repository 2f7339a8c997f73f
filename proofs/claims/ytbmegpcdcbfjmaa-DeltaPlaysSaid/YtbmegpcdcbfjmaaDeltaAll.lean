/- Delta's Put, Drop, Due, whatever the key and the ticks: one contract each. -/
import Derived.Test.YtbmegpcdcbfjmaaFixed4
namespace Go.Proofs.Ytbmegpcdcbfjmaa.Delta
open Go.RowKit

def hasKey (m : Gaps) (k : Int) : Bool := m.any fun x => x.1 == k
theorem hasKey_false {ns : List Nd} {k : Int} (h : hasKey (dat ns) k = false) : ∀ m ∈ ns, m.2.1 ≠ k := by
  intro m hm e
  have : hasKey (dat ns) k = true := by
    unfold hasKey dat
    rw [List.any_eq_true]
    exact ⟨m.2, List.mem_map.2 ⟨m, hm, rfl⟩, by simpa using e⟩
  rw [h] at this
  cases this
theorem hasKey_true : ∀ {ns : List Nd} {k : Int}, hasKey (dat ns) k = true → ∃ p n q, ns = p ++ n :: q ∧ (∀ m ∈ p, m.2.1 ≠ k) ∧ n.2.1 = k
  | [], k, h => by simp [hasKey, dat] at h
  | m :: r, k, h => by
    by_cases hm : m.2.1 = k
    · exact ⟨[], m, r, rfl, by simp, hm⟩
    · have : hasKey (dat r) k = true := by
        simp only [hasKey, dat, List.map_cons, List.any_cons, Bool.or_eq_true, beq_iff_eq] at h ⊢
        exact h.resolve_left hm
      obtain ⟨p, n, q, rfl, hp, hn⟩ := hasKey_true this
      refine ⟨m :: p, n, q, rfl, fun x hx => ?_, hn⟩
      rcases List.mem_cons.1 hx with rfl | hx
      · exact hm
      · exact hp x hx

def putCode (m : Gaps) (k t : Int) : Int := if t < 0 ∨ 16777216 < t then 5 else if hasKey m k then 10 else 0
def putAll (m : Gaps) (k t : Int) : Gaps := if t < 0 ∨ 16777216 < t then m else if hasKey m k then m else gput m k t
theorem fine_putAll {m : Gaps} (h : Fine m) (k t : Int) : Fine (putAll m k t) := by
  unfold putAll
  split
  · exact h
  · split
    · exact h
    · exact fine_put h (by omega) (by omega)
theorem putAll_length (m : Gaps) (k t : Int) : (putAll m k t).length ≤ m.length + 1 := by
  unfold putAll
  split
  · omega
  · split
    · omega
    · rw [gput_length]; omega

/-- What a list's writing call leaves: an answer, another list in blocks of its own, and nothing else turned. -/
def WriteEnd (w : World) (l : Nat) (ns : List Nd) (v : Value) (m' : Gaps) (e : Ending) (w' : World) : Prop :=
  e = .returned v ∧ ∃ ns', ListAt w' l ns' ∧ dat ns' = m' ∧ (∀ b ∈ blocks ns', b ∈ blocks ns ∨ w.heap.size ≤ b) ∧ Only (fp l ns) w w'

theorem put_all {w : World} {l : Nat} {ns : List Nd} (h : ListAt w l ns) (hf : Fine (dat ns)) (hl : ns.length < 256) (key t : Int) :
    Calls Try.prog 23 #[.pointer (some ⟨l, 0, none⟩), .int .i64 key, .int .i64 t] w (WriteEnd w l ns (.int .i64 (putCode (dat ns) key t)) (putAll (dat ns) key t)) := by
  by_cases hr : t < 0 ∨ 16777216 < t
  · refine (put_range l key t hr).mono ?_
    rintro e w' ⟨rfl, rfl⟩
    exact ⟨by rw [putCode, if_pos hr], ns, h, by rw [putAll, if_pos hr], fun b hb => .inl hb, Only.refl _ _⟩
  · cases hk : hasKey (dat ns) key with
    | true =>
      obtain ⟨p, n, q, rfl, hp, rfl⟩ := hasKey_true hk
      refine (put_twice h hp t (by omega)).mono ?_
      rintro e w' ⟨rfl, rfl⟩
      exact ⟨by rw [putCode, if_neg hr, if_pos hk], _, h, by rw [putAll, if_neg hr, if_pos hk], fun b hb => .inl hb, Only.refl _ _⟩
    | false =>
      refine (put_ok h hf hl key t (hasKey_false hk) (by omega)).mono ?_
      rintro e w' ⟨rfl, ns', h1, h2, h3, h4⟩
      refine ⟨by rw [putCode, if_neg hr, if_neg (by rw [hk]; exact Bool.false_ne_true)], ns', h1, ?_, h3, h4⟩
      rw [h2, putAll, if_neg hr, if_neg (by rw [hk]; exact Bool.false_ne_true)]

theorem drop_all {w : World} {l : Nat} {ns : List Nd} (h : ListAt w l ns) (hf : Fine (dat ns)) (hl : ns.length ≤ 1000) (key : Int) :
    Calls Try.prog 24 #[.pointer (some ⟨l, 0, none⟩), .int .i64 key] w (WriteEnd w l ns (.bool (hasKey (dat ns) key)) (gdrop (dat ns) key)) := by
  cases hk : hasKey (dat ns) key with
  | true =>
    obtain ⟨p, n, q, rfl, hp, rfl⟩ := hasKey_true hk
    refine (drop_some h hf hl hp).mono ?_
    rintro e w' ⟨rfl, ns', h1, h2, h3, h4⟩
    exact ⟨rfl, ns', h1, h2, fun b hb => .inl (h3 b hb), h4⟩
  | false =>
    refine (drop_none h key (hasKey_false hk)).mono ?_
    rintro e w' ⟨rfl, rfl⟩
    refine ⟨rfl, ns, h, ?_, fun b hb => .inl hb, Only.refl _ _⟩
    rw [gdrop_none]
    intro x hx
    obtain ⟨m, hm, rfl⟩ := List.mem_map.1 hx
    exact hasKey_false hk m hm

theorem due_all {w : World} {l : Nat} {ns : List Nd} (h : ListAt w l ns) (hf : Fine (dat ns)) (key : Int) :
    Calls Try.prog 32 #[.pointer (some ⟨l, 0, none⟩), .int .i64 key] w fun e w' => e = .returned (.tuple #[.int .i64 ((dueIn (dat ns) key 0).getD 0), .bool (hasKey (dat ns) key)]) ∧ w = w' := by
  cases hk : hasKey (dat ns) key with
  | true =>
    obtain ⟨p, n, q, rfl, hp, rfl⟩ := hasKey_true hk
    refine (due_some h hf hp).mono ?_
    rintro e w' ⟨rfl, rfl⟩
    refine ⟨?_, rfl⟩
    rw [dat_append, dueIn_append]
    · simp [dat, dueIn]
    · intro x hx
      obtain ⟨m, hm, rfl⟩ := List.mem_map.1 hx
      exact hp m hm
  | false =>
    refine (due_none h hf key (hasKey_false hk)).mono ?_
    rintro e w' ⟨rfl, rfl⟩
    refine ⟨?_, rfl⟩
    have := dueIn_append (dat ns) [] key 0 (fun x hx => by
      obtain ⟨m, hm, rfl⟩ := List.mem_map.1 hx
      exact hasKey_false hk m hm)
    rw [List.append_nil] at this
    rw [this]
    rfl

/-- Ticks that go by, whatever many. -/
def advTicks (m : Gaps) (t : Int) : Gaps := if t < 0 then m else gleft m t
def advDue (m : Gaps) (t : Int) : List Int := if t < 0 then [] else gdue m t
def AdvAll (w : World) (l : Nat) (ns : List Nd) (t : Int) (e : Ending) (w' : World) : Prop :=
  ∃ p cap h ns', e = .returned (.slice p (advDue (dat ns) t).length cap) ∧ Win w' 3 1 (.slice p (advDue (dat ns) t).length cap) h (advDue (dat ns) t).length ((advDue (dat ns) t).map mkI) ∧ (∀ k, h = some k → w.heap.size ≤ k) ∧
    ListAt w' l ns' ∧ dat ns' = advTicks (dat ns) t ∧ (∀ b ∈ blocks ns', b ∈ blocks ns) ∧ Only (fp l ns) w w'
theorem adv_all {w : World} {l : Nat} {ns : List Nd} (h : ListAt w l ns) (hf : Fine (dat ns)) (hl : ns.length ≤ 1000) (t : Int) (ht : t ≤ 9223372036854775807) :
    Calls Try.prog 28 #[.pointer (some ⟨l, 0, none⟩), .int .i64 t] w (AdvAll w l ns t) := by
  by_cases h0 : t < 0
  · refine (adv_neg l t h0).mono ?_
    rintro e w' ⟨rfl, rfl⟩
    refine ⟨none, 0, none, ns, ?_, ?_, (fun k h => by cases h), h, by rw [advTicks, if_pos h0], fun b hb => hb, Only.refl _ _⟩
    · rw [advDue, if_pos h0]; rfl
    · rw [advDue, if_pos h0]; exact Win.nil _ _ _
  · refine (adv_ok h hf hl t (by omega)).mono ?_
    rintro e w' ⟨v, h1, ns', rfl, hW, hh, hL, hd, hb, ho⟩
    obtain ⟨p, cap, rfl, _⟩ := hW.form
    refine ⟨p, cap, h1, ns', ?_, ?_, hh, hL, ?_, hb, ho⟩
    · rw [advDue, if_neg h0]
    · rw [advDue, if_neg h0]; exact hW
    · rw [advTicks, if_neg h0]; exact hd
theorem fine_adv {m : Gaps} (h : Fine m) (t : Int) : Fine (advTicks m t) := by
  unfold advTicks
  split
  · exact h
  · exact (fine_left h (by omega)).1
theorem adv_length (m : Gaps) (t : Int) : (advTicks m t).length ≤ m.length ∧ (advDue m t).length ≤ m.length := by
  unfold advTicks advDue
  split
  · simp
  · exact gleft_length_le m t
theorem fp_of {w : World} {l : Nat} {ns ns' : List Nd} {B : Nat} (hb : ∀ b ∈ blocks ns', b ∈ blocks ns ∨ w.heap.size ≤ b) (hB : ∀ k, fp l ns k → B ≤ k) (hs : B ≤ w.heap.size) : ∀ k, fp l ns' k → B ≤ k := by
  rintro k (rfl | hk)
  · exact hB _ (.inl rfl)
  · rcases hb k hk with h | h
    · exact hB k (.inr h)
    · omega
end Go.Proofs.Ytbmegpcdcbfjmaa.Delta
