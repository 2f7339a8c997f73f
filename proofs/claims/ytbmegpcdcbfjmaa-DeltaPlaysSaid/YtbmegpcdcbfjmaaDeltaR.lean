/- Delta's calls that only read. -/
import Derived.Test.YtbmegpcdcbfjmaaDeltaM
import Derived.Test.YtbmegpcdcbfjmaaWin
import Derived.ProofKit
import Derived.OpenShut
import Derived.Deep.QuietTactic
import Derived.BigQuiet
import Derived.Outline
import Derived.IntWalk
import Derived.WalkLawsBesides
import Derived.WalkSpells
import Derived.WalkSmall
import Derived.OwnWalk
import Derived.KernelRfl
import Derived.Deep.LoopGhost
namespace Go.Proofs.Ytbmegpcdcbfjmaa.Delta
open Go.RowKit

theorem ret_i {k : IntKind} {a b : Int} (h : a = b) : Ending.returned (.int k a) = .returned (.int k b) := by rw [h]
theorem info3 : (Try.prog.info? 3).map (fun i => (i.zero, i.size, i.bytes)) = some (some (Value.int .i64 0), 1, 8) := by kernel_rfl

theorem new_ok (w : World) : Calls Try.prog 20 #[] w fun e w' => e = .returned (.pointer (some ⟨w.heap.size, 0, none⟩)) ∧ ListAt w' w.heap.size [] ∧ Only (fun _ => False) w w' := by
  go_enter Try.func20, Try.ntmps20
  go_wp2
  go_ret
  refine ⟨rfl, ⟨⟨⟨.int .i64 0, .int .i64 0, ?_⟩, trivial⟩, by simp [blocks]⟩, (Only.refl _ _).alloc _⟩
  rw [heap_alloc_new]
  rfl

theorem first_any {w : World} {l : Nat} {ns : List Nd} (h : ListAt w l ns) : Calls Try.prog 41 #[.pointer (some ⟨l, 0, none⟩)] w fun e w' => e = .returned (ptrTo ns (.pointer none)) ∧ w = w' := by
  obtain ⟨_, _, c2, _⟩ := h.1.count
  go_enter Try.func41, Try.ntmps41
  go_wp2
  go_ret
  exact ⟨rfl, rfl⟩

theorem ahead_none {w : World} {l : Nat} {ns : List Nd} (h : ListAt w l ns) (key : Int) (hk : ∀ m ∈ ns, m.2.1 ≠ key) :
    Calls Try.prog 39 #[.pointer (some ⟨l, 0, none⟩), .int .i64 key] w fun e w' => e = .returned (.pointer none) ∧ w = w' := by
  have h' := Lib.hid h
  have hk' := Lib.hid hk
  clear h hk
  go_enter Try.func39, Try.ntmps39
  go_wp2
  go_loopg [5] ns.length (fun n t wr => w = wr ∧ ∃ p q, ns = p ++ q ∧ q.length = n ∧ t = .pointer (some ⟨prevB l p, 0, none⟩))
  case atStart => exact ⟨rfl, [], ns, rfl, rfl, rfl⟩
  case round =>
    obtain ⟨rfl, p, q, hpq, hlen, rfl⟩ := hrel
    obtain ⟨c2, _⟩ := (Part.split.1 (hpq ▸ h'.out.1)).1.next
    have hseg := (Part.split.1 (hpq ▸ h'.out.1)).2
    have hA := Lib.hid (And.intro hpq hlen)
    clear hpq hlen
    cases q with
    | nil =>
      simp only [ptrTo_nil] at c2
      go_wp2
      go_ret
      exact ⟨rfl, rfl⟩
    | cons n r =>
      obtain ⟨d0, d1, d2, _⟩ := hseg.cells
      have hne : (n.2.1 == key) = false := by
        have := hk'.out n (by rw [hA.out.1]; simp)
        simpa using this
      simp only [ptrTo_cons] at c2
      clear hseg
      go_wp2
      go_roundg r.length
      case measure => have := hA.out.2; simp at this; omega
      case rel => exact ⟨rfl, p ++ [n], r, by rw [hA.out.1]; simp, rfl, by rw [prevB_concat]⟩

theorem ahead_some {w : World} {l : Nat} {p0 : List Nd} {n0 : Nd} {q0 : List Nd} (h : ListAt w l (p0 ++ n0 :: q0)) (key : Int) (hk : ∀ m ∈ p0, m.2.1 ≠ key) (hn : n0.2.1 = key) :
    Calls Try.prog 39 #[.pointer (some ⟨l, 0, none⟩), .int .i64 key] w fun e w' => e = .returned (.pointer (some ⟨prevB l p0, 0, none⟩)) ∧ w = w' := by
  have h' := Lib.hid h
  have hk' := Lib.hid hk
  have hn' := Lib.hid hn
  clear h hk hn
  go_enter Try.func39, Try.ntmps39
  go_wp2
  go_loopg [5] p0.length (fun n t wr => w = wr ∧ ∃ p q, p0 = p ++ q ∧ q.length = n ∧ t = .pointer (some ⟨prevB l p, 0, none⟩))
  case atStart => exact ⟨rfl, [], p0, rfl, rfl, rfl⟩
  case round =>
    obtain ⟨rfl, p, q, hpq, hlen, rfl⟩ := hrel
    have hall := h'.out
    rw [hpq, List.append_assoc] at hall
    obtain ⟨c2, _⟩ := (Part.split.1 hall.1).1.next
    have hseg := (Part.split.1 hall.1).2
    have hA := Lib.hid (And.intro hpq hlen)
    clear hpq hlen hall
    cases q with
    | nil =>
      obtain ⟨d0, d1, d2, _⟩ := Seg.cells hseg
      have hne : (n0.2.1 == key) = true := by simpa using hn'.out
      simp only [ptrTo_cons, List.nil_append] at c2
      clear hseg
      go_wp2
      go_ret
      have : p0 = p := by simpa using hA.out.1
      rw [this]
      exact ⟨rfl, rfl⟩
    | cons n r =>
      obtain ⟨d0, d1, d2, _⟩ := Seg.cells hseg
      have hne : (n.2.1 == key) = false := by
        have := hk'.out n (by rw [hA.out.1]; simp)
        simpa using this
      simp only [ptrTo_cons, List.cons_append] at c2
      clear hseg
      go_wp2
      go_roundg r.length
      case measure => have := hA.out.2; simp at this; omega
      case rel => exact ⟨rfl, p ++ [n], r, by rw [hA.out.1]; simp, rfl, by rw [prevB_concat]⟩

/-- Next. -/
theorem next_none {w : World} {l : Nat} (h : ListAt w l []) : Calls Try.prog 29 #[.pointer (some ⟨l, 0, none⟩)] w fun e w' => e = .returned (.tuple #[.int .i64 0, .bool false]) ∧ w = w' := by
  have hf := Lib.hid (first_any h)
  simp only [ptrTo_nil] at hf
  clear h
  go_enter Try.func29, Try.ntmps29
  go_wp2_with (go_at_call 41; refine hf.out.mono ?_; rintro e w' ⟨rfl, rfl⟩)
  go_ret2
  exact ⟨rfl, rfl⟩
theorem next_some {w : World} {l : Nat} {n : Nd} {r : List Nd} (h : ListAt w l (n :: r)) : Calls Try.prog 29 #[.pointer (some ⟨l, 0, none⟩)] w fun e w' => e = .returned (.tuple #[.int .i64 n.2.2, .bool true]) ∧ w = w' := by
  have hf := Lib.hid (first_any h)
  obtain ⟨d0, d1, d2, _⟩ := Seg.cells h.1.2
  simp only [ptrTo_cons] at hf
  clear h
  go_enter Try.func29, Try.ntmps29
  go_wp2_with (go_at_call 41; refine hf.out.mono ?_; rintro e w' ⟨rfl, rfl⟩)
  go_ret2
  exact ⟨rfl, rfl⟩

def mkI (x : Int) : Value := .int .i64 x
/-- A slice of numbers that a call makes. -/
def Made (w : World) (xs : List Int) (e : Ending) (w' : World) : Prop :=
  ∃ v h, e = .returned v ∧ Win w' 3 1 v h xs.length (xs.map mkI) ∧ (∀ k, h = some k → w.heap.size ≤ k) ∧ Only (fun _ => False) w w'

theorem ListAt.new {w w' : World} {l : Nat} {ns : List Nd} (h : ListAt w l ns) (ho : Only (fun _ => False) w w') : ListAt w' l ns := h.kept ho (fun _ _ h => h)

theorem keys_any {w : World} {l : Nat} {ns : List Nd} (h : ListAt w l ns) (hl : ns.length ≤ 1000) :
    Calls Try.prog 30 #[.pointer (some ⟨l, 0, none⟩)] w (Made w (ns.map fun m => m.2.1)) := by
  have hf := Lib.hid (first_any h)
  have h' := Lib.hid h
  clear h
  go_enter Try.func30, Try.ntmps30
  go_wp2_with (go_at_call 41; refine hf.out.mono ?_; rintro e w' ⟨rfl, rfl⟩)
  go_loopg [3, 4] ns.length (fun n v t wr => ∃ p q h, ns = p ++ q ∧ q.length = n ∧ t = ptrTo q (.pointer none) ∧ Win wr 3 1 v h p.length ((p.map fun m => m.2.1).map mkI) ∧ (∀ k, h = some k → w.heap.size ≤ k) ∧ Only (fun _ => False) w wr)
  case atStart => exact ⟨[], ns, none, rfl, rfl, rfl, Win.nil _ _ _, (fun k h => by cases h), Only.refl _ _⟩
  case round =>
    obtain ⟨p, q, h, hpq, hlen, rfl, hW, hh, ho⟩ := hrel
    obtain ⟨a, cap, rfl, _⟩ := hW.form
    have hall := (h'.out.new ho).1
    rw [hpq] at hall
    have hseg := (Part.split.1 hall).2
    have hA := Lib.hid (And.intro hpq (And.intro hlen (And.intro hW (And.intro hh ho))))
    clear hpq hlen hall hW hh ho
    cases q with
    | nil =>
      simp only [ptrTo_nil]
      go_wp2
      go_ret
      have e : ns = p := by simpa using hA.out.1
      subst e
      refine ⟨_, h, rfl, ?_, hA.out.2.2.2.1, hA.out.2.2.2.2⟩
      rw [List.length_map]
      exact hA.out.2.2.1
    | cons n r =>
      obtain ⟨d0, d1, d2, _⟩ := Seg.cells hseg
      simp only [ptrTo_cons]
      clear hseg
      have hd2 : ∀ w3 ob, Only (fun k => some k = h) (wr.alloc ob) w3 → w3.cell? ⟨n.1, 2, none⟩ = some (ptrTo r (.pointer none)) := fun w3 ob h3 => by
        have hlt := h'.out.lt n.1 (.inr (by rw [hA.out.1]; simp [blocks]))
        refine h3.cell (((Only.refl (fun _ => False) wr).alloc ob).cell d2 (fun h => h)) (fun e => ?_)
        have := hA.out.2.2.2.1 _ e.symm
        change w.heap.size ≤ n.1 at this
        omega
      have hpl : Hid (p.length < 1000) := by
        have e : ns.length = p.length + (r.length + 1) := by rw [hA.out.1]; simp
        exact Lib.hid (by omega)
      have hd2' := Lib.hid hd2
      clear hd2 d2
      go_wp2_with (at_builtin; refine wpList_append_win rfl _ _ 22 rfl 3 (Value.int .i64 0) 1 8 Try.underlying22 info3 rfl (by decide) rfl (hA.out.2.2.1.kept ((Only.refl (fun _ => False) wr).alloc _) (fun _ _ h => h)) _ 1 1 rfl [Value.int .i64 n.2.1] rfl (fun _ => ⟨_, rfl, cell_one_new _ _ _⟩) (by simp [Value.oneCell']) (by have e := hpl.out; unfold maxLen; omega) (by have e := hpl.out; omega) ?_; intro v' w4 h4 hW4 hO4 hh4; have d2 := hd2'.out _ _ hO4.out)
      go_roundg r.length
      case measure => have := hA.out.2.1; simp at this; omega
      case rel =>
        refine ⟨p ++ [n], r, h4, by rw [hA.out.1]; simp, rfl, rfl, ?_, ?_, ?_⟩
        · rw [List.length_append, List.map_append, List.map_append]
          exact hW4.out
        · intro k hk
          rcases hh4.out with rfl | ⟨g, rfl, hg⟩
          · exact hA.out.2.2.2.1 k hk
          · cases hk
            have := hA.out.2.2.2.2.size
            rw [alloc_size] at hg
            omega
        · exact (hA.out.2.2.2.2.alloc _).trans hO4.out (fun x hx e => by have := hA.out.2.2.2.1 x e.symm; omega)

theorem gaps_any {w : World} {l : Nat} {ns : List Nd} (h : ListAt w l ns) (hl : ns.length ≤ 1000) :
    Calls Try.prog 31 #[.pointer (some ⟨l, 0, none⟩)] w (Made w (ns.map fun m => m.2.2)) := by
  have hf := Lib.hid (first_any h)
  have h' := Lib.hid h
  clear h
  go_enter Try.func31, Try.ntmps31
  go_wp2_with (go_at_call 41; refine hf.out.mono ?_; rintro e w' ⟨rfl, rfl⟩)
  go_loopg [3, 4] ns.length (fun n v t wr => ∃ p q h, ns = p ++ q ∧ q.length = n ∧ t = ptrTo q (.pointer none) ∧ Win wr 3 1 v h p.length ((p.map fun m => m.2.2).map mkI) ∧ (∀ k, h = some k → w.heap.size ≤ k) ∧ Only (fun _ => False) w wr)
  case atStart => exact ⟨[], ns, none, rfl, rfl, rfl, Win.nil _ _ _, (fun k h => by cases h), Only.refl _ _⟩
  case round =>
    obtain ⟨p, q, h, hpq, hlen, rfl, hW, hh, ho⟩ := hrel
    obtain ⟨a, cap, rfl, _⟩ := hW.form
    have hall := (h'.out.new ho).1
    rw [hpq] at hall
    have hseg := (Part.split.1 hall).2
    have hA := Lib.hid (And.intro hpq (And.intro hlen (And.intro hW (And.intro hh ho))))
    clear hpq hlen hall hW hh ho
    cases q with
    | nil =>
      simp only [ptrTo_nil]
      go_wp2
      go_ret
      have e : ns = p := by simpa using hA.out.1
      subst e
      refine ⟨_, h, rfl, ?_, hA.out.2.2.2.1, hA.out.2.2.2.2⟩
      rw [List.length_map]
      exact hA.out.2.2.1
    | cons n r =>
      obtain ⟨d0, d1, d2, _⟩ := Seg.cells hseg
      simp only [ptrTo_cons]
      clear hseg
      have hd2 : ∀ w3 ob, Only (fun k => some k = h) (wr.alloc ob) w3 → w3.cell? ⟨n.1, 2, none⟩ = some (ptrTo r (.pointer none)) := fun w3 ob h3 => by
        have hlt := h'.out.lt n.1 (.inr (by rw [hA.out.1]; simp [blocks]))
        refine h3.cell (((Only.refl (fun _ => False) wr).alloc ob).cell d2 (fun h => h)) (fun e => ?_)
        have := hA.out.2.2.2.1 _ e.symm
        change w.heap.size ≤ n.1 at this
        omega
      have hpl : Hid (p.length < 1000) := by
        have e : ns.length = p.length + (r.length + 1) := by rw [hA.out.1]; simp
        exact Lib.hid (by omega)
      have hd2' := Lib.hid hd2
      clear hd2 d2
      go_wp2_with (at_builtin; refine wpList_append_win rfl _ _ 22 rfl 3 (Value.int .i64 0) 1 8 Try.underlying22 info3 rfl (by decide) rfl (hA.out.2.2.1.kept ((Only.refl (fun _ => False) wr).alloc _) (fun _ _ h => h)) _ 1 1 rfl [Value.int .i64 n.2.2] rfl (fun _ => ⟨_, rfl, cell_one_new _ _ _⟩) (by simp [Value.oneCell']) (by have e := hpl.out; unfold maxLen; omega) (by have e := hpl.out; omega) ?_; intro v' w4 h4 hW4 hO4 hh4; have d2 := hd2'.out _ _ hO4.out)
      go_roundg r.length
      case measure => have := hA.out.2.1; simp at this; omega
      case rel =>
        refine ⟨p ++ [n], r, h4, by rw [hA.out.1]; simp, rfl, rfl, ?_, ?_, ?_⟩
        · rw [List.length_append, List.map_append, List.map_append]
          exact hW4.out
        · intro k hk
          rcases hh4.out with rfl | ⟨g, rfl, hg⟩
          · exact hA.out.2.2.2.1 k hk
          · cases hk
            have := hA.out.2.2.2.2.size
            rw [alloc_size] at hg
            omega
        · exact (hA.out.2.2.2.2.alloc _).trans hO4.out (fun x hx e => by have := hA.out.2.2.2.1 x e.symm; omega)

end Go.Proofs.Ytbmegpcdcbfjmaa.Delta
