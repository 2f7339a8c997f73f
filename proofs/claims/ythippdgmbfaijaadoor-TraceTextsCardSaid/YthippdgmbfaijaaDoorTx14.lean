/- What a line and a text of lines read as. -/
import Derived.Test.YthippdgmbfaijaaDoorTx13
namespace Go.Proofs.YthippdgmbfaijaaDoor
open Go Go.RowKit

theorem words_no {r : RecV} (hk : okK r.k = true) {c : UInt8} (hc : c = 32 ∨ c = 10) : ∀ p ∈ wordsL r, c ∉ p := by
  obtain ⟨h1, h2⟩ := of_decide_eq_true hk
  have hn : c.toNat < 45 ∨ 57 < c.toNat := by rcases hc with rfl | rfl <;> decide
  have ht := tname_fit (k := r.k.toNat) (by omega)
  intro p hp
  unfold wordsL at hp
  simp only [List.mem_cons, List.not_mem_nil, or_false] at hp
  rcases hp with rfl | rfl | rfl | rfl | rfl | rfl | rfl
  · exact itoa_no c hn
  · rcases hc with rfl | rfl
    · exact ht.1
    · exact ht.2.1
  all_goals exact itoa_no c hn
theorem join_no {c d : UInt8} (h : c ≠ d) : ∀ l : List (List UInt8), (∀ p ∈ l, c ∉ p) → c ∉ joinL d l
  | [], _ => by simp [joinL]
  | [a], hl => by simpa [joinL] using hl a (by simp)
  | a :: b :: l, hl => by
    have h1 := hl a (by simp)
    have h2 := join_no h (b :: l) (fun p hp => hl p (List.mem_cons_of_mem _ hp))
    simp only [joinL, List.mem_append, List.mem_cons, not_or]
    exact ⟨h1, h, h2⟩
theorem line_no {r : RecV} (hk : okK r.k = true) : (10 : UInt8) ∉ lineL r := join_no (by decide) _ (words_no hk (.inr rfl))
theorem split_line {r : RecV} (hk : okK r.k = true) : splitL 32 (lineL r) = wordsL r := split_join 32 _ (by simp [wordsL]) (words_no hk (.inl rfl))
theorem parse_line {r : RecV} (hf : r.fit) (hk : okK r.k = true) : parseO (lineL r) = some r := by
  obtain ⟨h1, h2⟩ := of_decide_eq_true hk
  have hs := split_line hk
  have hw : ∀ j, wd (lineL r) j = (wordsL r).getD j [] := fun j => by unfold wd; rw [hs]
  have := parseO_yes (s := lineL r) (k := r.k.toNat) (n := fun j => match j with | 0 => r.at_ | 2 => r.t | 3 => r.j | 4 => r.op | 5 => r.c | _ => r.v) (by rw [hs]; rfl) (by rw [hw]; exact kindO_is (by omega) (by omega) rfl) (fun j hj hj1 => by
    rw [hw]
    match j, hj, hj1 with
    | 0, _, _ => exact numO_itoa hf.at_
    | 2, _, _ => exact numO_itoa hf.t
    | 3, _, _ => exact numO_itoa hf.j
    | 4, _, _ => exact numO_itoa hf.op
    | 5, _, _ => exact numO_itoa hf.c
    | 6, _, _ => exact numO_itoa hf.v)
  rw [this]
  congr 1
  refine RecV.ext' ⟨rfl, ?_, rfl, rfl, rfl, rfl, rfl⟩
  show ((r.k.toNat : Nat) : Int) = r.k
  omega
/-- A text of lines. -/
def textL (l : List RecV) : List UInt8 := l.flatMap fun r => lineL r ++ [10]
theorem split_text : ∀ l : List RecV, (∀ r ∈ l, okK r.k = true) → splitL 10 (textL l) = l.map lineL ++ [[]]
  | [], _ => rfl
  | r :: l, h => by
    have : textL (r :: l) = lineL r ++ 10 :: textL l := by simp [textL]
    rw [this, splitL_at 10 _ _ (line_no (h r (by simp))), split_text l (fun x hx => h x (List.mem_cons_of_mem _ hx))]
    rfl
theorem read_text {l : List RecV} (hf : ∀ r ∈ l, r.fit) (hk : ∀ r ∈ l, okK r.k = true) : readO (textL l) = some l := by
  have hs := split_text l hk
  refine rread_some (m := l.length) (by rw [hs]; simp) (by rw [hs]; simp) ?_
  rw [hs, List.take_append_of_le_length (by simp), List.take_of_length_le (by simp), List.map_map]
  refine List.map_congr_left fun r hr => ?_
  exact parse_line (hf r hr) (hk r hr)
theorem text_snoc (l : List RecV) (r : RecV) : textL (l ++ [r]) = textL l ++ (lineL r ++ [10]) := by simp [textL]

def r0 : RecV := ⟨3, 3, 1, 0, 0, 0, 0⟩
theorem r0_fit : r0.fit := by constructor <;> (show fitI _; unfold fitI r0; decide)
theorem r0_line : lineL r0 = [51, 32, 115, 116, 97, 114, 116, 32, 49, 32, 48, 32, 48, 32, 48, 32, 48] := by
  simp [lineL, wordsL, joinL, r0, Lib.itoa, Lib.decDigits, tname, tnames]
end Go.Proofs.YthippdgmbfaijaaDoor
