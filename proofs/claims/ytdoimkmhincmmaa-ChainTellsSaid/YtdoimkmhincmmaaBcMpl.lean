/- chain: the map of links. -/
import Derived.Test.YtdoimkmhincmmaaBcSqi
import Derived.Test.YtdoimkmhincmmaaChainPure
import Derived.Maps.Own
namespace Go.Proofs.Ytdoimkmhincmmaa
namespace Bch
open Go Go.RowKit Go.Maps
theorem keyed3 : Keyed Try.prog 3 := int_keyed Try.underlying3
theorem wfI {z : Int} (h1 : -9223372036854775808 ≤ z) (h2 : z ≤ 9223372036854775807) : (Lit.int .i64 z).wf = true := by
  have e1 : IntKind.i64.min = -9223372036854775808 := by decide
  have e2 : IntKind.i64.max = 9223372036854775807 := by decide
  simp [Lit.wf, e1, e2]
  omega
theorem isKeyI (x : Int) : WideAt.IsKeyLit (.int .i64 x) := by simp [WideAt.IsKeyLit]
def linkD (y : Int × Int) : DataW Unit := .slice [.lit (.int .i64 y.1), .lit (.int .i64 y.2)] []
/-- How a link reads. -/
def linkR (v : Value) : Option (DataW Unit × List MemPlace) :=
  match v with
  | .agg ⟨[.int .i64 a, .int .i64 b]⟩ => some (linkD (a, b), [])
  | _ => none
def linkV (y : Int × Int) : Value := .agg #[.int .i64 y.1, .int .i64 y.2]
theorem linkR_mk (y : Int × Int) : linkR (linkV y) = some (linkD y, []) := rfl
theorem linkR_inv {v : Value} {y : Int × Int} {ps : List MemPlace} (h : linkR v = some (linkD y, ps)) : v = linkV y := by
  unfold linkR at h
  split at h
  · next a b =>
    simp [linkD] at h
    obtain ⟨⟨rfl, rfl⟩, _⟩ := h
    rfl
  · cases h
/-- The map as it reads: of whom nothing is told, zeros. -/
def MapL (w : World) (b n : Nat) (g : Int → Int × Int) : Prop :=
  ∃ D : DataW Unit, w.ownsMap Try.prog 3 linkR b n D ∧ ∀ t : Int, D.atKey (.int .i64 t) (linkD (0, 0)) = linkD (g t)
theorem MapL.kept {S : Nat → Prop} {w w' : World} {b n : Nat} {g : Int → Int × Int} (h : MapL w b n g) (ho : Only S w w') (hS : ¬ S b) : MapL w' b n g := by
  obtain ⟨D, ⟨es, clock, hb, hr⟩, h2⟩ := h
  exact ⟨D, ⟨es, clock, ho.heap hb hS, hr⟩, h2⟩
theorem MapL.lt {w : World} {b n : Nat} {g : Int → Int × Int} (h : MapL w b n g) : b < w.heap.size := by
  obtain ⟨D, h1, _⟩ := h
  exact h1.lt
theorem MapL.mono {w : World} {b n n' : Nat} {g : Int → Int × Int} (h : MapL w b n g) (hn : n ≤ n') : MapL w b n' g := by
  obtain ⟨D, h1, h2⟩ := h
  exact ⟨D, h1.mono hn, h2⟩
theorem MapL.made (w : World) : MapL (w.alloc (.map #[] 0)) w.heap.size 0 (fun _ => (0, 0)) := ⟨.map [], World.ownsMap_made _ _ _ _, fun _ => rfl⟩
theorem zero72 (w : World) : (zeroValue 62).run Try.prog w = .ok (linkV (0, 0)) w := by
  exact Try.zeroValue62 w
theorem MapL.look {w : World} {b n : Nat} {g : Int → Int × Int} (h : MapL w b n g) {t : Int} (h1 : -9223372036854775808 ≤ t) (h2 : t ≤ 9223372036854775807) : (Instr.lookup 58 (.map (some b)) (.int .i64 t) false).run Try.prog w = .ok (linkV (g t)) w := by
  obtain ⟨D, ho, hD⟩ := h
  obtain ⟨v, ps, hr, hv⟩ := ho.lookup keyed3 Try.underlying58 (zero72 w) (linkR_mk (0, 0)) (keyOf_int_mk (P := Try.prog) Try.underlying3 (wfI h1 h2))
  rw [hD] at hv
  rw [hr, linkR_inv hv]
theorem MapL.put {w : World} {b n : Nat} {g : Int → Int × Int} (h : MapL w b n g) {t : Int} (h1 : -9223372036854775808 ≤ t) (h2 : t ≤ 9223372036854775807) (hn : n < maxLen) (y : Int × Int) :
    ∃ w', (Instr.mapUpdate 58 (.map (some b)) (.int .i64 t) (linkV y)).run Try.prog w = .ok () w' ∧ MapL w' b (n + 1) (fun x => if x = t then y else g x) ∧ Only (fun k => k = b) w w' := by
  obtain ⟨D, ho, hD⟩ := h
  obtain ⟨w', hr, ho', hg⟩ := ho.update keyed3 Try.underlying58 hn (keyOf_int_mk (P := Try.prog) Try.underlying3 (wfI h1 h2)) (linkR_mk y)
  have ht := ho.tidy keyed3
  refine ⟨w', hr, ⟨_, ho', fun x => ?_⟩, (Only.refl (fun k => k = b) w).grown hg (fun k hk _ => by cases hk; rfl)⟩
  by_cases hx : x = t
  · subst hx
    rw [atKey_put_same ht.isMap (isKeyI _)]
    show linkD y = linkD (if x = x then y else g x)
    rw [if_pos rfl]
  · rw [atKey_put_other (by intro e; cases e; exact hx rfl), hD]
    show linkD (g x) = linkD (if x = t then y else g x)
    rw [if_neg hx]
/-- What the map tells of links. -/
def lkG (L : Chn.Lks) (x : Int) : Int × Int :=
  if 0 ≤ x then (match L x.toNat with | none => (0, 0) | some (d, none) => (d, -1) | some (d, some k) => (d, (k : Int))) else (0, 0)
def optZ : Option Nat → Int
  | none => -1
  | some k => (k : Int)
theorem lkG_depth (L : Chn.Lks) (f : Option Nat) : (lkG L (optZ f)).1 = Chn.dO (Chn.dOf L) f := by
  cases f with
  | none => rfl
  | some k =>
    show (lkG L (k : Int)).1 = Chn.dOf L k
    unfold lkG
    rw [if_pos (by omega), Int.toNat_natCast]
    unfold Chn.dOf
    cases h : L k with
    | none => rfl
    | some y =>
      obtain ⟨d, f⟩ := y
      cases f <;> rfl
theorem lkG_at {L : Chn.Lks} {k : Nat} {d : Int} {f : Option Nat} (h : L k = some (d, f)) : lkG L (k : Int) = (d, optZ f) := by
  unfold lkG
  rw [if_pos (by omega), Int.toNat_natCast, h]
  cases f <;> rfl
theorem lkG_upd {L L' : Chn.Lks} {t : Nat} {d : Int} {f : Option Nat} (h : L' t = some (d, f)) (ho : ∀ k, k ≠ t → L' k = L k) : (fun x : Int => if x = (t : Int) then (d, optZ f) else lkG L x) = lkG L' := by
  funext x
  by_cases hx : x = (t : Int)
  · subst hx
    rw [if_pos rfl, lkG_at h]
  · rw [if_neg hx]
    unfold lkG
    by_cases h0 : 0 ≤ x
    · rw [if_pos h0, if_pos h0, ho x.toNat (by omega)]
    · rw [if_neg h0, if_neg h0]
theorem lkG_none : lkG Chn.noLks = fun _ => (0, 0) := by
  funext x
  unfold lkG Chn.noLks
  split <;> rfl
end Bch
end Go.Proofs.Ytdoimkmhincmmaa
