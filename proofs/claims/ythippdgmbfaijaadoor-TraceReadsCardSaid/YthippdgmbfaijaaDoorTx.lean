/- What the library's calls answer here: numbers as text, and back; words. -/
import Derived.Test.YthippdgmbfaijaaDoorShelf
import Derived.Test.YthippdgmbfaijaaDoorRows
import Derived.Test.YthippdgmbfaijaaDoorTxt
import Derived.Test.YthippdgmbfaijaaDoorWd
import Derived.Test.YthippdgmbfaijaaDoorWin
import Derived.Test.YthippdgmbfaijaaDoorTail
import Derived.Test.YthippdgmbfaijaaDoorRowed
import Derived.StillTailTactics
import Derived.BigQuiet
import Derived.BigRegion
import Derived.ProofKit
import Derived.Outline
import Derived.RegionTactic
import Derived.Deep.RegionLaw
import Derived.Deep.RegionWith
import Derived.Deep.QuietTactic
import Derived.Deep.CutRange
import Derived.Deep.DeepCutAuto
import Derived.Deep.DrawnRows
import Derived.KernelRfl
import Derived.WalkLawsBesides
import Derived.WalkSpells
import Derived.WalkSmall
import Derived.OwnWalk
import Derived.IntWalk
import Derived.OpenShut
import Derived.LoopTactic
import Derived.Deep.LoopGhost
import Derived.Lib.LaidTab
import Derived.Laws.IdiomStrings
namespace Go.Proofs.YthippdgmbfaijaaDoor
open Go Go.RowKit

def RetI (v : Int) (w : World) (e : Ending) (w' : World) : Prop := e = .returned (.int .i64 v) ∧ w = w'
def GrowI (v : Int) (w : World) (e : Ending) (w' : World) : Prop := e = .returned (.int .i64 v) ∧ Only (fun _ => False) w w'
def RetB (v : Bool) (w : World) (e : Ending) (w' : World) : Prop := e = .returned (.bool v) ∧ w = w'
def GrowB (v : Bool) (w : World) (e : Ending) (w' : World) : Prop := e = .returned (.bool v) ∧ Only (fun _ => False) w w'
def GrowS (l : List UInt8) (w : World) (e : Ending) (w' : World) : Prop := e = .returned (.string (toBA l)) ∧ Only (fun _ => False) w w'
theorem ret_int {k : IntKind} {a b : Int} (h : a = b) : Ending.returned (.int k a) = .returned (.int k b) := by rw [h]
theorem ret_bool {a b : Bool} (h : a = b) : Ending.returned (.bool a) = .returned (.bool b) := by rw [h]

/-- The kinds' names. -/
def tnames : List (List UInt8) := [[], [114, 101, 108, 101, 97, 115, 101], [108, 111, 115, 116], [115, 116, 97, 114, 116], [100, 105, 115, 112, 108, 97, 99, 101], [114, 101, 115, 117, 109, 101], [100, 111, 110, 101], [102, 97, 117, 108, 116], [99, 97, 108, 108]]
def tname (k : Nat) : List UInt8 := tnames.getD k []
theorem tname_fit {k : Nat} (hk : k < 9) : 32 ∉ tname k ∧ 10 ∉ tname k ∧ (tname k).length ≤ 8 := by
  have key : ∀ i : Fin 9, 32 ∉ tname i.1 ∧ 10 ∉ tname i.1 ∧ (tname i.1).length ≤ 8 := by decide
  exact key ⟨k, hk⟩
theorem tname_inj {i j : Nat} (hi : i < 9) (hj : j < 9) (h : tname i = tname j) : i = j := by
  have key : ∀ i j : Fin 9, tname i.1 = tname j.1 → i = j := by decide
  exact Fin.mk.inj_iff.1 (key ⟨i, hi⟩ ⟨j, hj⟩ h)

/-- The tables, and the library's variables. -/
structure Bas (w : World) : Prop where
  names : ∀ k, k < 9 → w.cell? ⟨0, k, none⟩ = some (.string (toBA (tname k)))
  maxl : ∃ m, w.cell? ⟨1, 0, none⟩ = some (.int .i64 m)
  tab : Lib.TabIs Tryd.prog w "internal/strconv.uint64pow10" .u64 Lib.pow10Tab
  errS : ∃ te pe, w.cell? ⟨3, 0, none⟩ = some (.iface te pe)
  errR : ∃ te pe, w.cell? ⟨4, 0, none⟩ = some (.iface te pe)
theorem gTab : Tryd.prog.globalNamed "internal/strconv.uint64pow10" = some 2 := by kernel_rfl
theorem tab_new {w w' : World} (h : Lib.TabIs Tryd.prog w "internal/strconv.uint64pow10" .u64 Lib.pow10Tab) (ho : Only (fun _ => False) w w') : Lib.TabIs Tryd.prog w' "internal/strconv.uint64pow10" .u64 Lib.pow10Tab := by
  have hc := h.cell gTab 0 (by decide)
  have hlt : 2 < w.heap.size := World.block_lt_of_cell? w _ hc
  unfold Lib.TabIs World.var? at *
  rw [gTab, Option.bind_some] at h ⊢
  rw [show w'.heap[2]? = w.heap[2]? from ho.block 2 hlt (fun h => h)]
  exact h
theorem Bas.new {w w' : World} (h : Bas w) (ho : Only (fun _ => False) w w') : Bas w' :=
  ⟨fun k hk => ho.cell (h.names k hk) (fun h => h), by obtain ⟨m, hm⟩ := h.maxl; exact ⟨m, ho.cell hm (fun h => h)⟩, tab_new h.tab ho,
    by obtain ⟨te, pe, hm⟩ := h.errS; exact ⟨te, pe, ho.cell hm (fun h => h)⟩, by obtain ⟨te, pe, hm⟩ := h.errR; exact ⟨te, pe, ho.cell hm (fun h => h)⟩⟩

theorem itoa_any {w : World} (hb : Bas w) (n : Int) (hn : fitI n) : Calls Tryd.prog 18 #[.int .i64 n] w (GrowS (Lib.itoa n) w) := by
  refine (Tryd.strconv_Itoa n hn.1 hn.2 w hb.tab).mono ?_
  rintro e w' ⟨rfl, k, os, rfl⟩
  refine ⟨rfl, ?_⟩
  have h : ∀ (v : World), Only (fun _ => False) v (Sort.grow v os) := fun v => ⟨rfl, rfl, rfl, by simp [Sort.grow], fun k hk _ => by simp only [Sort.grow]; rw [Array.getElem?_append_left hk]⟩
  exact ((Only.refl _ w).drewN k).trans' (h _)

def CutEnd (a r : List UInt8) (b : Bool) (w : World) (e : Ending) (w' : World) : Prop := e = .returned (.tuple #[.string (toBA a), .string (toBA r), .bool b]) ∧ Only (fun _ => False) w w'
theorem cut_yes {w : World} (hb : Bas w) (c : UInt8) (a r : List UInt8) (h : c ∉ a) (hl : a.length + r.length ≤ 4000000000) : Calls Tryd.prog 24 #[.string (toBA (a ++ c :: r)), .string ⟨#[c]⟩] w (CutEnd a r true w) := by
  obtain ⟨m, hm⟩ := hb.maxl
  refine (Tryd.strings_Cut (toBA (a ++ c :: r)) ⟨#[c]⟩ m w (by rw [toBA_size]; simp; omega) hm).mono ?_
  rintro e w' ⟨rfl, n, rfl⟩
  rw [show (toBA (a ++ c :: r)).data.toList = a ++ c :: r from toBA_list _, show (⟨#[c]⟩ : ByteArray).data.toList = [c] from rfl, cut_at c a r h]
  exact ⟨rfl, (Only.refl _ w).drewN n⟩
theorem cut_no {w : World} (hb : Bas w) (c : UInt8) (a : List UInt8) (h : c ∉ a) (hl : a.length ≤ 4000000000) : Calls Tryd.prog 24 #[.string (toBA a), .string ⟨#[c]⟩] w (CutEnd a [] false w) := by
  obtain ⟨m, hm⟩ := hb.maxl
  refine (Tryd.strings_Cut (toBA a) ⟨#[c]⟩ m w (by rw [toBA_size]; omega) hm).mono ?_
  rintro e w' ⟨rfl, n, rfl⟩
  rw [show (toBA a).data.toList = a from toBA_list _, show (⟨#[c]⟩ : ByteArray).data.toList = [c] from rfl, cut_not c a h]
  exact ⟨rfl, (Only.refl _ w).drewN n⟩

theorem only_bytes (w : World) (e : TypeId) (s : ByteArray) : Only (fun _ => False) w (Lib.bytesWorld w e s) := by
  refine ⟨?_, ?_, ?_, by rw [Lib.bytesWorld_size]; omega, fun k hk _ => Lib.bytesWorld_at_old w e s k hk⟩
  all_goals
    unfold Lib.bytesWorld World.freeze
    split <;> rfl

/-- A number of its text: what is told where it is one, and that it is told where it isn't. -/
def NumEnd (s : List UInt8) (w : World) (e : Ending) (w' : World) : Prop := ∃ n, e = .returned (.tuple #[.int .i64 n, .bool (numO s).isSome]) ∧ (∀ v, numO s = some v → n = v) ∧ Only (fun _ => False) w w'
set_option maxRecDepth 100000 in
theorem numberOf_any {w : World} (hb : Bas w) (s : List UInt8) (hl : s.length ≤ 1000000) : Calls Tryd.prog 23 #[.string (toBA s)] w (NumEnd s w) := by
  have q2 := Lib.hid (fun W n (hW : Only (fun _ => False) w W) (hn : fitI n) => itoa_any (hb.new hW) n hn)
  have hsz : (toBA s).size = s.length := toBA_size s
  cases hA : Lib.atoiAll s with
  | ok v =>
    have hfit : fitI v := Lib.atoiAll_bounds hA
    have q1 := Lib.hid (Tryd.strconv_Atoi_ok (toBA s) (by omega) v (by rw [toBA_list]; exact hA) w)
    have hans := Lib.hid (show ((toBA (Lib.itoa v)).toList == (toBA s).toList) = (numO s).isSome ∧ (∀ u, numO s = some u → v = u) from by
      rw [beq_toBA]
      by_cases he : Lib.itoa v = s
      · refine ⟨?_, fun u hu => ?_⟩
        · rw [decide_eq_true he, ← he, numO_itoa hfit]
          rfl
        · rw [← he, numO_itoa hfit] at hu
          cases hu
          rfl
      · have hno : numO s = none := by
          cases hN : numO s with
          | none => rfl
          | some u =>
            obtain ⟨h1, h2⟩ := numO_some hN
            rw [← h2, atoi_itoa h1] at hA
            cases hA
            exact absurd h2 he
        rw [decide_eq_false he, hno]
        exact ⟨rfl, fun u hu => by cases hu⟩)
    obtain ⟨S, hS⟩ : ∃ S, S = toBA s := ⟨_, rfl⟩
    rw [← hS] at q1 hans hsz ⊢
    obtain ⟨T, hT⟩ : ∃ T, T = toBA (Lib.itoa v) := ⟨_, rfl⟩
    have q3 := Lib.hid (fun W (hW : Only (fun _ => False) w W) => q2.out W v hW hfit)
    unfold GrowS at q3
    rw [← hT] at q3 hans
    obtain ⟨B, hB⟩ : ∃ B, B = (T.toList == S.toList) := ⟨_, rfl⟩
    rw [← hB] at hans
    have hB2 : (T.toList == S.toList) = B := hB.symm
    clear hS hT hA hb q2 hB
    go_enter Tryd.func23, Tryd.ntmps23
    go_wp2_with fail
    refine q1.out.mono ?_
    rintro e w1 ⟨rfl, hw1⟩
    have hO1 := Lib.hid (show Only (fun _ => False) w w1 from by
      rcases hw1 with rfl | ⟨t, rfl⟩
      · exact Only.refl _ _
      · exact only_bytes w 5 t)
    clear hw1
    go_wp2_with fail
    refine (q3.out _ hO1.out).mono ?_
    rintro e w2 ⟨rfl, hO2⟩
    have hO2' := Lib.hid (hO1.out.trans' hO2)
    clear hO2
    go_wp2
    go_ret2
    refine ⟨v, ?_, hans.out.2, hO2'.out⟩
    rw [← hans.out.1]
    rfl
  | range =>
    have hno : numO s = none := by
      cases hN : numO s with
      | none => rfl
      | some u =>
        obtain ⟨h1, h2⟩ := numO_some hN
        rw [← h2, atoi_itoa h1] at hA
        cases hA
    obtain ⟨te, pe, hev⟩ := hb.errR
    have q1 := Lib.hid (Tryd.strconv_Atoi_range (toBA s) (by omega) (by rw [toBA_list]; exact hA) (.iface te pe) w hev (.inr ⟨te, pe, rfl⟩))
    have hno' := Lib.hid hno
    obtain ⟨S, hS⟩ : ∃ S, S = toBA s := ⟨_, rfl⟩
    rw [← hS] at q1 ⊢
    obtain ⟨z, hz⟩ : ∃ z, z = Lib.atoiSat S.data.toList := ⟨_, rfl⟩
    rw [← hz] at q1
    clear hz
    clear hS hA hb q2 hev hsz hno
    go_enter Tryd.func23, Tryd.ntmps23
    go_wp2_with fail
    refine q1.out.mono ?_
    rintro e w1 ⟨N, rfl, -, -, hbl⟩
    have hO1 := Lib.hid (Only.of_new hbl (fun _ => False))
    clear hbl
    go_wp2
    go_ret2
    exact ⟨z, by rw [hno'.out]; rfl, fun u hu => (by rw [hno'.out] at hu; cases hu), hO1.out⟩
  | _ =>
    have hno : numO s = none := by
      cases hN : numO s with
      | none => rfl
      | some u =>
        obtain ⟨h1, h2⟩ := numO_some hN
        rw [← h2, atoi_itoa h1] at hA
        cases hA
    obtain ⟨te, pe, hev⟩ := hb.errS
    have q1 := Lib.hid (Tryd.strconv_Atoi_bad (toBA s) (by omega) (by rw [toBA_list]; exact ⟨fun v h => (by rw [hA] at h; cases h), fun h => (by rw [hA] at h; cases h)⟩) (.iface te pe) w hev (.inr ⟨te, pe, rfl⟩))
    have hno' := Lib.hid hno
    obtain ⟨S, hS⟩ : ∃ S, S = toBA s := ⟨_, rfl⟩
    rw [← hS] at q1 ⊢
    clear hS hA hb q2 hev hsz hno
    go_enter Tryd.func23, Tryd.ntmps23
    go_wp2_with fail
    refine q1.out.mono ?_
    rintro e w1 ⟨N, rfl, -, -, hbl⟩
    have hO1 := Lib.hid (Only.of_new hbl (fun _ => False))
    clear hbl
    go_wp2
    go_ret2
    exact ⟨0, by rw [hno'.out]; rfl, fun u hu => (by rw [hno'.out] at hu; cases hu), hO1.out⟩

def okK (k : Int) : Bool := decide (1 ≤ k ∧ k ≤ 8)
theorem isKind_any (k : Int) (w : World) : Calls Tryd.prog 17 #[.int .i64 k] w (RetB (okK k) w) := by
  by_cases h1 : 1 ≤ k
  · by_cases h2 : k ≤ 8
    · have e := Lib.hid (show okK k = true from decide_eq_true ⟨h1, h2⟩)
      go_enter Tryd.func17, Tryd.ntmps17
      go_wp2
      go_ret
      exact ⟨ret_bool e.out.symm, rfl⟩
    · have e := Lib.hid (show okK k = false from decide_eq_false (by omega))
      go_enter Tryd.func17, Tryd.ntmps17
      go_wp2
      go_ret
      exact ⟨ret_bool e.out.symm, rfl⟩
  · have e := Lib.hid (show okK k = false from decide_eq_false (by omega))
    go_enter Tryd.func17, Tryd.ntmps17
    go_wp2
    go_ret
    exact ⟨ret_bool e.out.symm, rfl⟩

/-- The kind of a name. -/
def kindO (s : List UInt8) : Nat → Option Nat
  | 0 => none
  | k + 1 => match kindO s k with
    | some j => some j
    | none => if 1 ≤ k ∧ tname k = s then some k else none
theorem kindO_some {s : List UInt8} : ∀ {n k : Nat}, kindO s n = some k → 1 ≤ k ∧ k < n ∧ tname k = s
  | 0, k, h => by cases h
  | n + 1, k, h => by
    unfold kindO at h
    split at h
    · rename_i j hj
      cases h
      obtain ⟨a, b, c⟩ := kindO_some hj
      exact ⟨a, by omega, c⟩
    · split at h
      · rename_i h2
        cases h
        exact ⟨h2.1, by omega, h2.2⟩
      · cases h
theorem kindO_none {s : List UInt8} : ∀ {n k : Nat}, kindO s n = none → 1 ≤ k → k < n → tname k ≠ s
  | 0, k, _, _, hk => by omega
  | n + 1, k, h, h1, hk => by
    unfold kindO at h
    split at h
    · cases h
    · rename_i hN
      split at h
      · cases h
      · rename_i h2
        by_cases hkn : k = n
        · subst hkn
          exact fun e => h2 ⟨h1, e⟩
        · exact kindO_none hN h1 (by omega)
theorem kindO_is {s : List UInt8} {k : Nat} (h1 : 1 ≤ k) (h2 : k < 9) (h : tname k = s) : kindO s 9 = some k := by
  cases hk : kindO s 9 with
  | none => exact absurd h (kindO_none hk h1 h2)
  | some j =>
    obtain ⟨a, b, c⟩ := kindO_some hk
    rw [tname_inj b h2 (c.trans h.symm)]
def KindEnd (s : List UInt8) (w : World) (e : Ending) (w' : World) : Prop := e = .returned (.tuple #[.int .i64 ((kindO s 9).getD 0 : Nat), .bool (kindO s 9).isSome]) ∧ w = w'
set_option maxHeartbeats 1000000 in
theorem kindOf_any {w : World} (hb : Bas w) (s : List UInt8) : Calls Tryd.prog 22 #[.string (toBA s)] w (KindEnd s w) := by
  have hb' := Lib.hid hb
  obtain ⟨S, hS⟩ : ∃ S, S = toBA s := ⟨_, rfl⟩
  rw [← hS]
  have hS' := Lib.hid hS
  clear hb hS
  go_enter Tryd.func22, Tryd.ntmps22
  go_wp2
  go_loopw [4] (fun i wr => ∃ k : Nat, 1 ≤ k ∧ k ≤ 9 ∧ i = .int .i64 k ∧ kindO s k = none ∧ w = wr) (fun i _ => 9 - (intOf i).toNat)
  case atStart => exact ⟨1, Nat.le_refl _, by omega, rfl, by simp [kindO], rfl⟩
  case round =>
    obtain ⟨k, h1, h9, rfl, hno, rfl⟩ := hrel
    have hno' := Lib.hid hno
    clear hno
    by_cases hk : k ≤ 8
    · have hk' : (k : Int) ≤ 8 := by omega
      have hk9 : (k : Int) < 9 := by omega
      have hk0 : (0 : Int) ≤ (k : Int) := by omega
      have c := hb'.out.names k (by omega)
      obtain ⟨T, hT⟩ : ∃ T, T = toBA (tname k) := ⟨_, rfl⟩
      rw [← hT] at c
      have hbq : (T.toList == S.toList) = decide (tname k = s) := by rw [hT, hS'.out]; exact beq_toBA _ _
      clear hT
      by_cases he : tname k = s
      · rw [decide_eq_true he] at hbq
        have hK := Lib.hid (kindO_is h1 (by omega) he)
        clear he
        go_wp2
        go_ret2
        exact ⟨by rw [hK.out]; rfl, rfl⟩
      · rw [decide_eq_false he] at hbq
        have hnx := Lib.hid (show kindO s (k + 1) = none by rw [kindO, hno'.out]; exact if_neg (fun h => he h.2))
        clear he
        go_wp2
        go_roundw
        case rel => exact ⟨k + 1, by omega, by omega, by go_num, hnx.out, trivial⟩
        case measure => simp [intOf]; omega
    · obtain rfl : k = 9 := by omega
      go_wp2
      go_ret2
      exact ⟨by rw [hno'.out]; rfl, rfl⟩
end Go.Proofs.YthippdgmbfaijaaDoor
