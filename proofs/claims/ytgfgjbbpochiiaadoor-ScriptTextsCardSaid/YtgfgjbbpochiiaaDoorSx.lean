/- What the library's calls answer here: numbers as text, and back; words. -/
import Derived.Test.YtgfgjbbpochiiaaDoorShelf
import Derived.Test.YtgfgjbbpochiiaaDoorRows
import Derived.Test.YtgfgjbbpochiiaaDoorSp
import Derived.Test.YtgfgjbbpochiiaaDoorWd
import Derived.Test.YtgfgjbbpochiiaaDoorWin
import Derived.Test.YtgfgjbbpochiiaaDoorTail
import Derived.Test.YtgfgjbbpochiiaaDoorRowed
import Derived.StillTailTactics
import Derived.BigQuiet
import Derived.BigRegion
import Derived.ProofKit
import Derived.Outline
import Derived.RegionTactic
import Derived.Deep.RegionLaw
import Derived.Deep.RegionWith
import Derived.Deep.QuietTactic
import Derived.Deep.CutRange
import Derived.Deep.DeepCutAuto
import Derived.Deep.DrawnRows
import Derived.KernelRfl
import Derived.WalkLawsBesides
import Derived.WalkSpells
import Derived.WalkSmall
import Derived.OwnWalk
import Derived.IntWalk
import Derived.OpenShut
import Derived.LoopTactic
import Derived.Deep.LoopGhost
import Derived.Lib.LaidTab
import Derived.Laws.IdiomStrings
namespace Go.Proofs.YtgfgjbbpochiiaaDoor
open Go Go.RowKit

def sv (l : List UInt8) : Value := .string (toBA l)
theorem only_set (w : World) (b i : Nat) (v : Value) : Only (fun k => k = b) w (w.setCell ⟨b, i, none⟩ v) := Only.setCell (Only.refl (fun k => k = b) w) (p := ⟨b, i, none⟩) (fun _ => rfl) v
def RetI (v : Int) (w : World) (e : Ending) (w' : World) : Prop := e = .returned (.int .i64 v) ∧ w = w'
def GrowI (v : Int) (w : World) (e : Ending) (w' : World) : Prop := e = .returned (.int .i64 v) ∧ Only (fun _ => False) w w'
def RetB (v : Bool) (w : World) (e : Ending) (w' : World) : Prop := e = .returned (.bool v) ∧ w = w'
def GrowB (v : Bool) (w : World) (e : Ending) (w' : World) : Prop := e = .returned (.bool v) ∧ Only (fun _ => False) w w'
def GrowS (l : List UInt8) (w : World) (e : Ending) (w' : World) : Prop := e = .returned (.string (toBA l)) ∧ Only (fun _ => False) w w'
theorem ret_int {k : IntKind} {a b : Int} (h : a = b) : Ending.returned (.int k a) = .returned (.int k b) := by rw [h]
theorem ret_bool {a b : Bool} (h : a = b) : Ending.returned (.bool a) = .returned (.bool b) := by rw [h]

/-- The tables, and the library's variables. -/
structure Bas (w : World) : Prop where
  names : ∀ k, k < 6 → w.cell? ⟨0, 2 * k, none⟩ = some (.string (toBA (kname k)))
  nums : ∀ k, k < 6 → w.cell? ⟨0, 2 * k + 1, none⟩ = some (.int .i64 (knums k))
  maxl : ∃ m, w.cell? ⟨1, 0, none⟩ = some (.int .i64 m)
  tab : Lib.TabIs Tryd.prog w "internal/strconv.uint64pow10" .u64 Lib.pow10Tab
  errS : ∃ te pe, w.cell? ⟨3, 0, none⟩ = some (.iface te pe)
  errR : ∃ te pe, w.cell? ⟨4, 0, none⟩ = some (.iface te pe)
theorem gTab : Tryd.prog.globalNamed "internal/strconv.uint64pow10" = some 2 := by kernel_rfl
theorem tab_new {w w' : World} (h : Lib.TabIs Tryd.prog w "internal/strconv.uint64pow10" .u64 Lib.pow10Tab) (ho : Only (fun _ => False) w w') : Lib.TabIs Tryd.prog w' "internal/strconv.uint64pow10" .u64 Lib.pow10Tab := by
  have hc := h.cell gTab 0 (by decide)
  have hlt : 2 < w.heap.size := World.block_lt_of_cell? w _ hc
  unfold Lib.TabIs World.var? at *
  rw [gTab, Option.bind_some] at h ⊢
  rw [show w'.heap[2]? = w.heap[2]? from ho.block 2 hlt (fun h => h)]
  exact h
theorem Bas.new {w w' : World} (h : Bas w) (ho : Only (fun _ => False) w w') : Bas w' :=
  ⟨fun k hk => ho.cell (h.names k hk) (fun h => h), fun k hk => ho.cell (h.nums k hk) (fun h => h), by obtain ⟨m, hm⟩ := h.maxl; exact ⟨m, ho.cell hm (fun h => h)⟩, tab_new h.tab ho,
    by obtain ⟨te, pe, hm⟩ := h.errS; exact ⟨te, pe, ho.cell hm (fun h => h)⟩, by obtain ⟨te, pe, hm⟩ := h.errR; exact ⟨te, pe, ho.cell hm (fun h => h)⟩⟩

theorem itoa_any {w : World} (hb : Bas w) (n : Int) (hn : fitI n) : Calls Tryd.prog 20 #[.int .i64 n] w (GrowS (Lib.itoa n) w) := by
  refine (Tryd.strconv_Itoa n hn.1 hn.2 w hb.tab).mono ?_
  rintro e w' ⟨rfl, k, os, rfl⟩
  refine ⟨rfl, ?_⟩
  have h : ∀ (v : World), Only (fun _ => False) v (Sort.grow v os) := fun v => ⟨rfl, rfl, rfl, by simp [Sort.grow], fun k hk _ => by simp only [Sort.grow]; rw [Array.getElem?_append_left hk]⟩
  exact ((Only.refl _ w).drewN k).trans' (h _)

def CutEnd (a r : List UInt8) (b : Bool) (w : World) (e : Ending) (w' : World) : Prop := e = .returned (.tuple #[.string (toBA a), .string (toBA r), .bool b]) ∧ Only (fun _ => False) w w'
theorem cut_yes {w : World} (hb : Bas w) (c : UInt8) (a r : List UInt8) (h : c ∉ a) (hl : a.length + r.length ≤ 4000000000) : Calls Tryd.prog 30 #[.string (toBA (a ++ c :: r)), .string ⟨#[c]⟩] w (CutEnd a r true w) := by
  obtain ⟨m, hm⟩ := hb.maxl
  refine (Tryd.strings_Cut (toBA (a ++ c :: r)) ⟨#[c]⟩ m w (by rw [toBA_size]; simp; omega) hm).mono ?_
  rintro e w' ⟨rfl, n, rfl⟩
  rw [show (toBA (a ++ c :: r)).data.toList = a ++ c :: r from toBA_list _, show (⟨#[c]⟩ : ByteArray).data.toList = [c] from rfl, cut_at c a r h]
  exact ⟨rfl, (Only.refl _ w).drewN n⟩
theorem cut_no {w : World} (hb : Bas w) (c : UInt8) (a : List UInt8) (h : c ∉ a) (hl : a.length ≤ 4000000000) : Calls Tryd.prog 30 #[.string (toBA a), .string ⟨#[c]⟩] w (CutEnd a [] false w) := by
  obtain ⟨m, hm⟩ := hb.maxl
  refine (Tryd.strings_Cut (toBA a) ⟨#[c]⟩ m w (by rw [toBA_size]; omega) hm).mono ?_
  rintro e w' ⟨rfl, n, rfl⟩
  rw [show (toBA a).data.toList = a from toBA_list _, show (⟨#[c]⟩ : ByteArray).data.toList = [c] from rfl, cut_not c a h]
  exact ⟨rfl, (Only.refl _ w).drewN n⟩

theorem only_bytes (w : World) (e : TypeId) (s : ByteArray) : Only (fun _ => False) w (Lib.bytesWorld w e s) := by
  refine ⟨?_, ?_, ?_, by rw [Lib.bytesWorld_size]; omega, fun k hk _ => Lib.bytesWorld_at_old w e s k hk⟩
  all_goals
    unfold Lib.bytesWorld World.freeze
    split <;> rfl


def beyond (n : Int) : Bool := !decide (inN n)
theorem isBeyond_any (n : Int) (w : World) : Calls Tryd.prog 18 #[.int .i64 n] w (RetB (beyond n) w) := by
  by_cases h1 : n < 0
  · have e := Lib.hid (show beyond n = true by unfold beyond; rw [decide_eq_false (by unfold inN; omega)]; rfl)
    go_enter Tryd.func18, Tryd.ntmps18
    go_wp2
    go_ret
    exact ⟨ret_bool e.out.symm, rfl⟩
  · by_cases h2 : (999999999 : Int) < n
    · have e := Lib.hid (show beyond n = true by unfold beyond; rw [decide_eq_false (by unfold inN; omega)]; rfl)
      go_enter Tryd.func18, Tryd.ntmps18
      go_wp2
      go_ret
      exact ⟨ret_bool e.out.symm, rfl⟩
    · have e := Lib.hid (show beyond n = false by unfold beyond; rw [decide_eq_true (by unfold inN; omega)]; rfl)
      go_enter Tryd.func18, Tryd.ntmps18
      go_wp2
      go_ret
      exact ⟨ret_bool e.out.symm, rfl⟩
theorem isOther_any (n : Int) (w : World) : Calls Tryd.prog 19 #[.int .i64 n] w (RetB (n != 0) w) := by
  go_enter Tryd.func19, Tryd.ntmps19
  go_wp2
  go_ret
  exact ⟨rfl, rfl⟩
theorem in_any (n : Int) (w : World) : Calls Tryd.prog 23 #[.int .i64 n] w (RetB (decide (inN n)) w) := by
  by_cases h1 : 0 ≤ n
  · by_cases h2 : n ≤ 999999999
    · have e := Lib.hid (show decide (inN n) = true from decide_eq_true ⟨h1, h2⟩)
      go_enter Tryd.func23, Tryd.ntmps23
      go_wp2
      go_ret
      exact ⟨ret_bool e.out.symm, rfl⟩
    · have e := Lib.hid (show decide (inN n) = false from decide_eq_false (by unfold inN; omega))
      go_enter Tryd.func23, Tryd.ntmps23
      go_wp2
      go_ret
      exact ⟨ret_bool e.out.symm, rfl⟩
  · have e := Lib.hid (show decide (inN n) = false from decide_eq_false (by unfold inN; omega))
    go_enter Tryd.func23, Tryd.ntmps23
    go_wp2
    go_ret
    exact ⟨ret_bool e.out.symm, rfl⟩

/-- A number of its text: what is told where it is one, and that it is told where it isn't. -/
def NumEnd (s : List UInt8) (w : World) (e : Ending) (w' : World) : Prop := e = .returned (.tuple #[.int .i64 ((numS s).getD 0), .bool (numS s).isSome]) ∧ Only (fun _ => False) w w'
theorem numS_of_ok {s : List UInt8} {v : Int} (hA : Lib.atoiAll s = .ok v) : numS s = if inN v ∧ Lib.itoa v = s then some v else none := by
  by_cases h : inN v ∧ Lib.itoa v = s
  · rw [if_pos h, ← h.2]
    exact numS_itoa h.1
  · rw [if_neg h]
    cases hN : numS s with
    | none => rfl
    | some u =>
      obtain ⟨h1, h2⟩ := numS_some hN
      rw [← h2, atoi_itoa h1.fit] at hA
      cases hA
      exact absurd ⟨h1, h2⟩ h
theorem numS_of_not {s : List UInt8} (hA : ∀ v, Lib.atoiAll s ≠ .ok v) : numS s = none := by
  cases hN : numS s with
  | none => rfl
  | some u =>
    obtain ⟨h1, h2⟩ := numS_some hN
    exact absurd (by rw [← h2]; exact atoi_itoa h1.fit) (hA u)
set_option maxRecDepth 100000 in
theorem numberOf_any {w : World} (hb : Bas w) (s : List UInt8) (hl : s.length ≤ 1000000) : Calls Tryd.prog 29 #[.string (toBA s)] w (NumEnd s w) := by
  have q2 := Lib.hid (fun W n (hW : Only (fun _ => False) w W) (hn : fitI n) => itoa_any (hb.new hW) n hn)
  have hsz : (toBA s).size = s.length := toBA_size s
  cases hA : Lib.atoiAll s with
  | ok v =>
    have hfit : fitI v := Lib.atoiAll_bounds hA
    have q1 := Lib.hid (Tryd.strconv_Atoi_ok (toBA s) (by omega) v (by rw [toBA_list]; exact hA) w)
    have q4 := Lib.hid (isBeyond_any v)
    have hans := Lib.hid (numS_of_ok hA)
    have hbq := Lib.hid (show ((toBA (Lib.itoa v)).toList == (toBA s).toList) = decide (Lib.itoa v = s) from beq_toBA _ _)
    obtain ⟨S, hS⟩ : ∃ S, S = toBA s := ⟨_, rfl⟩
    rw [← hS] at q1 hbq hsz ⊢
    obtain ⟨T, hT⟩ : ∃ T, T = toBA (Lib.itoa v) := ⟨_, rfl⟩
    have q3 := Lib.hid (fun W (hW : Only (fun _ => False) w W) => q2.out W v hW hfit)
    unfold GrowS at q3
    rw [← hT] at q3 hbq
    by_cases hin : inN v
    · have hby : beyond v = false := by unfold beyond; rw [decide_eq_true hin]; rfl
      rw [hby] at q4
      by_cases he : Lib.itoa v = s
      · have hB2 : (T.toList == S.toList) = true := by rw [hbq.out]; exact decide_eq_true he
        have hres := Lib.hid (show numS s = some v by rw [hans.out]; exact if_pos ⟨hin, he⟩)
        clear hS hT hA hb q2 he hin hby
        go_enter Tryd.func29, Tryd.ntmps29
        go_wp2_with fail
        refine q1.out.mono ?_
        rintro e w1 ⟨rfl, hw1⟩
        have hO1 := Lib.hid (show Only (fun _ => False) w w1 from by
          rcases hw1 with rfl | ⟨t, rfl⟩
          · exact Only.refl _ _
          · exact only_bytes w 5 t)
        clear hw1
        go_wp2_with fail
        refine (q4.out w1).mono ?_
        rintro e w2 ⟨rfl, rfl⟩
        go_wp2_with fail
        refine (q3.out _ hO1.out).mono ?_
        rintro e w2 ⟨rfl, hO2⟩
        have hO2' := Lib.hid (hO1.out.trans' hO2)
        clear hO2
        go_wp2
        go_ret2
        exact ⟨by rw [hres.out]; rfl, hO2'.out⟩
      · have hB2 : (T.toList == S.toList) = false := by rw [hbq.out]; exact decide_eq_false he
        have hres := Lib.hid (show numS s = none by rw [hans.out]; exact if_neg (fun h => he h.2))
        clear hS hT hA hb q2 he hin hby
        go_enter Tryd.func29, Tryd.ntmps29
        go_wp2_with fail
        refine q1.out.mono ?_
        rintro e w1 ⟨rfl, hw1⟩
        have hO1 := Lib.hid (show Only (fun _ => False) w w1 from by
          rcases hw1 with rfl | ⟨t, rfl⟩
          · exact Only.refl _ _
          · exact only_bytes w 5 t)
        clear hw1
        go_wp2_with fail
        refine (q4.out w1).mono ?_
        rintro e w2 ⟨rfl, rfl⟩
        go_wp2_with fail
        refine (q3.out _ hO1.out).mono ?_
        rintro e w2 ⟨rfl, hO2⟩
        have hO2' := Lib.hid (hO1.out.trans' hO2)
        clear hO2
        go_wp2
        go_ret2
        exact ⟨by rw [hres.out]; rfl, hO2'.out⟩
    · have hby : beyond v = true := by unfold beyond; rw [decide_eq_false hin]; rfl
      rw [hby] at q4
      have hres := Lib.hid (show numS s = none by rw [hans.out]; exact if_neg (fun h => hin h.1))
      clear hS hT hA hb q2 hin hby
      go_enter Tryd.func29, Tryd.ntmps29
      go_wp2_with fail
      refine q1.out.mono ?_
      rintro e w1 ⟨rfl, hw1⟩
      have hO1 := Lib.hid (show Only (fun _ => False) w w1 from by
        rcases hw1 with rfl | ⟨t, rfl⟩
        · exact Only.refl _ _
        · exact only_bytes w 5 t)
      clear hw1
      go_wp2_with fail
      refine (q4.out w1).mono ?_
      rintro e w2 ⟨rfl, rfl⟩
      go_wp2
      go_ret2
      exact ⟨by rw [hres.out]; rfl, hO1.out⟩
  | range =>
    obtain ⟨te, pe, hev⟩ := hb.errR
    have q1 := Lib.hid (Tryd.strconv_Atoi_range (toBA s) (by omega) (by rw [toBA_list]; exact hA) (.iface te pe) w hev (.inr ⟨te, pe, rfl⟩))
    have hno' := Lib.hid (numS_of_not (s := s) (fun v h => by rw [hA] at h; cases h))
    obtain ⟨S, hS⟩ : ∃ S, S = toBA s := ⟨_, rfl⟩
    rw [← hS] at q1 ⊢
    obtain ⟨z, hz⟩ : ∃ z, z = Lib.atoiSat S.data.toList := ⟨_, rfl⟩
    rw [← hz] at q1
    clear hz
    clear hS hA hb q2 hev hsz
    go_enter Tryd.func29, Tryd.ntmps29
    go_wp2_with fail
    refine q1.out.mono ?_
    rintro e w1 ⟨N, rfl, -, -, hbl⟩
    have hO1 := Lib.hid (Only.of_new hbl (fun _ => False))
    clear hbl
    go_wp2
    go_ret2
    exact ⟨by rw [hno'.out]; rfl, hO1.out⟩
  | _ =>
    obtain ⟨te, pe, hev⟩ := hb.errS
    have q1 := Lib.hid (Tryd.strconv_Atoi_bad (toBA s) (by omega) (by rw [toBA_list]; exact ⟨fun v h => (by rw [hA] at h; cases h), fun h => (by rw [hA] at h; cases h)⟩) (.iface te pe) w hev (.inr ⟨te, pe, rfl⟩))
    have hno' := Lib.hid (numS_of_not (s := s) (fun v h => by rw [hA] at h; cases h))
    obtain ⟨S, hS⟩ : ∃ S, S = toBA s := ⟨_, rfl⟩
    rw [← hS] at q1 ⊢
    clear hS hA hb q2 hev hsz
    go_enter Tryd.func29, Tryd.ntmps29
    go_wp2_with fail
    refine q1.out.mono ?_
    rintro e w1 ⟨N, rfl, -, -, hbl⟩
    have hO1 := Lib.hid (Only.of_new hbl (fun _ => False))
    clear hbl
    go_wp2
    go_ret2
    exact ⟨by rw [hno'.out]; rfl, hO1.out⟩

def KindEnd (s : List UInt8) (w : World) (e : Ending) (w' : World) : Prop := e = .returned (.tuple #[.int .i64 ((kindO s 6).getD 0 : Nat), .bool (kindO s 6).isSome]) ∧ w = w'
set_option maxHeartbeats 1000000 in
theorem kindOf_any {w : World} (hb : Bas w) (s : List UInt8) : Calls Tryd.prog 27 #[.string (toBA s)] w (KindEnd s w) := by
  have hb' := Lib.hid hb
  obtain ⟨S, hS⟩ : ∃ S, S = toBA s := ⟨_, rfl⟩
  rw [← hS]
  have hS' := Lib.hid hS
  clear hb hS
  go_enter Tryd.func27, Tryd.ntmps27
  go_wp2
  go_loopw [4] (fun i wr => ∃ k : Nat, 1 ≤ k ∧ k ≤ 6 ∧ i = .int .i64 k ∧ kindO s k = none ∧ w = wr) (fun i _ => 6 - (intOf i).toNat)
  case atStart => exact ⟨1, Nat.le_refl _, by omega, rfl, by simp [kindO], rfl⟩
  case round =>
    obtain ⟨k, h1, h9, rfl, hno, rfl⟩ := hrel
    have hno' := Lib.hid hno
    clear hno
    by_cases hk : k ≤ 5
    · have hk' : (k : Int) ≤ 5 := by omega
      have hk9 : (k : Int) < 6 := by omega
      have hk0 : (0 : Int) ≤ (k : Int) := by omega
      have c := hb'.out.names k (by omega)
      rw [Nat.mul_comm] at c
      obtain ⟨T, hT⟩ : ∃ T, T = toBA (kname k) := ⟨_, rfl⟩
      rw [← hT] at c
      have hbq : (T.toList == S.toList) = decide (kname k = s) := by rw [hT, hS'.out]; exact beq_toBA _ _
      clear hT
      by_cases he : kname k = s
      · rw [decide_eq_true he] at hbq
        have hK := Lib.hid (kindO_is h1 (by omega) he)
        clear he
        go_wp2
        go_ret2
        exact ⟨by rw [hK.out]; rfl, rfl⟩
      · rw [decide_eq_false he] at hbq
        have hnx := Lib.hid (show kindO s (k + 1) = none by rw [kindO, hno'.out]; exact if_neg (fun h => he h.2))
        clear he
        go_wp2
        go_roundw
        case rel => exact ⟨k + 1, by omega, by omega, by go_num, hnx.out, trivial⟩
        case measure => simp [intOf]; omega
    · obtain rfl : k = 6 := by omega
      go_wp2
      go_ret2
      exact ⟨by rw [hno'.out]; rfl, rfl⟩

def LastEnd (s : List UInt8) (w : World) (e : Ending) (w' : World) : Prop := e = .returned (.tuple #[.int .i64 ((lastO s).getD 0), .bool (lastO s).isSome]) ∧ Only (fun _ => False) w w'
theorem lastO_num {r : List UInt8} : lastO ((untilW ++ [32]) ++ r) = numS r := by
  cases hN : numS r with
  | some v =>
    obtain ⟨h1, h2⟩ := numS_some hN
    exact lastO_is ⟨h1, by rw [← h2]; rfl⟩
  | none =>
    refine lastO_no fun v hv => ?_
    exact numS_none hN hv.1 (List.append_cancel_left hv.2)
theorem lastOf_any {w : World} (hb : Bas w) (s : List UInt8) (hl : s.length ≤ 1000000) : Calls Tryd.prog 31 #[.string (toBA s)] w (LastEnd s w) := by
  have q1 := Lib.hid (Tryd.strings_CutPrefix (toBA s) ⟨#[117, 110, 116, 105, 108, 32]⟩ w)
  rw [toBA_list] at q1
  by_cases hp : Lib.hasPrefix s [117, 110, 116, 105, 108, 32] = true
  · obtain ⟨r, hr⟩ := List.isPrefixOf_iff_prefix.1 hp
    have ht : Lib.trimPrefix s [117, 110, 116, 105, 108, 32] = r := by
      unfold Lib.trimPrefix
      rw [if_pos hp, ← hr]
      rfl
    have hres := Lib.hid (show lastO s = numS r by rw [← hr]; exact lastO_num)
    have q2 := Lib.hid (numberOf_any hb r (by rw [← hr] at hl; simp at hl; omega))
    have q1 := Lib.hid (show Calls Tryd.prog 46 #[.string (toBA s), .string ⟨#[117, 110, 116, 105, 108, 32]⟩] w (fun e w' => e = .returned (.tuple #[.string (toBA r), .bool true]) ∧ w' = w) from by
      have := q1.out
      simp only [ht, hp] at this
      exact this)
    unfold NumEnd at q2
    clear ht hr hb hl hp
    go_enter Tryd.func31, Tryd.ntmps31
    go_wp2_with fail
    refine q1.out.mono ?_
    rintro e w' ⟨rfl, hw⟩
    subst hw
    go_wp2_with fail
    refine q2.out.mono ?_
    rintro e w2 ⟨rfl, hO⟩
    have hO' := Lib.hid hO
    clear hO
    go_wp2
    go_ret2
    unfold LastEnd
    rw [hres.out]
    exact ⟨rfl, hO'.out⟩
  · have hp : Lib.hasPrefix s [117, 110, 116, 105, 108, 32] = false := by simpa using hp
    have hres := Lib.hid (show lastO s = none from lastO_no fun v hv => by
      rw [← hv.2] at hp
      have : Lib.hasPrefix (lastL v) [117, 110, 116, 105, 108, 32] = true := List.isPrefixOf_iff_prefix.2 ⟨Lib.itoa v, rfl⟩
      rw [hp] at this
      cases this)
    have q1 := Lib.hid (show Calls Tryd.prog 46 #[.string (toBA s), .string ⟨#[117, 110, 116, 105, 108, 32]⟩] w (fun e w' => e = .returned (.tuple #[.string (toBA (Lib.trimPrefix s [117, 110, 116, 105, 108, 32])), .bool false]) ∧ w' = w) from by
      have := q1.out
      simp only [hp] at this
      exact this)
    obtain ⟨T, hT⟩ : ∃ T, T = toBA (Lib.trimPrefix s [117, 110, 116, 105, 108, 32]) := ⟨_, rfl⟩
    rw [← hT] at q1
    clear hT hp hb hl
    go_enter Tryd.func31, Tryd.ntmps31
    go_wp2_with fail
    refine q1.out.mono ?_
    rintro e w' ⟨rfl, hw⟩
    subst hw
    go_wp2
    go_ret2
    unfold LastEnd
    rw [hres.out]
    exact ⟨rfl, Only.refl _ _⟩

end Go.Proofs.YtgfgjbbpochiiaaDoor
