/- Records of their lines: the program's Read. -/
import Derived.Test.YthippdgmbfaijaaDoorTx9
namespace Go.Proofs.YthippdgmbfaijaaDoor
open Go Go.RowKit

def okR (s : List UInt8) : Prop := (splitL 10 s).getLast? = some [] ∧ ∀ l ∈ (splitL 10 s).dropLast, (parseO l).isSome = true
open Classical in
noncomputable def readO (s : List UInt8) : Option (List RecV) := if okR s then some ((splitL 10 s).dropLast.map fun l => (parseO l).getD zrec) else none
def recCells (l : List RecV) : List Value := l.flatMap RecV.cells
theorem recCells_snoc (l : List RecV) (r : RecV) : recCells (l ++ [r]) = recCells l ++ r.cells := by simp [recCells]
def ReadEnd (s : List UInt8) (w : World) (e : Ending) (w' : World) : Prop :=
  match readO s with
  | none => e = .returned (.tuple #[.slice none 0 0, .int .i64 2]) ∧ Only (fun _ => False) w w'
  | some l => ∃ p cap h, e = .returned (.tuple #[.slice p l.length cap, .int .i64 0]) ∧ Win w' 24 7 (.slice p l.length cap) h l.length (recCells l) ∧ (∀ k, h = some k → w.heap.size ≤ k) ∧ Only (fun _ => False) w w'
theorem read_no {s : List UInt8} (h : ¬ okR s) : readO s = none := if_neg h
/-- Behind some lines that were read. -/
structure Upto (s : List UInt8) (done : List RecV) (rest : List UInt8) : Prop where
  ex : ∃ ls : List (List UInt8), splitL 10 s = ls ++ splitL 10 rest ∧ ls.map parseO = done.map some
theorem Upto.first (s : List UInt8) : Upto s [] s := ⟨[], rfl, rfl⟩
theorem Upto.done {s : List UInt8} {d : List RecV} (h : Upto s d []) : readO s = some d := by
  obtain ⟨ls, h1, h2⟩ := h.ex
  have h3 : splitL 10 s = ls ++ [[]] := h1
  have hm : ls.map (fun l => (parseO l).getD zrec) = d := by
    have := congrArg (List.map (fun o => Option.getD o zrec)) h2
    simpa [List.map_map, Function.comp_def] using this
  have hall : ∀ l ∈ ls, (parseO l).isSome = true := fun l hl => by
    have : parseO l ∈ ls.map parseO := List.mem_map_of_mem hl
    rw [h2, List.mem_map] at this
    obtain ⟨r, _, hr⟩ := this
    rw [← hr]
    rfl
  unfold readO
  rw [if_pos ⟨by rw [h3]; simp, by rw [h3, List.dropLast_concat]; exact hall⟩, h3, List.dropLast_concat, hm]
theorem Upto.next {s : List UInt8} {d : List RecV} {a r : List UInt8} {x : RecV} (h : Upto s d (a ++ 10 :: r)) (ha : 10 ∉ a) (hx : parseO a = some x) : Upto s (d ++ [x]) r := by
  obtain ⟨ls, h1, h2⟩ := h.ex
  refine ⟨ls ++ [a], by rw [h1, splitL_at 10 r a ha, List.append_assoc]; rfl, by rw [List.map_append, List.map_append, h2]; simp [hx]⟩
theorem Upto.bad {s : List UInt8} {d : List RecV} {a r : List UInt8} (h : Upto s d (a ++ 10 :: r)) (ha : 10 ∉ a) (hx : parseO a = none) : readO s = none := by
  obtain ⟨ls, h1, h2⟩ := h.ex
  refine read_no fun hk => ?_
  have hm : a ∈ (splitL 10 s).dropLast := by
    rw [h1, splitL_at 10 r a ha, List.dropLast_append_of_ne_nil (by simp)]
    refine List.mem_append_right _ ?_
    cases hq : splitL 10 r with
    | nil => exact absurd hq (splitL_ne 10 r)
    | cons q qs => simp [List.dropLast]
  have := hk.2 a hm
  rw [hx] at this
  cases this
theorem Upto.cut {s : List UInt8} {d : List RecV} {rest : List UInt8} (h : Upto s d rest) (hr : 10 ∉ rest) (hne : rest ≠ []) : readO s = none := by
  obtain ⟨ls, h1, h2⟩ := h.ex
  refine read_no fun hk => ?_
  have := hk.1
  rw [h1, splitL_not 10 rest hr] at this
  simp at this
  exact hne this
theorem infoR : (Tryd.prog.info? 24).map (fun i => (i.zero, i.size, i.bytes)) = some (some (Value.agg #[.int .i64 0, .int .i64 0, .int .i64 0, .int .i64 0, .int .i64 0, .int .i64 0, .int .i64 0]), 7, 56) := by kernel_rfl
theorem row_sevenR {w : World} {X : Nat} {a b c d f g h : Value} {e : TypeId} (hh : w.heap[X]? = some (.cells #[a, b, c, d, f, g, h] e (0, 0))) : ∀ j u, [a, b, c, d, f, g, h][j]? = some u → w.cell? ((⟨X, 0, none⟩ : Addr).add j) = some u := fun j u hu => by
  rw [Addr.add_lit, Nat.zero_add]
  exact row_cell (L := [a, b, c, d, f, g, h]) hh hu
def slen : Value → Nat
  | .string s => s.size
  | _ => 0

set_option maxRecDepth 100000 in
set_option maxHeartbeats 4000000 in
theorem read_any {w : World} (hb : Bas w) (s : List UInt8) (hl : s.length ≤ 1000000) : Calls Tryd.prog 10 #[.string (toBA s)] w (ReadEnd s w) := by
  have hb' := Lib.hid hb
  clear hb
  go_enter Tryd.func10, Tryd.ntmps10
  go_wp2
  go_loopw [0, 4] (fun sv o wr => ∃ (rest : List UInt8) (d : List RecV) (p : Option Addr) (cap : Nat) (h : Option Nat), sv = .string (toBA rest) ∧ o = .slice p d.length cap ∧ rest.length + d.length ≤ s.length ∧ Upto s d rest ∧ Win wr 24 7 (.slice p d.length cap) h d.length (recCells d) ∧ (∀ x, h = some x → w.heap.size ≤ x) ∧ Only (fun _ => False) w wr) (fun sv _ _ => slen sv)
  case atStart => exact ⟨s, [], none, 0, none, rfl, rfl, by simp, Upto.first s, Win.nil _ _ _, (fun x hx => by cases hx), Only.refl _ _⟩
  case round =>
    obtain ⟨rest, d, p, cap, h, rfl, rfl, hlen, hu, hW, hf, hO⟩ := hrel
    obtain ⟨ws, hws⟩ : ∃ ws : World, ws = wr := ⟨_, rfl⟩
    subst hws
    have hS := Lib.hid (And.intro hW (And.intro hf hO))
    have hu' := Lib.hid hu
    have hbw := Lib.hid (hb'.out.new hO)
    clear hW hf hO hu
    obtain ⟨n, hn⟩ : ∃ n, n = d.length := ⟨_, rfl⟩
    rw [← hn] at hS hlen ⊢
    have hn' := Lib.hid hn
    clear hn
    obtain ⟨R, hR⟩ : ∃ R, R = toBA rest := ⟨_, rfl⟩
    rw [← hR]
    by_cases he : rest = []
    · subst he
      have hE : (R.toList == ([] : List UInt8)) = true := by rw [hR, ByteArray.toList_eq, toBA_list]; rfl
      have hres := Lib.hid hu'.out.done
      clear hR
      go_wp2
      go_ret2
      unfold ReadEnd
      simp only [hres.out]
      rw [← hn'.out]
      exact ⟨p, cap, h, rfl, hS.out⟩
    · have hE : (R.toList == ([] : List UInt8)) = false := by
        rw [hR, ByteArray.toList_eq, toBA_list]
        exact beq_eq_false_iff_ne.2 he
      rcases cut_cases 10 rest with h10 | ⟨a, r, ha, hra⟩
      · have hres := Lib.hid (hu'.out.cut h10 he)
        have hcut := Lib.hid (cut_no hbw.out 10 rest h10 (by omega))
        have hpar := Lib.hid (fun W (hW : Only (fun _ => False) ws W) => parse_any (hbw.out.new hW) rest (by omega))
        unfold CutEnd at hcut
        unfold ParseEnd at hpar
        rw [← hR] at hcut hpar
        clear hR
        obtain ⟨P, hP⟩ : ∃ P, P = (parseO rest).getD zrec := ⟨_, rfl⟩
        rw [← hP] at hpar
        obtain ⟨B, hB⟩ : ∃ B, B = (parseO rest).isSome := ⟨_, rfl⟩
        rw [← hB] at hpar
        clear hP hB
        obtain ⟨p1, p2, p3, p4, p5, p6, p7⟩ := P
        unfold RecV.val at hpar
        dsimp only at hpar
        go_wp2_with fail
        refine hcut.out.mono ?_
        rintro e w1 ⟨rfl, hO1⟩
        have hO1' := Lib.hid hO1
        clear hO1
        go_wp2_with fail
        refine (hpar.out _ hO1'.out).mono ?_
        rintro e w2 ⟨rfl, hO2⟩
        have hO2' := Lib.hid (hO1'.out.trans' hO2)
        clear hO2
        go_wp2
        go_ret2
        unfold ReadEnd
        rw [hres.out]
        exact ⟨rfl, (hS.out.2.2.trans' hO2'.out).alloc _⟩
      · have hcut := Lib.hid (cut_yes hbw.out 10 a r ha (by rw [hra] at hlen; simp at hlen; omega))
        have hal : a.length ≤ 1000000 := by rw [hra] at hlen; simp at hlen; omega
        have hpar := Lib.hid (fun W (hW : Only (fun _ => False) ws W) => parse_any (hbw.out.new hW) a hal)
        rw [hra] at hu' hlen
        have hlen : a.length + 1 + r.length + n ≤ s.length := by
          simp at hlen
          omega
        unfold CutEnd at hcut
        unfold ParseEnd at hpar
        rw [← hra, ← hR] at hcut
        have hsz := Lib.hid (show R.size = a.length + 1 + r.length by rw [hR, toBA_size, hra]; simp; omega)
        obtain ⟨A, hA⟩ : ∃ A, A = toBA a := ⟨_, rfl⟩
        rw [← hA] at hcut hpar
        clear hR hA he hra
        cases hp : parseO a with
        | none =>
          have hres := Lib.hid (hu'.out.bad ha hp)
          rw [hp] at hpar
          clear hp
          unfold RecV.val zrec at hpar
          go_wp2_with fail
          refine hcut.out.mono ?_
          rintro e w1 ⟨rfl, hO1⟩
          have hO1' := Lib.hid hO1
          clear hO1
          go_wp2_with fail
          refine (hpar.out _ hO1'.out).mono ?_
          rintro e w2 ⟨rfl, hO2⟩
          have hO2' := Lib.hid (hO1'.out.trans' hO2)
          clear hO2
          go_wp2
          go_ret2
          unfold ReadEnd
          rw [hres.out]
          exact ⟨rfl, (hS.out.2.2.trans' hO2'.out).alloc _⟩
        | some x =>
          have hnx := Lib.hid (hu'.out.next ha hp)
          rw [hp] at hpar
          clear hp
          obtain ⟨p1, p2, p3, p4, p5, p6, p7⟩ := x
          unfold RecV.val at hpar
          go_wp2_with fail
          refine hcut.out.mono ?_
          rintro e w1 ⟨rfl, hO1⟩
          have hO1' := Lib.hid hO1
          clear hO1
          go_wp2_with fail
          refine (hpar.out _ hO1'.out).mono ?_
          rintro e w2 ⟨rfl, hO2⟩
          have hO2' := Lib.hid (hO1'.out.trans' hO2)
          clear hO2
          go_wp2_with (at_builtin; go_loud (refine wpList_append_win rfl _ _ 31 rfl 24 (Value.agg #[.int .i64 0, .int .i64 0, .int .i64 0, .int .i64 0, .int .i64 0, .int .i64 0, .int .i64 0]) 7 56 Tryd.underlying31 infoR rfl (by decide) rfl (hS.out.1.kept ((hO2'.out.alloc _).alloc _) (fun _ _ h => h)) _ 1 1 rfl [.int .i64 p1, .int .i64 p2, .int .i64 p3, .int .i64 p4, .int .i64 p5, .int .i64 p6, .int .i64 p7] rfl (fun _ => ⟨_, rfl, row_sevenR (heap_new_at _ _ (by simp))⟩) (by simp [Value.oneCell']) (by unfold maxLen; omega) (by omega) ?_; intro v4 w4 h4 hW4 hO4 hh4; obtain ⟨p4', c4, rfl, _, _⟩ := hW4.out.form))
          go_roundw
          case rel =>
            have hs1 := hS.out.2.2.size
            have hs2 := hO2'.out.size
            refine ⟨r, d ++ [⟨p1, p2, p3, p4, p5, p6, p7⟩], p4', c4, h4, rfl, ?_, ?_, hnx.out, ?_, ?_, ?_⟩
            · rw [List.length_append, ← hn'.out]
              rfl
            · rw [List.length_append, ← hn'.out]
              simp
              omega
            · rw [List.length_append, ← hn'.out, recCells_snoc]
              exact hW4.out
            · intro x hx
              rcases hh4.out with rfl | ⟨g, hg, hge⟩
              · exact hS.out.2.1 x hx
              · rw [hg] at hx
                cases hx
                simp only [alloc_size] at hge
                omega
            · exact (((hS.out.2.2.trans' hO2'.out).alloc _).alloc _).trans hO4.out (fun x hx e => by have := hS.out.2.1 x e.symm; omega)
          case measure => simp [slen, toBA_size, hsz.out]; try omega
end Go.Proofs.YthippdgmbfaijaaDoor
