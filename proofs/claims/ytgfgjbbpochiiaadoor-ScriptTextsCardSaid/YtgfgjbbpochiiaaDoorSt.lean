/- A script of its text: the program's Read, walked. -/
import Derived.Test.YtgfgjbbpochiiaaDoorSs1
namespace Go.Proofs.YtgfgjbbpochiiaaDoor
open Go Go.RowKit

theorem take_snoc (d : List EvV) (x : EvV) (h : d.length ≤ 256) : (d ++ [x]).take 257 = d.take 257 ++ [x] := by
  rw [List.take_of_length_le (by simp; omega), List.take_of_length_le (by omega)]
theorem take_full (d : List EvV) (x : EvV) (h : 256 < d.length) : (d ++ [x]).take 257 = d.take 257 := by
  rw [List.take_append_of_le_length (by omega)]
set_option maxRecDepth 100000 in
set_option maxHeartbeats 4000000 in
theorem read_any {w : World} (hb : Bas w) (s : List UInt8) (hl : s.length ≤ 1000000) : Calls Tryd.prog 10 #[.string (toBA s)] w (ReadEnd s w) := by
  have hb' := Lib.hid hb
  clear hb
  go_enter Tryd.func10, Tryd.ntmps10
  go_wp2
  go_loopw [0, 5] (fun sv o wr => ∃ (rest : List UInt8) (d : List EvV) (p : Option Addr) (n cap : Nat) (h : Option Nat), sv = .string (toBA rest) ∧ n = (d.take 257).length ∧ o = .slice p n cap ∧ rest.length ≤ s.length ∧ Upto s d rest ∧ Win wr 23 5 (.slice p n cap) h n (evCells (d.take 257)) ∧ (∀ x, h = some x → w.heap.size ≤ x) ∧ Only (fun _ => False) w wr) (fun sv _ _ => slen sv)
  case atStart => exact ⟨s, [], none, 0, 0, none, rfl, rfl, rfl, Nat.le_refl _, Upto.first s, Win.nil _ _ _, (fun x hx => by cases hx), Only.refl _ _⟩
  case round =>
    obtain ⟨rest, d, p, n, cap, h, rfl, hn, rfl, hlen, hu, hW, hf, hO⟩ := hrel
    obtain ⟨ws, hws⟩ : ∃ ws : World, ws = wr := ⟨_, rfl⟩
    subst hws
    have hS := Lib.hid (And.intro hW (And.intro hf hO))
    have hu' := Lib.hid hu
    have hn' := Lib.hid hn
    have hnd := Lib.hid (show n = min 257 d.length by rw [hn, List.length_take])
    have hn257 : n ≤ 257 := by rw [hnd.out]; omega
    have hbw := Lib.hid (hb'.out.new hO)
    clear hW hf hO hu hn
    obtain ⟨R, hR⟩ : ∃ R, R = toBA rest := ⟨_, rfl⟩
    rw [← hR]
    rcases cut_cases 10 rest with h10 | ⟨a, r, ha, hra⟩
    · have hres := Lib.hid (hu'.out.cut h10)
      have hcut := Lib.hid (cut_no hbw.out 10 rest h10 (by omega))
      unfold CutEnd at hcut
      rw [← hR] at hcut
      clear hR
      go_wp2_with fail
      refine hcut.out.mono ?_
      rintro e w1 ⟨rfl, hO1⟩
      have hO1' := Lib.hid hO1
      clear hO1
      go_wp2
      go_ret3
      exact readEnd_no hres.out (hS.out.2.2.trans' hO1'.out)
    · have hal : a.length + 1 + r.length ≤ s.length := by rw [hra] at hlen; simp at hlen; omega
      have hcut := Lib.hid (cut_yes hbw.out 10 a r ha (by omega))
      have hlst := Lib.hid (fun W (hW : Only (fun _ => False) ws W) => lastOf_any (hbw.out.new hW) a (by omega))
      have hpar := Lib.hid (fun W (hW : Only (fun _ => False) ws W) => parse_any (hbw.out.new hW) a (by omega))
      rw [hra] at hu'
      unfold CutEnd at hcut
      unfold ParseEnd at hpar
      unfold LastEnd at hlst
      rw [← hra, ← hR] at hcut
      have hsz := Lib.hid (show R.size = a.length + 1 + r.length by rw [hR, toBA_size, hra]; simp; omega)
      obtain ⟨A, hA⟩ : ∃ A, A = toBA a := ⟨_, rfl⟩
      rw [← hA] at hcut hpar hlst
      obtain ⟨T, hT⟩ : ∃ T, T = toBA r := ⟨_, rfl⟩
      rw [← hT] at hcut
      have hT' := Lib.hid hT
      have hTE : (T.toList == ([] : List UInt8)) = decide (r = []) := by
        rw [hT, ByteArray.toList_eq, toBA_list]
        by_cases hre : r = [] <;> simp [hre]
      clear hR hA hra hT
      by_cases hend : (lastO a).isSome = true ∧ r = []
      · obtain ⟨hsome, hre⟩ := hend
        obtain ⟨v, hv⟩ := Option.isSome_iff_exists.1 hsome
        rw [hre] at hu'
        have hdone := Lib.hid (hu'.out.done hv)
        rw [hv] at hlst
        rw [decide_eq_true hre] at hTE
        clear hre hsome hv
        have hlst2 := Lib.hid (show ∀ W, Only (fun _ => False) ws W → Calls Tryd.prog 31 #[.string A] W (fun e w' => e = .returned (.tuple #[.int .i64 v, .bool true]) ∧ Only (fun _ => False) W w') from hlst.out)
        clear hlst
        by_cases hn256 : 256 < n
        · have hq := Lib.hid (within_many p n cap v hn256)
          have hd := Lib.hid (show 256 < d.length by have := hnd.out; omega)
          clear hn256 hn257
          go_wp2_with fail
          refine hcut.out.mono ?_
          rintro e w1 ⟨rfl, hO1⟩
          have hO1' := Lib.hid hO1
          clear hO1
          go_wp2_with fail
          refine (hlst2.out _ hO1'.out).mono ?_
          rintro e w2 ⟨rfl, hO2⟩
          have hO2' := Lib.hid (hO1'.out.trans' hO2)
          clear hO2
          go_wp2_with fail
          refine (hq.out w2).mono ?_
          rintro e w3 ⟨rfl, rfl⟩
          go_wp2
          go_ret3
          exact readEnd_many hdone.out hd.out (hS.out.2.2.trans' hO2'.out)
        · have hq := Lib.hid (within_ok p n cap v (by omega))
          have hd := Lib.hid (show d.length ≤ 256 by have := hnd.out; omega)
          clear hn256 hn257
          go_wp2_with fail
          refine hcut.out.mono ?_
          rintro e w1 ⟨rfl, hO1⟩
          have hO1' := Lib.hid hO1
          clear hO1
          go_wp2_with fail
          refine (hlst2.out _ hO1'.out).mono ?_
          rintro e w2 ⟨rfl, hO2⟩
          have hO2' := Lib.hid (hO1'.out.trans' hO2)
          clear hO2
          go_wp2_with fail
          refine (hq.out w2).mono ?_
          rintro e w3 ⟨rfl, rfl⟩
          go_wp2
          go_ret3
          refine readEnd_got hdone.out hd.out ⟨p, cap, h, ?_, ?_, hS.out.2.1, hS.out.2.2.trans' hO2'.out⟩
          · have := hn'.out
            rw [List.take_of_length_le (by have := hd.out; omega)] at this
            rw [this]
            rfl
          · have h1 := hS.out.1.kept hO2'.out (fun _ _ h => h)
            have h2 := hn'.out
            rw [List.take_of_length_le (by have := hd.out; omega)] at h1 h2
            rw [h2] at h1
            exact h1
      · have hbad := Lib.hid (show lastO a = none ∨ r ≠ [] from by
          cases hq : lastO a with
          | none => exact .inl rfl
          | some v => exact .inr fun e => hend ⟨by rw [hq]; rfl, e⟩)
        go_wp2_with fail
        refine hcut.out.mono ?_
        rintro e w1 ⟨rfl, hO1⟩
        have hO1' := Lib.hid hO1
        clear hO1 hend
        obtain ⟨V, hV⟩ : ∃ V, V = (lastO a).getD 0 := ⟨_, rfl⟩
        obtain ⟨B, hB⟩ : ∃ B, B = (lastO a).isSome := ⟨_, rfl⟩
        rw [← hV, ← hB] at hlst
        have hB' := Lib.hid hB
        clear hV hB
        go_wp2_with fail
        refine (hlst.out _ hO1'.out).mono ?_
        rintro e W2 ⟨rfl, hO2⟩
        have hOc := hO1'.out.trans' hO2
        clear hO2
        go_upto_region 6 with fail
        go_cut [30] from 26 to 29 (fun v wc => v = .bool false ∧ W2 = wc)
        case first =>
          cases B with
          | false =>
            clear hTE
            go_wp2_with fail
            go_meet
            case rel => exact ⟨rfl, rfl⟩
          | true =>
            have hrn : r ≠ [] := hbad.out.resolve_left (fun e => by have := hB'.out; rw [e] at this; cases this)
            rw [decide_eq_false hrn] at hTE
            clear hrn
            go_wp2_with fail
            go_meet
            case rel => exact ⟨rfl, rfl⟩
        obtain ⟨rfl, rfl⟩ := hcut
        have hOc' := Lib.hid hOc
        clear hOc hTE hlst
        cases hp : evO a with
        | none =>
          have hres := Lib.hid (hu'.out.bad ha hbad.out hp)
          rw [hp] at hpar
          clear hp
          unfold EvV.val zev at hpar
          go_wp2_with fail
          refine (hpar.out _ hOc'.out).mono ?_
          rintro e w3 ⟨rfl, hO3⟩
          have hO3' := Lib.hid (hOc'.out.trans' hO3)
          clear hO3
          go_wp2
          go_ret3
          exact readEnd_no hres.out ((hS.out.2.2.trans' hO3'.out).alloc _)
        | some x =>
          have hnx := Lib.hid (hu'.out.next hp)
          rw [hp] at hpar
          clear hp
          obtain ⟨p1, p2, p3, p4, p5⟩ := x
          unfold EvV.val at hpar
          by_cases hn256 : 256 < n
          · have hn256' : (256 : Int) < (n : Int) := by omega
            have htk := Lib.hid (take_full d ⟨p1, p2, p3, p4, p5⟩ (by have := hnd.out; omega))
            go_wp2_with fail
            refine (hpar.out _ hOc'.out).mono ?_
            rintro e w3 ⟨rfl, hO3⟩
            have hO3' := Lib.hid (hOc'.out.trans' hO3)
            clear hO3
            go_wp2
            go_roundw
            case rel => exact ⟨r, d ++ [⟨p1, p2, p3, p4, p5⟩], p, n, cap, h, by rw [hT'.out], by rw [htk.out]; exact hn'.out, rfl, by omega, hnx.out, by rw [htk.out]; exact hS.out.1.kept (hO3'.out.alloc _) (fun _ _ h => h), hS.out.2.1, (hS.out.2.2.trans' hO3'.out).alloc _⟩
            case measure => simp [slen, hT'.out, toBA_size, hsz.out]; try omega
          · have hn256' : ¬ (256 : Int) < (n : Int) := by omega
            have hdl := Lib.hid (show d.length ≤ 256 by have := hnd.out; omega)
            have htk := Lib.hid (take_snoc d ⟨p1, p2, p3, p4, p5⟩ hdl.out)
            go_wp2_with fail
            refine (hpar.out _ hOc'.out).mono ?_
            rintro e w3 ⟨rfl, hO3⟩
            have hO3' := Lib.hid (hOc'.out.trans' hO3)
            clear hO3
            go_wp2_with (at_builtin; go_loud (refine wpList_append_win rfl _ _ 30 rfl 23 (Value.agg #[.int .i64 0, .int .i64 0, .int .i64 0, .int .i64 0, .int .i64 0]) 5 40 Tryd.underlying30 infoE rfl (by decide) rfl (hS.out.1.kept ((hO3'.out.alloc _).alloc _) (fun _ _ h => h)) _ 1 1 rfl [.int .i64 p1, .int .i64 p2, .int .i64 p3, .int .i64 p4, .int .i64 p5] rfl (fun _ => ⟨_, rfl, row_five (heap_new_at _ _ (by simp))⟩) (by simp [Value.oneCell']) (by unfold maxLen; omega) (by omega) ?_; intro v4 w4 h4 hW4 hO4 hh4; obtain ⟨p4', c4, rfl, _, _⟩ := hW4.out.form))
            go_roundw
            case rel =>
              have hs1 := hS.out.2.2.size
              have hs2 := hO3'.out.size
              refine ⟨r, d ++ [⟨p1, p2, p3, p4, p5⟩], p4', n + 1, c4, h4, by rw [hT'.out], by rw [htk.out, List.length_append, ← hn'.out]; rfl, rfl, by omega, hnx.out, ?_, ?_, ?_⟩
              · rw [htk.out, evCells_snoc]
                exact hW4.out
              · intro x hx
                rcases hh4.out with rfl | ⟨g, hg, hge⟩
                · exact hS.out.2.1 x hx
                · rw [hg] at hx
                  cases hx
                  simp only [alloc_size] at hge
                  omega
              · exact (((hS.out.2.2.trans' hO3'.out).alloc _).alloc _).trans hO4.out (fun x hx e => by have := hS.out.2.1 x e.symm; omega)
            case measure => simp [slen, hT'.out, toBA_size, hsz.out]; try omega
end Go.Proofs.YtgfgjbbpochiiaaDoor
