/- Records of their lines: the document's Read. -/
import Derived.Test.YthippdgmbfaijaaDoorTx10
namespace Go.Proofs.YthippdgmbfaijaaDoor
open Go Go.RowKit

theorem rread_none_last {s : List UInt8} {m : Nat} {t : List UInt8} (hm : (splitL 10 s).length = m + 1) (ht : (splitL 10 s)[m]? = some t) (hne : t ≠ []) : readO s = none := by
  refine read_no fun hk => hne ?_
  have h1 := hk.1
  rw [List.getLast?_eq_getElem?, hm, Nat.add_sub_cancel, ht] at h1
  exact Option.some.inj h1
theorem rread_none_at {s : List UInt8} {m k : Nat} {t : List UInt8} (hm : (splitL 10 s).length = m + 1) (hk : k < m) (ht : (splitL 10 s)[k]? = some t) (hne : parseO t = none) : readO s = none := by
  refine read_no fun h => ?_
  have hmem : t ∈ (splitL 10 s).dropLast := by
    refine List.mem_iff_getElem?.2 ⟨k, ?_⟩
    rw [List.getElem?_dropLast, if_pos (by omega), ht]
  have := h.2 t hmem
  rw [hne] at this
  cases this
theorem rread_some {s : List UInt8} {m : Nat} {d : List RecV} (hm : (splitL 10 s).length = m + 1) (ht : (splitL 10 s)[m]? = some []) (hd : ((splitL 10 s).take m).map parseO = d.map some) : readO s = some d := by
  have hdl : (splitL 10 s).dropLast = (splitL 10 s).take m := by rw [List.dropLast_eq_take, hm, Nat.add_sub_cancel]
  have hmap : ((splitL 10 s).take m).map (fun l => (parseO l).getD zrec) = d := by
    have := congrArg (List.map (fun o => Option.getD o zrec)) hd
    simpa [List.map_map, Function.comp_def] using this
  have hok : okR s := by
    refine ⟨by rw [List.getLast?_eq_getElem?, hm, Nat.add_sub_cancel, ht], fun l hl => ?_⟩
    rw [hdl] at hl
    have h1 : parseO l ∈ ((splitL 10 s).take m).map parseO := List.mem_map_of_mem hl
    rw [hd, List.mem_map] at h1
    obtain ⟨r, _, hr⟩ := h1
    rw [← hr]
    rfl
  unfold readO
  rw [if_pos hok, hdl, hmap]
theorem map_snoc {G : List (List UInt8)} {d : List RecV} {k : Nat} {t : List UInt8} {x : RecV} (hd : (G.take k).map parseO = d.map some) (ht : G[k]? = some t) (hx : parseO t = some x) : (G.take (k + 1)).map parseO = (d ++ [x]).map some := by
  rw [List.take_add_one, ht, List.map_append, hd, List.map_append]
  simp [hx]

set_option maxRecDepth 100000 in
set_option maxHeartbeats 4000000 in
theorem rread_any (s : List UInt8) (hl : s.length ≤ 1000000) (w : World) : Calls Tryd.prog 11 #[.string (toBA s)] w (ReadEnd s w) := by
  have hsp := Lib.hid (split_any s 10 hl w)
  have hlens := Lib.hid (split_len 10 s)
  have hcnt := split_count 10 s
  have hpos := List.length_pos_iff.2 (splitL_ne 10 s)
  have hno1 := Lib.hid (fun m t => @rread_none_last s m t)
  have hno2 := Lib.hid (fun m k t => @rread_none_at s m k t)
  have hyes := Lib.hid (fun m d => @rread_some s m d)
  obtain ⟨G, hG⟩ : ∃ G, G = splitL 10 s := ⟨_, rfl⟩
  rw [← hG] at hsp hlens hcnt hpos hno1 hno2 hyes
  obtain ⟨m, hm⟩ : ∃ m, G.length = m + 1 := ⟨G.length - 1, by omega⟩
  obtain ⟨t, ht⟩ : ∃ t, G[m]? = some t := ⟨_, List.getElem?_eq_getElem (by omega)⟩
  have htl := Lib.hid (hlens.out t (List.mem_of_getElem? ht))
  rw [hm] at hcnt
  have hm' := Lib.hid hm
  have ht' := Lib.hid ht
  unfold PartsEnd at hsp
  rw [hm] at hsp
  obtain ⟨S, hS⟩ : ∃ S, S = toBA s := ⟨_, rfl⟩
  rw [← hS] at hsp ⊢
  clear hG hm ht hpos hS
  go_enter Tryd.func11, Tryd.ntmps11
  go_wp2_with fail
  refine hsp.out.mono ?_
  rintro e w1 ⟨p, cap, hh, rfl, hWn, hnew, hO1⟩
  have hWin := Lib.hid hWn
  obtain ⟨g, off, cp, hgh, hv, hmc, hcm, hgl, hgc, -⟩ := hWn.at_ (by omega)
  cases hv
  have x0 : w1.cell? ⟨g, off + m, none⟩ = some (.string (toBA t)) := hgc m _ (by rw [List.getElem?_map, ht'.out]; rfl)
  have hgc' := Lib.hid (fun (j : Nat) (a : List UInt8) (h : G[j]? = some a) => show w1.cell? ⟨g, off + j, none⟩ = some (.string (toBA a)) from hgc j _ (by rw [List.getElem?_map, h]; rfl))
  have hO1' := Lib.hid hO1
  have hgl' := Lib.hid hgl
  have hmc' : (m : Int) + 1 ≤ (cap : Int) := by omega
  obtain ⟨T, hT⟩ : ∃ T, T = toBA t := ⟨_, rfl⟩
  rw [← hT] at x0
  clear hWn hgc hO1 hnew
  by_cases he : t = []
  · subst he
    have hE : (T.toList == ([] : List UInt8)) = true := by rw [hT, ByteArray.toList_eq, toBA_list]; rfl
    clear hT
    go_wp2
    go_loopw [5, 25] (fun o i wr => ∃ (k : Nat) (d : List RecV) (p : Option Addr) (cap : Nat) (h : Option Nat), k ≤ m ∧ d.length = k ∧ i = .int .i64 k ∧ o = .slice p k cap ∧ (G.take k).map parseO = d.map some ∧ Win wr 24 7 (.slice p k cap) h k (recCells d) ∧ (∀ x, h = some x → w1.heap.size ≤ x) ∧ Only (fun _ => False) w1 wr) (fun _ i _ => m - (intOf i).toNat)
    case atStart => exact ⟨0, [], none, 0, none, Nat.zero_le _, rfl, rfl, rfl, rfl, Win.nil _ _ _, (fun x hx => by cases hx), Only.refl _ _⟩
    case round =>
      obtain ⟨k, d, p, cap, h, hk, hdk, rfl, rfl, hd, hW, hf, hO⟩ := hrel
      obtain ⟨ws, hws⟩ : ∃ ws : World, ws = wr := ⟨_, rfl⟩
      subst hws
      have hS := Lib.hid (And.intro hW (And.intro hf hO))
      have hd' := Lib.hid hd
      have hdk' := Lib.hid hdk
      clear hW hf hO hd hdk x0
      by_cases hkm : k < m
      · have hkm' : (k : Int) < (m : Int) := by omega
        obtain ⟨a, ha⟩ : ∃ a, G[k]? = some a := ⟨_, List.getElem?_eq_getElem (by have := hm'.out; omega)⟩
        have hal := hlens.out a (List.mem_of_getElem? ha)
        have q0 := hS.out.2.2.cell (hgc'.out k a ha) (fun h => h)
        have hgw := Nat.lt_of_lt_of_le hgl'.out hS.out.2.2.size
        have hpar := Lib.hid (rparse_any a (by omega) ws)
        unfold ParseEnd at hpar
        obtain ⟨A, hA⟩ : ∃ A, A = toBA a := ⟨_, rfl⟩
        rw [← hA] at q0 hpar
        clear hA hal
        cases hp : parseO a with
        | none =>
          have hr := Lib.hid (hno2.out m k a hm'.out hkm ha hp)
          rw [hp] at hpar
          clear hp ha
          unfold RecV.val zrec at hpar
          go_wp2_with fail
          refine hpar.out.mono ?_
          rintro e w2 ⟨rfl, hO2⟩
          have hO2' := Lib.hid ((hO1'.out.trans' hS.out.2.2).trans' hO2)
          clear hO2
          go_wp2
          go_ret2
          unfold ReadEnd
          rw [hr.out]
          exact ⟨rfl, hO2'.out.alloc _⟩
        | some x =>
          have hnx := Lib.hid (map_snoc hd'.out ha hp)
          rw [hp] at hpar
          clear hp ha
          obtain ⟨p1, p2, p3, p4, p5, p6, p7⟩ := x
          unfold RecV.val at hpar
          go_wp2_with fail
          refine hpar.out.mono ?_
          rintro e w2 ⟨rfl, hO2⟩
          have hO2' := Lib.hid hO2
          clear hO2
          go_wp2_with (at_builtin; go_loud (refine wpList_append_win rfl _ _ 31 rfl 24 (Value.agg #[.int .i64 0, .int .i64 0, .int .i64 0, .int .i64 0, .int .i64 0, .int .i64 0, .int .i64 0]) 7 56 Tryd.underlying31 infoR rfl (by decide) rfl (hS.out.1.kept ((hO2'.out.alloc _).alloc _) (fun _ _ h => h)) _ 1 1 rfl [.int .i64 p1, .int .i64 p2, .int .i64 p3, .int .i64 p4, .int .i64 p5, .int .i64 p6, .int .i64 p7] rfl (fun _ => ⟨_, rfl, row_sevenR (heap_new_at _ _ (by simp))⟩) (by simp [Value.oneCell']) (by unfold maxLen; omega) (by omega) ?_; intro v4 w4 h4 hW4 hO4 hh4; obtain ⟨p4', c4, rfl, _, _⟩ := hW4.out.form))
          go_roundw
          case rel =>
            have hs1 := hS.out.2.2.size
            have hs2 := hO2'.out.size
            refine ⟨k + 1, d ++ [⟨p1, p2, p3, p4, p5, p6, p7⟩], p4', c4, h4, by omega, ?_, by go_num, rfl, hnx.out, ?_, ?_, ?_⟩
            · rw [List.length_append, hdk'.out]
              rfl
            · rw [recCells_snoc]
              exact hW4.out
            · intro x hx
              rcases hh4.out with rfl | ⟨g, hg, hge⟩
              · exact hS.out.2.1 x hx
              · rw [hg] at hx
                cases hx
                simp only [alloc_size] at hge
                omega
            · exact (((hS.out.2.2.trans' hO2'.out).alloc _).alloc _).trans hO4.out (fun x hx e => by have := hS.out.2.1 x e.symm; omega)
          case measure => simp [intOf]; omega
      · have hkm2 : k = m := by omega
        subst hkm2
        have hr := Lib.hid (hyes.out k d hm'.out ht'.out hd'.out)
        go_wp2
        go_ret2
        unfold ReadEnd
        simp only [hr.out]
        have hs1 := hO1'.out.size
        exact ⟨p, cap, h, by rw [hdk'.out]; rfl, by rw [hdk'.out]; exact hS.out.1, fun x hx => by have := hS.out.2.1 x hx; omega, hO1'.out.trans' hS.out.2.2⟩
  · have hE : (T.toList == ([] : List UInt8)) = false := by
      rw [hT, ByteArray.toList_eq, toBA_list]
      exact beq_eq_false_iff_ne.2 he
    have hr := Lib.hid (hno1.out m t hm'.out ht'.out he)
    clear hT
    go_wp2
    go_ret2
    unfold ReadEnd
    rw [hr.out]
    exact ⟨rfl, hO1'.out⟩
end Go.Proofs.YthippdgmbfaijaaDoor
