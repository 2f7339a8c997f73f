/- A script of its text: the document's Read, walked. -/
import Derived.Test.YtgfgjbbpochiiaaDoorSu
namespace Go.Proofs.YtgfgjbbpochiiaaDoor
open Go Go.RowKit

set_option maxRecDepth 100000 in
set_option maxHeartbeats 4000000 in
theorem rread_any (s : List UInt8) (hl : s.length ≤ 1000000) (w : World) : Calls Tryd.prog 11 #[.string (toBA s)] w (ReadEnd s w) := by
  have hsp := Lib.hid (split_any s 10 hl w)
  have hlens := Lib.hid (split_len 10 s)
  have hcnt := split_count 10 s
  have hpos := List.length_pos_iff.2 (splitL_ne 10 s)
  have hno0 := Lib.hid (@ref_short s)
  have hno1 := Lib.hid (fun m t => @ref_last s t m)
  have hno2 := Lib.hid (fun m t => @ref_until s t m)
  have hno3 := Lib.hid (fun m k t => @ref_line s t m k)
  have hyes := Lib.hid (fun x m v d => @ref_yes s x m v d)
  obtain ⟨G, hG⟩ : ∃ G, G = splitL 10 s := ⟨_, rfl⟩
  rw [← hG] at hsp hlens hcnt hpos hno0 hno1 hno2 hno3 hyes
  unfold PartsEnd at hsp
  obtain ⟨S, hS⟩ : ∃ S, S = toBA s := ⟨_, rfl⟩
  rw [← hS] at hsp ⊢
  by_cases h2 : G.length < 2
  · have hr := Lib.hid (hno0.out h2)
    obtain ⟨n, hn⟩ : ∃ n, n = G.length := ⟨_, rfl⟩
    rw [← hn] at hsp h2
    have h2' : (n : Int) < 2 := by omega
    clear hG hS hn hcnt hpos hl h2
    go_enter Tryd.func11, Tryd.ntmps11
    go_wp2_with fail
    refine hsp.out.mono ?_
    rintro e w1 ⟨p, cap, hh, rfl, -, -, hO1⟩
    have hO1' := Lib.hid hO1
    clear hO1
    go_wp2
    go_ret3
    exact readEnd_no hr.out hO1'.out
  obtain ⟨m, hm⟩ : ∃ m, G.length = m + 2 := ⟨G.length - 2, by omega⟩
  obtain ⟨t, ht⟩ : ∃ t, G[m + 1]? = some t := ⟨_, List.getElem?_eq_getElem (by omega)⟩
  obtain ⟨x, hx⟩ : ∃ x, G[m]? = some x := ⟨_, List.getElem?_eq_getElem (by omega)⟩
  have hxl := Lib.hid (hlens.out x (List.mem_of_getElem? hx))
  rw [hm] at hcnt
  have hm' := Lib.hid hm
  have ht' := Lib.hid ht
  have hx' := Lib.hid hx
  rw [hm] at hsp
  clear hG hm ht hx hpos hS h2
  go_enter Tryd.func11, Tryd.ntmps11
  go_wp2_with fail
  refine hsp.out.mono ?_
  rintro e w1 ⟨p, cap, hh, rfl, hWn, hnew, hO1⟩
  have hWin := Lib.hid hWn
  obtain ⟨g, off, cp, hgh, hv, hmc, hcm, hgl, hgc, -⟩ := hWn.at_ (by omega)
  cases hv
  have x0 : w1.cell? ⟨g, off + (m + 1), none⟩ = some (.string (toBA t)) := hgc (m + 1) _ (by rw [List.getElem?_map, ht'.out]; rfl)
  have x1 : w1.cell? ⟨g, off + m, none⟩ = some (.string (toBA x)) := hgc m _ (by rw [List.getElem?_map, hx'.out]; rfl)
  have hgc' := Lib.hid (fun (j : Nat) (a : List UInt8) (h : G[j]? = some a) => show w1.cell? ⟨g, off + j, none⟩ = some (.string (toBA a)) from hgc j _ (by rw [List.getElem?_map, h]; rfl))
  have hO1' := Lib.hid hO1
  have hgl' := Lib.hid hgl
  have hmc' : (m : Int) + 2 ≤ (cap : Int) := by omega
  obtain ⟨T, hT⟩ : ∃ T, T = toBA t := ⟨_, rfl⟩
  rw [← hT] at x0
  have hTE : (T.toList == ([] : List UInt8)) = decide (t = []) := by
    rw [hT, ByteArray.toList_eq, toBA_list]
    by_cases hre : t = [] <;> simp [hre]
  obtain ⟨X, hX⟩ : ∃ X, X = toBA x := ⟨_, rfl⟩
  rw [← hX] at x1
  have hsx := Lib.hid (split_any x 32 (by have := hxl.out; omega) w1)
  rw [← hX] at hsx
  clear hWn hgc hO1 hnew hT hX
  by_cases he : t = []
  case neg =>
    have hr := Lib.hid (hno1.out m t hm'.out ht'.out he)
    rw [decide_eq_false he] at hTE
    clear he
    go_wp2
    go_ret3
    exact readEnd_no hr.out hO1'.out
  rw [decide_eq_true he] at hTE
  subst he
  unfold PartsEnd at hsx
  obtain ⟨q, hq⟩ : ∃ q, q = (splitL 32 x).length := ⟨_, rfl⟩
  rw [← hq] at hsx
  have hq' := Lib.hid hq
  have hbadx := Lib.hid (fun (h : ∀ v, ¬ isLast x v) => hno2.out m x hm'.out hx'.out h)
  clear hq
  go_wp2_with fail
  refine hsx.out.mono ?_
  rintro e w2 ⟨p2, cap2, hh2, rfl, hWx, -, hO2⟩
  have hO2' := Lib.hid (hO1'.out.trans' hO2)
  have hO12 := Lib.hid hO2
  clear hO2 x0 x1 hTE
  by_cases hq2 : q = 2
  case neg =>
    have hr := Lib.hid (hbadx.out fun v hv => by
      have := hq'.out
      rw [← hv.2, split_last] at this
      exact hq2 this)
    have hq2' : ((q : Int) != 2) = true := by rw [bne_iff_ne]; omega
    clear hq2 hWx
    go_wp2
    go_ret3
    exact readEnd_no hr.out hO2'.out
  subst hq2
  obtain ⟨a, b, hab⟩ : ∃ a b, splitL 32 x = [a, b] := by
    have := hq'.out
    match splitL 32 x, this with
    | [a, b], _ => exact ⟨a, b, rfl⟩
  rw [hab] at hWx
  obtain ⟨g2, off2, cp2, hgh2, hv2, hmc2, hcm2, hgl2, hgc2, -⟩ := hWx.at_ (by omega)
  cases hv2
  have z0 : w2.cell? ⟨g2, off2, none⟩ = some (.string (toBA a)) := hgc2 0 _ rfl
  have z1 : w2.cell? ⟨g2, off2 + 1, none⟩ = some (.string (toBA b)) := hgc2 1 _ rfl
  have hbl := split_len 32 x b (by rw [hab]; simp)
  have hab' := Lib.hid hab
  have hval := Lib.hid (value_any b (by have := hxl.out; omega) w2)
  obtain ⟨A, hA⟩ : ∃ A, A = toBA a := ⟨_, rfl⟩
  rw [← hA] at z0
  have hAE : (A.toList == ([117, 110, 116, 105, 108] : List UInt8)) = decide (a = untilW) := by
    rw [hA, ByteArray.toList_eq, toBA_list]
    by_cases hre : a = untilW
    · rw [decide_eq_true hre, hre]
      rfl
    · rw [decide_eq_false hre]
      exact beq_eq_false_iff_ne.2 hre
  obtain ⟨B, hB⟩ : ∃ B, B = toBA b := ⟨_, rfl⟩
  rw [← hB] at z1 hval
  clear hWx hgc2 hA hB hab
  by_cases hau : a = untilW
  case neg =>
    have hr := Lib.hid (hbadx.out fun v hv => by
      have := hab'.out
      rw [← hv.2, split_last] at this
      simp only [List.cons.injEq] at this
      exact hau this.1.symm)
    rw [decide_eq_false hau] at hAE
    clear hau
    go_wp2
    go_ret3
    exact readEnd_no hr.out hO2'.out
  rw [decide_eq_true hau] at hAE
  subst hau
  unfold ValEnd at hval
  cases hnb : numS b with
  | none =>
    have hr := Lib.hid (hbadx.out fun v hv => by
      have := hab'.out
      rw [← hv.2, split_last] at this
      simp only [List.cons.injEq, and_true] at this
      exact numS_none hnb hv.1 this.2)
    rw [hnb] at hval
    clear hnb
    go_wp2_with fail
    refine hval.out.mono ?_
    rintro e w3 ⟨v, rfl, -, hO3⟩
    have hO3' := Lib.hid (hO2'.out.trans' hO3)
    clear hO3
    go_wp2
    go_ret3
    exact readEnd_no hr.out hO3'.out
  | some v =>
    have hlast := Lib.hid (last_of hab'.out hnb)
    rw [hnb] at hval
    clear hnb
    go_wp2_with fail
    refine hval.out.mono ?_
    rintro e w3 ⟨u, rfl, hu, hO3⟩
    obtain rfl : u = v := hu v rfl
    have hO3' := Lib.hid (hO2'.out.trans' hO3)
    have hO13 := Lib.hid (hO12.out.trans' hO3)
    clear hO3 hu z0 z1 hAE
    go_wp2
    go_loopw [10, 58] (fun o i wr => ∃ (k : Nat) (d : List EvV) (p : Option Addr) (cap : Nat) (h : Option Nat), k ≤ m ∧ d.length = k ∧ i = .int .i64 k ∧ o = .slice p k cap ∧ (G.take k).map evO = d.map some ∧ Win wr 23 5 (.slice p k cap) h k (evCells d) ∧ (∀ x, h = some x → w3.heap.size ≤ x) ∧ Only (fun _ => False) w3 wr) (fun _ i _ => m - (intOf i).toNat)
    case atStart => exact ⟨0, [], none, 0, none, Nat.zero_le _, rfl, rfl, rfl, rfl, Win.nil _ _ _, (fun x hx => by cases hx), Only.refl _ _⟩
    case round =>
      obtain ⟨k, d, p, cap4, h, hk, hdk, rfl, rfl, hd, hW, hf, hO⟩ := hrel
      obtain ⟨ws, hws⟩ : ∃ ws : World, ws = wr := ⟨_, rfl⟩
      subst hws
      have hS := Lib.hid (And.intro hW (And.intro hf hO))
      have hd' := Lib.hid hd
      have hdk' := Lib.hid hdk
      clear hW hf hO hd hdk
      by_cases hkm : k < m
      · have hkm' : (k : Int) < (m : Int) := by omega
        obtain ⟨a, ha⟩ : ∃ a, G[k]? = some a := ⟨_, List.getElem?_eq_getElem (by have := hm'.out; omega)⟩
        have hal := hlens.out a (List.mem_of_getElem? ha)
        have q0 := (hO13.out.trans' hS.out.2.2).cell (hgc'.out k a ha) (fun h => h)
        have hgw := Nat.lt_of_lt_of_le hgl'.out (hO13.out.trans' hS.out.2.2).size
        have hpar := Lib.hid (rparse_any a (by omega) ws)
        unfold ParseEnd at hpar
        obtain ⟨A, hA⟩ : ∃ A, A = toBA a := ⟨_, rfl⟩
        rw [← hA] at q0 hpar
        clear hA hal
        cases hp : evO a with
        | none =>
          have hr := Lib.hid (hno3.out m k a hm'.out hkm ha hp)
          rw [hp] at hpar
          clear hp ha
          unfold EvV.val zev at hpar
          go_wp2_with fail
          refine hpar.out.mono ?_
          rintro e w4 ⟨rfl, hO4⟩
          have hO4' := Lib.hid ((hO3'.out.trans' hS.out.2.2).trans' hO4)
          clear hO4
          go_wp2
          go_ret3
          exact readEnd_no hr.out (hO4'.out.alloc _)
        | some y =>
          have hnx := Lib.hid (mapE_snoc hd'.out ha hp)
          rw [hp] at hpar
          clear hp ha
          obtain ⟨p1, p2, p3, p4, p5⟩ := y
          unfold EvV.val at hpar
          go_wp2_with fail
          refine hpar.out.mono ?_
          rintro e w4 ⟨rfl, hO4⟩
          have hO4' := Lib.hid hO4
          clear hO4
          go_wp2_with (at_builtin; go_loud (refine wpList_append_win rfl _ _ 30 rfl 23 (Value.agg #[.int .i64 0, .int .i64 0, .int .i64 0, .int .i64 0, .int .i64 0]) 5 40 Tryd.underlying30 infoE rfl (by decide) rfl (hS.out.1.kept ((hO4'.out.alloc _).alloc _) (fun _ _ h => h)) _ 1 1 rfl [.int .i64 p1, .int .i64 p2, .int .i64 p3, .int .i64 p4, .int .i64 p5] rfl (fun _ => ⟨_, rfl, row_five (heap_new_at _ _ (by simp))⟩) (by simp [Value.oneCell']) (by unfold maxLen; omega) (by omega) ?_; intro v4 w5 h4 hW4 hO4 hh4; obtain ⟨p4', c4, rfl, _, _⟩ := hW4.out.form))
          go_roundw
          case rel =>
            have hs1 := hS.out.2.2.size
            have hs2 := hO4'.out.size
            refine ⟨k + 1, d ++ [⟨p1, p2, p3, p4, p5⟩], p4', c4, h4, by omega, ?_, by go_num, rfl, hnx.out, ?_, ?_, ?_⟩
            · rw [List.length_append, hdk'.out]
              rfl
            · rw [evCells_snoc]
              exact hW4.out
            · intro y hy
              rcases hh4.out with rfl | ⟨g, hg, hge⟩
              · exact hS.out.2.1 y hy
              · rw [hg] at hy
                cases hy
                simp only [alloc_size] at hge
                omega
            · exact (((hS.out.2.2.trans' hO4'.out).alloc _).alloc _).trans hO4.out (fun y hy e => by have := hS.out.2.1 y e.symm; omega)
          case measure => simp [intOf]; omega
      · obtain rfl : k = m := by omega
        have hr := Lib.hid (hyes.out x k u d hm'.out ht'.out hx'.out hlast.out hd'.out)
        by_cases h256 : 256 < k
        · have h256' : (256 : Int) < (k : Int) := by omega
          have hd2 := Lib.hid (show 256 < d.length by rw [hdk'.out]; exact h256)
          clear h256
          go_wp2
          go_ret3
          exact readEnd_many hr.out hd2.out (hO3'.out.trans' hS.out.2.2)
        · have h256' : ¬ (256 : Int) < (k : Int) := by omega
          have hd2 := Lib.hid (show d.length ≤ 256 by rw [hdk'.out]; omega)
          clear h256
          go_wp2
          go_ret3
          refine readEnd_got hr.out hd2.out ⟨p, cap4, h, ?_, ?_, ?_, hO3'.out.trans' hS.out.2.2⟩
          · rw [hdk'.out]
            rfl
          · rw [hdk'.out]
            exact hS.out.1
          · intro y hy
            have := hS.out.2.1 y hy
            have := hO3'.out.size
            omega
end Go.Proofs.YtgfgjbbpochiiaaDoor
