/- MailboxPlays' walk: whatever is sent and taken, each answer is what plain rows tell. -/
import Derived.Test.YtjioljfggmhgcaaPlays10s
import Derived.Deep.CutBlock
namespace Go.Proofs.Ytjioljfggmhgcaa
open Go Go.RowKit RingI

set_option maxRecDepth 100000 in
theorem plays_long (A A2 : Option Addr) (n cap len cap2 : Nat) (w : World) (hl : 20 < n ∨ 150 < len) :
    Calls Try.prog 3 #[.slice A n cap, .slice A2 len cap2] w fun e w' => e = .returned (.bool true) ∧ Below w.heap.size w w' := by
  by_cases h1 : 20 < n
  · clear hl
    go_enter Try.func3, Try.ntmps3
    go_wp2_with (go_at_call 5; refine (fixed_any _).mono ?_; rintro e w1 ⟨rfl, hb1⟩; have hb1' := Lib.hid hb1; clear hb1)
    go_ret
    exact ⟨rfl, hb1'.out⟩
  · have h2 : 150 < len := by omega
    clear hl
    go_enter Try.func3, Try.ntmps3
    go_wp2_with (go_at_call 5; refine (fixed_any _).mono ?_; rintro e w1 ⟨rfl, hb1⟩; have hb1' := Lib.hid hb1; clear hb1)
    go_ret
    exact ⟨rfl, hb1'.out⟩

set_option maxRecDepth 100000 in
set_option maxHeartbeats 8000000 in
theorem plays_some (A A2 : Option Addr) (n cap len cap2 : Nat) (zs : Nat → Int) (z : Nat → Nat → Value) (w : World) (hn : n ≤ 20) (hl : len ≤ 150) (hA : Row w A n (fun i => .int .i64 (zs i))) (hA2 : Acts w A2 len [.bool, .int .i64, .int .i64] z) :
    Calls Try.prog 3 #[.slice A n cap, .slice A2 len cap2] w fun e w' => e = .returned (.bool true) ∧ Below w.heap.size w w' := by
  have hnew := Lib.hid (fun W (hW : Only (fun _ => False) w W) => new_boxes W A n cap zs (by omega) (hA.only hW (fun _ h => h.elim)))
  have hA' := Lib.hid hA
  have hA2' := Lib.hid hA2
  have mk1 := fun W0 : World => run_make_list (P := Try.prog) W0 27 22 (.slice none 0 0) 24 Try.underlying27 (by kernel_rfl) rfl n (by omega) (by omega)
  have hn0 : ¬ 20 < (n : Int) := by omega
  have hl0 : ¬ 150 < (len : Int) := by omega
  clear hA hA2
  go_enter Try.func3, Try.ntmps3
  go_wp2_with (go_at_call 5; refine (fixed_any _).mono ?_; rintro e w1 ⟨rfl, hb1⟩; have hb1' := Lib.hid hb1; clear hb1)
  have hO1 := Lib.hid (Only.of_new hb1'.out (fun _ => False))
  refine (hnew.out _ hO1.out).mono ?_
  rintro e w2 ⟨b, g, r, rfl, hB2, ho2⟩
  obtain ⟨B, hB⟩ : ∃ B, B = w.heap.size := ⟨_, rfl⟩
  obtain ⟨R, hR⟩ : ∃ R, R = w2.heap.size := ⟨_, rfl⟩
  have hrel : PRel w B b g n r zs R (w2.alloc (.cells (List.replicate n (.slice none 0 0)).toArray 22)) := by
    have hs1 := hO1.out.size
    have hs2 := ho2.size
    refine ⟨fun _ => none, fun _ => [], fun _ => .slice none 0 0, fun _ => none, ⟨?_, ⟨?_, (fun i hi => Win.nil _ _ _), (fun i j _ _ _ k hk => by cases hk), (fun i _ k hk => by cases hk), by omega⟩, fun k hk => ⟨?_, fun _ _ => by simp⟩, ((hO1.out.trans' ho2).alloc _).mono (fun _ _ h => h.elim)⟩⟩
    · obtain ⟨h1, h2, h3, h4, h5, h6⟩ := hB2.kept ((Only.refl (fun _ => False) w2).alloc (.cells (List.replicate n (.slice none 0 0)).toArray 22)) (fun _ _ h => h)
      exact ⟨h1, h2, h3, h4, fun i hi k hk => ⟨(h5 i hi k hk).1, (h5 i hi k hk).2.1, by have := (h5 i hi k hk).2.2; omega⟩, by omega, by omega⟩
    · rw [show (List.range n).map (fun _ => Value.slice none 0 0) = List.replicate n (.slice none 0 0) by rw [List.map_const', List.length_range]]
      exact heap_new_at _ _ hR.symm
    · have := (hB2.lt k hk).1
      omega
  rw [List.toArray_replicate] at hrel
  have hrel' := Lib.hid hrel
  have hBe := Lib.hid hB
  have hR' := Lib.hid hR
  clear hrel hB hB2 ho2 hR hb1' hO1 hnew
  go_wp2
  rw [← hR'.out]
  clear mk1
  generalize World.alloc _ _ = w3 at hrel' ⊢
  clear hR'
  go_loopw [35] (fun i wr => ∃ k : Nat, k ≤ len ∧ i = .int .i64 k ∧ PRel w B b g n r zs R wr) (fun i _ => len - (intOf i).toNat)
  case atStart => exact ⟨0, Nat.zero_le _, rfl, hrel'.out⟩
  case round =>
    clear hrel'
    obtain ⟨k, hk, rfl, hrel⟩ := hrel
    obtain ⟨ws, hws⟩ : ∃ ws : World, ws = wr := ⟨_, rfl⟩
    subst hws
    have hO : Only (fun k => B ≤ k) w ws := by obtain ⟨_, _, _, _, h⟩ := hrel; exact h.only
    have hrow := Lib.hid (hA'.out.only hO (fun _ h => by have := hBe.out; omega))
    have hact := Lib.hid (hA2'.out.only hO (fun _ h => by have := hBe.out; omega))
    have hO' := Lib.hid hO
    have hrelk := Lib.hid hrel
    clear hrel hO
    by_cases hlt : k < len
    · obtain ⟨ba, off, rfl, hba, hc⟩ := hact.out k hlt
      obtain ⟨c0, e0⟩ := hc 0 .bool rfl
      obtain ⟨c1, e1⟩ := hc 1 (.int .i64) rfl
      obtain ⟨c2, e2⟩ := hc 2 (.int .i64) rfl
      obtain ⟨tk, e0⟩ := e0
      obtain ⟨I, e1, hI⟩ := e1
      obtain ⟨V, e2, hV⟩ := e2
      rw [e0] at c0
      rw [e1] at c1
      rw [e2] at c2
      change ws.cell? ⟨ba, off + k * 3, none⟩ = _ at c0
      change ws.cell? ⟨ba, off + k * 3 + 1, none⟩ = _ at c1
      change ws.cell? ⟨ba, off + k * 3 + 2, none⟩ = _ at c2
      clear hc hact hI hV e0 e1 e2
      go_upto_region 10 with fail
      obtain ⟨X, hX⟩ : ∃ X, X = ws.heap.size := ⟨_, rfl⟩
      obtain ⟨W1, hW1⟩ : ∃ W1, W1 = ws.alloc (.cells #[.bool tk, .int .i64 I, .int .i64 V] 29) := ⟨_, rfl⟩
      rw [← hX, ← hW1]
      have o1 : Only (fun _ => False) ws W1 := hW1 ▸ (Only.refl _ ws).alloc _
      have hXb : ActAt X tk I V W1 := by rw [hW1, hX]; exact heap_alloc_new _ _
      obtain ⟨o, q, v, h, hT⟩ := hrelk.out
      have hXf : ∀ k, bfp b g n r o k ∨ k = R ∨ (∃ i, i < n ∧ h i = some k) → k ≠ X := by
        rintro k (hk | rfl | ⟨i, hi, hk⟩)
        · have := (hT.boxes.lt k hk).1; omega
        · have := row_lt hT.rows.row; omega
        · have := (hT.rows.wins i hi).lt k hk; omega
      have hT1 := Lib.hid (hT.new o1)
      have hXf' := Lib.hid hXf
      have hrow1 := Lib.hid (hrow.out.only o1 (fun _ h => h.elim))
      have hBX := Lib.hid (show B ≤ X by have := hO'.out.size; have := hBe.out; omega)
      clear hW1 hX o1 hT hXf c0 c1 c2 hba hrelk hO' hrow
      have d0 : W1.cell? ⟨X, 0, none⟩ = some (.bool tk) := by simp [World.cell?, show W1.heap[X]? = _ from hXb]
      have d1 : W1.cell? ⟨X, 1, none⟩ = some (.int .i64 I) := by simp [World.cell?, show W1.heap[X]? = _ from hXb]
      have d2 : W1.cell? ⟨X, 2, none⟩ = some (.int .i64 V) := by simp [World.cell?, show W1.heap[X]? = _ from hXb]
      have hXb' := Lib.hid hXb
      clear hXb ws
      by_cases hin : 0 ≤ I ∧ I < n
      · obtain ⟨i, rfl⟩ : ∃ i : Nat, I = i := ⟨I.toNat, by omega⟩
        have hi : i < n := by omega
        have hi' : (i : Int) < n := by omega
        obtain ⟨br, offr, rfl, hcr, _⟩ := hrow1.out i hi
        replace hcr : W1.cell? ⟨br, offr + i, none⟩ = some (.int .i64 (zs i)) := hcr
        obtain ⟨T, hT⟩ : ∃ T, T = decide (1 ≤ zs i ∧ zs i ≤ 8) := ⟨_, rfl⟩
        have hT' := Lib.hid hT
        clear hin hT
        go_upto_region 12 with fail
        go_cut [65] from 49 to 65 (fun v wc => v = .bool T ∧ W1 = wc)
        case first =>
          by_cases h1 : 1 ≤ zs i
          · by_cases h2 : zs i ≤ 8
            · have hTT : T = true := by rw [hT'.out]; simp [h1, h2]
              have hTT' := Lib.hid hTT
              clear hTT
              go_wp2
              go_meet
              case rel => exact ⟨by rw [hTT'.out], rfl⟩
            · have hTT : T = false := by rw [hT'.out]; simp [h2]
              have hTT' := Lib.hid hTT
              clear hTT
              go_wp2
              go_meet
              case rel => exact ⟨by rw [hTT'.out], rfl⟩
          · have hTT : T = false := by rw [hT'.out]; simp [h1]
            have hTT' := Lib.hid hTT
            clear hTT
            go_wp2
            go_meet
            case rel => exact ⟨by rw [hTT'.out], rfl⟩
        case rest =>
          obtain ⟨rfl, rfl⟩ := hcut
          go_upto_if 65 with fail
          obtain ⟨rm, hrm⟩ : ∃ rm, rm = roomN (zs i) := ⟨_, rfl⟩
          have hrm' := Lib.hid hrm
          clear hrm
          go_cut [10] from 65 to 70 (fun v wc => v = .int .i64 rm ∧ W1 = wc)
          case first =>
            cases T with
            | true =>
              have hz : 1 ≤ zs i ∧ zs i ≤ 8 := by simpa using hT'.out.symm
              have hroom : zs i = (rm : Int) := by rw [hrm'.out]; unfold roomN; rw [if_neg (by omega)]; omega
              have hroom' := Lib.hid hroom
              clear hz hroom
              go_wp2
              go_meet
              case rel => exact ⟨by rw [← hroom'.out], rfl⟩
            | false =>
              have hz : ¬ (1 ≤ zs i ∧ zs i ≤ 8) := by simpa using hT'.out.symm
              have hroom : (1 : Int) = (rm : Int) := by rw [hrm'.out]; unfold roomN; rw [if_pos (by omega)]; rfl
              have hroom' := Lib.hid hroom
              clear hz hroom
              go_wp2
              go_meet
              case rel => exact ⟨by rw [← hroom'.out], rfl⟩
          case rest =>
            obtain ⟨rfl, rfl⟩ := hcut
            clear hT' T hcr
            have hcr0 := trivial
            go_upto_block 2 with fail
            go_cut [11, 12] from 71 to 172 (fun _ _ wc => ActAt X tk i V wc ∧ PRel w B b g n r zs R wc)
            case first =>
              rename_i J K hJ hK
              clear d0 d1 d2 hcr0 hrow1 hBX
              by_cases htk : tk = true
              · subst htk
                cases hq : q i with
                | nil => (refine wp_mono (sw_take_none K W1 hT1.out hXb'.out hXf'.out hi hq ?_) (fun e a' w' hq => by cases e <;> first | exact hq | exact hq.elim); intro u11 u12 u71 u72 u73 u74 u75 u76 u77 u78 u79 u80 u81 u82 u83 u84 u85 u86 u87 u88 u89 u90 u91 u92 u93 u94 u95 u96 u97 u98 u99 u100 u101 u102 u103 u104 u105 u106 u107 u108 u109 u110 u111 u112 u113 u114 u115 u116 u117 u118 u119 u120 u121 u122 u123 u124 u125 u126 u127 u128 u129 u130 u131 u132 u133 u134 u135 u136 u137 u138 u139 u140 u141 u142 u143 u144 u145 u146 u147 u148 u149 u150 u151 u152 u153 u154 u155 u156 u157 u158 u159 u160 u161 u162 u163 u164 u165 u166 u167 u168 u169 u170 u171 u172 wc h1 h2; exact hK _ _ (hJ _ _ ⟨_, u11, u12, u71, u72, u73, u74, u75, u76, u77, u78, u79, u80, u81, u82, u83, u84, u85, u86, u87, u88, u89, u90, u91, u92, u93, u94, u95, u96, u97, u98, u99, u100, u101, u102, u103, u104, u105, u106, u107, u108, u109, u110, u111, u112, u113, u114, u115, u116, u117, u118, u119, u120, u121, u122, u123, u124, u125, u126, u127, u128, u129, u130, u131, u132, u133, u134, u135, u136, u137, u138, u139, u140, u141, u142, u143, u144, u145, u146, u147, u148, u149, u150, u151, u152, u153, u154, u155, u156, u157, u158, u159, u160, u161, u162, u163, u164, u165, u166, u167, u168, u169, u170, u171, u172, ⟨h1, h2⟩, rfl⟩))
                | cons x t => (refine wp_mono (sw_take_some K W1 hT1.out hXb'.out hXf'.out hi hq ?_) (fun e a' w' hq => by cases e <;> first | exact hq | exact hq.elim); intro u11 u12 u71 u72 u73 u74 u75 u76 u77 u78 u79 u80 u81 u82 u83 u84 u85 u86 u87 u88 u89 u90 u91 u92 u93 u94 u95 u96 u97 u98 u99 u100 u101 u102 u103 u104 u105 u106 u107 u108 u109 u110 u111 u112 u113 u114 u115 u116 u117 u118 u119 u120 u121 u122 u123 u124 u125 u126 u127 u128 u129 u130 u131 u132 u133 u134 u135 u136 u137 u138 u139 u140 u141 u142 u143 u144 u145 u146 u147 u148 u149 u150 u151 u152 u153 u154 u155 u156 u157 u158 u159 u160 u161 u162 u163 u164 u165 u166 u167 u168 u169 u170 u171 u172 wc h1 h2; exact hK _ _ (hJ _ _ ⟨_, u11, u12, u71, u72, u73, u74, u75, u76, u77, u78, u79, u80, u81, u82, u83, u84, u85, u86, u87, u88, u89, u90, u91, u92, u93, u94, u95, u96, u97, u98, u99, u100, u101, u102, u103, u104, u105, u106, u107, u108, u109, u110, u111, u112, u113, u114, u115, u116, u117, u118, u119, u120, u121, u122, u123, u124, u125, u126, u127, u128, u129, u130, u131, u132, u133, u134, u135, u136, u137, u138, u139, u140, u141, u142, u143, u144, u145, u146, u147, u148, u149, u150, u151, u152, u153, u154, u155, u156, u157, u158, u159, u160, u161, u162, u163, u164, u165, u166, u167, u168, u169, u170, u171, u172, ⟨h1, h2⟩, rfl⟩))
              · obtain rfl : tk = false := by simpa using htk
                have hbd : (q i).length ≤ roomN (zs i) := (hT1.out.boxes.rings i hi).bounds.1
                have hr8 := (roomN_le (zs i)).2
                have hrm := hrm'.out
                by_cases hfull : (q i).length = rm
                · (refine wp_mono (sw_send_full K W1 hT1.out hXb'.out hXf'.out hi hrm hfull ?_) (fun e a' w' hq => by cases e <;> first | exact hq | exact hq.elim); intro u11 u12 u71 u72 u73 u74 u75 u76 u77 u78 u79 u80 u81 u82 u83 u84 u85 u86 u87 u88 u89 u90 u91 u92 u93 u94 u95 u96 u97 u98 u99 u100 u101 u102 u103 u104 u105 u106 u107 u108 u109 u110 u111 u112 u113 u114 u115 u116 u117 u118 u119 u120 u121 u122 u123 u124 u125 u126 u127 u128 u129 u130 u131 u132 u133 u134 u135 u136 u137 u138 u139 u140 u141 u142 u143 u144 u145 u146 u147 u148 u149 u150 u151 u152 u153 u154 u155 u156 u157 u158 u159 u160 u161 u162 u163 u164 u165 u166 u167 u168 u169 u170 u171 u172 wc h1 h2; exact hK _ _ (hJ _ _ ⟨_, u11, u12, u71, u72, u73, u74, u75, u76, u77, u78, u79, u80, u81, u82, u83, u84, u85, u86, u87, u88, u89, u90, u91, u92, u93, u94, u95, u96, u97, u98, u99, u100, u101, u102, u103, u104, u105, u106, u107, u108, u109, u110, u111, u112, u113, u114, u115, u116, u117, u118, u119, u120, u121, u122, u123, u124, u125, u126, u127, u128, u129, u130, u131, u132, u133, u134, u135, u136, u137, u138, u139, u140, u141, u142, u143, u144, u145, u146, u147, u148, u149, u150, u151, u152, u153, u154, u155, u156, u157, u158, u159, u160, u161, u162, u163, u164, u165, u166, u167, u168, u169, u170, u171, u172, ⟨h1, h2⟩, rfl⟩))
                · (refine wp_mono (sw_send_room K W1 hT1.out hXb'.out hXf'.out hi hrm (by omega) (by omega) ?_) (fun e a' w' hq => by cases e <;> first | exact hq | exact hq.elim); intro u11 u12 u71 u72 u73 u74 u75 u76 u77 u78 u79 u80 u81 u82 u83 u84 u85 u86 u87 u88 u89 u90 u91 u92 u93 u94 u95 u96 u97 u98 u99 u100 u101 u102 u103 u104 u105 u106 u107 u108 u109 u110 u111 u112 u113 u114 u115 u116 u117 u118 u119 u120 u121 u122 u123 u124 u125 u126 u127 u128 u129 u130 u131 u132 u133 u134 u135 u136 u137 u138 u139 u140 u141 u142 u143 u144 u145 u146 u147 u148 u149 u150 u151 u152 u153 u154 u155 u156 u157 u158 u159 u160 u161 u162 u163 u164 u165 u166 u167 u168 u169 u170 u171 u172 wc h1 h2; exact hK _ _ (hJ _ _ ⟨_, u11, u12, u71, u72, u73, u74, u75, u76, u77, u78, u79, u80, u81, u82, u83, u84, u85, u86, u87, u88, u89, u90, u91, u92, u93, u94, u95, u96, u97, u98, u99, u100, u101, u102, u103, u104, u105, u106, u107, u108, u109, u110, u111, u112, u113, u114, u115, u116, u117, u118, u119, u120, u121, u122, u123, u124, u125, u126, u127, u128, u129, u130, u131, u132, u133, u134, u135, u136, u137, u138, u139, u140, u141, u142, u143, u144, u145, u146, u147, u148, u149, u150, u151, u152, u153, u154, u155, u156, u157, u158, u159, u160, u161, u162, u163, u164, u165, u166, u167, u168, u169, u170, u171, u172, ⟨h1, h2⟩, rfl⟩))
            case rest =>
              clear hT1 hXf' hXb' d0 d1 d2 hrow1
              obtain ⟨hXc, o2, q2, v2, h2, hT2⟩ := hcut
              obtain ⟨wd, hwd⟩ : ∃ wd : World, wd = wc := ⟨_, rfl⟩
              subst hwd
              have hall := Lib.hid (all_in hT2.boxes hi)
              have hT2' := Lib.hid hT2
              have hXc' := Lib.hid hXc
              clear hT2 hXc
              have e0 : wd.cell? ⟨X, 0, none⟩ = some (.bool tk) := by simp [World.cell?, show wd.heap[X]? = _ from hXc'.out]
              have e1 : wd.cell? ⟨X, 1, none⟩ = some (.int .i64 i) := by simp [World.cell?, show wd.heap[X]? = _ from hXc'.out]
              go_wp2_with fail
              refine hall.out.mono ?_
              rintro e w5 ⟨va, ha, rfl, hWa, ho5⟩
              have hT5 := Lib.hid (hT2'.out.new ho5)
              have e1' : w5.cell? ⟨X, 1, none⟩ = some (.int .i64 i) := ho5.cell e1 (fun h => h)
              obtain ⟨m, hm⟩ : ∃ m, m = (q2 i).length := ⟨_, rfl⟩
              have hWr := hT5.out.rows.wins i hi
              have hcr := hT5.out.rows.cell hi
              rw [← hm] at hWa hWr
              obtain ⟨pa, ca, rfl, _, _⟩ := hWa.form
              obtain ⟨pr, cr, hvr, _, _⟩ := hWr.form
              rw [hvr] at hcr hWr
              have hmm : ((m : Int) == (m : Int)) = true := by simp
              have hWW := Lib.hid (And.intro hWa hWr)
              have hq4 : m < 4096 + 1 := by have := (hT5.out.boxes.rings i hi).bounds; omega
              have hm' := Lib.hid hm
              clear hWa hWr hm ho5 e0 e1 hall hvr
              go_wp2
              go_loopw [14, 189] (fun _ i wl => ∃ j : Nat, j ≤ m ∧ i = .int .i64 j ∧ ∃ d, wl = w5.drewN d) (fun _ i _ => m - (intOf i).toNat)
              case atStart => exact ⟨0, Nat.zero_le _, rfl, 0, rfl⟩
              case round =>
                obtain ⟨j, hj, rfl, d, rfl⟩ := hrel
                by_cases hjm : j < m
                · obtain ⟨ga, oa, _, _, ea, _, _, _, hca, _⟩ := hWW.out.1.at_ (by omega)
                  obtain ⟨gr, orr, _, _, er, _, _, _, hcrr, _⟩ := hWW.out.2.at_ (by omega)
                  cases ea
                  cases er
                  obtain ⟨y, hy⟩ : ∃ y, (q2 i)[j]? = some y := ⟨(q2 i)[j]'(by have := hm'.out; omega), List.getElem?_eq_getElem _⟩
                  have hy' : ((q2 i).map RingI.mk)[j]? = some (.int .i64 y) := by simp [hy, RingI.mk]
                  have hya : w5.cell? ⟨ga, oa + j, none⟩ = some (.int .i64 y) := hca j _ hy'
                  have hyr : w5.cell? ⟨gr, orr + j, none⟩ = some (.int .i64 y) := hcrr j _ hy'
                  have hjm' : (j : Int) < (m : Int) := by omega
                  clear hy hy' hca hcrr
                  go_wp2
                  go_quiet (fail)
                  go_wp2
                  go_roundw
                  case rel => exact ⟨j + 1, by omega, by go_num, _, rfl⟩
                  case measure => simp [intOf]; omega
                · obtain rfl : j = m := by omega
                  go_wp2
                  go_roundw
                  case rel => exact ⟨k + 1, by omega, by go_num, _, _, _, _, hT5.out.new ((Only.refl _ w5).drewN d)⟩
                  case measure => simp [intOf]; omega
      · by_cases h0 : I < 0
        · have h0' : ¬ 0 ≤ I := by omega
          clear hin
          go_upto_block 2 with fail
          go_cut [11, 12] from 71 to 172 (fun _ _ wc => ActAt X tk I V wc ∧ PRel w B b g n r zs R wc)
          case first =>
            rename_i J K hJ hK
            cases tk with
            | true => (refine wp_mono (sw_no_take_lo K W1 hT1.out hXb'.out hXf'.out (.inl h0) ?_) (fun e a' w' hq => by cases e <;> first | exact hq | exact hq.elim); intro u11 u12 u71 u72 u73 u74 u75 u76 u77 u78 u79 u80 u81 u82 u83 u84 u85 u86 u87 u88 u89 u90 u91 u92 u93 u94 u95 u96 u97 u98 u99 u100 u101 u102 u103 u104 u105 u106 u107 u108 u109 u110 u111 u112 u113 u114 u115 u116 u117 u118 u119 u120 u121 u122 u123 u124 u125 u126 u127 u128 u129 u130 u131 u132 u133 u134 u135 u136 u137 u138 u139 u140 u141 u142 u143 u144 u145 u146 u147 u148 u149 u150 u151 u152 u153 u154 u155 u156 u157 u158 u159 u160 u161 u162 u163 u164 u165 u166 u167 u168 u169 u170 u171 u172 wc h1 h2; exact hK _ _ (hJ _ _ ⟨_, u11, u12, u71, u72, u73, u74, u75, u76, u77, u78, u79, u80, u81, u82, u83, u84, u85, u86, u87, u88, u89, u90, u91, u92, u93, u94, u95, u96, u97, u98, u99, u100, u101, u102, u103, u104, u105, u106, u107, u108, u109, u110, u111, u112, u113, u114, u115, u116, u117, u118, u119, u120, u121, u122, u123, u124, u125, u126, u127, u128, u129, u130, u131, u132, u133, u134, u135, u136, u137, u138, u139, u140, u141, u142, u143, u144, u145, u146, u147, u148, u149, u150, u151, u152, u153, u154, u155, u156, u157, u158, u159, u160, u161, u162, u163, u164, u165, u166, u167, u168, u169, u170, u171, u172, ⟨h1, h2⟩, rfl⟩))
            | false => (refine wp_mono (sw_no_send_lo K W1 hT1.out hXb'.out hXf'.out (.inl h0) ?_) (fun e a' w' hq => by cases e <;> first | exact hq | exact hq.elim); intro u11 u12 u71 u72 u73 u74 u75 u76 u77 u78 u79 u80 u81 u82 u83 u84 u85 u86 u87 u88 u89 u90 u91 u92 u93 u94 u95 u96 u97 u98 u99 u100 u101 u102 u103 u104 u105 u106 u107 u108 u109 u110 u111 u112 u113 u114 u115 u116 u117 u118 u119 u120 u121 u122 u123 u124 u125 u126 u127 u128 u129 u130 u131 u132 u133 u134 u135 u136 u137 u138 u139 u140 u141 u142 u143 u144 u145 u146 u147 u148 u149 u150 u151 u152 u153 u154 u155 u156 u157 u158 u159 u160 u161 u162 u163 u164 u165 u166 u167 u168 u169 u170 u171 u172 wc h1 h2; exact hK _ _ (hJ _ _ ⟨_, u11, u12, u71, u72, u73, u74, u75, u76, u77, u78, u79, u80, u81, u82, u83, u84, u85, u86, u87, u88, u89, u90, u91, u92, u93, u94, u95, u96, u97, u98, u99, u100, u101, u102, u103, u104, u105, u106, u107, u108, u109, u110, u111, u112, u113, u114, u115, u116, u117, u118, u119, u120, u121, u122, u123, u124, u125, u126, u127, u128, u129, u130, u131, u132, u133, u134, u135, u136, u137, u138, u139, u140, u141, u142, u143, u144, u145, u146, u147, u148, u149, u150, u151, u152, u153, u154, u155, u156, u157, u158, u159, u160, u161, u162, u163, u164, u165, u166, u167, u168, u169, u170, u171, u172, ⟨h1, h2⟩, rfl⟩))
          case rest =>
            obtain ⟨_, hend⟩ := hcut
            have hend' := Lib.hid hend
            clear hend
            go_wp2
            go_roundw
            case rel => exact ⟨k + 1, by omega, by go_num, hend'.out⟩
            case measure => simp [intOf]; omega
        · have h0' : 0 ≤ I := by omega
          have h1' : ¬ I < n := by omega
          clear hin
          go_upto_block 2 with fail
          go_cut [11, 12] from 71 to 172 (fun _ _ wc => ActAt X tk I V wc ∧ PRel w B b g n r zs R wc)
          case first =>
            rename_i J K hJ hK
            cases tk with
            | true => (refine wp_mono (sw_no_take_hi K W1 hT1.out hXb'.out hXf'.out (.inr (by omega)) ?_) (fun e a' w' hq => by cases e <;> first | exact hq | exact hq.elim); intro u11 u12 u71 u72 u73 u74 u75 u76 u77 u78 u79 u80 u81 u82 u83 u84 u85 u86 u87 u88 u89 u90 u91 u92 u93 u94 u95 u96 u97 u98 u99 u100 u101 u102 u103 u104 u105 u106 u107 u108 u109 u110 u111 u112 u113 u114 u115 u116 u117 u118 u119 u120 u121 u122 u123 u124 u125 u126 u127 u128 u129 u130 u131 u132 u133 u134 u135 u136 u137 u138 u139 u140 u141 u142 u143 u144 u145 u146 u147 u148 u149 u150 u151 u152 u153 u154 u155 u156 u157 u158 u159 u160 u161 u162 u163 u164 u165 u166 u167 u168 u169 u170 u171 u172 wc h1 h2; exact hK _ _ (hJ _ _ ⟨_, u11, u12, u71, u72, u73, u74, u75, u76, u77, u78, u79, u80, u81, u82, u83, u84, u85, u86, u87, u88, u89, u90, u91, u92, u93, u94, u95, u96, u97, u98, u99, u100, u101, u102, u103, u104, u105, u106, u107, u108, u109, u110, u111, u112, u113, u114, u115, u116, u117, u118, u119, u120, u121, u122, u123, u124, u125, u126, u127, u128, u129, u130, u131, u132, u133, u134, u135, u136, u137, u138, u139, u140, u141, u142, u143, u144, u145, u146, u147, u148, u149, u150, u151, u152, u153, u154, u155, u156, u157, u158, u159, u160, u161, u162, u163, u164, u165, u166, u167, u168, u169, u170, u171, u172, ⟨h1, h2⟩, rfl⟩))
            | false => (refine wp_mono (sw_no_send_hi K W1 hT1.out hXb'.out hXf'.out (.inr (by omega)) ?_) (fun e a' w' hq => by cases e <;> first | exact hq | exact hq.elim); intro u11 u12 u71 u72 u73 u74 u75 u76 u77 u78 u79 u80 u81 u82 u83 u84 u85 u86 u87 u88 u89 u90 u91 u92 u93 u94 u95 u96 u97 u98 u99 u100 u101 u102 u103 u104 u105 u106 u107 u108 u109 u110 u111 u112 u113 u114 u115 u116 u117 u118 u119 u120 u121 u122 u123 u124 u125 u126 u127 u128 u129 u130 u131 u132 u133 u134 u135 u136 u137 u138 u139 u140 u141 u142 u143 u144 u145 u146 u147 u148 u149 u150 u151 u152 u153 u154 u155 u156 u157 u158 u159 u160 u161 u162 u163 u164 u165 u166 u167 u168 u169 u170 u171 u172 wc h1 h2; exact hK _ _ (hJ _ _ ⟨_, u11, u12, u71, u72, u73, u74, u75, u76, u77, u78, u79, u80, u81, u82, u83, u84, u85, u86, u87, u88, u89, u90, u91, u92, u93, u94, u95, u96, u97, u98, u99, u100, u101, u102, u103, u104, u105, u106, u107, u108, u109, u110, u111, u112, u113, u114, u115, u116, u117, u118, u119, u120, u121, u122, u123, u124, u125, u126, u127, u128, u129, u130, u131, u132, u133, u134, u135, u136, u137, u138, u139, u140, u141, u142, u143, u144, u145, u146, u147, u148, u149, u150, u151, u152, u153, u154, u155, u156, u157, u158, u159, u160, u161, u162, u163, u164, u165, u166, u167, u168, u169, u170, u171, u172, ⟨h1, h2⟩, rfl⟩))
          case rest =>
            obtain ⟨_, hend⟩ := hcut
            have hend' := Lib.hid hend
            clear hend
            go_wp2
            go_roundw
            case rel => exact ⟨k + 1, by omega, by go_num, hend'.out⟩
            case measure => simp [intOf]; omega
    · obtain rfl : k = len := by omega
      obtain ⟨o, q, v, h, hT⟩ := hrelk.out
      have hl1 := Lib.hid (len_boxes hT.boxes.cells.1)
      have hl2 := Lib.hid (all_no hT.boxes (i := -1) (.inl (by decide)))
      have hnn : ((n : Int) == (n : Int)) = true := by simp
      clear hT hact hrow
      go_wp2_with (go_at_call 7; refine (recv_nil _ _).mono ?_; rintro e w' ⟨rfl, hw⟩; subst w')
      go_wp2_with fail
      refine hl1.out.mono ?_
      rintro e w' ⟨rfl, hw⟩
      subst w'
      go_wp2_with fail
      refine hl2.out.mono ?_
      rintro e w' ⟨rfl, hw⟩
      subst w'
      go_wp2_with (first | (go_at_call 10; refine (len_boxes_nil _).mono ?_; rintro e w' ⟨rfl, hw⟩; subst w') | (go_at_call 8; refine (send_nil _ _ _).mono ?_; rintro e w' ⟨rfl, hw⟩; subst w'))
      go_ret
      exact ⟨rfl, hO'.out.below (by have := hBe.out; omega) (fun _ h => by have := hBe.out; omega)⟩

theorem plays (A : Option Addr) (n cap : Nat) (zs : Nat → Int) (A2 : Option Addr) (len cap2 : Nat) (z : Nat → Nat → Value) (w : World) (hA : IntRow .i64 w A n zs) (hA2 : Acts w A2 len [.bool, .int .i64, .int .i64] z) :
    Calls Try.prog 3 #[.slice A n cap, .slice A2 len cap2] w fun e w' => e = .returned (.bool true) ∧ Below w.heap.size w w' := by
  by_cases hl : 20 < n ∨ 150 < len
  · exact plays_long A A2 n cap len cap2 w hl
  · exact plays_some A A2 n cap len cap2 zs z w (by omega) (by omega) hA.row hA2
end Go.Proofs.Ytjioljfggmhgcaa
