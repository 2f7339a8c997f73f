/- ReadyPlays from its loops on. -/
import Derived.Test.YteniphdfhmbbeaaDoorPlays16a
import Derived.Test.YteniphdfhmbbeaaDoorRNew
import Derived.Test.YteniphdfhmbbeaaDoorPlays16t
import Derived.Test.YteniphdfhmbbeaaDoorPlays16n
import Derived.Test.YteniphdfhmbbeaaDoorPlays16f
import Derived.Test.YteniphdfhmbbeaaDoorPlays16o
import Derived.Test.YteniphdfhmbbeaaDoorActs
import Derived.Deep.CutBlock
namespace Go.Proofs.YteniphdfhmbbeaaDoor
open Go Go.RowKit Go.Maps Ring Band

noncomputable def rest3 : Code := ((Tryd.f3.body.bind (findAfter 14)).getD .skip)

set_option maxRecDepth 100000 in
set_option maxHeartbeats 32000000 in
theorem plays_rest {w W : World} {pl : Tks} {A2 oA : Option Addr} {len cap2 ocap : Nat} {z : Nat → Nat → Value} {q0 : Nat} {s wy h0 mi g : Int} {mA cA eA tA lA : Option Addr} {mn mc cn cc en ec n tc ln lc : Nat} {S : Nat → Prop} {B G bs bm r R N : Nat} {P ring : Nat → Nat} {oh : Option Nat} {s3 s8 s9 s10 s11 s16 s17 s18 s19 s20 s21 s22 s23 s24 s25 s26 s27 s28 s29 s30 s31 s32 s33 s34 s35 s36 s37 s38 s39 s40 s41 s42 s43 s44 s45 s46 s47 s48 s49 s50 s51 s52 s53 s54 s55 s56 s57 s58 s59 s60 s61 s62 s63 s64 s65 s66 s67 s68 s69 s70 s71 s72 s73 s74 s75 s76 s77 s78 s79 s80 s81 s82 s83 s84 s85 s86 s87 s88 s89 s90 s91 s92 s93 s94 s95 s96 s97 s98 s99 s100 s101 s102 s103 s104 s105 s106 s107 s108 s109 s110 s111 s112 s113 s114 s115 s116 s117 s118 s119 s120 s121 s122 s123 s124 s125 s126 s127 s128 s129 s130 s131 s132 s133 s134 s135 s136 s137 s138 s139 s140 s141 s142 s143 s144 s145 s146 s147 s148 s149 s150 s151 s152 s153 s154 s155 s156 s157 s158 s159 s160 s161 s162 s163 s164 s165 s166 s167 s168 s169 s170 s171 s172 s173 s174 s175 s176 s177 s178 s179 s180 s181 s182 s183 s184 s185 s186 s187 s188 s189 s190 s191 s192 s193 s194 s195 s196 s197 s198 s199 s200 s201 s202 s203 s204 s205 s206 s207 s208 s209 s210 s211 s212 s213 s214 s215 s216 s217 s218 s219 s220 s221 s222 s223 s224 s225 s226 s227 s228 s229 s230 s231 s232 s233 s234 s235 s236 s237 s238 s239 s240 s241 s242 s243 s244 s245 s246 s247 s248 s249 s250 s251 s252 s253 s254 s255 s256 s257 s258 s259 s260 s261 s262 s263 s264 s265 s266 s267 s268 s269 s270 s271 s272 s273 s274 s275 s276 s277 s278 s279 s280 s281 s282 s283 s284 s285 s286 s287 s288 s289 s290 s291 s292 s293 s294 s295 s296 s297 s298 s299 s300 s301 s302 s303 s304 s305 s306 s307 s308 s309 s310 s311 s312 s313 s314 s315 s316 s317 s318 s319 s320 s321 s322 s323 s324 s325 s326 s327 : Value}
    (hn8 : n ≤ 8) (hl : len ≤ 150) (hA2 : Acts w A2 len [.bool, .int .i64, .int .i64] z) (hT : Hid (TasksAt w ⟨tA, n, tc⟩ pl.ts)) (hP : Hid (∀ i, i < n → prio pl.ts i = (P i : Int))) (hw : Only (fun _ => False) w W) (hq0 : q0 = w.heap.size) (e8 : W.cell? ⟨q0, 8, none⟩ = some (.slice tA n tc)) (hS : ∀ k, S k → q0 < k) (_hB : w.heap.size ≤ B)
    (hOrd : Win W 3 1 (.slice oA n ocap) oh n (dat (orderUp (prio pl.ts) n))) (hOS : ∀ b, oh = some b → ¬ S b) (hR : PRel S W B r G bs bm n P ring R N 0 0 W) :
    Code.wp Tryd.prog rest3 (bodyPost Tryd.prog Tryd.f3 (fun e w' => e = .returned (.bool true) ∧ Below w.heap.size w w')) ⟨#[.agg #[.int .i64 s, .int .i64 wy, .int .i64 h0, .int .i64 mi, .slice mA mn mc, .int .i64 g, .slice cA cn cc, .slice eA en ec, .slice tA n tc, .slice lA ln lc], .slice A2 len cap2, .pointer (some ⟨q0, 0, none⟩), s3, .bool false, .pointer (some ⟨r, 0, none⟩), .int .i64 0, .int .i64 0, s8, s9, s10, s11, .slice oA n ocap, .slice (some ⟨R, 0, none⟩) n n, .slice (some ⟨N, 0, none⟩) n n, .int .i64 0, s16, s17, s18, s19, s20, s21, s22, s23, s24, s25, s26, s27, s28, s29, s30, s31, s32, s33, s34, s35, s36, s37, s38, s39, s40, s41, s42, s43, s44, s45, s46, s47, s48, s49, s50, s51, s52, s53, s54, s55, s56, s57, s58, s59, s60, s61, s62, s63, s64, s65, s66, s67, s68, s69, s70, s71, s72, s73, s74, s75, s76, s77, s78, s79, s80, s81, s82, s83, s84, s85, s86, s87, s88, s89, s90, s91, s92, s93, s94, s95, s96, s97, s98, s99, s100, s101, s102, s103, s104, s105, s106, s107, s108, s109, s110, s111, s112, s113, s114, s115, s116, s117, s118, s119, s120, s121, s122, s123, s124, s125, s126, s127, s128, s129, s130, s131, s132, s133, s134, s135, s136, s137, s138, s139, s140, s141, s142, s143, s144, s145, s146, s147, s148, s149, s150, s151, s152, s153, s154, s155, s156, s157, s158, s159, s160, s161, s162, s163, s164, s165, s166, s167, s168, s169, s170, s171, s172, s173, s174, s175, s176, s177, s178, s179, s180, s181, s182, s183, s184, s185, s186, s187, s188, s189, s190, s191, s192, s193, s194, s195, s196, s197, s198, s199, s200, s201, s202, s203, s204, s205, s206, s207, s208, s209, s210, s211, s212, s213, s214, s215, s216, s217, s218, s219, s220, s221, s222, s223, s224, s225, s226, s227, s228, s229, s230, s231, s232, s233, s234, s235, s236, s237, s238, s239, s240, s241, s242, s243, s244, s245, s246, s247, s248, s249, s250, s251, s252, s253, s254, s255, s256, s257, s258, s259, s260, s261, s262, s263, s264, s265, s266, s267, s268, s269, s270, s271, s272, s273, s274, s275, s276, s277, s278, s279, s280, s281, s282, s283, s284, s285, s286, s287, s288, s289, s290, s291, s292, s293, s294, s295, s296, s297, s298, s299, s300, s301, s302, s303, s304, s305, s306, s307, s308, s309, s310, s311, s312, s313, s314, s315, s316, s317, s318, s319, s320, s321, s322, s323, s324, s325, s326, s327], []⟩ W := by
  have hA2' := Lib.hid hA2
  have hOrd' := Lib.hid hOrd
  have hOS' := Lib.hid hOS
  have hS' := Lib.hid hS
  have hw' := Lib.hid hw
  have hq' := Lib.hid hq0
  have hR' := Lib.hid hR
  have e8' := Lib.hid e8
  clear hA2 hOrd hOS hS hw hq0 hR e8
  conv => arg 2; whnf
  go_wp2
  go_loopw [15, 103] (fun al i wr => ∃ (k : Nat) (a : Int), k ≤ len ∧ i = .int .i64 k ∧ al = .int .i64 a ∧ PRel S W B r G bs bm n P ring R N k a wr) (fun _ i _ => len - (intOf i).toNat)
  case atStart => exact ⟨0, 0, Nat.zero_le _, rfl, rfl, hR'.out⟩
  case round =>
    clear hR'
    obtain ⟨k, a, hk, rfl, rfl, hrel⟩ := hrel
    obtain ⟨ws, hws⟩ : ∃ ws : World, ws = wr := ⟨_, rfl⟩
    subst hws
    have hOs : Only S W ws := by obtain ⟨_, _, _, _, _, _, h, _⟩ := hrel; exact h.only
    have hOw : Only (fun k => w.heap.size < k) w ws := (hw'.out.mono (fun _ _ h => h.elim)).trans hOs (fun x _ hx => by have := hS'.out x hx; have := hq'.out; omega)
    have hact := Lib.hid (hA2'.out.only hOw (fun _ h => by omega))
    have hOw' := Lib.hid hOw
    have hOrk := Lib.hid (hOrd'.out.kept hOs (fun b hb => hOS'.out b hb))
    have d8 := Lib.hid (hOs.cell e8'.out (fun h => by have := hS'.out _ h; simp only at this; omega))
    have hrelk := Lib.hid hrel
    clear hrel hOs hOw
    by_cases hlt : k < len
    · obtain ⟨ba, off, rfl, hba, hc⟩ := hact.out k hlt
      obtain ⟨c0, e0⟩ := hc 0 .bool rfl
      obtain ⟨c1, e1⟩ := hc 1 (.int .i64) rfl
      obtain ⟨c2, e2⟩ := hc 2 (.int .i64) rfl
      obtain ⟨tk, e0⟩ := e0
      obtain ⟨I, e1, hI⟩ := e1
      obtain ⟨V, e2, hV⟩ := e2
      rw [e0] at c0
      rw [e1] at c1
      rw [e2] at c2
      change ws.cell? ⟨ba, off + k * 3, none⟩ = _ at c0
      change ws.cell? ⟨ba, off + k * 3 + 1, none⟩ = _ at c1
      change ws.cell? ⟨ba, off + k * 3 + 2, none⟩ = _ at c2
      clear hc hact hI hV e0 e1 e2
      go_upto_region 18 with fail
      obtain ⟨X, hX⟩ : ∃ X, X = ws.heap.size := ⟨_, rfl⟩
      obtain ⟨W1, hW1⟩ : ∃ W1, W1 = ws.alloc (.cells #[.bool tk, .int .i64 I, .int .i64 V] 48) := ⟨_, rfl⟩
      rw [← hX, ← hW1]
      have o1 : Only (fun _ => False) ws W1 := hW1 ▸ (Only.refl _ ws).alloc _
      have hXb : W1.heap[X]? = some (.cells #[.bool tk, .int .i64 I, .int .i64 V] 48 (0, 0)) := by rw [hW1, hX]; exact heap_alloc_new _ _
      obtain ⟨nx, o, q, m, v, h, hTl, hnx, ha⟩ := hrelk.out
      have hXf := Lib.hid (show ∀ k, tfp r G bs bm n ring o N k ∨ k = R ∨ (∃ i, i < n ∧ h i = some k) → k ≠ X from fun k hk e => by have := hTl.lt k hk; omega)
      have hT1 := Lib.hid (hTl.new o1)
      have hOr1 := Lib.hid (hOrk.out.kept o1 (fun _ _ h => h))
      have d8' := Lib.hid (o1.cell d8.out (fun h => h))
      have hOw1 := Lib.hid (hOw'.out.trans o1 (fun _ _ h => h.elim))
      have hnx' := Lib.hid hnx
      have hXb' := Lib.hid hXb
      clear hTl hnx hrelk hOrk d8 hX hW1 o1 c0 c1 c2 hba hOw' hXb
      have hn64 : (n : Int) ≤ 8 := by omega
      go_wp2
      obtain ⟨L, hL⟩ : ∃ L, L = orderUp (prio pl.ts) n := ⟨_, rfl⟩
      have hLL := Lib.hid (show L.length = n by rw [hL, order_length])
      have hLm := Lib.hid (show ∀ y ∈ L, y < n from fun y hy => order_lt (p := prio pl.ts) (by rw [← hL]; exact hy))
      have hLt := Lib.hid (show (pick q L = -1 ∧ ∀ i, i < n → q i = []) ∨ ∃ t, pick q L = (t : Nat) ∧ IsTop n P q t by rw [hL]; exact pick_top hP.out)
      rw [← hL] at hOr1
      clear hL
      go_loopw [18, 19] (fun f i wl => ∃ j : Nat, j ≤ n ∧ i = .int .i64 ((j : Int) - 1) ∧ f = .int .i64 (pick q (L.drop j)) ∧ W1 = wl) (fun _ i _ => (intOf i + 1).toNat)
      case atStart => exact ⟨n, Nat.le_refl _, rfl, by rw [List.drop_eq_nil_of_le (by rw [hLL.out]; omega)]; rfl, rfl⟩
      case round =>
        obtain ⟨j, hj, rfl, rfl, hwl⟩ := hrel
        subst hwl
        cases j with
        | zero =>
          rw [List.drop_zero]
          rcases hLt.out with ⟨hp, hq0⟩ | ⟨t, hp, ht⟩
          · -- [N
            rw [hp]
            have qf := Lib.hid (first_none hT1.out.rd hT1.out.bits hq0)
            rw [show zjb.val = .agg #[.int .i64 0, .int .i64 0, .int .i64 0] from rfl] at qf
            clear hp
            go_wp2_with fail
            refine qf.out.mono ?_
            rintro e w2 ⟨rfl, h2⟩
            have hk2 := Lib.hid (h2.alloc (.cells #[.int .i64 0, .int .i64 0, .int .i64 0] 37))
            clear h2 qf
            go_upto_region 25 with fail
            go_quiet (fail)
            go_upto_block 4 with fail
            obtain ⟨Wb, hWb⟩ : ∃ Wb : World, Wb = (w2.alloc (.cells #[.int .i64 0, .int .i64 0, .int .i64 0] 37)).drewN nq := ⟨_, rfl⟩
            rw [← hWb]
            have oB : Only (fun _ => False) W1 Wb := hWb ▸ (hk2.out.drewN nq)
            have hTb := Lib.hid (hT1.out.new oB)
            have hXb2 := Lib.hid (oB.heap hXb'.out (fun h => h))
            have hE8 := Lib.hid (oB.cell d8'.out (fun h => h))
            have hEl := Lib.hid (World.block_lt_of_cell? Wb _ hE8.out)
            clear hWb oB hk2
            go_cut [4, 15, 23, 24, 25, 26, 27, 28, 29] from 160 to 282 (fun _ al _ _ _ _ _ _ _ wc => ∃ a', al = .int .i64 a' ∧ PRel S W B r G bs bm n P ring R N (k + 1) a' wc)
            case first =>
              rename_i J K hJ hK
              cases tk with
              | true => (refine wp_mono (sw_take_none (E := K) hTb.out hnx'.out hXb2.out hXf.out hn8 (by omega) hq0 ?_) (fun e a' w' hq => by cases e <;> first | exact hq | exact hq.elim); intro u4 u23 u24 u25 u26 u27 u28 u29 u160 u161 u162 u163 u164 u165 u166 u167 u168 u169 u170 u171 u172 u173 u174 u175 u176 u177 u178 u179 u180 u181 u182 u183 u184 u185 u186 u187 u188 u189 u190 u191 u192 u193 u194 u195 u196 u197 u198 u199 u200 u201 u202 u203 u204 u205 u206 u207 u208 u209 u210 u211 u212 u213 u214 u215 u216 u217 u218 u219 u220 u221 u222 u223 u224 u225 u226 u227 u228 u229 u230 u231 u232 u233 u234 u235 u236 u237 u238 u239 u240 u241 u242 u243 u244 u245 u246 u247 u248 u249 u250 u251 u252 u253 u254 u255 u256 u257 u258 u259 u260 u261 u262 u263 u264 u265 u266 u267 u268 u269 u270 u271 u272 u273 u274 u275 u276 u277 u278 u279 u280 u281 u282 al wc h1; exact hK _ _ (hJ _ _ ⟨u4, .int .i64 al, u23, u24, u25, u26, u27, u28, u29, u160, u161, u162, u163, u164, u165, u166, u167, u168, u169, u170, u171, u172, u173, u174, u175, u176, u177, u178, u179, u180, u181, u182, u183, u184, u185, u186, u187, u188, u189, u190, u191, u192, u193, u194, u195, u196, u197, u198, u199, u200, u201, u202, u203, u204, u205, u206, u207, u208, u209, u210, u211, u212, u213, u214, u215, u216, u217, u218, u219, u220, u221, u222, u223, u224, u225, u226, u227, u228, u229, u230, u231, u232, u233, u234, u235, u236, u237, u238, u239, u240, u241, u242, u243, u244, u245, u246, u247, u248, u249, u250, u251, u252, u253, u254, u255, u256, u257, u258, u259, u260, u261, u262, u263, u264, u265, u266, u267, u268, u269, u270, u271, u272, u273, u274, u275, u276, u277, u278, u279, u280, u281, u282, ⟨al, rfl, h1⟩, rfl⟩))
              | false =>
                by_cases hI1 : I < 0
                · (refine wp_mono (sw_no_lo (E := K) hTb.out hnx'.out hXb2.out hXf.out hn8 (by omega) hE8.out hI1 ?_) (fun e a' w' hq => by cases e <;> first | exact hq | exact hq.elim); intro u4 u23 u24 u25 u26 u27 u28 u29 u160 u161 u162 u163 u164 u165 u166 u167 u168 u169 u170 u171 u172 u173 u174 u175 u176 u177 u178 u179 u180 u181 u182 u183 u184 u185 u186 u187 u188 u189 u190 u191 u192 u193 u194 u195 u196 u197 u198 u199 u200 u201 u202 u203 u204 u205 u206 u207 u208 u209 u210 u211 u212 u213 u214 u215 u216 u217 u218 u219 u220 u221 u222 u223 u224 u225 u226 u227 u228 u229 u230 u231 u232 u233 u234 u235 u236 u237 u238 u239 u240 u241 u242 u243 u244 u245 u246 u247 u248 u249 u250 u251 u252 u253 u254 u255 u256 u257 u258 u259 u260 u261 u262 u263 u264 u265 u266 u267 u268 u269 u270 u271 u272 u273 u274 u275 u276 u277 u278 u279 u280 u281 u282 al wc h1; exact hK _ _ (hJ _ _ ⟨u4, .int .i64 al, u23, u24, u25, u26, u27, u28, u29, u160, u161, u162, u163, u164, u165, u166, u167, u168, u169, u170, u171, u172, u173, u174, u175, u176, u177, u178, u179, u180, u181, u182, u183, u184, u185, u186, u187, u188, u189, u190, u191, u192, u193, u194, u195, u196, u197, u198, u199, u200, u201, u202, u203, u204, u205, u206, u207, u208, u209, u210, u211, u212, u213, u214, u215, u216, u217, u218, u219, u220, u221, u222, u223, u224, u225, u226, u227, u228, u229, u230, u231, u232, u233, u234, u235, u236, u237, u238, u239, u240, u241, u242, u243, u244, u245, u246, u247, u248, u249, u250, u251, u252, u253, u254, u255, u256, u257, u258, u259, u260, u261, u262, u263, u264, u265, u266, u267, u268, u269, u270, u271, u272, u273, u274, u275, u276, u277, u278, u279, u280, u281, u282, ⟨al, rfl, h1⟩, rfl⟩))
                · by_cases hI2 : (n : Int) ≤ I
                  · (refine wp_mono (sw_no_hi (E := K) hTb.out hnx'.out hXb2.out hXf.out hn8 (by omega) hE8.out hI2 ?_) (fun e a' w' hq => by cases e <;> first | exact hq | exact hq.elim); intro u4 u23 u24 u25 u26 u27 u28 u29 u160 u161 u162 u163 u164 u165 u166 u167 u168 u169 u170 u171 u172 u173 u174 u175 u176 u177 u178 u179 u180 u181 u182 u183 u184 u185 u186 u187 u188 u189 u190 u191 u192 u193 u194 u195 u196 u197 u198 u199 u200 u201 u202 u203 u204 u205 u206 u207 u208 u209 u210 u211 u212 u213 u214 u215 u216 u217 u218 u219 u220 u221 u222 u223 u224 u225 u226 u227 u228 u229 u230 u231 u232 u233 u234 u235 u236 u237 u238 u239 u240 u241 u242 u243 u244 u245 u246 u247 u248 u249 u250 u251 u252 u253 u254 u255 u256 u257 u258 u259 u260 u261 u262 u263 u264 u265 u266 u267 u268 u269 u270 u271 u272 u273 u274 u275 u276 u277 u278 u279 u280 u281 u282 al wc h1; exact hK _ _ (hJ _ _ ⟨u4, .int .i64 al, u23, u24, u25, u26, u27, u28, u29, u160, u161, u162, u163, u164, u165, u166, u167, u168, u169, u170, u171, u172, u173, u174, u175, u176, u177, u178, u179, u180, u181, u182, u183, u184, u185, u186, u187, u188, u189, u190, u191, u192, u193, u194, u195, u196, u197, u198, u199, u200, u201, u202, u203, u204, u205, u206, u207, u208, u209, u210, u211, u212, u213, u214, u215, u216, u217, u218, u219, u220, u221, u222, u223, u224, u225, u226, u227, u228, u229, u230, u231, u232, u233, u234, u235, u236, u237, u238, u239, u240, u241, u242, u243, u244, u245, u246, u247, u248, u249, u250, u251, u252, u253, u254, u255, u256, u257, u258, u259, u260, u261, u262, u263, u264, u265, u266, u267, u268, u269, u270, u271, u272, u273, u274, u275, u276, u277, u278, u279, u280, u281, u282, ⟨al, rfl, h1⟩, rfl⟩))
                  · have hIn : I = ((I.toNat : Nat) : Int) := by omega
                    have hin : I.toNat < n := by omega
                    by_cases hq4 : (q I.toNat).length < 4
                    · (refine wp_mono (sw_room (E := K) hTb.out hnx'.out hXb2.out hXf.out hn8 (by omega) hIn hin hq4 hE8.out hEl.out ?_) (fun e a' w' hq => by cases e <;> first | exact hq | exact hq.elim); intro u4 u23 u24 u25 u26 u27 u28 u29 u160 u161 u162 u163 u164 u165 u166 u167 u168 u169 u170 u171 u172 u173 u174 u175 u176 u177 u178 u179 u180 u181 u182 u183 u184 u185 u186 u187 u188 u189 u190 u191 u192 u193 u194 u195 u196 u197 u198 u199 u200 u201 u202 u203 u204 u205 u206 u207 u208 u209 u210 u211 u212 u213 u214 u215 u216 u217 u218 u219 u220 u221 u222 u223 u224 u225 u226 u227 u228 u229 u230 u231 u232 u233 u234 u235 u236 u237 u238 u239 u240 u241 u242 u243 u244 u245 u246 u247 u248 u249 u250 u251 u252 u253 u254 u255 u256 u257 u258 u259 u260 u261 u262 u263 u264 u265 u266 u267 u268 u269 u270 u271 u272 u273 u274 u275 u276 u277 u278 u279 u280 u281 u282 al wc h1; exact hK _ _ (hJ _ _ ⟨u4, .int .i64 al, u23, u24, u25, u26, u27, u28, u29, u160, u161, u162, u163, u164, u165, u166, u167, u168, u169, u170, u171, u172, u173, u174, u175, u176, u177, u178, u179, u180, u181, u182, u183, u184, u185, u186, u187, u188, u189, u190, u191, u192, u193, u194, u195, u196, u197, u198, u199, u200, u201, u202, u203, u204, u205, u206, u207, u208, u209, u210, u211, u212, u213, u214, u215, u216, u217, u218, u219, u220, u221, u222, u223, u224, u225, u226, u227, u228, u229, u230, u231, u232, u233, u234, u235, u236, u237, u238, u239, u240, u241, u242, u243, u244, u245, u246, u247, u248, u249, u250, u251, u252, u253, u254, u255, u256, u257, u258, u259, u260, u261, u262, u263, u264, u265, u266, u267, u268, u269, u270, u271, u272, u273, u274, u275, u276, u277, u278, u279, u280, u281, u282, ⟨al, rfl, h1⟩, rfl⟩))
                    · (refine wp_mono (sw_full (E := K) hTb.out hnx'.out hXb2.out hXf.out hn8 (by omega) hIn hin hq4 hE8.out hEl.out ?_) (fun e a' w' hq => by cases e <;> first | exact hq | exact hq.elim); intro u4 u23 u24 u25 u26 u27 u28 u29 u160 u161 u162 u163 u164 u165 u166 u167 u168 u169 u170 u171 u172 u173 u174 u175 u176 u177 u178 u179 u180 u181 u182 u183 u184 u185 u186 u187 u188 u189 u190 u191 u192 u193 u194 u195 u196 u197 u198 u199 u200 u201 u202 u203 u204 u205 u206 u207 u208 u209 u210 u211 u212 u213 u214 u215 u216 u217 u218 u219 u220 u221 u222 u223 u224 u225 u226 u227 u228 u229 u230 u231 u232 u233 u234 u235 u236 u237 u238 u239 u240 u241 u242 u243 u244 u245 u246 u247 u248 u249 u250 u251 u252 u253 u254 u255 u256 u257 u258 u259 u260 u261 u262 u263 u264 u265 u266 u267 u268 u269 u270 u271 u272 u273 u274 u275 u276 u277 u278 u279 u280 u281 u282 al wc h1; exact hK _ _ (hJ _ _ ⟨u4, .int .i64 al, u23, u24, u25, u26, u27, u28, u29, u160, u161, u162, u163, u164, u165, u166, u167, u168, u169, u170, u171, u172, u173, u174, u175, u176, u177, u178, u179, u180, u181, u182, u183, u184, u185, u186, u187, u188, u189, u190, u191, u192, u193, u194, u195, u196, u197, u198, u199, u200, u201, u202, u203, u204, u205, u206, u207, u208, u209, u210, u211, u212, u213, u214, u215, u216, u217, u218, u219, u220, u221, u222, u223, u224, u225, u226, u227, u228, u229, u230, u231, u232, u233, u234, u235, u236, u237, u238, u239, u240, u241, u242, u243, u244, u245, u246, u247, u248, u249, u250, u251, u252, u253, u254, u255, u256, u257, u258, u259, u260, u261, u262, u263, u264, u265, u266, u267, u268, u269, u270, u271, u272, u273, u274, u275, u276, u277, u278, u279, u280, u281, u282, ⟨al, rfl, h1⟩, rfl⟩))
            case rest =>
              obtain ⟨a', rfl, hrel⟩ := hcut
              obtain ⟨wd, hwd⟩ : ∃ wd : World, wd = wc := ⟨_, rfl⟩
              subst hwd
              obtain ⟨nx2, o2, q2, m2, v2, h2, hT2, hnx2, ha2⟩ := hrel
              have ql := Lib.hid (rlen_any hT2.rd hn8)
              rw [← ha2] at ql
              have hrel2 := Lib.hid (fun W' (hW : Only (fun _ => False) wd W') => show PRel S W B r G bs bm n P ring R N (k + 1) a' W' from ⟨_, _, _, _, _, _, hT2.new hW, hnx2, ha2⟩)
              clear hT2 hnx2 ha2
              have hself : (a' == a') = true := by simp
              go_wp2_with fail
              refine ql.out.mono ?_
              rintro e w5 ⟨rfl, h5⟩
              have hrel3 := Lib.hid (hrel2.out w5 h5)
              clear h5 ql hrel2
              go_wp2
              go_roundw
              case rel => exact ⟨k + 1, a', by omega, by go_num, rfl, hrel3.out⟩
              case measure => simp [intOf]; omega
            -- N]
          · -- [T
            obtain ⟨x, l, hx⟩ : ∃ x l, q t = x :: l := by
              cases hqt : q t with
              | nil => exact absurd hqt ht.2.1
              | cons x l => exact ⟨x, l, rfl⟩
            have htn := ht.1
            have htn' : (t : Int) < (n : Int) := by omega
            have ht' := Lib.hid ht
            have hx' := Lib.hid hx
            rw [hp]
            have qf := Lib.hid (first_some hT1.out.rd hT1.out.bits ht hx)
            rw [show x.val = .agg #[.int .i64 x.t, .int .i64 x.n, .int .i64 x.r] from rfl] at qf
            obtain ⟨ga, oa, ca, hga, hva, hca1, _, hgl, hca, _⟩ := (hT1.out.rows.wins t htn).at_ (by rw [hx]; simp)
            have f2 := hT1.out.rows.cell htn
            rw [hva] at f2
            have hlen : 0 < (q t).length := by rw [hx]; simp
            obtain ⟨mm, hmm⟩ : ∃ mm, mm = (q t).length := ⟨_, rfl⟩
            rw [← hmm] at hlen f2
            have hlen' : (0 : Int) < (mm : Int) := by omega
            have g0 : W1.cell? ⟨ga, oa, none⟩ = some (.int .i64 x.t) := hca 0 (.int .i64 x.t) (by rw [hx]; rfl)
            have g1 := hca 1 (.int .i64 x.n) (by rw [hx]; rfl)
            have g2 := hca 2 (.int .i64 x.r) (by rw [hx]; rfl)
            obtain ⟨tv, htv⟩ : ∃ tv, pl.ts[t]? = some tv := ⟨_, List.getElem?_eq_getElem (by have := hT.out.len; simp only at this; omega)⟩
            obtain ⟨bt, ot, hAt, hbt, hCt⟩ := hT.out.at_ t tv htv
            simp only at hAt
            subst hAt
            have hpt : tv.p = (P t : Int) := by rw [← prio_at htv]; exact hP.out t htn
            have p0 : W1.cell? ⟨bt, ot + t * 7, none⟩ = some (.int .i64 (P t)) := by rw [← hpt]; exact hOw1.out.cell hCt.c0 (fun h => by simp only at h; omega)
            have d8w := d8'.out
            clear hp hca hCt hva htv hpt ht hx hbt hmm hca1
            go_wp2_with fail
            refine qf.out.mono ?_
            rintro e w2 ⟨rfl, h2⟩
            have oC := h2.alloc (.cells #[.int .i64 x.t, .int .i64 x.n, .int .i64 x.r] 37)
            have hk2 := Lib.hid oC
            have hAl := Lib.hid h2.size
            have hcA := Lib.hid (heap_new_at w2 (.cells #[.int .i64 x.t, .int .i64 x.n, .int .i64 x.r] 37) rfl)
            obtain ⟨w3, hw3⟩ : ∃ w3, w3 = w2.alloc (.cells #[.int .i64 x.t, .int .i64 x.n, .int .i64 x.r] 37) := ⟨_, rfl⟩
            obtain ⟨Af, hAf⟩ : ∃ Af, Af = w2.heap.size := ⟨_, rfl⟩
            rw [← hw3] at oC hk2 hcA
            rw [← hAf] at hAl hcA
            have y0 := row_cell (L := [_, _, _]) hcA.out (i := 0) rfl
            have y1 := row_cell (L := [_, _, _]) hcA.out (i := 1) rfl
            have y2 := row_cell (L := [_, _, _]) hcA.out (i := 2) rfl
            replace f2 := oC.cell f2 (fun h => h)
            replace g0 := oC.cell g0 (fun h => h)
            replace g1 := oC.cell g1 (fun h => h)
            replace g2 := oC.cell g2 (fun h => h)
            replace p0 := oC.cell p0 (fun h => h)
            replace d8w := oC.cell d8w (fun h => h)
            have hw3' := Lib.hid hw3
            have hAf' := Lib.hid hAf
            clear h2 qf oC hw3 hAf
            go_upto_region 25 with fail
            rw [← hw3'.out, ← hAf'.out]
            go_quiet (fail)
            go_upto_block 4 with fail
            obtain ⟨Wb, hWb⟩ : ∃ Wb : World, Wb = w3.drewN nq := ⟨_, rfl⟩
            rw [← hWb]
            have oB : Only (fun _ => False) W1 Wb := hWb ▸ (hk2.out.drewN nq)
            have hTb := Lib.hid (hT1.out.new oB)
            have hXb2 := Lib.hid (oB.heap hXb'.out (fun h => h))
            have hE8 := Lib.hid (oB.cell d8'.out (fun h => h))
            have hEl := Lib.hid (World.block_lt_of_cell? Wb _ hE8.out)
            have hAb := Lib.hid (show Wb.heap[Af]? = some (.cells x.cells.toArray 37 (0, 0)) from hWb ▸ hcA.out)
            have hAfo := Lib.hid (show ∀ k, tfp r G bs bm n ring o N k ∨ k = R ∨ (∃ i, i < n ∧ h i = some k) → k ≠ Af from fun k hk e => by have := hT1.out.lt k hk; have := hAl.out; omega)
            clear y0 y1 y2 f2 g0 g1 g2 p0 d8w
            clear hWb oB hk2
            go_cut [4, 15, 23, 24, 25, 26, 27, 28, 29] from 160 to 282 (fun _ al _ _ _ _ _ _ _ wc => ∃ a', al = .int .i64 a' ∧ PRel S W B r G bs bm n P ring R N (k + 1) a' wc)
            case first =>
              rename_i J K hJ hK
              cases tk with
              | true => (refine wp_mono (sw_take_some (E := K) hTb.out hnx'.out hXb2.out hXf.out hn8 (by omega) ht'.out hx'.out hAb.out hAfo.out ?_) (fun e a' w' hq => by cases e <;> first | exact hq | exact hq.elim); intro u4 u23 u24 u25 u26 u27 u28 u29 u160 u161 u162 u163 u164 u165 u166 u167 u168 u169 u170 u171 u172 u173 u174 u175 u176 u177 u178 u179 u180 u181 u182 u183 u184 u185 u186 u187 u188 u189 u190 u191 u192 u193 u194 u195 u196 u197 u198 u199 u200 u201 u202 u203 u204 u205 u206 u207 u208 u209 u210 u211 u212 u213 u214 u215 u216 u217 u218 u219 u220 u221 u222 u223 u224 u225 u226 u227 u228 u229 u230 u231 u232 u233 u234 u235 u236 u237 u238 u239 u240 u241 u242 u243 u244 u245 u246 u247 u248 u249 u250 u251 u252 u253 u254 u255 u256 u257 u258 u259 u260 u261 u262 u263 u264 u265 u266 u267 u268 u269 u270 u271 u272 u273 u274 u275 u276 u277 u278 u279 u280 u281 u282 al wc h1; exact hK _ _ (hJ _ _ ⟨u4, .int .i64 al, u23, u24, u25, u26, u27, u28, u29, u160, u161, u162, u163, u164, u165, u166, u167, u168, u169, u170, u171, u172, u173, u174, u175, u176, u177, u178, u179, u180, u181, u182, u183, u184, u185, u186, u187, u188, u189, u190, u191, u192, u193, u194, u195, u196, u197, u198, u199, u200, u201, u202, u203, u204, u205, u206, u207, u208, u209, u210, u211, u212, u213, u214, u215, u216, u217, u218, u219, u220, u221, u222, u223, u224, u225, u226, u227, u228, u229, u230, u231, u232, u233, u234, u235, u236, u237, u238, u239, u240, u241, u242, u243, u244, u245, u246, u247, u248, u249, u250, u251, u252, u253, u254, u255, u256, u257, u258, u259, u260, u261, u262, u263, u264, u265, u266, u267, u268, u269, u270, u271, u272, u273, u274, u275, u276, u277, u278, u279, u280, u281, u282, ⟨al, rfl, h1⟩, rfl⟩))
              | false =>
                by_cases hI1 : I < 0
                · (refine wp_mono (sw_no_lo (E := K) hTb.out hnx'.out hXb2.out hXf.out hn8 (by omega) hE8.out hI1 ?_) (fun e a' w' hq => by cases e <;> first | exact hq | exact hq.elim); intro u4 u23 u24 u25 u26 u27 u28 u29 u160 u161 u162 u163 u164 u165 u166 u167 u168 u169 u170 u171 u172 u173 u174 u175 u176 u177 u178 u179 u180 u181 u182 u183 u184 u185 u186 u187 u188 u189 u190 u191 u192 u193 u194 u195 u196 u197 u198 u199 u200 u201 u202 u203 u204 u205 u206 u207 u208 u209 u210 u211 u212 u213 u214 u215 u216 u217 u218 u219 u220 u221 u222 u223 u224 u225 u226 u227 u228 u229 u230 u231 u232 u233 u234 u235 u236 u237 u238 u239 u240 u241 u242 u243 u244 u245 u246 u247 u248 u249 u250 u251 u252 u253 u254 u255 u256 u257 u258 u259 u260 u261 u262 u263 u264 u265 u266 u267 u268 u269 u270 u271 u272 u273 u274 u275 u276 u277 u278 u279 u280 u281 u282 al wc h1; exact hK _ _ (hJ _ _ ⟨u4, .int .i64 al, u23, u24, u25, u26, u27, u28, u29, u160, u161, u162, u163, u164, u165, u166, u167, u168, u169, u170, u171, u172, u173, u174, u175, u176, u177, u178, u179, u180, u181, u182, u183, u184, u185, u186, u187, u188, u189, u190, u191, u192, u193, u194, u195, u196, u197, u198, u199, u200, u201, u202, u203, u204, u205, u206, u207, u208, u209, u210, u211, u212, u213, u214, u215, u216, u217, u218, u219, u220, u221, u222, u223, u224, u225, u226, u227, u228, u229, u230, u231, u232, u233, u234, u235, u236, u237, u238, u239, u240, u241, u242, u243, u244, u245, u246, u247, u248, u249, u250, u251, u252, u253, u254, u255, u256, u257, u258, u259, u260, u261, u262, u263, u264, u265, u266, u267, u268, u269, u270, u271, u272, u273, u274, u275, u276, u277, u278, u279, u280, u281, u282, ⟨al, rfl, h1⟩, rfl⟩))
                · by_cases hI2 : (n : Int) ≤ I
                  · (refine wp_mono (sw_no_hi (E := K) hTb.out hnx'.out hXb2.out hXf.out hn8 (by omega) hE8.out hI2 ?_) (fun e a' w' hq => by cases e <;> first | exact hq | exact hq.elim); intro u4 u23 u24 u25 u26 u27 u28 u29 u160 u161 u162 u163 u164 u165 u166 u167 u168 u169 u170 u171 u172 u173 u174 u175 u176 u177 u178 u179 u180 u181 u182 u183 u184 u185 u186 u187 u188 u189 u190 u191 u192 u193 u194 u195 u196 u197 u198 u199 u200 u201 u202 u203 u204 u205 u206 u207 u208 u209 u210 u211 u212 u213 u214 u215 u216 u217 u218 u219 u220 u221 u222 u223 u224 u225 u226 u227 u228 u229 u230 u231 u232 u233 u234 u235 u236 u237 u238 u239 u240 u241 u242 u243 u244 u245 u246 u247 u248 u249 u250 u251 u252 u253 u254 u255 u256 u257 u258 u259 u260 u261 u262 u263 u264 u265 u266 u267 u268 u269 u270 u271 u272 u273 u274 u275 u276 u277 u278 u279 u280 u281 u282 al wc h1; exact hK _ _ (hJ _ _ ⟨u4, .int .i64 al, u23, u24, u25, u26, u27, u28, u29, u160, u161, u162, u163, u164, u165, u166, u167, u168, u169, u170, u171, u172, u173, u174, u175, u176, u177, u178, u179, u180, u181, u182, u183, u184, u185, u186, u187, u188, u189, u190, u191, u192, u193, u194, u195, u196, u197, u198, u199, u200, u201, u202, u203, u204, u205, u206, u207, u208, u209, u210, u211, u212, u213, u214, u215, u216, u217, u218, u219, u220, u221, u222, u223, u224, u225, u226, u227, u228, u229, u230, u231, u232, u233, u234, u235, u236, u237, u238, u239, u240, u241, u242, u243, u244, u245, u246, u247, u248, u249, u250, u251, u252, u253, u254, u255, u256, u257, u258, u259, u260, u261, u262, u263, u264, u265, u266, u267, u268, u269, u270, u271, u272, u273, u274, u275, u276, u277, u278, u279, u280, u281, u282, ⟨al, rfl, h1⟩, rfl⟩))
                  · have hIn : I = ((I.toNat : Nat) : Int) := by omega
                    have hin : I.toNat < n := by omega
                    by_cases hq4 : (q I.toNat).length < 4
                    · (refine wp_mono (sw_room (E := K) hTb.out hnx'.out hXb2.out hXf.out hn8 (by omega) hIn hin hq4 hE8.out hEl.out ?_) (fun e a' w' hq => by cases e <;> first | exact hq | exact hq.elim); intro u4 u23 u24 u25 u26 u27 u28 u29 u160 u161 u162 u163 u164 u165 u166 u167 u168 u169 u170 u171 u172 u173 u174 u175 u176 u177 u178 u179 u180 u181 u182 u183 u184 u185 u186 u187 u188 u189 u190 u191 u192 u193 u194 u195 u196 u197 u198 u199 u200 u201 u202 u203 u204 u205 u206 u207 u208 u209 u210 u211 u212 u213 u214 u215 u216 u217 u218 u219 u220 u221 u222 u223 u224 u225 u226 u227 u228 u229 u230 u231 u232 u233 u234 u235 u236 u237 u238 u239 u240 u241 u242 u243 u244 u245 u246 u247 u248 u249 u250 u251 u252 u253 u254 u255 u256 u257 u258 u259 u260 u261 u262 u263 u264 u265 u266 u267 u268 u269 u270 u271 u272 u273 u274 u275 u276 u277 u278 u279 u280 u281 u282 al wc h1; exact hK _ _ (hJ _ _ ⟨u4, .int .i64 al, u23, u24, u25, u26, u27, u28, u29, u160, u161, u162, u163, u164, u165, u166, u167, u168, u169, u170, u171, u172, u173, u174, u175, u176, u177, u178, u179, u180, u181, u182, u183, u184, u185, u186, u187, u188, u189, u190, u191, u192, u193, u194, u195, u196, u197, u198, u199, u200, u201, u202, u203, u204, u205, u206, u207, u208, u209, u210, u211, u212, u213, u214, u215, u216, u217, u218, u219, u220, u221, u222, u223, u224, u225, u226, u227, u228, u229, u230, u231, u232, u233, u234, u235, u236, u237, u238, u239, u240, u241, u242, u243, u244, u245, u246, u247, u248, u249, u250, u251, u252, u253, u254, u255, u256, u257, u258, u259, u260, u261, u262, u263, u264, u265, u266, u267, u268, u269, u270, u271, u272, u273, u274, u275, u276, u277, u278, u279, u280, u281, u282, ⟨al, rfl, h1⟩, rfl⟩))
                    · (refine wp_mono (sw_full (E := K) hTb.out hnx'.out hXb2.out hXf.out hn8 (by omega) hIn hin hq4 hE8.out hEl.out ?_) (fun e a' w' hq => by cases e <;> first | exact hq | exact hq.elim); intro u4 u23 u24 u25 u26 u27 u28 u29 u160 u161 u162 u163 u164 u165 u166 u167 u168 u169 u170 u171 u172 u173 u174 u175 u176 u177 u178 u179 u180 u181 u182 u183 u184 u185 u186 u187 u188 u189 u190 u191 u192 u193 u194 u195 u196 u197 u198 u199 u200 u201 u202 u203 u204 u205 u206 u207 u208 u209 u210 u211 u212 u213 u214 u215 u216 u217 u218 u219 u220 u221 u222 u223 u224 u225 u226 u227 u228 u229 u230 u231 u232 u233 u234 u235 u236 u237 u238 u239 u240 u241 u242 u243 u244 u245 u246 u247 u248 u249 u250 u251 u252 u253 u254 u255 u256 u257 u258 u259 u260 u261 u262 u263 u264 u265 u266 u267 u268 u269 u270 u271 u272 u273 u274 u275 u276 u277 u278 u279 u280 u281 u282 al wc h1; exact hK _ _ (hJ _ _ ⟨u4, .int .i64 al, u23, u24, u25, u26, u27, u28, u29, u160, u161, u162, u163, u164, u165, u166, u167, u168, u169, u170, u171, u172, u173, u174, u175, u176, u177, u178, u179, u180, u181, u182, u183, u184, u185, u186, u187, u188, u189, u190, u191, u192, u193, u194, u195, u196, u197, u198, u199, u200, u201, u202, u203, u204, u205, u206, u207, u208, u209, u210, u211, u212, u213, u214, u215, u216, u217, u218, u219, u220, u221, u222, u223, u224, u225, u226, u227, u228, u229, u230, u231, u232, u233, u234, u235, u236, u237, u238, u239, u240, u241, u242, u243, u244, u245, u246, u247, u248, u249, u250, u251, u252, u253, u254, u255, u256, u257, u258, u259, u260, u261, u262, u263, u264, u265, u266, u267, u268, u269, u270, u271, u272, u273, u274, u275, u276, u277, u278, u279, u280, u281, u282, ⟨al, rfl, h1⟩, rfl⟩))
            case rest =>
              obtain ⟨a', rfl, hrel⟩ := hcut
              obtain ⟨wd, hwd⟩ : ∃ wd : World, wd = wc := ⟨_, rfl⟩
              subst hwd
              obtain ⟨nx2, o2, q2, m2, v2, h2, hT2, hnx2, ha2⟩ := hrel
              have ql := Lib.hid (rlen_any hT2.rd hn8)
              rw [← ha2] at ql
              have hrel2 := Lib.hid (fun W' (hW : Only (fun _ => False) wd W') => show PRel S W B r G bs bm n P ring R N (k + 1) a' W' from ⟨_, _, _, _, _, _, hT2.new hW, hnx2, ha2⟩)
              clear hT2 hnx2 ha2
              have hself : (a' == a') = true := by simp
              go_wp2_with fail
              refine ql.out.mono ?_
              rintro e w5 ⟨rfl, h5⟩
              have hrel3 := Lib.hid (hrel2.out w5 h5)
              clear h5 ql hrel2
              go_wp2
              go_roundw
              case rel => exact ⟨k + 1, a', by omega, by go_num, rfl, hrel3.out⟩
              case measure => simp [intOf]; omega
            -- T]
        | succ j =>
          -- [S
          have e1 : ((j + 1 : Nat) : Int) - 1 = (j : Int) := by omega
          have e2 : (0 : Int) ≤ (j : Int) := by omega
          have e3 : (j : Int) < (n : Int) := by omega
          obtain ⟨y, hy⟩ : ∃ y, L[j]? = some y := ⟨_, List.getElem?_eq_getElem (by rw [hLL.out]; omega)⟩
          have hyn := hLm.out y (List.mem_of_getElem? hy)
          have e4 : (y : Int) < (n : Int) := by omega
          obtain ⟨ga, oa, _, _, ea, _, _, _, hca, _⟩ := hOr1.out.at_ (by omega)
          cases ea
          have f1 : W1.cell? ⟨ga, oa + j, none⟩ = some (.int .i64 y) := hca j _ (dat_at hy)
          have f2 := hT1.out.rows.cell hyn
          obtain ⟨py, cy, hv, _, _⟩ := (hT1.out.rows.wins y hyn).form
          rw [hv] at f2
          have hd := pick_drop (q := q) hy
          rw [e1]
          by_cases hz : (q y).length ≠ 0
          · rw [if_pos hz] at hd
            have hd' := Lib.hid hd
            have e5 : (0 : Int) < ((q y).length : Int) := by omega
            clear hca hd hy hv
            go_wp2
            go_roundw
            case rel => exact ⟨j, by omega, rfl, by rw [hd'.out], trivial⟩
            case measure => simp [intOf]
          · rw [if_neg hz] at hd
            have hd' := Lib.hid hd
            have e5 : ¬ (0 : Int) < ((q y).length : Int) := by omega
            clear hca hd hy hv
            go_wp2
            go_roundw
            case rel => exact ⟨j, by omega, rfl, by rw [hd'.out], trivial⟩
            case measure => simp [intOf]
          -- S]
    · -- [E
      obtain rfl : k = len := by omega
      obtain ⟨nx, o, q, m, v, h, hTl, hnx, ha⟩ := hrelk.out
      have hTl' := Lib.hid hTl
      have d8w := d8.out
      clear hTl hnx ha hrelk hact hOrk d8
      have hn64 : (n : Int) ≤ 8 := by omega
      go_wp2
      go_loopw [291] (fun i wr => ∃ t : Nat, t ≤ n ∧ i = .int .i64 t ∧ Only (fun _ => False) ws wr) (fun i _ => n - (intOf i).toNat)
      case atStart => exact ⟨0, Nat.zero_le _, rfl, Only.refl _ _⟩
      case round =>
        obtain ⟨t, ht, rfl, hO⟩ := hrel
        obtain ⟨wt, hwt⟩ : ∃ wt : World, wt = wr := ⟨_, rfl⟩
        subst hwt
        have hT2 := hTl'.out.new hO
        have hO' := Lib.hid hO
        clear hO d8w
        by_cases htn : t < n
        · have htn' : (t : Int) < (n : Int) := by omega
          have qw := Lib.hid (waiting_yes hT2.rd htn)
          have hT2' := Lib.hid hT2
          clear hT2
          go_wp2_with fail
          refine qw.out.mono ?_
          rintro e w5 ⟨va, ha, rfl, hWa, -, ho5⟩
          have hT5 := Lib.hid (hT2'.out.new ho5)
          have hO5 := Lib.hid (hO'.out.trans' ho5)
          have hWr := hT5.out.rows.wins t htn
          have hcr := hT5.out.rows.cell htn
          obtain ⟨mm, hmm⟩ : ∃ mm, mm = (q t).length := ⟨_, rfl⟩
          rw [← hmm] at hWa hWr
          obtain ⟨pa, ca, rfl, _, _⟩ := hWa.form
          obtain ⟨pr, cr, hvr, _, _⟩ := hWr.form
          rw [hvr] at hcr hWr
          have hself : ((mm : Int) == (mm : Int)) = true := by simp
          have hWW := Lib.hid (And.intro hWa hWr)
          have hm4 : mm ≤ 4 := by have := (hT5.out.rd.rings t htn).bounds.1; omega
          have hm' := Lib.hid hmm
          clear hWa hWr hmm ho5 hvr hT2' qw
          go_wp2
          go_loopw [307] (fun i wl => ∃ j : Nat, j ≤ mm ∧ i = .int .i64 j ∧ ∃ d, wl = w5.drewN d) (fun i _ => mm - (intOf i).toNat)
          case atStart => exact ⟨0, Nat.zero_le _, rfl, 0, rfl⟩
          case round =>
            obtain ⟨j, hj, rfl, d, rfl⟩ := hrel
            by_cases hjm : j < mm
            · obtain ⟨ga, oa, _, _, ea, _, _, _, hca, _⟩ := hWW.out.1.at_ (by omega)
              obtain ⟨gr, orr, _, _, er, _, _, _, hcrr, _⟩ := hWW.out.2.at_ (by omega)
              cases ea
              cases er
              obtain ⟨y, hy⟩ : ∃ y, (q t)[j]? = some y := ⟨(q t)[j]'(by have := hm'.out; omega), List.getElem?_eq_getElem _⟩
              have a0 : w5.cell? ⟨ga, oa + j * 3, none⟩ = some (.int .i64 y.t) := hca (j * 3) _ (jbCells_at _ _ _ hy 0 (by decide))
              have a1 : w5.cell? ⟨ga, oa + j * 3 + 1, none⟩ = some (.int .i64 y.n) := hca (j * 3 + 1) _ (jbCells_at _ _ _ hy 1 (by decide))
              have a2 : w5.cell? ⟨ga, oa + j * 3 + 2, none⟩ = some (.int .i64 y.r) := hca (j * 3 + 2) _ (jbCells_at _ _ _ hy 2 (by decide))
              have b0 : w5.cell? ⟨gr, orr + j * 3, none⟩ = some (.int .i64 y.t) := hcrr (j * 3) _ (jbCells_at _ _ _ hy 0 (by decide))
              have b1 : w5.cell? ⟨gr, orr + j * 3 + 1, none⟩ = some (.int .i64 y.n) := hcrr (j * 3 + 1) _ (jbCells_at _ _ _ hy 1 (by decide))
              have b2 : w5.cell? ⟨gr, orr + j * 3 + 2, none⟩ = some (.int .i64 y.r) := hcrr (j * 3 + 2) _ (jbCells_at _ _ _ hy 2 (by decide))
              have hjm' : (j : Int) < (mm : Int) := by omega
              clear hy hca hcrr
              go_wp2
              go_quiet (fail)
              go_wp2
              go_roundw
              case rel => exact ⟨j + 1, by omega, by go_num, _, rfl⟩
              case measure => simp [intOf]; omega
            · obtain rfl : j = mm := by omega
              go_wp2
              go_roundw
              case rel => exact ⟨t + 1, by omega, by go_num, hO5.out.drewN d⟩
              case measure => simp [intOf]; omega
        · obtain rfl : t = n := by omega
          have qw := Lib.hid (waiting_no hT2.rd (t := -1) (.inl (by omega)))
          clear hT2
          go_wp2_with fail
          refine qw.out.mono ?_
          rintro e w5 ⟨rfl, hw5⟩
          subst hw5
          go_wp2
          go_ret
          exact ⟨rfl, (hOw'.out.trans hO'.out (fun _ _ h => h.elim)).below (Nat.le_refl _) (fun k hk => by omega)⟩
      -- E]
end Go.Proofs.YteniphdfhmbbeaaDoor
