/- ReadyPlays: the switch of a round, releasing a job too many. -/
import Derived.Test.YteniphdfhmbbeaaDoorPlays16s
namespace Go.Proofs.YteniphdfhmbbeaaDoor
open Go Go.RowKit Go.Maps Ring Band

set_option maxRecDepth 100000 in
set_option maxHeartbeats 4000000 in
theorem sw_full {s0 s1 s3 s4 s6 s7 s8 s9 s10 s11 s12 s16 s19 s21 s23 s24 s25 s26 s27 s28 s29 s30 s31 s32 s33 s34 s35 s36 s37 s38 s39 s40 s41 s42 s43 s44 s45 s46 s47 s48 s49 s50 s51 s52 s53 s54 s55 s56 s57 s58 s59 s60 s61 s62 s63 s64 s65 s66 s67 s68 s69 s70 s71 s72 s73 s74 s75 s76 s77 s78 s79 s80 s81 s82 s83 s84 s85 s86 s87 s88 s89 s90 s91 s92 s93 s94 s95 s96 s97 s98 s99 s100 s101 s102 s103 s104 s105 s106 s107 s108 s109 s110 s111 s112 s113 s114 s115 s116 s117 s118 s119 s120 s121 s122 s123 s124 s125 s126 s127 s128 s129 s130 s131 s132 s133 s134 s135 s136 s137 s138 s139 s140 s141 s142 s143 s144 s145 s146 s147 s148 s149 s150 s151 s152 s153 s154 s155 s156 s157 s158 s159 s160 s161 s162 s163 s164 s165 s166 s167 s168 s169 s170 s171 s172 s173 s174 s175 s176 s177 s178 s179 s180 s181 s182 s183 s184 s185 s186 s187 s188 s189 s190 s191 s192 s193 s194 s195 s196 s197 s198 s199 s200 s201 s202 s203 s204 s205 s206 s207 s208 s209 s210 s211 s212 s213 s214 s215 s216 s217 s218 s219 s220 s221 s222 s223 s224 s225 s226 s227 s228 s229 s230 s231 s232 s233 s234 s235 s236 s237 s238 s239 s240 s241 s242 s243 s244 s245 s246 s247 s248 s249 s250 s251 s252 s253 s254 s255 s256 s257 s258 s259 s260 s261 s262 s263 s264 s265 s266 s267 s268 s269 s270 s271 s272 s273 s274 s275 s276 s277 s278 s279 s280 s281 s282 s283 s284 s285 s286 s287 s288 s289 s290 s291 s292 s293 s294 s295 s296 s297 s298 s299 s300 s301 s302 s303 s304 s305 s306 s307 s308 s309 s310 s311 s312 s313 s314 s315 s316 s317 s318 s319 s320 s321 s322 s323 s324 s325 s326 s327 : Value} {E : Act → World → Prop} {W W1 : World} {S : Nat → Prop} {B r G bs bm n q0 R N X Af k : Nat} {P ring nx : Nat → Nat} {o : Nat → Option Nat} {q : Nat → List Jb} {m : BitVec 64} {v : Nat → Value} {h : Nat → Option Nat} {I V : Int} {i : Nat} {tA : Option Addr} {tc : Nat} {fs : Int} {ok : Bool}
    (hT1 : TellR S W B r G bs bm n P ring R N nx o q m v h W1) (hnx : ∀ i, nx i ≤ k) (hXb : W1.heap[X]? = some (.cells #[.bool false, .int .i64 I, .int .i64 V] 48 (0, 0))) (hXf : ∀ k, tfp r G bs bm n ring o N k ∨ k = R ∨ (∃ i, i < n ∧ h i = some k) → k ≠ X) (_hn8 : n ≤ 8) (hk : k ≤ 150) (hIi : I = i) (hi : i < n) (hq : ¬ (q i).length < 4) (_e8 : W1.cell? ⟨q0, 8, none⟩ = some (.slice tA n tc)) (_hql : q0 < W1.heap.size)
    (hE : ∀ (u4 u23 u24 u25 u26 u27 u28 u29 u160 u161 u162 u163 u164 u165 u166 u167 u168 u169 u170 u171 u172 u173 u174 u175 u176 u177 u178 u179 u180 u181 u182 u183 u184 u185 u186 u187 u188 u189 u190 u191 u192 u193 u194 u195 u196 u197 u198 u199 u200 u201 u202 u203 u204 u205 u206 u207 u208 u209 u210 u211 u212 u213 u214 u215 u216 u217 u218 u219 u220 u221 u222 u223 u224 u225 u226 u227 u228 u229 u230 u231 u232 u233 u234 u235 u236 u237 u238 u239 u240 u241 u242 u243 u244 u245 u246 u247 u248 u249 u250 u251 u252 u253 u254 u255 u256 u257 u258 u259 u260 u261 u262 u263 u264 u265 u266 u267 u268 u269 u270 u271 u272 u273 u274 u275 u276 u277 u278 u279 u280 u281 u282 : Value) (al : Int) (wc : World), PRel S W B r G bs bm n P ring R N (k + 1) al wc → E ⟨#[s0, s1, .pointer (some ⟨q0, 0, none⟩), s3, u4, .pointer (some ⟨r, 0, none⟩), s6, s7, s8, s9, s10, s11, s12, .slice (some ⟨R, 0, none⟩) n n, .slice (some ⟨N, 0, none⟩) n n, .int .i64 al, s16, .pointer (some ⟨X, 0, none⟩), .int .i64 fs, s19, .pointer (some ⟨Af, 0, none⟩), s21, .bool ok, u23, u24, u25, u26, u27, u28, u29, s30, s31, s32, s33, s34, s35, s36, s37, s38, s39, s40, s41, s42, s43, s44, s45, s46, s47, s48, s49, s50, s51, s52, s53, s54, s55, s56, s57, s58, s59, s60, s61, s62, s63, s64, s65, s66, s67, s68, s69, s70, s71, s72, s73, s74, s75, s76, s77, s78, s79, s80, s81, s82, s83, s84, s85, s86, s87, s88, s89, s90, s91, s92, s93, s94, s95, s96, s97, s98, s99, s100, s101, s102, s103, s104, s105, s106, s107, s108, s109, s110, s111, s112, s113, s114, s115, s116, s117, s118, s119, s120, s121, s122, s123, s124, s125, s126, s127, s128, s129, s130, s131, s132, s133, s134, s135, s136, s137, s138, s139, s140, s141, s142, s143, s144, s145, s146, s147, s148, s149, s150, s151, s152, s153, s154, s155, s156, s157, s158, s159, u160, u161, u162, u163, u164, u165, u166, u167, u168, u169, u170, u171, u172, u173, u174, u175, u176, u177, u178, u179, u180, u181, u182, u183, u184, u185, u186, u187, u188, u189, u190, u191, u192, u193, u194, u195, u196, u197, u198, u199, u200, u201, u202, u203, u204, u205, u206, u207, u208, u209, u210, u211, u212, u213, u214, u215, u216, u217, u218, u219, u220, u221, u222, u223, u224, u225, u226, u227, u228, u229, u230, u231, u232, u233, u234, u235, u236, u237, u238, u239, u240, u241, u242, u243, u244, u245, u246, u247, u248, u249, u250, u251, u252, u253, u254, u255, u256, u257, u258, u259, u260, u261, u262, u263, u264, u265, u266, u267, u268, u269, u270, u271, u272, u273, u274, u275, u276, u277, u278, u279, u280, u281, u282, s283, s284, s285, s286, s287, s288, s289, s290, s291, s292, s293, s294, s295, s296, s297, s298, s299, s300, s301, s302, s303, s304, s305, s306, s307, s308, s309, s310, s311, s312, s313, s314, s315, s316, s317, s318, s319, s320, s321, s322, s323, s324, s325, s326, s327], []⟩ wc) : Code.wp Tryd.prog sw16 (Exit.then E (fun _ _ _ => False)) ⟨#[s0, s1, .pointer (some ⟨q0, 0, none⟩), s3, s4, .pointer (some ⟨r, 0, none⟩), s6, s7, s8, s9, s10, s11, s12, .slice (some ⟨R, 0, none⟩) n n, .slice (some ⟨N, 0, none⟩) n n, .int .i64 (total q n), s16, .pointer (some ⟨X, 0, none⟩), .int .i64 fs, s19, .pointer (some ⟨Af, 0, none⟩), s21, .bool ok, s23, s24, s25, s26, s27, s28, s29, s30, s31, s32, s33, s34, s35, s36, s37, s38, s39, s40, s41, s42, s43, s44, s45, s46, s47, s48, s49, s50, s51, s52, s53, s54, s55, s56, s57, s58, s59, s60, s61, s62, s63, s64, s65, s66, s67, s68, s69, s70, s71, s72, s73, s74, s75, s76, s77, s78, s79, s80, s81, s82, s83, s84, s85, s86, s87, s88, s89, s90, s91, s92, s93, s94, s95, s96, s97, s98, s99, s100, s101, s102, s103, s104, s105, s106, s107, s108, s109, s110, s111, s112, s113, s114, s115, s116, s117, s118, s119, s120, s121, s122, s123, s124, s125, s126, s127, s128, s129, s130, s131, s132, s133, s134, s135, s136, s137, s138, s139, s140, s141, s142, s143, s144, s145, s146, s147, s148, s149, s150, s151, s152, s153, s154, s155, s156, s157, s158, s159, s160, s161, s162, s163, s164, s165, s166, s167, s168, s169, s170, s171, s172, s173, s174, s175, s176, s177, s178, s179, s180, s181, s182, s183, s184, s185, s186, s187, s188, s189, s190, s191, s192, s193, s194, s195, s196, s197, s198, s199, s200, s201, s202, s203, s204, s205, s206, s207, s208, s209, s210, s211, s212, s213, s214, s215, s216, s217, s218, s219, s220, s221, s222, s223, s224, s225, s226, s227, s228, s229, s230, s231, s232, s233, s234, s235, s236, s237, s238, s239, s240, s241, s242, s243, s244, s245, s246, s247, s248, s249, s250, s251, s252, s253, s254, s255, s256, s257, s258, s259, s260, s261, s262, s263, s264, s265, s266, s267, s268, s269, s270, s271, s272, s273, s274, s275, s276, s277, s278, s279, s280, s281, s282, s283, s284, s285, s286, s287, s288, s289, s290, s291, s292, s293, s294, s295, s296, s297, s298, s299, s300, s301, s302, s303, s304, s305, s306, s307, s308, s309, s310, s311, s312, s313, s314, s315, s316, s317, s318, s319, s320, s321, s322, s323, s324, s325, s326, s327], []⟩ W1 := by
  have d0 := row_cell (L := [_, _, _]) hXb (i := 0) rfl
  have d1 := row_cell (L := [_, _, _]) hXb (i := 1) rfl
  have d2 := row_cell (L := [_, _, _]) hXb (i := 2) rfl
  have dl := row_lt hXb
  have hT1' := Lib.hid hT1
  have hnx' := Lib.hid hnx
  have hE' := Lib.hid hE
  clear hE
  subst hIi
  have hin' : (i : Int) < (n : Int) := by omega
  have hi0 : ¬ (i : Int) < 0 := by omega
  have hni : ¬ (n : Int) ≤ (i : Int) := by omega
  obtain ⟨W2, hW2⟩ : ∃ W2 : Nat → World, W2 = fun _ => (W1.alloc (.cells #[.int .i64 i, .int .i64 (nx i), .int .i64 V] 37)).drew := ⟨_, rfl⟩
  obtain ⟨Y, hY⟩ : ∃ Y, Y = W1.heap.size := ⟨_, rfl⟩
  have o2 : ∀ nq, Only (fun _ => False) W1 (W2 nq) := fun nq => by rw [hW2]; exact ((Only.refl _ W1).alloc _).drew
  have hY2 : ∀ nq, (W2 nq).heap[Y]? = some (.cells #[.int .i64 i, .int .i64 (nx i), .int .i64 V] 37 (0, 0)) := fun nq => by rw [hW2]; exact heap_new_at W1 _ hY.symm
  have hft := hT1.lt
  have hX2 := fun nq => (o2 nq).heap hXb (fun h => h)
  have hT2 := fun nq => hT1.new (o2 nq)
  have hnxi := hnx i
  have hw2 := Lib.hid (fun nq => show (W1.alloc (.cells #[.int .i64 i, .int .i64 (nx i), .int .i64 V] 37)).drew = W2 nq by rw [hW2])
  have hstep := Lib.hid (fun nq => (hT2 nq).bump i (nx i + 1))
  have hXN : X ≠ N := fun e => hXf N (.inl (.inr rfl)) e.symm
  have hYN : Y ≠ N := fun e => by have := hft N (.inl (.inr rfl)); omega
  have hRN : R ≠ N := fun e => (hT1.apart N (.inr rfl)).1 e.symm
  obtain ⟨W3, hW3⟩ : ∃ W3 : Nat → World, W3 = fun nq => (W2 nq).setCell ⟨N, i, none⟩ (.int .i64 ((nx i : Int) + 1)) := ⟨_, rfl⟩
  have hst3 := fun nq => (show RdAt (W3 nq) B r G bs bm n P nx ring o q m ∧ (W3 nq).heap[N]? = some (.cells (nxRow (upd nx i (nx i + 1)) n).toArray 3 (0, 0)) ∧ Only (fun k => k = N) (W2 nq) (W3 nq) from by
    rw [hW3]
    have := hstep.out nq
    rw [show ((nx i + 1 : Nat) : Int) = (nx i : Int) + 1 by omega] at this
    exact this)
  have hw3 := Lib.hid (fun nq => show (W2 nq).setCell ⟨N, i, none⟩ (.int .i64 ((nx i : Int) + 1)) = W3 nq by rw [hW3])
  have hX3 := fun nq => (hst3 nq).2.2.heap (hX2 nq) hXN
  have hY3 := fun nq => (hst3 nq).2.2.heap (hY2 nq) hYN
  have hR3 := fun nq => (hst3 nq).2.2.heap ((o2 nq).heap hT1.rows.row (fun h => h)) hRN
  have hnr : ∀ kk, rfp r G bs bm n ring o kk → kk ≠ X ∧ kk ≠ Y ∧ kk ≠ R ∧ kk ≠ N := fun kk hk => ⟨hXf kk (.inl (.inl hk)), fun e => by have := hft kk (.inl (.inl hk)); omega, (hT1.apart kk (.inl hk)).1, fun e => hT1.nap (e ▸ hk)⟩
  have hrel := Lib.hid (fun nq => release_any (hst3 nq).1 hT1.bits hi (by omega) V)
  simp only [if_neg hq] at hrel
  have n1 := row_cell hT1.nexts (nxRow_at nx hi)
  have nl := row_lt hT1.nexts
  have hn2 := Lib.hid (fun nq => (hT2 nq).nexts)
  have hX2' := Lib.hid hX2
  have hA := Lib.hid (And.intro hX3 (And.intro hY3 (And.intro hR3 (And.intro hnr hst3))))
  have hT2' := Lib.hid hT2
  have hq4 : (q i).length = 4 := by have := (hT1.rd.rings i hi).bounds.1; omega
  obtain ⟨pv, cv, hv, _, _⟩ := (hT1.rows.wins i hi).form
  rw [hq4] at hv
  have hvc := Lib.hid (fun nq => show (W3 nq).cell? ⟨R, i, none⟩ = some (.slice pv 4 cv) from by
    rw [← hv]
    refine row_cell (hA.out.2.2.1 nq) ?_
    rw [List.getElem?_map, List.getElem?_range hi]
    rfl)
  have hY' := Lib.hid hY
  have hW' := Lib.hid (And.intro hW2 hW3)
  clear hT1 hnx hXb hXf hX2 hX3 hY3 hR3 hnr hst3 hT2 hstep hq hq4 hv hft hY hW2 hW3 o2 hXN hYN hRN hni
  have hi2 := Lib.hid hi
  conv => arg 2; whnf
  go_upto_region 27 with fail
  go_region_held3 (fun w' => w'.cell? ⟨X, 1, none⟩ = some (.int .i64 i) ∧ w'.cell? ⟨X, 2, none⟩ = some (.int .i64 V) ∧ w'.cell? ⟨N, i, none⟩ = some (.int .i64 (nx i))) (go_keep) (fail)
  obtain ⟨nq, hnq⟩ : ∃ nq, nq = 0 := ⟨_, rfl⟩
  rw [hw2.out nq, ← hY'.out]
  clear hnq
  have x0 := row_cell (L := [_, _, _]) (hX2'.out nq) (i := 0) rfl
  have x1 := row_cell (L := [_, _, _]) (hX2'.out nq) (i := 1) rfl
  have x2 := row_cell (L := [_, _, _]) (hX2'.out nq) (i := 2) rfl
  have xl := row_lt (hX2'.out nq)
  have m1 := row_cell (hn2.out nq) (nxRow_at nx hi2.out)
  have mf := row_free (hn2.out nq) i
  have ml := row_lt (hn2.out nq)
  have z0 := row_cell (L := [_, _, _]) (hA.out.1 nq) (i := 0) rfl
  have z1 := row_cell (L := [_, _, _]) (hA.out.1 nq) (i := 1) rfl
  have z2 := row_cell (L := [_, _, _]) (hA.out.1 nq) (i := 2) rfl
  have zl := row_lt (hA.out.1 nq)
  have eW3 := hw3.out nq
  clear d0 d1 d2 n1 nl dl _e8 _hql
  go_upto_region 29 with fail
  clear eW3
  go_wp2_with fail
  refine (hrel.out nq).mono ?_
  rintro e w4 ⟨rfl, o4, m4, hR4, hb4, h4, hoo⟩
  rw [show Jb.val ⟨(i : Int), ((nx i : Nat) : Int), V⟩ = .agg #[.int .i64 i, .int .i64 (nx i), .int .i64 V] from rfl]
  obtain ⟨aX, aY, aR, anr, ast⟩ := hA.out
  obtain ⟨Z, hZ⟩ : ∃ Z, Z = w4.heap.size := ⟨_, rfl⟩
  obtain ⟨w5, hw5⟩ : ∃ w5, w5 = w4.alloc (.cells #[.int .i64 i, .int .i64 (nx i), .int .i64 V] 37) := ⟨_, rfl⟩
  have o5 : Only (fun _ => False) w4 w5 := by rw [hw5]; exact (Only.refl _ w4).alloc _
  have h35 : Only (rfp r G bs bm n ring o) (W3 nq) w5 := h4.trans' (o5.mono (fun _ _ h => h.elim))
  have bZ : w5.heap[Z]? = some (.cells #[.int .i64 i, .int .i64 (nx i), .int .i64 V] 37 (0, 0)) := by rw [hw5]; exact heap_new_at _ _ hZ.symm
  have bY := h35.heap (aY nq) (fun hk => (anr _ hk).2.1 rfl)
  have bX := h35.heap (aX nq) (fun hk => (anr _ hk).1 rfl)
  have bR := h35.cell (hvc.out nq) (fun hk => (anr _ hk).2.2.1 rfl)
  have bRl := row_lt (h35.heap (aR nq) (fun hk => (anr _ hk).2.2.1 rfl))
  have o23 := (ast nq).2.2
  have hend := Lib.hid (show PRel S W B r G bs bm n P ring R N (k + 1) (total q n) w5 from
    ⟨_, _, _, _, _, _, (hT2'.out nq).keep (hR4.new o5) hb4 (fun kk hk => (hoo kk hk).imp id (fun hk' => Nat.le_trans o23.size hk')) (h35.heap (ast nq).2.1 (fun hk => (anr _ hk).2.2.2 rfl)) ((o23.mono (T := tfp r G bs bm n ring o N) (fun _ _ hk => .inr hk)).trans h35 (fun _ _ hk => .inl hk)),
      fun j => by
        by_cases hj : j = i
        · subst hj; rw [upd_self]; omega
        · rw [upd_ne _ _ hj]; have := hnx'.out j; omega, rfl⟩)
  have y0 := row_cell (L := [_, _, _]) bY (i := 0) rfl
  have y1 := row_cell (L := [_, _, _]) bY (i := 1) rfl
  have y2 := row_cell (L := [_, _, _]) bY (i := 2) rfl
  have yl := row_lt bY
  have v0 := row_cell (L := [_, _, _]) bZ (i := 0) rfl
  have v1 := row_cell (L := [_, _, _]) bZ (i := 1) rfl
  have v2 := row_cell (L := [_, _, _]) bZ (i := 2) rfl
  have vl := row_lt bZ
  have t1 := row_cell (L := [_, _, _]) bX (i := 1) rfl
  have tl := row_lt bX
  have hZ' := Lib.hid hZ
  have hw5' := Lib.hid hw5
  clear hR4 hb4 h4 hoo o5 h35 bZ bY bX o23 aX aY aR anr ast hZ hw5 x0 x1 x2 xl m1 mf ml z0 z1 z2 zl
  go_upto_region 30 with fail
  rw [← hZ'.out, ← hw5'.out]
  go_wp2
  exact hE'.out _ _ _ _ _ _ _ _ _ _ _ _ _ _ _ _ _ _ _ _ _ _ _ _ _ _ _ _ _ _ _ _ _ _ _ _ _ _ _ _ _ _ _ _ _ _ _ _ _ _ _ _ _ _ _ _ _ _ _ _ _ _ _ _ _ _ _ _ _ _ _ _ _ _ _ _ _ _ _ _ _ _ _ _ _ _ _ _ _ _ _ _ _ _ _ _ _ _ _ _ _ _ _ _ _ _ _ _ _ _ _ _ _ _ _ _ _ _ _ _ _ _ _ _ _ _ _ _ _ _ _  _ _ hend.out
end Go.Proofs.YteniphdfhmbbeaaDoor
