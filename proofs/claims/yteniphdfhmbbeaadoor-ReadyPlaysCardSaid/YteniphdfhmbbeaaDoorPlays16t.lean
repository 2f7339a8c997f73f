/- ReadyPlays: the switch of a round, taking. -/
import Derived.Test.YteniphdfhmbbeaaDoorPlays16s
namespace Go.Proofs.YteniphdfhmbbeaaDoor
open Go Go.RowKit Go.Maps Ring Band

set_option maxRecDepth 100000 in
set_option maxHeartbeats 4000000 in
theorem sw_take_none {s0 s1 s3 s4 s6 s7 s8 s9 s10 s11 s12 s16 s19 s21 s23 s24 s25 s26 s27 s28 s29 s30 s31 s32 s33 s34 s35 s36 s37 s38 s39 s40 s41 s42 s43 s44 s45 s46 s47 s48 s49 s50 s51 s52 s53 s54 s55 s56 s57 s58 s59 s60 s61 s62 s63 s64 s65 s66 s67 s68 s69 s70 s71 s72 s73 s74 s75 s76 s77 s78 s79 s80 s81 s82 s83 s84 s85 s86 s87 s88 s89 s90 s91 s92 s93 s94 s95 s96 s97 s98 s99 s100 s101 s102 s103 s104 s105 s106 s107 s108 s109 s110 s111 s112 s113 s114 s115 s116 s117 s118 s119 s120 s121 s122 s123 s124 s125 s126 s127 s128 s129 s130 s131 s132 s133 s134 s135 s136 s137 s138 s139 s140 s141 s142 s143 s144 s145 s146 s147 s148 s149 s150 s151 s152 s153 s154 s155 s156 s157 s158 s159 s160 s161 s162 s163 s164 s165 s166 s167 s168 s169 s170 s171 s172 s173 s174 s175 s176 s177 s178 s179 s180 s181 s182 s183 s184 s185 s186 s187 s188 s189 s190 s191 s192 s193 s194 s195 s196 s197 s198 s199 s200 s201 s202 s203 s204 s205 s206 s207 s208 s209 s210 s211 s212 s213 s214 s215 s216 s217 s218 s219 s220 s221 s222 s223 s224 s225 s226 s227 s228 s229 s230 s231 s232 s233 s234 s235 s236 s237 s238 s239 s240 s241 s242 s243 s244 s245 s246 s247 s248 s249 s250 s251 s252 s253 s254 s255 s256 s257 s258 s259 s260 s261 s262 s263 s264 s265 s266 s267 s268 s269 s270 s271 s272 s273 s274 s275 s276 s277 s278 s279 s280 s281 s282 s283 s284 s285 s286 s287 s288 s289 s290 s291 s292 s293 s294 s295 s296 s297 s298 s299 s300 s301 s302 s303 s304 s305 s306 s307 s308 s309 s310 s311 s312 s313 s314 s315 s316 s317 s318 s319 s320 s321 s322 s323 s324 s325 s326 s327 : Value} {E : Act → World → Prop} {W W1 : World} {S : Nat → Prop} {B r G bs bm n q0 R N X Af k : Nat} {P ring nx : Nat → Nat} {o : Nat → Option Nat} {q : Nat → List Jb} {m : BitVec 64} {v : Nat → Value} {h : Nat → Option Nat} {I V : Int} 
    (hT1 : TellR S W B r G bs bm n P ring R N nx o q m v h W1) (hnx : ∀ i, nx i ≤ k) (hXb : W1.heap[X]? = some (.cells #[.bool true, .int .i64 I, .int .i64 V] 48 (0, 0))) (_hXf : ∀ k, tfp r G bs bm n ring o N k ∨ k = R ∨ (∃ i, i < n ∧ h i = some k) → k ≠ X) (_hn8 : n ≤ 8) (_hk : k ≤ 150) (hq : ∀ i, i < n → q i = [])
    (hE : ∀ (u4 u23 u24 u25 u26 u27 u28 u29 u160 u161 u162 u163 u164 u165 u166 u167 u168 u169 u170 u171 u172 u173 u174 u175 u176 u177 u178 u179 u180 u181 u182 u183 u184 u185 u186 u187 u188 u189 u190 u191 u192 u193 u194 u195 u196 u197 u198 u199 u200 u201 u202 u203 u204 u205 u206 u207 u208 u209 u210 u211 u212 u213 u214 u215 u216 u217 u218 u219 u220 u221 u222 u223 u224 u225 u226 u227 u228 u229 u230 u231 u232 u233 u234 u235 u236 u237 u238 u239 u240 u241 u242 u243 u244 u245 u246 u247 u248 u249 u250 u251 u252 u253 u254 u255 u256 u257 u258 u259 u260 u261 u262 u263 u264 u265 u266 u267 u268 u269 u270 u271 u272 u273 u274 u275 u276 u277 u278 u279 u280 u281 u282 : Value) (al : Int) (wc : World), PRel S W B r G bs bm n P ring R N (k + 1) al wc → E ⟨#[s0, s1, .pointer (some ⟨q0, 0, none⟩), s3, u4, .pointer (some ⟨r, 0, none⟩), s6, s7, s8, s9, s10, s11, s12, .slice (some ⟨R, 0, none⟩) n n, .slice (some ⟨N, 0, none⟩) n n, .int .i64 al, s16, .pointer (some ⟨X, 0, none⟩), .int .i64 (-1), s19, .pointer (some ⟨Af, 0, none⟩), s21, .bool false, u23, u24, u25, u26, u27, u28, u29, s30, s31, s32, s33, s34, s35, s36, s37, s38, s39, s40, s41, s42, s43, s44, s45, s46, s47, s48, s49, s50, s51, s52, s53, s54, s55, s56, s57, s58, s59, s60, s61, s62, s63, s64, s65, s66, s67, s68, s69, s70, s71, s72, s73, s74, s75, s76, s77, s78, s79, s80, s81, s82, s83, s84, s85, s86, s87, s88, s89, s90, s91, s92, s93, s94, s95, s96, s97, s98, s99, s100, s101, s102, s103, s104, s105, s106, s107, s108, s109, s110, s111, s112, s113, s114, s115, s116, s117, s118, s119, s120, s121, s122, s123, s124, s125, s126, s127, s128, s129, s130, s131, s132, s133, s134, s135, s136, s137, s138, s139, s140, s141, s142, s143, s144, s145, s146, s147, s148, s149, s150, s151, s152, s153, s154, s155, s156, s157, s158, s159, u160, u161, u162, u163, u164, u165, u166, u167, u168, u169, u170, u171, u172, u173, u174, u175, u176, u177, u178, u179, u180, u181, u182, u183, u184, u185, u186, u187, u188, u189, u190, u191, u192, u193, u194, u195, u196, u197, u198, u199, u200, u201, u202, u203, u204, u205, u206, u207, u208, u209, u210, u211, u212, u213, u214, u215, u216, u217, u218, u219, u220, u221, u222, u223, u224, u225, u226, u227, u228, u229, u230, u231, u232, u233, u234, u235, u236, u237, u238, u239, u240, u241, u242, u243, u244, u245, u246, u247, u248, u249, u250, u251, u252, u253, u254, u255, u256, u257, u258, u259, u260, u261, u262, u263, u264, u265, u266, u267, u268, u269, u270, u271, u272, u273, u274, u275, u276, u277, u278, u279, u280, u281, u282, s283, s284, s285, s286, s287, s288, s289, s290, s291, s292, s293, s294, s295, s296, s297, s298, s299, s300, s301, s302, s303, s304, s305, s306, s307, s308, s309, s310, s311, s312, s313, s314, s315, s316, s317, s318, s319, s320, s321, s322, s323, s324, s325, s326, s327], []⟩ wc) : Code.wp Tryd.prog sw16 (Exit.then E (fun _ _ _ => False)) ⟨#[s0, s1, .pointer (some ⟨q0, 0, none⟩), s3, s4, .pointer (some ⟨r, 0, none⟩), s6, s7, s8, s9, s10, s11, s12, .slice (some ⟨R, 0, none⟩) n n, .slice (some ⟨N, 0, none⟩) n n, .int .i64 (total q n), s16, .pointer (some ⟨X, 0, none⟩), .int .i64 (-1), s19, .pointer (some ⟨Af, 0, none⟩), s21, .bool false, s23, s24, s25, s26, s27, s28, s29, s30, s31, s32, s33, s34, s35, s36, s37, s38, s39, s40, s41, s42, s43, s44, s45, s46, s47, s48, s49, s50, s51, s52, s53, s54, s55, s56, s57, s58, s59, s60, s61, s62, s63, s64, s65, s66, s67, s68, s69, s70, s71, s72, s73, s74, s75, s76, s77, s78, s79, s80, s81, s82, s83, s84, s85, s86, s87, s88, s89, s90, s91, s92, s93, s94, s95, s96, s97, s98, s99, s100, s101, s102, s103, s104, s105, s106, s107, s108, s109, s110, s111, s112, s113, s114, s115, s116, s117, s118, s119, s120, s121, s122, s123, s124, s125, s126, s127, s128, s129, s130, s131, s132, s133, s134, s135, s136, s137, s138, s139, s140, s141, s142, s143, s144, s145, s146, s147, s148, s149, s150, s151, s152, s153, s154, s155, s156, s157, s158, s159, s160, s161, s162, s163, s164, s165, s166, s167, s168, s169, s170, s171, s172, s173, s174, s175, s176, s177, s178, s179, s180, s181, s182, s183, s184, s185, s186, s187, s188, s189, s190, s191, s192, s193, s194, s195, s196, s197, s198, s199, s200, s201, s202, s203, s204, s205, s206, s207, s208, s209, s210, s211, s212, s213, s214, s215, s216, s217, s218, s219, s220, s221, s222, s223, s224, s225, s226, s227, s228, s229, s230, s231, s232, s233, s234, s235, s236, s237, s238, s239, s240, s241, s242, s243, s244, s245, s246, s247, s248, s249, s250, s251, s252, s253, s254, s255, s256, s257, s258, s259, s260, s261, s262, s263, s264, s265, s266, s267, s268, s269, s270, s271, s272, s273, s274, s275, s276, s277, s278, s279, s280, s281, s282, s283, s284, s285, s286, s287, s288, s289, s290, s291, s292, s293, s294, s295, s296, s297, s298, s299, s300, s301, s302, s303, s304, s305, s306, s307, s308, s309, s310, s311, s312, s313, s314, s315, s316, s317, s318, s319, s320, s321, s322, s323, s324, s325, s326, s327], []⟩ W1 := by
  have d0 := row_cell (L := [_, _, _]) hXb (i := 0) rfl
  have d1 := row_cell (L := [_, _, _]) hXb (i := 1) rfl
  have d2 := row_cell (L := [_, _, _]) hXb (i := 2) rfl
  have dl := row_lt hXb
  have hT1' := Lib.hid hT1
  have hnx' := Lib.hid hnx
  have hE' := Lib.hid hE
  clear hE
  have qt := Lib.hid (take_none hT1.rd hT1.bits hq)
  rw [show zjb.val = .agg #[.int .i64 0, .int .i64 0, .int .i64 0] from rfl] at qt
  clear hT1 hnx hXb _hXf hq
  conv => arg 2; whnf
  go_wp2_with fail
  refine qt.out.mono ?_
  rintro e w2 ⟨rfl, h2⟩
  have hend := Lib.hid (show PRel S W B r G bs bm n P ring R N (k + 1) (total q n) (w2.alloc (.cells #[.int .i64 0, .int .i64 0, .int .i64 0] 37)) from ⟨_, _, _, _, _, _, hT1'.out.new (h2.alloc _), fun i => by have := hnx'.out i; omega, rfl⟩)
  clear h2 qt d0 d1 d2
  go_wp2
  exact hE'.out _ _ _ _ _ _ _ _ _ _ _ _ _ _ _ _ _ _ _ _ _ _ _ _ _ _ _ _ _ _ _ _ _ _ _ _ _ _ _ _ _ _ _ _ _ _ _ _ _ _ _ _ _ _ _ _ _ _ _ _ _ _ _ _ _ _ _ _ _ _ _ _ _ _ _ _ _ _ _ _ _ _ _ _ _ _ _ _ _ _ _ _ _ _ _ _ _ _ _ _ _ _ _ _ _ _ _ _ _ _ _ _ _ _ _ _ _ _ _ _ _ _ _ _ _ _ _ _ _ _ _  _ _ hend.out
set_option maxRecDepth 100000 in
set_option maxHeartbeats 4000000 in
theorem sw_take_some {s0 s1 s3 s4 s6 s7 s8 s9 s10 s11 s12 s16 s19 s21 s23 s24 s25 s26 s27 s28 s29 s30 s31 s32 s33 s34 s35 s36 s37 s38 s39 s40 s41 s42 s43 s44 s45 s46 s47 s48 s49 s50 s51 s52 s53 s54 s55 s56 s57 s58 s59 s60 s61 s62 s63 s64 s65 s66 s67 s68 s69 s70 s71 s72 s73 s74 s75 s76 s77 s78 s79 s80 s81 s82 s83 s84 s85 s86 s87 s88 s89 s90 s91 s92 s93 s94 s95 s96 s97 s98 s99 s100 s101 s102 s103 s104 s105 s106 s107 s108 s109 s110 s111 s112 s113 s114 s115 s116 s117 s118 s119 s120 s121 s122 s123 s124 s125 s126 s127 s128 s129 s130 s131 s132 s133 s134 s135 s136 s137 s138 s139 s140 s141 s142 s143 s144 s145 s146 s147 s148 s149 s150 s151 s152 s153 s154 s155 s156 s157 s158 s159 s160 s161 s162 s163 s164 s165 s166 s167 s168 s169 s170 s171 s172 s173 s174 s175 s176 s177 s178 s179 s180 s181 s182 s183 s184 s185 s186 s187 s188 s189 s190 s191 s192 s193 s194 s195 s196 s197 s198 s199 s200 s201 s202 s203 s204 s205 s206 s207 s208 s209 s210 s211 s212 s213 s214 s215 s216 s217 s218 s219 s220 s221 s222 s223 s224 s225 s226 s227 s228 s229 s230 s231 s232 s233 s234 s235 s236 s237 s238 s239 s240 s241 s242 s243 s244 s245 s246 s247 s248 s249 s250 s251 s252 s253 s254 s255 s256 s257 s258 s259 s260 s261 s262 s263 s264 s265 s266 s267 s268 s269 s270 s271 s272 s273 s274 s275 s276 s277 s278 s279 s280 s281 s282 s283 s284 s285 s286 s287 s288 s289 s290 s291 s292 s293 s294 s295 s296 s297 s298 s299 s300 s301 s302 s303 s304 s305 s306 s307 s308 s309 s310 s311 s312 s313 s314 s315 s316 s317 s318 s319 s320 s321 s322 s323 s324 s325 s326 s327 : Value} {E : Act → World → Prop} {W W1 : World} {S : Nat → Prop} {B r G bs bm n q0 R N X Af k : Nat} {P ring nx : Nat → Nat} {o : Nat → Option Nat} {q : Nat → List Jb} {m : BitVec 64} {v : Nat → Value} {h : Nat → Option Nat} {I V : Int} {t : Nat} {x : Jb} {l : List Jb}
    (hT1 : TellR S W B r G bs bm n P ring R N nx o q m v h W1) (hnx : ∀ i, nx i ≤ k) (hXb : W1.heap[X]? = some (.cells #[.bool true, .int .i64 I, .int .i64 V] 48 (0, 0))) (_hXf : ∀ k, tfp r G bs bm n ring o N k ∨ k = R ∨ (∃ i, i < n ∧ h i = some k) → k ≠ X) (_hn8 : n ≤ 8) (_hk : k ≤ 150) (ht : IsTop n P q t) (hx : q t = x :: l) (hAb : W1.heap[Af]? = some (.cells x.cells.toArray 37 (0, 0))) (hAf : ∀ k, tfp r G bs bm n ring o N k ∨ k = R ∨ (∃ i, i < n ∧ h i = some k) → k ≠ Af)
    (hE : ∀ (u4 u23 u24 u25 u26 u27 u28 u29 u160 u161 u162 u163 u164 u165 u166 u167 u168 u169 u170 u171 u172 u173 u174 u175 u176 u177 u178 u179 u180 u181 u182 u183 u184 u185 u186 u187 u188 u189 u190 u191 u192 u193 u194 u195 u196 u197 u198 u199 u200 u201 u202 u203 u204 u205 u206 u207 u208 u209 u210 u211 u212 u213 u214 u215 u216 u217 u218 u219 u220 u221 u222 u223 u224 u225 u226 u227 u228 u229 u230 u231 u232 u233 u234 u235 u236 u237 u238 u239 u240 u241 u242 u243 u244 u245 u246 u247 u248 u249 u250 u251 u252 u253 u254 u255 u256 u257 u258 u259 u260 u261 u262 u263 u264 u265 u266 u267 u268 u269 u270 u271 u272 u273 u274 u275 u276 u277 u278 u279 u280 u281 u282 : Value) (al : Int) (wc : World), PRel S W B r G bs bm n P ring R N (k + 1) al wc → E ⟨#[s0, s1, .pointer (some ⟨q0, 0, none⟩), s3, u4, .pointer (some ⟨r, 0, none⟩), s6, s7, s8, s9, s10, s11, s12, .slice (some ⟨R, 0, none⟩) n n, .slice (some ⟨N, 0, none⟩) n n, .int .i64 al, s16, .pointer (some ⟨X, 0, none⟩), .int .i64 t, s19, .pointer (some ⟨Af, 0, none⟩), s21, .bool true, u23, u24, u25, u26, u27, u28, u29, s30, s31, s32, s33, s34, s35, s36, s37, s38, s39, s40, s41, s42, s43, s44, s45, s46, s47, s48, s49, s50, s51, s52, s53, s54, s55, s56, s57, s58, s59, s60, s61, s62, s63, s64, s65, s66, s67, s68, s69, s70, s71, s72, s73, s74, s75, s76, s77, s78, s79, s80, s81, s82, s83, s84, s85, s86, s87, s88, s89, s90, s91, s92, s93, s94, s95, s96, s97, s98, s99, s100, s101, s102, s103, s104, s105, s106, s107, s108, s109, s110, s111, s112, s113, s114, s115, s116, s117, s118, s119, s120, s121, s122, s123, s124, s125, s126, s127, s128, s129, s130, s131, s132, s133, s134, s135, s136, s137, s138, s139, s140, s141, s142, s143, s144, s145, s146, s147, s148, s149, s150, s151, s152, s153, s154, s155, s156, s157, s158, s159, u160, u161, u162, u163, u164, u165, u166, u167, u168, u169, u170, u171, u172, u173, u174, u175, u176, u177, u178, u179, u180, u181, u182, u183, u184, u185, u186, u187, u188, u189, u190, u191, u192, u193, u194, u195, u196, u197, u198, u199, u200, u201, u202, u203, u204, u205, u206, u207, u208, u209, u210, u211, u212, u213, u214, u215, u216, u217, u218, u219, u220, u221, u222, u223, u224, u225, u226, u227, u228, u229, u230, u231, u232, u233, u234, u235, u236, u237, u238, u239, u240, u241, u242, u243, u244, u245, u246, u247, u248, u249, u250, u251, u252, u253, u254, u255, u256, u257, u258, u259, u260, u261, u262, u263, u264, u265, u266, u267, u268, u269, u270, u271, u272, u273, u274, u275, u276, u277, u278, u279, u280, u281, u282, s283, s284, s285, s286, s287, s288, s289, s290, s291, s292, s293, s294, s295, s296, s297, s298, s299, s300, s301, s302, s303, s304, s305, s306, s307, s308, s309, s310, s311, s312, s313, s314, s315, s316, s317, s318, s319, s320, s321, s322, s323, s324, s325, s326, s327], []⟩ wc) : Code.wp Tryd.prog sw16 (Exit.then E (fun _ _ _ => False)) ⟨#[s0, s1, .pointer (some ⟨q0, 0, none⟩), s3, s4, .pointer (some ⟨r, 0, none⟩), s6, s7, s8, s9, s10, s11, s12, .slice (some ⟨R, 0, none⟩) n n, .slice (some ⟨N, 0, none⟩) n n, .int .i64 (total q n), s16, .pointer (some ⟨X, 0, none⟩), .int .i64 t, s19, .pointer (some ⟨Af, 0, none⟩), s21, .bool true, s23, s24, s25, s26, s27, s28, s29, s30, s31, s32, s33, s34, s35, s36, s37, s38, s39, s40, s41, s42, s43, s44, s45, s46, s47, s48, s49, s50, s51, s52, s53, s54, s55, s56, s57, s58, s59, s60, s61, s62, s63, s64, s65, s66, s67, s68, s69, s70, s71, s72, s73, s74, s75, s76, s77, s78, s79, s80, s81, s82, s83, s84, s85, s86, s87, s88, s89, s90, s91, s92, s93, s94, s95, s96, s97, s98, s99, s100, s101, s102, s103, s104, s105, s106, s107, s108, s109, s110, s111, s112, s113, s114, s115, s116, s117, s118, s119, s120, s121, s122, s123, s124, s125, s126, s127, s128, s129, s130, s131, s132, s133, s134, s135, s136, s137, s138, s139, s140, s141, s142, s143, s144, s145, s146, s147, s148, s149, s150, s151, s152, s153, s154, s155, s156, s157, s158, s159, s160, s161, s162, s163, s164, s165, s166, s167, s168, s169, s170, s171, s172, s173, s174, s175, s176, s177, s178, s179, s180, s181, s182, s183, s184, s185, s186, s187, s188, s189, s190, s191, s192, s193, s194, s195, s196, s197, s198, s199, s200, s201, s202, s203, s204, s205, s206, s207, s208, s209, s210, s211, s212, s213, s214, s215, s216, s217, s218, s219, s220, s221, s222, s223, s224, s225, s226, s227, s228, s229, s230, s231, s232, s233, s234, s235, s236, s237, s238, s239, s240, s241, s242, s243, s244, s245, s246, s247, s248, s249, s250, s251, s252, s253, s254, s255, s256, s257, s258, s259, s260, s261, s262, s263, s264, s265, s266, s267, s268, s269, s270, s271, s272, s273, s274, s275, s276, s277, s278, s279, s280, s281, s282, s283, s284, s285, s286, s287, s288, s289, s290, s291, s292, s293, s294, s295, s296, s297, s298, s299, s300, s301, s302, s303, s304, s305, s306, s307, s308, s309, s310, s311, s312, s313, s314, s315, s316, s317, s318, s319, s320, s321, s322, s323, s324, s325, s326, s327], []⟩ W1 := by
  have d0 := row_cell (L := [_, _, _]) hXb (i := 0) rfl
  have d1 := row_cell (L := [_, _, _]) hXb (i := 1) rfl
  have d2 := row_cell (L := [_, _, _]) hXb (i := 2) rfl
  have dl := row_lt hXb
  have hT1' := Lib.hid hT1
  have hnx' := Lib.hid hnx
  have hE' := Lib.hid hE
  clear hE
  have qt := Lib.hid (take_some hT1.rd hT1.bits ht hx)
  have htn := ht.1
  have htn' : (t : Int) < (n : Int) := by omega
  obtain ⟨g2, og, cap', hh, hv, hn1, hn2, hg1, hcell, hfree⟩ := (hT1.rows.wins t htn).at_ (by rw [hx]; simp)
  obtain ⟨mm, hm⟩ : ∃ mm, mm = (x :: l).length := ⟨_, rfl⟩
  have hWi := hT1.rows.wins t htn
  have hcv := hT1.rows.cell htn
  rw [hv] at hcv hWi
  rw [hx, ← hm] at hcv hWi hn1
  have e2 : mm - 1 = l.length := by rw [hm]; simp
  have hm1 : 1 ≤ mm := by rw [hm]; simp
  have e3 : (jbCells (x :: l)).drop (1 * 3) = jbCells l := by rw [jbCells_drop]; rfl
  have hfp := fun kk (hk : rfp r G bs bm n ring o kk) => hT1.apart kk (.inl hk)
  have hk2 : ∀ w2, Only (rfp r G bs bm n ring o) W1 w2 → ∀ Wz, Only (fun _ => False) w2 Wz → Wz.cell? ⟨R, t, none⟩ = some (.slice (some ⟨g2, og, none⟩) mm cap') ∧ Wz.frozen? ⟨R, t, none⟩ = false ∧ R < Wz.heap.size ∧ Wz.heap[Af]? = some (.cells x.cells.toArray 37 (0, 0)) ∧ X < Wz.heap.size := fun w2 h2 Wz hW => by
    have hr := hW.heap (h2.heap hT1.rows.row (fun hk => (hfp R hk).1 rfl)) (fun h => h)
    exact ⟨hW.cell (h2.cell hcv (fun hk => (hfp R hk).1 rfl)) (fun h => h), row_free hr _, row_lt hr, hW.heap (h2.heap hAb (fun hk => hAf _ (.inl (.inl hk)) rfl)) (fun h => h), Nat.lt_of_lt_of_le dl (Nat.le_trans h2.size hW.size)⟩
  have hend : ∀ w2 m', RdAt w2 B r G bs bm n P nx ring o (upd q t l) m' → Bits n P (upd q t l) m' → Only (rfp r G bs bm n ring o) W1 w2 → ∀ Wz, Only (fun _ => False) w2 Wz → ∀ p' c', Value.slice p' (mm - 1) c' = .slice (if cap' = 1 then some ⟨g2, og, none⟩ else some ⟨g2, og + 3, none⟩) (mm - 1) (cap' - 1) →
      PRel S W B r G bs bm n P ring R N (k + 1) (total q n - 1) (Wz.setCell ⟨R, t, none⟩ (.slice p' (mm - 1) c')) := fun w2 m' hR hb h2 Wz hW p' c' he => by
    obtain ⟨h', hW', hh'⟩ := hWi.drop (k := 1) (by omega)
    have e1 : (if cap' = 1 then some (⟨g2, og, none⟩ : Addr) else (some (⟨g2, og, none⟩ : Addr)).map (·.add (1 * 3))) = if cap' = 1 then some ⟨g2, og, none⟩ else some ⟨g2, og + 3, none⟩ := by
      simp [Addr.add_lit]
    rw [e1, ← he, e2, e3] at hW'
    rw [e2]
    have hrow : ∀ kk, h' = some kk → ¬ rfp r G bs bm n ring o kk := fun kk hk hk' => by
      rcases hh' with rfl | rfl
      · exact (hfp kk hk').2 t htn hk
      · cases hk
    have hst := hT1.step htn (nx' := nx) (o' := o) (w3 := Wz) (w4 := Wz) (x := .slice p' l.length c') (h' := h') (hR.new hW) hb (fun kk hk => .inl hk) (hW.heap (h2.heap hT1.nexts (fun hk => hT1.nap hk)) (fun h => h)) ((h2.mono (T := tfp r G bs bm n ring o N) (fun _ _ h => .inl h)).trans hW (fun _ _ h => h.elim)) (Only.refl _ _)
      ((hW'.kept h2 hrow).kept hW (fun _ _ h => h)) (by rcases hh' with h | h; exact .inl h; exact .inr (.inl h))
    refine ⟨_, _, _, _, _, _, hst, fun i => by have := hnx'.out i; omega, ?_⟩
    have := total_upd (q := q) (i := t) (l := l) n htn
    rw [hx] at this
    simp at this
    omega
  have hk2' := Lib.hid hk2
  have hend' := Lib.hid hend
  have e5 : (1 : Int) ≤ (mm : Int) := by omega
  have htot := total_le (q := q) (fun i hi => (hT1.rd.rings i hi).bounds.1) n (Nat.le_refl _)
  have htot' : (total q n : Int) ≤ 32 := by omega
  have hcm : mm ≤ cap' := by omega
  clear hk2 hend e3 e2 hWi hcv hn1 hn2 hg1 hcell hfree hv hm hfp hT1 hnx hXb _hXf hAb hAf hx ht htn
  obtain ⟨xt, xn, xr⟩ := x
  conv => arg 2; whnf
  go_wp2_with fail
  refine qt.out.mono ?_
  rintro e w2 ⟨rfl, m', hR2, hb2, h2⟩
  rw [show Jb.val ⟨xt, xn, xr⟩ = .agg #[.int .i64 xt, .int .i64 xn, .int .i64 xr] from rfl]
  have he := Lib.hid (hend'.out w2 m' hR2 hb2 h2)
  have hk3 := Lib.hid (hk2'.out w2 h2)
  clear h2 hR2 hb2 hend' hk2' d0 d1 d2 qt
  obtain ⟨Y, hY⟩ : ∃ Y, Y = w2.heap.size := ⟨_, rfl⟩
  obtain ⟨w3, hw3⟩ : ∃ w3, w3 = w2.alloc (.cells #[.int .i64 xt, .int .i64 xn, .int .i64 xr] 37) := ⟨_, rfl⟩
  have o3 := Lib.hid (show Only (fun _ => False) w2 w3 by rw [hw3]; exact (Only.refl _ w2).alloc _)
  have hY3 : w3.heap[Y]? = some (.cells #[.int .i64 xt, .int .i64 xn, .int .i64 xr] 37 (0, 0)) := by rw [hw3]; exact heap_new_at _ _ hY.symm
  have y0 := row_cell (L := [_, _, _]) hY3 (i := 0) rfl
  have y1 := row_cell (L := [_, _, _]) hY3 (i := 1) rfl
  have y2 := row_cell (L := [_, _, _]) hY3 (i := 2) rfl
  have yl := row_lt hY3
  obtain ⟨f1, f2, f3, f4, f5⟩ := hk3.out w3 o3.out
  have a0 := row_cell (L := [_, _, _]) f4 (i := 0) rfl
  have a1 := row_cell (L := [_, _, _]) f4 (i := 1) rfl
  have a2 := row_cell (L := [_, _, _]) f4 (i := 2) rfl
  have al := row_lt f4
  have hY' := Lib.hid hY
  have hw3' := Lib.hid hw3
  have he3 := Lib.hid (he.out w3 o3.out)
  clear hY3 hw3 hY f4 hk3 he
  go_upto_region 37 with fail
  rw [← hY'.out, ← hw3'.out]
  by_cases hc1 : cap' = 1
  · subst hc1
    obtain rfl : mm = 1 := by omega
    have he4 := Lib.hid (he3.out (some ⟨g2, og, none⟩) 0 (by simp))
    clear he3
    go_wp2
    exact hE'.out _ _ _ _ _ _ _ _ _ _ _ _ _ _ _ _ _ _ _ _ _ _ _ _ _ _ _ _ _ _ _ _ _ _ _ _ _ _ _ _ _ _ _ _ _ _ _ _ _ _ _ _ _ _ _ _ _ _ _ _ _ _ _ _ _ _ _ _ _ _ _ _ _ _ _ _ _ _ _ _ _ _ _ _ _ _ _ _ _ _ _ _ _ _ _ _ _ _ _ _ _ _ _ _ _ _ _ _ _ _ _ _ _ _ _ _ _ _ _ _ _ _ _ _ _ _ _ _ _ _ _  _ _ he4.out
  · have hc1' : ¬ (cap' : Int) = 1 := by omega
    have he4 := Lib.hid (he3.out (some ⟨g2, og + 3, none⟩) (cap' - 1) (by simp [hc1]))
    clear he3
    go_wp2
    exact hE'.out _ _ _ _ _ _ _ _ _ _ _ _ _ _ _ _ _ _ _ _ _ _ _ _ _ _ _ _ _ _ _ _ _ _ _ _ _ _ _ _ _ _ _ _ _ _ _ _ _ _ _ _ _ _ _ _ _ _ _ _ _ _ _ _ _ _ _ _ _ _ _ _ _ _ _ _ _ _ _ _ _ _ _ _ _ _ _ _ _ _ _ _ _ _ _ _ _ _ _ _ _ _ _ _ _ _ _ _ _ _ _ _ _ _ _ _ _ _ _ _ _ _ _ _ _ _ _ _ _ _ _  _ _ he4.out
end Go.Proofs.YteniphdfhmbbeaaDoor
