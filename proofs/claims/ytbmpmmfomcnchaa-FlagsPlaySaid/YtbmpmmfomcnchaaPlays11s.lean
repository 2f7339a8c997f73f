/- FlagsPlay: one turn of the inner loop, one theorem a case. -/
import Derived.Test.YtbmpmmfomcnchaaPlays11a
import Derived.Deep.CutBlock
namespace Go.Proofs.Ytbmpmmfomcnchaa
open Go Go.RowKit

/-- A block of the function's text, by its number. -/
def findBlock (n : Nat) : Code → Option Code
  | .block m c => if m = n then some (.block m c) else findBlock n c
  | .seq a b => match findBlock n a with
    | some c => some c
    | none => findBlock n b
  | .loop c => findBlock n c
  | .scope c => findBlock n c
  | .cond _ a b => match findBlock n a with
    | some c => some c
    | none => findBlock n b
  | _ => none
noncomputable def turn11 : Code := ((Try.f3.body.bind (findBlock 3)).getD .skip)

set_option maxRecDepth 100000 in
set_option maxHeartbeats 4000000 in
theorem turn_no {s0 s1 s2 s3 s4 s5 s6 s8 s15 s16 s17 s18 s19 s20 s21 s22 s23 s24 s25 s26 s27 s28 s29 s30 s31 s32 s33 s34 s35 s36 s37 s38 s39 s40 s41 s42 s43 s44 s45 s46 s47 s48 s49 s50 s51 s52 s53 s54 s55 s56 s57 s58 s59 s60 s61 s62 s63 s65 s66 s67 s68 s69 s70 s71 s72 s73 s74 s75 s76 s77 s78 s79 s80 s81 s82 s83 s84 s85 s86 s87 s88 s89 s90 s91 s92 s93 s94 s95 s96 s97 s98 s99 s100 s101 s102 s103 s104 s105 s106 s107 s108 s109 s110 s111 s112 s113 s114 s115 s116 s117 s118 s119 s120 s121 s122 s123 s124 s125 s126 s127 s128 s129 s130 s131 s132 s133 s134 s135 s136 s137 s138 s139 s140 s141 s142 s143 s144 s145 s146 s147 s148 s149 s150 s151 s152 s153 s154 s155 s156 s157 s158 s159 s160 s161 s162 s163 s164 s165 s166 s167 s168 s169 s170 s171 s172 s173 s174 s175 s176 s177 s178 s179 s180 s181 s182 s183 s184 s185 s186 s187 s188 s189 s190 s191 s192 s193 s194 s195 s196 s197 s198 s199 s200 s201 s202 s203 s204 s205 s206 s207 s208 s209 s210 s211 s212 s213 s214 s215 s216 s217 s218 s219 s220 s221 s222 s223 s224 s225 s226 s227 s228 s229 s230 : Value} (E : Act → World → Prop) (wq : World) {w : World} {B b g U n X Y i j : Nat} {v : Nat → BitVec 8} {x y : BitVec 8} {K M N : Int} {Al An : Bool}
    (hIn : Inn w B b g U n X Y v (partF v i y j) K i M x wq) (hi : i < n) (hj8 : j < 8) (hx : x = v i) (hy : y = newB K x (low M)) (_ : 0 ≤ K ∧ K ≤ 255) (hN : N = ((x.toNat % 2 ^ j : Nat) : Int)) (hAl : Al = allUp x (low M) j) (hAn : An = anyUp x (low M) j) (hq : (low M).getLsbD j = false)
    (hE : ∀ (u12 u13 u14 u15 u16 u66 u67 u68 u69 u70 u71 u72 u73 u74 u75 u76 u77 u78 u79 u80 u81 u82 u83 u84 u85 u86 u87 u88 u89 u90 u91 u92 u93 u94 u95 u96 u97 u98 u99 u100 u101 u102 u103 u104 u105 u106 u107 u108 u109 u110 u111 u112 u113 u114 u115 u116 u117 u118 u119 u120 : Value) (wc : World), u12 = .int .i64 ((x.toNat % 2 ^ (j + 1) : Nat) : Int) → u13 = .bool (allUp x (low M) (j + 1)) → u14 = .bool (anyUp x (low M) (j + 1)) → Inn w B b g U n X Y v (partF v i y (j + 1)) K i M x wc → E ⟨#[s0, s1, s2, s3, s4, s5, s6, .slice (some ⟨U, 0, none⟩) n n, s8, .pointer (some ⟨X, 0, none⟩), .bool true, .pointer (some ⟨Y, 0, none⟩), u12, u13, u14, u15, u16, s17, s18, s19, s20, s21, s22, s23, s24, s25, s26, s27, s28, s29, s30, s31, s32, s33, s34, s35, s36, s37, s38, s39, s40, s41, s42, s43, s44, s45, s46, s47, s48, s49, s50, s51, s52, s53, s54, s55, s56, s57, s58, s59, s60, s61, s62, s63, .int .i64 j, s65, u66, u67, u68, u69, u70, u71, u72, u73, u74, u75, u76, u77, u78, u79, u80, u81, u82, u83, u84, u85, u86, u87, u88, u89, u90, u91, u92, u93, u94, u95, u96, u97, u98, u99, u100, u101, u102, u103, u104, u105, u106, u107, u108, u109, u110, u111, u112, u113, u114, u115, u116, u117, u118, u119, u120, s121, s122, s123, s124, s125, s126, s127, s128, s129, s130, s131, s132, s133, s134, s135, s136, s137, s138, s139, s140, s141, s142, s143, s144, s145, s146, s147, s148, s149, s150, s151, s152, s153, s154, s155, s156, s157, s158, s159, s160, s161, s162, s163, s164, s165, s166, s167, s168, s169, s170, s171, s172, s173, s174, s175, s176, s177, s178, s179, s180, s181, s182, s183, s184, s185, s186, s187, s188, s189, s190, s191, s192, s193, s194, s195, s196, s197, s198, s199, s200, s201, s202, s203, s204, s205, s206, s207, s208, s209, s210, s211, s212, s213, s214, s215, s216, s217, s218, s219, s220, s221, s222, s223, s224, s225, s226, s227, s228, s229, s230], []⟩ wc) : Code.wp Try.prog turn11 (Exit.then E (fun _ _ _ => False)) ⟨#[s0, s1, s2, s3, s4, s5, s6, .slice (some ⟨U, 0, none⟩) n n, s8, .pointer (some ⟨X, 0, none⟩), .bool true, .pointer (some ⟨Y, 0, none⟩), .int .i64 N, .bool Al, .bool An, s15, s16, s17, s18, s19, s20, s21, s22, s23, s24, s25, s26, s27, s28, s29, s30, s31, s32, s33, s34, s35, s36, s37, s38, s39, s40, s41, s42, s43, s44, s45, s46, s47, s48, s49, s50, s51, s52, s53, s54, s55, s56, s57, s58, s59, s60, s61, s62, s63, .int .i64 j, s65, s66, s67, s68, s69, s70, s71, s72, s73, s74, s75, s76, s77, s78, s79, s80, s81, s82, s83, s84, s85, s86, s87, s88, s89, s90, s91, s92, s93, s94, s95, s96, s97, s98, s99, s100, s101, s102, s103, s104, s105, s106, s107, s108, s109, s110, s111, s112, s113, s114, s115, s116, s117, s118, s119, s120, s121, s122, s123, s124, s125, s126, s127, s128, s129, s130, s131, s132, s133, s134, s135, s136, s137, s138, s139, s140, s141, s142, s143, s144, s145, s146, s147, s148, s149, s150, s151, s152, s153, s154, s155, s156, s157, s158, s159, s160, s161, s162, s163, s164, s165, s166, s167, s168, s169, s170, s171, s172, s173, s174, s175, s176, s177, s178, s179, s180, s181, s182, s183, s184, s185, s186, s187, s188, s189, s190, s191, s192, s193, s194, s195, s196, s197, s198, s199, s200, s201, s202, s203, s204, s205, s206, s207, s208, s209, s210, s211, s212, s213, s214, s215, s216, s217, s218, s219, s220, s221, s222, s223, s224, s225, s226, s227, s228, s229, s230], []⟩ wq := by
  have hi' : (i : Int) < n := by omega
  have hj8' : (j : Int) < 8 := by omega
  obtain ⟨a0, a1, a2⟩ := hIn.acts
  have hw := hIn.wasAt hj8
  have hmb : (bits BinOp.and IntKind.i64 (M / 2 ^ j) 1 == 1) = (low M).getLsbD j := by
    rw [low_bit M hj8, bits_and_1]
    exact Bool.eq_iff_iff.2 (by simp)
  rw [hq] at hmb
  obtain ⟨o, ho⟩ : ∃ o, o = x.getLsbD j := ⟨_, rfl⟩
  rw [← ho] at hw
  have hN0 : 0 ≤ N ∧ N < 256 := by
    have := Nat.mod_le x.toNat (2 ^ j)
    have := x.isLt
    omega
  have hp : (2 : Int) ^ j ≤ 128 ∧ 1 ≤ (2 : Int) ^ j := by
    have : j = 0 ∨ j = 1 ∨ j = 2 ∨ j = 3 ∨ j = 4 ∨ j = 5 ∨ j = 6 ∨ j = 7 := by omega
    rcases this with rfl | rfl | rfl | rfl | rfl | rfl | rfl | rfl <;> simp
  have hNum := Lib.hid (show ((x.toNat % 2 ^ (j + 1) : Nat) : Int) = N + if o = true then (2 : Int) ^ j else 0 by
    rw [num_succ, hN, ho]
    split <;> simp)
  have hAll := Lib.hid (show allUp x (low M) (j + 1) = (Al && (!false || o)) by rw [allUp_succ, hAl, hq, ho])
  have hAny := Lib.hid (show anyUp x (low M) (j + 1) = (An || false && o) by rw [anyUp_succ, hAn, hq, ho])
  have hyb : y.getLsbD j = if false && decide (K % 4 < 2) && decide (0 ≤ K % 4) then decide (K % 4 = 0) else x.getLsbD j := by rw [hy, newB_bit K x (low M) hj8, hq]
  have hk := Lib.hid (hIn.same (partF_keep v i n j y (by rw [hyb, hx]; simp)))
  have hE' := Lib.hid hE
  clear hyb hIn hx hy hN hAl hAn hq ho hE
  cases o <;> cases Al <;> cases An
  all_goals
    conv => arg 2; whnf
    go_wp2
    exact hE'.out _ _ _ _ _ _ _ _ _ _ _ _ _ _ _ _ _ _ _ _ _ _ _ _ _ _ _ _ _ _ _ _ _ _ _ _ _ _ _ _ _ _ _ _ _ _ _ _ _ _ _ _ _ _ _ _ _ _ _ _ _ (by rw [hNum.out]; simp) (by rw [hAll.out]; rfl) (by rw [hAny.out]; rfl) hk.out
set_option maxRecDepth 100000 in
set_option maxHeartbeats 4000000 in
theorem turn_set {s0 s1 s2 s3 s4 s5 s6 s8 s15 s16 s17 s18 s19 s20 s21 s22 s23 s24 s25 s26 s27 s28 s29 s30 s31 s32 s33 s34 s35 s36 s37 s38 s39 s40 s41 s42 s43 s44 s45 s46 s47 s48 s49 s50 s51 s52 s53 s54 s55 s56 s57 s58 s59 s60 s61 s62 s63 s65 s66 s67 s68 s69 s70 s71 s72 s73 s74 s75 s76 s77 s78 s79 s80 s81 s82 s83 s84 s85 s86 s87 s88 s89 s90 s91 s92 s93 s94 s95 s96 s97 s98 s99 s100 s101 s102 s103 s104 s105 s106 s107 s108 s109 s110 s111 s112 s113 s114 s115 s116 s117 s118 s119 s120 s121 s122 s123 s124 s125 s126 s127 s128 s129 s130 s131 s132 s133 s134 s135 s136 s137 s138 s139 s140 s141 s142 s143 s144 s145 s146 s147 s148 s149 s150 s151 s152 s153 s154 s155 s156 s157 s158 s159 s160 s161 s162 s163 s164 s165 s166 s167 s168 s169 s170 s171 s172 s173 s174 s175 s176 s177 s178 s179 s180 s181 s182 s183 s184 s185 s186 s187 s188 s189 s190 s191 s192 s193 s194 s195 s196 s197 s198 s199 s200 s201 s202 s203 s204 s205 s206 s207 s208 s209 s210 s211 s212 s213 s214 s215 s216 s217 s218 s219 s220 s221 s222 s223 s224 s225 s226 s227 s228 s229 s230 : Value} (E : Act → World → Prop) (wq : World) {w : World} {B b g U n X Y i j : Nat} {v : Nat → BitVec 8} {x y : BitVec 8} {K M N : Int} {Al An : Bool}
    (hIn : Inn w B b g U n X Y v (partF v i y j) K i M x wq) (hi : i < n) (hj8 : j < 8) (_ : x = v i) (hy : y = newB K x (low M)) (hKb : 0 ≤ K ∧ K ≤ 255) (hN : N = ((x.toNat % 2 ^ j : Nat) : Int)) (hAl : Al = allUp x (low M) j) (hAn : An = anyUp x (low M) j) (hq : (low M).getLsbD j = true) (hK4 : K % 4 = 0)
    (hE : ∀ (u12 u13 u14 u15 u16 u66 u67 u68 u69 u70 u71 u72 u73 u74 u75 u76 u77 u78 u79 u80 u81 u82 u83 u84 u85 u86 u87 u88 u89 u90 u91 u92 u93 u94 u95 u96 u97 u98 u99 u100 u101 u102 u103 u104 u105 u106 u107 u108 u109 u110 u111 u112 u113 u114 u115 u116 u117 u118 u119 u120 : Value) (wc : World), u12 = .int .i64 ((x.toNat % 2 ^ (j + 1) : Nat) : Int) → u13 = .bool (allUp x (low M) (j + 1)) → u14 = .bool (anyUp x (low M) (j + 1)) → Inn w B b g U n X Y v (partF v i y (j + 1)) K i M x wc → E ⟨#[s0, s1, s2, s3, s4, s5, s6, .slice (some ⟨U, 0, none⟩) n n, s8, .pointer (some ⟨X, 0, none⟩), .bool true, .pointer (some ⟨Y, 0, none⟩), u12, u13, u14, u15, u16, s17, s18, s19, s20, s21, s22, s23, s24, s25, s26, s27, s28, s29, s30, s31, s32, s33, s34, s35, s36, s37, s38, s39, s40, s41, s42, s43, s44, s45, s46, s47, s48, s49, s50, s51, s52, s53, s54, s55, s56, s57, s58, s59, s60, s61, s62, s63, .int .i64 j, s65, u66, u67, u68, u69, u70, u71, u72, u73, u74, u75, u76, u77, u78, u79, u80, u81, u82, u83, u84, u85, u86, u87, u88, u89, u90, u91, u92, u93, u94, u95, u96, u97, u98, u99, u100, u101, u102, u103, u104, u105, u106, u107, u108, u109, u110, u111, u112, u113, u114, u115, u116, u117, u118, u119, u120, s121, s122, s123, s124, s125, s126, s127, s128, s129, s130, s131, s132, s133, s134, s135, s136, s137, s138, s139, s140, s141, s142, s143, s144, s145, s146, s147, s148, s149, s150, s151, s152, s153, s154, s155, s156, s157, s158, s159, s160, s161, s162, s163, s164, s165, s166, s167, s168, s169, s170, s171, s172, s173, s174, s175, s176, s177, s178, s179, s180, s181, s182, s183, s184, s185, s186, s187, s188, s189, s190, s191, s192, s193, s194, s195, s196, s197, s198, s199, s200, s201, s202, s203, s204, s205, s206, s207, s208, s209, s210, s211, s212, s213, s214, s215, s216, s217, s218, s219, s220, s221, s222, s223, s224, s225, s226, s227, s228, s229, s230], []⟩ wc) : Code.wp Try.prog turn11 (Exit.then E (fun _ _ _ => False)) ⟨#[s0, s1, s2, s3, s4, s5, s6, .slice (some ⟨U, 0, none⟩) n n, s8, .pointer (some ⟨X, 0, none⟩), .bool true, .pointer (some ⟨Y, 0, none⟩), .int .i64 N, .bool Al, .bool An, s15, s16, s17, s18, s19, s20, s21, s22, s23, s24, s25, s26, s27, s28, s29, s30, s31, s32, s33, s34, s35, s36, s37, s38, s39, s40, s41, s42, s43, s44, s45, s46, s47, s48, s49, s50, s51, s52, s53, s54, s55, s56, s57, s58, s59, s60, s61, s62, s63, .int .i64 j, s65, s66, s67, s68, s69, s70, s71, s72, s73, s74, s75, s76, s77, s78, s79, s80, s81, s82, s83, s84, s85, s86, s87, s88, s89, s90, s91, s92, s93, s94, s95, s96, s97, s98, s99, s100, s101, s102, s103, s104, s105, s106, s107, s108, s109, s110, s111, s112, s113, s114, s115, s116, s117, s118, s119, s120, s121, s122, s123, s124, s125, s126, s127, s128, s129, s130, s131, s132, s133, s134, s135, s136, s137, s138, s139, s140, s141, s142, s143, s144, s145, s146, s147, s148, s149, s150, s151, s152, s153, s154, s155, s156, s157, s158, s159, s160, s161, s162, s163, s164, s165, s166, s167, s168, s169, s170, s171, s172, s173, s174, s175, s176, s177, s178, s179, s180, s181, s182, s183, s184, s185, s186, s187, s188, s189, s190, s191, s192, s193, s194, s195, s196, s197, s198, s199, s200, s201, s202, s203, s204, s205, s206, s207, s208, s209, s210, s211, s212, s213, s214, s215, s216, s217, s218, s219, s220, s221, s222, s223, s224, s225, s226, s227, s228, s229, s230], []⟩ wq := by
  have hi' : (i : Int) < n := by omega
  have hj8' : (j : Int) < 8 := by omega
  obtain ⟨a0, a1, a2⟩ := hIn.acts
  have hw := hIn.wasAt hj8
  have hmb : (bits BinOp.and IntKind.i64 (M / 2 ^ j) 1 == 1) = (low M).getLsbD j := by
    rw [low_bit M hj8, bits_and_1]
    exact Bool.eq_iff_iff.2 (by simp)
  rw [hq] at hmb
  obtain ⟨o, ho⟩ : ∃ o, o = x.getLsbD j := ⟨_, rfl⟩
  rw [← ho] at hw
  have hN0 : 0 ≤ N ∧ N < 256 := by
    have := Nat.mod_le x.toNat (2 ^ j)
    have := x.isLt
    omega
  have hp : (2 : Int) ^ j ≤ 128 ∧ 1 ≤ (2 : Int) ^ j := by
    have : j = 0 ∨ j = 1 ∨ j = 2 ∨ j = 3 ∨ j = 4 ∨ j = 5 ∨ j = 6 ∨ j = 7 := by omega
    rcases this with rfl | rfl | rfl | rfl | rfl | rfl | rfl | rfl <;> simp
  have hNum := Lib.hid (show ((x.toNat % 2 ^ (j + 1) : Nat) : Int) = N + if o = true then (2 : Int) ^ j else 0 by
    rw [num_succ, hN, ho]
    split <;> simp)
  have hAll := Lib.hid (show allUp x (low M) (j + 1) = (Al && (!true || o)) by rw [allUp_succ, hAl, hq, ho])
  have hAny := Lib.hid (show anyUp x (low M) (j + 1) = (An || true && o) by rw [anyUp_succ, hAn, hq, ho])
  have hyb : y.getLsbD j = if true && decide (K % 4 < 2) && decide (0 ≤ K % 4) then decide (K % 4 = 0) else x.getLsbD j := by rw [hy, newB_bit K x (low M) hj8, hq]
  obtain ⟨e0, e1⟩ := hIn.upAt hi hj8
  have hs := Lib.hid (fun m => (hIn.set (i := i) hj8 (y.getLsbD j) m).same (partF_set v i n j y).symm)
  rw [show y.getLsbD j = true by rw [hyb]; simp [hK4]] at hs
  have hE' := Lib.hid hE
  clear hyb hIn hy hN hAl hAn hq ho hE
  cases o <;> cases Al <;> cases An
  all_goals
    conv => arg 2; whnf
    go_wp2
    go_region
    all_goals
      go_wp2
      exact hE'.out _ _ _ _ _ _ _ _ _ _ _ _ _ _ _ _ _ _ _ _ _ _ _ _ _ _ _ _ _ _ _ _ _ _ _ _ _ _ _ _ _ _ _ _ _ _ _ _ _ _ _ _ _ _ _ _ _ _ _ _ _ (by rw [hNum.out]; simp) (by rw [hAll.out]; rfl) (by rw [hAny.out]; rfl) (hs.out _)
set_option maxRecDepth 100000 in
set_option maxHeartbeats 4000000 in
theorem turn_clear {s0 s1 s2 s3 s4 s5 s6 s8 s15 s16 s17 s18 s19 s20 s21 s22 s23 s24 s25 s26 s27 s28 s29 s30 s31 s32 s33 s34 s35 s36 s37 s38 s39 s40 s41 s42 s43 s44 s45 s46 s47 s48 s49 s50 s51 s52 s53 s54 s55 s56 s57 s58 s59 s60 s61 s62 s63 s65 s66 s67 s68 s69 s70 s71 s72 s73 s74 s75 s76 s77 s78 s79 s80 s81 s82 s83 s84 s85 s86 s87 s88 s89 s90 s91 s92 s93 s94 s95 s96 s97 s98 s99 s100 s101 s102 s103 s104 s105 s106 s107 s108 s109 s110 s111 s112 s113 s114 s115 s116 s117 s118 s119 s120 s121 s122 s123 s124 s125 s126 s127 s128 s129 s130 s131 s132 s133 s134 s135 s136 s137 s138 s139 s140 s141 s142 s143 s144 s145 s146 s147 s148 s149 s150 s151 s152 s153 s154 s155 s156 s157 s158 s159 s160 s161 s162 s163 s164 s165 s166 s167 s168 s169 s170 s171 s172 s173 s174 s175 s176 s177 s178 s179 s180 s181 s182 s183 s184 s185 s186 s187 s188 s189 s190 s191 s192 s193 s194 s195 s196 s197 s198 s199 s200 s201 s202 s203 s204 s205 s206 s207 s208 s209 s210 s211 s212 s213 s214 s215 s216 s217 s218 s219 s220 s221 s222 s223 s224 s225 s226 s227 s228 s229 s230 : Value} (E : Act → World → Prop) (wq : World) {w : World} {B b g U n X Y i j : Nat} {v : Nat → BitVec 8} {x y : BitVec 8} {K M N : Int} {Al An : Bool}
    (hIn : Inn w B b g U n X Y v (partF v i y j) K i M x wq) (hi : i < n) (hj8 : j < 8) (_ : x = v i) (hy : y = newB K x (low M)) (hKb : 0 ≤ K ∧ K ≤ 255) (hN : N = ((x.toNat % 2 ^ j : Nat) : Int)) (hAl : Al = allUp x (low M) j) (hAn : An = anyUp x (low M) j) (hq : (low M).getLsbD j = true) (hK4 : K % 4 = 1)
    (hE : ∀ (u12 u13 u14 u15 u16 u66 u67 u68 u69 u70 u71 u72 u73 u74 u75 u76 u77 u78 u79 u80 u81 u82 u83 u84 u85 u86 u87 u88 u89 u90 u91 u92 u93 u94 u95 u96 u97 u98 u99 u100 u101 u102 u103 u104 u105 u106 u107 u108 u109 u110 u111 u112 u113 u114 u115 u116 u117 u118 u119 u120 : Value) (wc : World), u12 = .int .i64 ((x.toNat % 2 ^ (j + 1) : Nat) : Int) → u13 = .bool (allUp x (low M) (j + 1)) → u14 = .bool (anyUp x (low M) (j + 1)) → Inn w B b g U n X Y v (partF v i y (j + 1)) K i M x wc → E ⟨#[s0, s1, s2, s3, s4, s5, s6, .slice (some ⟨U, 0, none⟩) n n, s8, .pointer (some ⟨X, 0, none⟩), .bool true, .pointer (some ⟨Y, 0, none⟩), u12, u13, u14, u15, u16, s17, s18, s19, s20, s21, s22, s23, s24, s25, s26, s27, s28, s29, s30, s31, s32, s33, s34, s35, s36, s37, s38, s39, s40, s41, s42, s43, s44, s45, s46, s47, s48, s49, s50, s51, s52, s53, s54, s55, s56, s57, s58, s59, s60, s61, s62, s63, .int .i64 j, s65, u66, u67, u68, u69, u70, u71, u72, u73, u74, u75, u76, u77, u78, u79, u80, u81, u82, u83, u84, u85, u86, u87, u88, u89, u90, u91, u92, u93, u94, u95, u96, u97, u98, u99, u100, u101, u102, u103, u104, u105, u106, u107, u108, u109, u110, u111, u112, u113, u114, u115, u116, u117, u118, u119, u120, s121, s122, s123, s124, s125, s126, s127, s128, s129, s130, s131, s132, s133, s134, s135, s136, s137, s138, s139, s140, s141, s142, s143, s144, s145, s146, s147, s148, s149, s150, s151, s152, s153, s154, s155, s156, s157, s158, s159, s160, s161, s162, s163, s164, s165, s166, s167, s168, s169, s170, s171, s172, s173, s174, s175, s176, s177, s178, s179, s180, s181, s182, s183, s184, s185, s186, s187, s188, s189, s190, s191, s192, s193, s194, s195, s196, s197, s198, s199, s200, s201, s202, s203, s204, s205, s206, s207, s208, s209, s210, s211, s212, s213, s214, s215, s216, s217, s218, s219, s220, s221, s222, s223, s224, s225, s226, s227, s228, s229, s230], []⟩ wc) : Code.wp Try.prog turn11 (Exit.then E (fun _ _ _ => False)) ⟨#[s0, s1, s2, s3, s4, s5, s6, .slice (some ⟨U, 0, none⟩) n n, s8, .pointer (some ⟨X, 0, none⟩), .bool true, .pointer (some ⟨Y, 0, none⟩), .int .i64 N, .bool Al, .bool An, s15, s16, s17, s18, s19, s20, s21, s22, s23, s24, s25, s26, s27, s28, s29, s30, s31, s32, s33, s34, s35, s36, s37, s38, s39, s40, s41, s42, s43, s44, s45, s46, s47, s48, s49, s50, s51, s52, s53, s54, s55, s56, s57, s58, s59, s60, s61, s62, s63, .int .i64 j, s65, s66, s67, s68, s69, s70, s71, s72, s73, s74, s75, s76, s77, s78, s79, s80, s81, s82, s83, s84, s85, s86, s87, s88, s89, s90, s91, s92, s93, s94, s95, s96, s97, s98, s99, s100, s101, s102, s103, s104, s105, s106, s107, s108, s109, s110, s111, s112, s113, s114, s115, s116, s117, s118, s119, s120, s121, s122, s123, s124, s125, s126, s127, s128, s129, s130, s131, s132, s133, s134, s135, s136, s137, s138, s139, s140, s141, s142, s143, s144, s145, s146, s147, s148, s149, s150, s151, s152, s153, s154, s155, s156, s157, s158, s159, s160, s161, s162, s163, s164, s165, s166, s167, s168, s169, s170, s171, s172, s173, s174, s175, s176, s177, s178, s179, s180, s181, s182, s183, s184, s185, s186, s187, s188, s189, s190, s191, s192, s193, s194, s195, s196, s197, s198, s199, s200, s201, s202, s203, s204, s205, s206, s207, s208, s209, s210, s211, s212, s213, s214, s215, s216, s217, s218, s219, s220, s221, s222, s223, s224, s225, s226, s227, s228, s229, s230], []⟩ wq := by
  have hi' : (i : Int) < n := by omega
  have hj8' : (j : Int) < 8 := by omega
  obtain ⟨a0, a1, a2⟩ := hIn.acts
  have hw := hIn.wasAt hj8
  have hmb : (bits BinOp.and IntKind.i64 (M / 2 ^ j) 1 == 1) = (low M).getLsbD j := by
    rw [low_bit M hj8, bits_and_1]
    exact Bool.eq_iff_iff.2 (by simp)
  rw [hq] at hmb
  obtain ⟨o, ho⟩ : ∃ o, o = x.getLsbD j := ⟨_, rfl⟩
  rw [← ho] at hw
  have hN0 : 0 ≤ N ∧ N < 256 := by
    have := Nat.mod_le x.toNat (2 ^ j)
    have := x.isLt
    omega
  have hp : (2 : Int) ^ j ≤ 128 ∧ 1 ≤ (2 : Int) ^ j := by
    have : j = 0 ∨ j = 1 ∨ j = 2 ∨ j = 3 ∨ j = 4 ∨ j = 5 ∨ j = 6 ∨ j = 7 := by omega
    rcases this with rfl | rfl | rfl | rfl | rfl | rfl | rfl | rfl <;> simp
  have hNum := Lib.hid (show ((x.toNat % 2 ^ (j + 1) : Nat) : Int) = N + if o = true then (2 : Int) ^ j else 0 by
    rw [num_succ, hN, ho]
    split <;> simp)
  have hAll := Lib.hid (show allUp x (low M) (j + 1) = (Al && (!true || o)) by rw [allUp_succ, hAl, hq, ho])
  have hAny := Lib.hid (show anyUp x (low M) (j + 1) = (An || true && o) by rw [anyUp_succ, hAn, hq, ho])
  have hyb : y.getLsbD j = if true && decide (K % 4 < 2) && decide (0 ≤ K % 4) then decide (K % 4 = 0) else x.getLsbD j := by rw [hy, newB_bit K x (low M) hj8, hq]
  obtain ⟨e0, e1⟩ := hIn.upAt hi hj8
  have hs := Lib.hid (fun m => (hIn.set (i := i) hj8 (y.getLsbD j) m).same (partF_set v i n j y).symm)
  rw [show y.getLsbD j = false by rw [hyb]; simp [hK4]] at hs
  have hE' := Lib.hid hE
  clear hyb hIn hy hN hAl hAn hq ho hE
  cases o <;> cases Al <;> cases An
  all_goals
    conv => arg 2; whnf
    go_wp2
    go_region
    all_goals
      go_wp2
      exact hE'.out _ _ _ _ _ _ _ _ _ _ _ _ _ _ _ _ _ _ _ _ _ _ _ _ _ _ _ _ _ _ _ _ _ _ _ _ _ _ _ _ _ _ _ _ _ _ _ _ _ _ _ _ _ _ _ _ _ _ _ _ _ (by rw [hNum.out]; simp) (by rw [hAll.out]; rfl) (by rw [hAny.out]; rfl) (hs.out _)
set_option maxRecDepth 100000 in
set_option maxHeartbeats 4000000 in
theorem turn_test {s0 s1 s2 s3 s4 s5 s6 s8 s15 s16 s17 s18 s19 s20 s21 s22 s23 s24 s25 s26 s27 s28 s29 s30 s31 s32 s33 s34 s35 s36 s37 s38 s39 s40 s41 s42 s43 s44 s45 s46 s47 s48 s49 s50 s51 s52 s53 s54 s55 s56 s57 s58 s59 s60 s61 s62 s63 s65 s66 s67 s68 s69 s70 s71 s72 s73 s74 s75 s76 s77 s78 s79 s80 s81 s82 s83 s84 s85 s86 s87 s88 s89 s90 s91 s92 s93 s94 s95 s96 s97 s98 s99 s100 s101 s102 s103 s104 s105 s106 s107 s108 s109 s110 s111 s112 s113 s114 s115 s116 s117 s118 s119 s120 s121 s122 s123 s124 s125 s126 s127 s128 s129 s130 s131 s132 s133 s134 s135 s136 s137 s138 s139 s140 s141 s142 s143 s144 s145 s146 s147 s148 s149 s150 s151 s152 s153 s154 s155 s156 s157 s158 s159 s160 s161 s162 s163 s164 s165 s166 s167 s168 s169 s170 s171 s172 s173 s174 s175 s176 s177 s178 s179 s180 s181 s182 s183 s184 s185 s186 s187 s188 s189 s190 s191 s192 s193 s194 s195 s196 s197 s198 s199 s200 s201 s202 s203 s204 s205 s206 s207 s208 s209 s210 s211 s212 s213 s214 s215 s216 s217 s218 s219 s220 s221 s222 s223 s224 s225 s226 s227 s228 s229 s230 : Value} (E : Act → World → Prop) (wq : World) {w : World} {B b g U n X Y i j : Nat} {v : Nat → BitVec 8} {x y : BitVec 8} {K M N : Int} {Al An : Bool}
    (hIn : Inn w B b g U n X Y v (partF v i y j) K i M x wq) (hi : i < n) (hj8 : j < 8) (hx : x = v i) (hy : y = newB K x (low M)) (hKb : 0 ≤ K ∧ K ≤ 255) (hN : N = ((x.toNat % 2 ^ j : Nat) : Int)) (hAl : Al = allUp x (low M) j) (hAn : An = anyUp x (low M) j) (hq : (low M).getLsbD j = true) (hK4 : 2 ≤ K % 4)
    (hE : ∀ (u12 u13 u14 u15 u16 u66 u67 u68 u69 u70 u71 u72 u73 u74 u75 u76 u77 u78 u79 u80 u81 u82 u83 u84 u85 u86 u87 u88 u89 u90 u91 u92 u93 u94 u95 u96 u97 u98 u99 u100 u101 u102 u103 u104 u105 u106 u107 u108 u109 u110 u111 u112 u113 u114 u115 u116 u117 u118 u119 u120 : Value) (wc : World), u12 = .int .i64 ((x.toNat % 2 ^ (j + 1) : Nat) : Int) → u13 = .bool (allUp x (low M) (j + 1)) → u14 = .bool (anyUp x (low M) (j + 1)) → Inn w B b g U n X Y v (partF v i y (j + 1)) K i M x wc → E ⟨#[s0, s1, s2, s3, s4, s5, s6, .slice (some ⟨U, 0, none⟩) n n, s8, .pointer (some ⟨X, 0, none⟩), .bool true, .pointer (some ⟨Y, 0, none⟩), u12, u13, u14, u15, u16, s17, s18, s19, s20, s21, s22, s23, s24, s25, s26, s27, s28, s29, s30, s31, s32, s33, s34, s35, s36, s37, s38, s39, s40, s41, s42, s43, s44, s45, s46, s47, s48, s49, s50, s51, s52, s53, s54, s55, s56, s57, s58, s59, s60, s61, s62, s63, .int .i64 j, s65, u66, u67, u68, u69, u70, u71, u72, u73, u74, u75, u76, u77, u78, u79, u80, u81, u82, u83, u84, u85, u86, u87, u88, u89, u90, u91, u92, u93, u94, u95, u96, u97, u98, u99, u100, u101, u102, u103, u104, u105, u106, u107, u108, u109, u110, u111, u112, u113, u114, u115, u116, u117, u118, u119, u120, s121, s122, s123, s124, s125, s126, s127, s128, s129, s130, s131, s132, s133, s134, s135, s136, s137, s138, s139, s140, s141, s142, s143, s144, s145, s146, s147, s148, s149, s150, s151, s152, s153, s154, s155, s156, s157, s158, s159, s160, s161, s162, s163, s164, s165, s166, s167, s168, s169, s170, s171, s172, s173, s174, s175, s176, s177, s178, s179, s180, s181, s182, s183, s184, s185, s186, s187, s188, s189, s190, s191, s192, s193, s194, s195, s196, s197, s198, s199, s200, s201, s202, s203, s204, s205, s206, s207, s208, s209, s210, s211, s212, s213, s214, s215, s216, s217, s218, s219, s220, s221, s222, s223, s224, s225, s226, s227, s228, s229, s230], []⟩ wc) : Code.wp Try.prog turn11 (Exit.then E (fun _ _ _ => False)) ⟨#[s0, s1, s2, s3, s4, s5, s6, .slice (some ⟨U, 0, none⟩) n n, s8, .pointer (some ⟨X, 0, none⟩), .bool true, .pointer (some ⟨Y, 0, none⟩), .int .i64 N, .bool Al, .bool An, s15, s16, s17, s18, s19, s20, s21, s22, s23, s24, s25, s26, s27, s28, s29, s30, s31, s32, s33, s34, s35, s36, s37, s38, s39, s40, s41, s42, s43, s44, s45, s46, s47, s48, s49, s50, s51, s52, s53, s54, s55, s56, s57, s58, s59, s60, s61, s62, s63, .int .i64 j, s65, s66, s67, s68, s69, s70, s71, s72, s73, s74, s75, s76, s77, s78, s79, s80, s81, s82, s83, s84, s85, s86, s87, s88, s89, s90, s91, s92, s93, s94, s95, s96, s97, s98, s99, s100, s101, s102, s103, s104, s105, s106, s107, s108, s109, s110, s111, s112, s113, s114, s115, s116, s117, s118, s119, s120, s121, s122, s123, s124, s125, s126, s127, s128, s129, s130, s131, s132, s133, s134, s135, s136, s137, s138, s139, s140, s141, s142, s143, s144, s145, s146, s147, s148, s149, s150, s151, s152, s153, s154, s155, s156, s157, s158, s159, s160, s161, s162, s163, s164, s165, s166, s167, s168, s169, s170, s171, s172, s173, s174, s175, s176, s177, s178, s179, s180, s181, s182, s183, s184, s185, s186, s187, s188, s189, s190, s191, s192, s193, s194, s195, s196, s197, s198, s199, s200, s201, s202, s203, s204, s205, s206, s207, s208, s209, s210, s211, s212, s213, s214, s215, s216, s217, s218, s219, s220, s221, s222, s223, s224, s225, s226, s227, s228, s229, s230], []⟩ wq := by
  have hi' : (i : Int) < n := by omega
  have hj8' : (j : Int) < 8 := by omega
  obtain ⟨a0, a1, a2⟩ := hIn.acts
  have hw := hIn.wasAt hj8
  have hmb : (bits BinOp.and IntKind.i64 (M / 2 ^ j) 1 == 1) = (low M).getLsbD j := by
    rw [low_bit M hj8, bits_and_1]
    exact Bool.eq_iff_iff.2 (by simp)
  rw [hq] at hmb
  obtain ⟨o, ho⟩ : ∃ o, o = x.getLsbD j := ⟨_, rfl⟩
  rw [← ho] at hw
  have hN0 : 0 ≤ N ∧ N < 256 := by
    have := Nat.mod_le x.toNat (2 ^ j)
    have := x.isLt
    omega
  have hp : (2 : Int) ^ j ≤ 128 ∧ 1 ≤ (2 : Int) ^ j := by
    have : j = 0 ∨ j = 1 ∨ j = 2 ∨ j = 3 ∨ j = 4 ∨ j = 5 ∨ j = 6 ∨ j = 7 := by omega
    rcases this with rfl | rfl | rfl | rfl | rfl | rfl | rfl | rfl <;> simp
  have hNum := Lib.hid (show ((x.toNat % 2 ^ (j + 1) : Nat) : Int) = N + if o = true then (2 : Int) ^ j else 0 by
    rw [num_succ, hN, ho]
    split <;> simp)
  have hAll := Lib.hid (show allUp x (low M) (j + 1) = (Al && (!true || o)) by rw [allUp_succ, hAl, hq, ho])
  have hAny := Lib.hid (show anyUp x (low M) (j + 1) = (An || true && o) by rw [anyUp_succ, hAn, hq, ho])
  have hyb : y.getLsbD j = if true && decide (K % 4 < 2) && decide (0 ≤ K % 4) then decide (K % 4 = 0) else x.getLsbD j := by rw [hy, newB_bit K x (low M) hj8, hq]
  have hk := Lib.hid (hIn.same (partF_keep v i n j y (by rw [hyb, hx]; rw [decide_eq_false (show ¬ K % 4 < 2 by omega)]; simp)))
  have hE' := Lib.hid hE
  clear hyb hIn hx hy hN hAl hAn hq ho hE
  cases o <;> cases Al <;> cases An
  all_goals
    conv => arg 2; whnf
    go_wp2
    exact hE'.out _ _ _ _ _ _ _ _ _ _ _ _ _ _ _ _ _ _ _ _ _ _ _ _ _ _ _ _ _ _ _ _ _ _ _ _ _ _ _ _ _ _ _ _ _ _ _ _ _ _ _ _ _ _ _ _ _ _ _ _ _ (by rw [hNum.out]; simp) (by rw [hAll.out]; rfl) (by rw [hAny.out]; rfl) hk.out
end Go.Proofs.Ytbmpmmfomcnchaa
