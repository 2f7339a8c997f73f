/- The fixed calls of the laws on programs, all together. -/
import Derived.Test.YtmkdboiajjkghaaDoorFixed
import Derived.Test.YtmkdboiajjkghaaDoorChecks
namespace Go.Proofs.YtmkdboiajjkghaaDoor
open Go Go.RowKit

def l3 : List Opn := [⟨1, 5, 0⟩, ⟨3, 0, 0⟩, ⟨4, 0, 0⟩]
def s3 : ByteArray := ⟨#[99, 111, 109, 112, 117, 116, 101, 32, 53, 59, 101, 110, 116, 101, 114, 59, 101, 120, 105, 116]⟩
theorem s3_es : s3.toList = [99, 111, 109, 112, 117, 116, 101, 32, 53, 59, 101, 110, 116, 101, 114, 59, 101, 120, 105, 116] := by
  rw [ByteArray.toList_eq]
  rfl
theorem l3_short : ∀ x ∈ l3, Short x := by
  intro x hx
  simp [l3] at hx
  rcases hx with rfl | rfl | rfl <;> constructor <;> simp <;> decide
theorem l3_one : oneT ⟨1, 5, 0⟩ = [99, 111, 109, 112, 117, 116, 101, 32, 53] ∧ oneT ⟨3, 0, 0⟩ = [101, 110, 116, 101, 114] ∧ oneT ⟨4, 0, 0⟩ = [101, 120, 105, 116] := by
  refine ⟨?_, by decide, by decide⟩
  unfold oneT
  rw [show (5 : Int).toNat = 5 from rfl, Lib.decDigits_one (by decide)]
  decide
theorem l3_left : toBA (leftT l3 0) = s3 := by
  unfold leftT l3
  simp only [List.drop_zero, preT, List.flatMap_cons, List.flatMap_nil, l3_one.1, l3_one.2.1, l3_one.2.2]
  rfl
theorem l3_text {w : World} (hb : Bas w) {A : Option Addr} (hl : OpnRow w A l3) : Calls Tryd.prog 13 #[.slice A 3 3] w fun e w' => e = .returned (.tuple #[.string s3, .bool true]) ∧ Only (fun _ => False) w w' := by
  have ho : ∀ x ∈ l3, optT x = some (oneT x) := by
    intro x hx
    simp [l3] at hx
    rcases hx with rfl | rfl | rfl <;> rfl
  refine (text_any (cap := 3) optT hl rfl (by decide) (fun x hx => ?_) (fun x hx => ?_)).mono ?_
  · have : fitI x.a ∧ fitI x.b := by
      simp [l3] at hx
      rcases hx with rfl | rfl | rfl <;> (unfold fitI; simp)
    exact one_ok hb x this.1 this.2
  · unfold gOf
    rw [ho x hx]
    have := oneT_len x (l3_short x hx)
    show (oneT x).length ≤ 100
    omega
  · rintro e w' ⟨rfl, ho'⟩
    have e1 : allB optT l3 = true := by rfl
    have e2 : preT (gOf optT) l3 = leftT l3 0 := by
      unfold leftT gOf l3
      simp only [List.drop_zero, preT, List.flatMap_cons, List.flatMap_nil]
      rw [ho _ (by simp [l3]), ho _ (by simp [l3]), ho _ (by simp [l3])]
      rfl
    rw [e1, if_pos rfl, e2, l3_left]
    exact ⟨rfl, ho'⟩
def r0 : RoomV := ⟨0, 0, 0, 0⟩
theorem r0_ok : r0.ok := by unfold RoomV.ok r0; simp
theorem l3_check : checkZ l3 r0 = 0 ∧ checkZ (l3.take 2) r0 = 9 := by decide

theorem l3_check1 {w : World} (hw : Words w) {A : Option Addr} {c : Nat} (hl : OpnRow w A l3) : Calls Tryd.prog 11 #[.slice A 3 c, .agg #[.int .i64 0, .int .i64 0, .int .i64 0, .int .i64 0]] w (GrowI 0 w) := by
  have h := check_any (cap := c) hw hl r0 r0_ok
  rw [l3_check.1, show l3.length = 3 from rfl, show r0.val = .agg #[.int .i64 0, .int .i64 0, .int .i64 0, .int .i64 0] from rfl] at h
  exact h
theorem l3_check2 {w : World} (hw : Words w) {A : Option Addr} {c : Nat} (hl : OpnRow w A (l3.take 2)) : Calls Tryd.prog 11 #[.slice A 2 c, .agg #[.int .i64 0, .int .i64 0, .int .i64 0, .int .i64 0]] w (GrowI 9 w) := by
  have h := check_any (cap := c) hw hl r0 r0_ok
  rw [l3_check.2, show (l3.take 2).length = 2 from rfl, show r0.val = .agg #[.int .i64 0, .int .i64 0, .int .i64 0, .int .i64 0] from rfl] at h
  exact h

set_option maxRecDepth 100000 in
set_option maxHeartbeats 2000000 in
theorem fixed_any {w : World} (hb : Bas w) : Calls Tryd.prog 5 #[] w (GrowB true w) := by
  have q1 := Lib.hid (fun W (hW : Only (fun _ => False) w W) A => l3_text (hb.new hW) (A := A))
  have q2 := Lib.hid (fun W (hW : Only (fun _ => False) w W) => parse_any (hb.new hW) l3 l3_short (by decide) (by decide))
  have q3 := Lib.hid (fun W (hW : Only (fun _ => False) w W) => parse_bad (hb.new hW))
  have q4 := Lib.hid (show ∀ W, Only (fun _ => False) w W → ∀ A c, OpnRow W A l3 → Calls Tryd.prog 11 #[.slice A 3 c, .agg #[.int .i64 0, .int .i64 0, .int .i64 0, .int .i64 0]] W (GrowI 0 W) from fun W hW A c hl => l3_check1 (hb.words.new hW) hl)
  have q5 := Lib.hid (show ∀ W, Only (fun _ => False) w W → ∀ A c, OpnRow W A (l3.take 2) → Calls Tryd.prog 11 #[.slice A 2 c, .agg #[.int .i64 0, .int .i64 0, .int .i64 0, .int .i64 0]] W (GrowI 9 W) from fun W hW A c hl => l3_check2 (hb.words.new hW) hl)
  have q6 := Lib.hid (fun W (hW : Only (fun _ => False) w W) => numbers_any (hb.words.new hW) 9)
  rw [l3_left] at q2
  rw [show numZ 9 = 2 from by decide] at q6
  clear hb
  go_enter Tryd.func5, Tryd.ntmps5
  go_wp2_with fail
  have hO0 := Lib.hid (show Only (fun _ => False) w (w.alloc (.cells (opCells l3).toArray 29)) from (Only.refl _ w).alloc _)
  have hB0 := Lib.hid (heap_new_at w (.cells (opCells l3).toArray 29) rfl)
  rw [show (opCells l3).toArray = #[.int .i64 1, .int .i64 5, .int .i64 0, .int .i64 3, .int .i64 0, .int .i64 0, .int .i64 4, .int .i64 0, .int .i64 0] from rfl] at hO0 hB0
  obtain ⟨g, hg⟩ : ∃ g, g = w.heap.size := ⟨_, rfl⟩
  rw [← hg] at hB0 ⊢
  clear hg
  generalize World.alloc w _ = W0 at hO0 hB0 ⊢
  have hrow := Lib.hid (show OpnRow W0 (some ⟨g, 0, none⟩) l3 from by
    intro k x hx
    have hk : k < 3 := (List.getElem?_eq_some_iff.1 hx).1
    have : k = 0 ∨ k = 1 ∨ k = 2 := by omega
    refine ⟨g, 0, rfl, row_lt hB0.out, ?_⟩
    rcases this with rfl | rfl | rfl <;> (cases hx; exact ⟨row_cell (L := opCells l3) hB0.out rfl, row_cell (L := opCells l3) hB0.out rfl, row_cell (L := opCells l3) hB0.out rfl⟩))
  have hrow2 := Lib.hid (show OpnRow W0 (some ⟨g, 0, none⟩) (l3.take 2) from fun k x hx => by
    rw [List.getElem?_take] at hx
    split at hx
    · exact hrow.out k x hx
    · cases hx)
  refine (q1.out _ hO0.out _ hrow.out).mono ?_
  rintro e W1 ⟨rfl, hO1⟩
  have hO1' := Lib.hid hO1
  clear hO1
  go_wp2_with fail
  refine (q2.out _ (hO0.out.trans' hO1'.out)).mono ?_
  rintro e W2 ⟨p, cap, h, rfl, hW, hf, hO2⟩
  obtain ⟨g2, off, cap2, hh, hv, hnc, hcm, hlt2, hcell, hfr⟩ := hW.at_ (by decide)
  cases hv
  have c1 := hcell 1 (.int .i64 5) rfl
  have hO2' := Lib.hid (hO1'.out.trans' hO2)
  have hcl := Lib.hid (show Only (fun _ => False) w W2 from hO0.out.trans' hO2'.out)
  clear hO2 hW hf hh hcell hfr hlt2
  rw [show l3.length = 3 from rfl] at *
  have c1' := Lib.hid c1
  clear c1
  go_wp2_with fail
  refine (q3.out _ hcl.out).mono ?_
  rintro e W3 ⟨rfl, hO3⟩
  have c1 := hO3.cell c1'.out (fun h => h)
  have hO3' := Lib.hid (hO2'.out.trans' hO3)
  clear hO3
  have es := s3_es
  have hO0w := Lib.hid (hO0.out.trans' hO3'.out)
  go_wp2_with fail
  refine (q4.out _ hO0w.out _ 3 (hrow.out.new hO3'.out)).mono ?_
  rintro e W4 ⟨rfl, hO4⟩
  have hO4' := Lib.hid (hO3'.out.trans' hO4)
  clear hO4
  go_wp2_with fail
  refine (q5.out _ (hO0.out.trans' hO4'.out) _ 3 (hrow2.out.new hO4'.out)).mono ?_
  rintro e W5 ⟨rfl, hO5⟩
  have hO5' := Lib.hid (hO4'.out.trans' hO5)
  clear hO5
  go_wp2_with fail
  refine (q6.out _ (hO0.out.trans' hO5'.out)).mono ?_
  rintro e W6 ⟨rfl, hw6⟩
  rw [hw6] at hO5'
  clear hw6
  go_wp2
  go_ret
  exact ⟨rfl, hO0.out.trans' hO5'.out⟩

/-- ProgChecks' walk, whole. -/
theorem checks_whole {w : World} (hb : Bas w) {A : Option Addr} {n cap : Nat} {l : List Opn} (hl : OpnRow w A l) (hn : l.length = n) (hcap : n ≤ cap) (r : RoomV) : Calls Tryd.prog 3 #[.slice A n cap, r.val] w (GrowB true w) :=
  checks_walk (fun _ hW => fixed_any (hb.new hW)) hb.words hl hn hcap r
end Go.Proofs.YtmkdboiajjkghaaDoor
