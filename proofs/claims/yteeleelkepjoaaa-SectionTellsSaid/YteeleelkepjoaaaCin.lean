/- A configuration that came in. -/
import Derived.Test.YteeleelkepjoaaaConf10
import Derived.Test.YteeleelkepjoaaaConf22
namespace Go.Proofs.Yteeleelkepjoaaa
open Go Go.RowKit

structure ConfIn (w : World) (c : ConfV) (d : ConfL) (pl : Tks) : Prop where
  mb : IntsAt w c.mb d.mb
  cn : IntsAt w c.cn d.cn
  ce : IntsAt w c.ce d.ce
  li : IntsAt w c.li d.li
  t : TasksAt w c.ta pl.ts
  p : ∀ (i : Nat) t l, pl[i]? = some (t, l) → OpnRow w t.o.A l ∧ l.length = t.o.n ∧ t.o.n ≤ t.o.cap
  n : c.ta.n ≤ 9223372036854775807
theorem ConfIn.new {w w' : World} {c : ConfV} {d : ConfL} {pl : Tks} (h : ConfIn w c d pl) (ho : Only (fun _ => False) w w') : ConfIn w' c d pl :=
  ⟨h.mb.new ho, h.cn.new ho, h.ce.new ho, h.li.new ho, h.t.new ho, fun i t l ht => ⟨(h.p i t l ht).1.new ho, (h.p i t l ht).2⟩, h.n⟩
theorem ConfIn.small {w : World} {c : ConfV} {d : ConfL} {pl : Tks} (_ : ConfIn w c d pl) (hf : fewB c pl.ts = true) : c.mb.n ≤ 20 ∧ c.cn.n ≤ 20 ∧ c.ce.n ≤ 20 ∧ c.ta.n ≤ 20 ∧ c.li.n ≤ 20 ∧ ∀ (i : Nat) t l, pl[i]? = some (t, l) → t.o.n ≤ 80 := by
  unfold fewB at hf
  rw [Bool.and_eq_true, decide_eq_true_eq, List.all_eq_true] at hf
  obtain ⟨h1, h2, h3, h4, h5, h6⟩ := hf
  refine ⟨h2, h3, h4, h5, h6, fun i t l hi => ?_⟩
  have := h1 t (List.mem_of_getElem? (i := i) (by unfold Tks.ts; rw [List.getElem?_map, hi]; rfl))
  simpa using this
theorem ConfIn.conf {w : World} {c : ConfV} {d : ConfL} {pl : Tks} (h : ConfIn w c d pl) (hf : fewB c pl.ts = true) : ConfAt w c d pl := by
  obtain ⟨h1, h2, h3, h4, h5, h6⟩ := h.small hf
  exact ⟨⟨h.mb, h.cn, h.ce, h.li, by omega⟩, h.t, ⟨fun i t l ht => ⟨(h.p i t l ht).1, (h.p i t l ht).2.1, by have := h6 i t l ht; omega, (h.p i t l ht).2.2⟩⟩⟩
theorem ConfIn.few {w : World} {c : ConfV} {d : ConfL} {pl : Tks} (h : ConfIn w c d pl) : Calls Try.prog 7 #[.agg #[.int .i64 c.s, .int .i64 c.wy, .int .i64 c.h, .int .i64 c.mi, .slice c.mb.A c.mb.n c.mb.cap, .int .i64 c.g, .slice c.cn.A c.cn.n c.cn.cap, .slice c.ce.A c.ce.n c.ce.cap, .slice c.ta.A c.ta.n c.ta.cap, .slice c.li.A c.li.n c.li.cap]] w (GrowB (fewB c pl.ts) w) := few_any h.t h.n
end Go.Proofs.Yteeleelkepjoaaa
