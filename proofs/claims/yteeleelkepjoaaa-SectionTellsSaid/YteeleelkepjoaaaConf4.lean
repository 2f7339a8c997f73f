/- Objects: their numbers; priorities held; locks below. -/
import Derived.Test.YteeleelkepjoaaaConf3
namespace Go.Proofs.Yteeleelkepjoaaa
open Go Go.RowKit

structure ConfL where
  mb : List Int
  cn : List Int
  ce : List Int
  li : List Int
structure ObjsAt (w : World) (c : ConfV) (d : ConfL) : Prop where
  mb : IntsAt w c.mb d.mb
  cn : IntsAt w c.cn d.cn
  ce : IntsAt w c.ce d.ce
  li : IntsAt w c.li d.li
  s : c.mb.n ≤ 1000000 ∧ c.cn.n ≤ 1000000 ∧ c.ce.n ≤ 1000000 ∧ c.li.n ≤ 1000000 ∧ c.ta.n ≤ 1000000
theorem ObjsAt.new {w w' : World} {c : ConfV} {d : ConfL} (h : ObjsAt w c d) (ho : Only (fun _ => False) w w') : ObjsAt w' c d := ⟨h.mb.new ho, h.cn.new ho, h.ce.new ho, h.li.new ho, h.s⟩
def objB (c : ConfV) (d : ConfL) : Bool := allIn 1 8 d.mb && allIn 1 8 d.cn && allIn 0 63 d.ce && allIn 0 ((c.ta.n : Int) - 1) d.li

end Go.Proofs.Yteeleelkepjoaaa
