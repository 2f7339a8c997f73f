import Derived.Test.YtkggimgechhjnaaGreatDoorRows
import Derived.Test.YtkggimgechhjnaaGreatDoorChecked
import Derived.JoinedOf
import Derived.KernelRfl
namespace Go.Proofs.YtkggimgechhjnaaGreatDoor.kernelFrames
open Go Go.ChangeShapes Go.WideShapes
set_option maxRecDepth 100000
theorem zAY {a b : Bool} (h : a = true) (g : b = true) : (a && b) = true := by rw [h, g]; rfl
theorem jf00 : (Rows.kernelFramesRow.wf (OpenSpec.ofChange Rows.kernelFramesSpec)) = true := by kernel_rfl
theorem jf01 : (laidOutB Tryz.pinned.checked.prog) = true := by kernel_rfl
theorem jf02 : (mapsRowed Tryz.pinned.checked.prog) = true := by kernel_rfl
theorem jf03 : (Tryz.f6.params.all (Tryz.pinned.checked.prog.readableRec ·)) = true := by kernel_rfl
theorem jf04 : (namedTie Tryz.pinned.checked.prog Rows.kernelFramesRow.named Rows.kernelFramesSpec.vars) = true := by kernel_rfl
theorem jf05 : ((Rows.kernelFramesRow.stops == [])) = true := by kernel_rfl
theorem jf06 : ((Tryz.pinned.checked.prog.stops == [])) = true := by kernel_rfl
theorem jf07 : ((Rows.kernelFramesRow.knobs == [])) = true := by kernel_rfl
theorem jf08 : ((Tryz.pinned.checked.prog.stopKnobs == [])) = true := by kernel_rfl
theorem jf09 : ((Rows.kernelFramesRow.inPlace == Tryz.pinned.checked.prog.inPlace 6)) = true := by kernel_rfl
theorem jf10 : ((Rows.kernelFramesRow.unfollowed == Tryz.pinned.checked.prog.unfollowed 6)) = true := by kernel_rfl
theorem jf11 : ((Rows.kernelFramesRow.recurses == Tryz.pinned.checked.prog.recurses 6)) = true := by kernel_rfl
theorem jf12 : ((Rows.kernelFramesRow.named == Tryz.pinned.checked.prog.varsNamed 6)) = true := by kernel_rfl
theorem jf13 : ((Rows.kernelFramesRow.maps == (Tryz.f6.params.toList ++ Rows.kernelFramesSpec.plain.varTypes Tryz.pinned.checked.prog).any (Tryz.pinned.checked.prog.mapsRec ·))) = true := by kernel_rfl
theorem jf14 : ((Rows.kernelFramesRow.ifaces == (Tryz.f6.params.toList ++ Rows.kernelFramesSpec.plain.varTypes Tryz.pinned.checked.prog).any (Tryz.pinned.checked.prog.ifacesRec ·))) = true := by kernel_rfl
theorem jf15 : ((Rows.kernelFramesRow.mapsOut == Tryz.pinned.checked.prog.mapsAmong Tryz.f6.resultTypes.toList)) = true := by kernel_rfl
theorem jf16 : ((Rows.kernelFramesRow.loops == (Tryz.f6.params.toList ++ Rows.kernelFramesSpec.plain.varTypes Tryz.pinned.checked.prog).any (Tryz.pinned.checked.prog.loopsFrom ·))) = true := by kernel_rfl
theorem jf17 : ((Rows.kernelFramesRow.wideKeys == (Tryz.f6.params.toList ++ Rows.kernelFramesSpec.plain.varTypes Tryz.pinned.checked.prog ++ Tryz.f6.resultTypes.toList).any (Tryz.pinned.checked.prog.wideKeysFrom ·))) = true := by kernel_rfl
theorem jf18 : (Rows.kernelFramesSpec.vars.all (Tryz.pinned.checked.prog.varReadable ·)) = true := by kernel_rfl
theorem jf19 : (Tryz.f6.resultTypes.all (fun t => Tryz.pinned.checked.prog.readableRec t && decide (t < Tryz.pinned.checked.prog.types.size))) = true := by kernel_rfl
theorem jf20 : ((Rows.kernelFramesRow.ifacesOut == Tryz.f6.resultTypes.toList.any (Tryz.pinned.checked.prog.ifacesRec ·))) = true := by kernel_rfl
theorem jf21 : ((Rows.kernelFramesRow.loopsOut == Tryz.f6.resultTypes.toList.any (Tryz.pinned.checked.prog.loopsFrom ·))) = true := by kernel_rfl
theorem jf22 : ((Rows.kernelFramesRow.plainKeys == Tryz.pinned.checked.prog.plainKeys)) = true := by kernel_rfl
theorem jf23 : (Rows.kernelFramesRow.shortTexts.isNone) = true := by kernel_rfl
theorem jf24 : (Tryz.pinned.checked.prog.stopsHeard) = true := by kernel_rfl
theorem jf25 : (Tryz.pinned.checked.prog.mayEnter) = true := by kernel_rfl
theorem jf26 : ((Rows.kernelFramesRow.lifted == Tryz.pinned.checked.prog.liftsFinal)) = true := by kernel_rfl
theorem jf27 : ((Tryz.pinned.checked.prog.make == some Rows.kernelFramesRow.make)) = true := by kernel_rfl
theorem jf28 : ((Rows.kernelFramesRow.kinds == (if Rows.kernelFramesRow.domain.isEmpty then [] else Tryz.f6.params.toList.map fun t => match Tryz.pinned.checked.prog.underlying t with | some (.int k) => some k | _ => none))) = true := by kernel_rfl
theorem jf29 : ((Rows.kernelFramesRow.pinned == Rows.kernelFramesRow.pinnedBy)) = true := by kernel_rfl
theorem jf30 : ((Rows.kernelFramesRow.veiled == (Tryz.f6.params.toList ++ Rows.kernelFramesSpec.plain.varTypes Tryz.pinned.checked.prog ++ Tryz.f6.resultTypes.toList).any (Tryz.pinned.checked.prog.veiledRec ·))) = true := by kernel_rfl
theorem jf31 : (Rows.kernelFramesRow.veiledFits Tryz.pinned.checked.prog Tryz.f6.params.toList (Tryz.f6.params.toList ++ Rows.kernelFramesSpec.plain.varTypes Tryz.pinned.checked.prog ++ Tryz.f6.resultTypes.toList)) = true := by kernel_rfl
theorem closed : joinedFacts Tryz.pinned.checked.prog 6 Tryz.f6 Rows.kernelFramesSpec Rows.kernelFramesRow = true := (zAY (zAY (zAY (zAY (zAY (zAY (zAY (zAY (zAY (zAY (zAY (zAY (zAY (zAY (zAY (zAY (zAY (zAY (zAY (zAY (zAY (zAY (zAY (zAY (zAY (zAY (zAY (zAY (zAY (zAY (zAY jf00 jf01) jf02) jf03) jf04) jf05) jf06) jf07) jf08) jf09) jf10) jf11) jf12) jf13) jf14) jf15) jf16) jf17) jf18) jf19) jf20) jf21) jf22) jf23) jf24) jf25) jf26) jf27) jf28) jf29) jf30) jf31)
end Go.Proofs.YtkggimgechhjnaaGreatDoor.kernelFrames
