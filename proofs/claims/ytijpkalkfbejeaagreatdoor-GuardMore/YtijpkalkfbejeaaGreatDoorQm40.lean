/- Walks and plain facts. -/
import Derived.Test.YtijpkalkfbejeaaGreatDoorQm8
set_option linter.unusedSimpArgs false
set_option linter.unusedVariables false
set_option maxHeartbeats 16000000
set_option maxRecDepth 100000

namespace Go.Proofs.YtijpkalkfbejeaaGreatDoor
open Go.RowKit
def laid7 : List (String × DataW Unit) := [("math/bits.deBruijn32tab", Rows.laid_math_bits_deBruijn32tab), ("math/bits.deBruijn64tab", Rows.laid_math_bits_deBruijn64tab), ("internal/strconv.uint64pow10", Rows.laid_internal_strconv_uint64pow10), ("unicode/utf8.acceptRanges", Rows.laid_unicode_utf8_acceptRanges), ("unicode/utf8.first", Rows.laid_unicode_utf8_first)]
theorem g5_of_shaped {W:World} (hsh:W.ShapedOpen Tryz.prog):G5 W:=Tryz.laysM145.s1_3 W hsh
theorem gd7_of_laid {W:World} (h:laidMetH Tryz.prog laid7 W) (hsh:W.ShapedOpen Tryz.prog):Gd W:=by
 have h':laidMet Tryz.prog laid7 W:=h;have h2:=h'.tail;have h3:=h2.tail;refine ⟨Tryz.laysM145.s1_3 W hsh,?_,?_⟩
 ·exact Lib.tabIs_of_head gPow10 (by kernel_rfl) Tryz.underlying218 Tryz.underlying181 (by kernel_rfl) (by kernel_rfl) h3
 ·exact Lib.tabIs_of_head gDB64 (by kernel_rfl) Tryz.underlying250 Tryz.underlying5 (by kernel_rfl) (by kernel_rfl) h2
theorem ownK:ownKnob Tryz.prog.godebug=none:=by kernel_rfl
noncomputable def startW (os : Os) : World :=
 { World.doorLaid Tryz.prog 24 os with heap:=(World.doorLaid Tryz.prog 24 os).heap.setIfInBounds 4 (.cells (Pinned.utf8FirstZ.map fun (n:Nat)=>Value.int .u8 (n:Int)).toArray 254 (0,0)) }
theorem door_met (os:Os) (args:Array Value):laidMetH Tryz.prog laid7 ((startW os).forCall (fun _ _=>0) ⟨#[],args,[]⟩).memory:=
 laidMetH_of_parts3 (fuel:=8) (laidMet_of_run' 8 (by kernel_rfl) (by kernel_rfl)) (by kernel_rfl) (by kernel_rfl)
end Go.Proofs.YtijpkalkfbejeaaGreatDoor
