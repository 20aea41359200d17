/-
  PLAIN: what the anchor's small program has for lines, uses, words. No condition.
-/
import Derived.Test.YtcbjcpmkebbfaaaDoorAwOne
import Derived.Test.YtcbjcpmkebbfaaaDoorUses
import Derived.Test.YtcbjcpmkebbfaaaDoorClU
namespace Go.Proofs.YtcbjcpmkebbfaaaDoor
open Go.RowKit

def onePg : Pg := ⟨[], [], [oneF]⟩
theorem one_len : (linesL onePg).length = 6 := by kernel_rfl
theorem one_l0 : (linesL onePg)[0]? = some (⟨#[102, 117, 110, 99, 32, 102, 32, 105, 110, 116, 32, 105, 110, 116, 32, 45, 62, 32, 105, 110, 116]⟩ : ByteArray) := by kernel_rfl
theorem one_l5 : (linesL onePg)[5]? = some (⟨#[114, 101, 116, 32, 118, 50]⟩ : ByteArray) := by kernel_rfl
theorem one_uses : usesL oneF 0 = [2] := by kernel_rfl
theorem one_line : lineS oneF 2 = (⟨#[118, 50, 32, 61, 32, 97, 100, 100, 32, 105, 110, 116, 32, 48, 32, 118, 48, 32, 118, 49]⟩ : ByteArray) := by kernel_rfl

end Go.Proofs.YtcbjcpmkebbfaaaDoor
