/-
  Slices of bytes under the program's own types: as a text, and copied into new memory.
-/
import Derived.Test.YtfclfmobmaemkaaRows
import Derived.Test.YtfclfmobmaemkaaMem
import Derived.Laws.AppendOwnNone
import Derived.Laws.IdiomStrings
namespace Go.Proofs.Ytfclfmobmaemkaa
open Go Go.RowKit Go.Lib
set_option linter.unusedVariables false
set_option linter.unusedSimpArgs false
set_option maxRecDepth 100000

theorem Try.infoU8 : (Try.prog.info? 5).map (fun i => (i.zero, i.size, i.bytes)) = some (some (.int .u8 0), 1, 1) := by kernel_rfl



end Go.Proofs.Ytfclfmobmaemkaa
