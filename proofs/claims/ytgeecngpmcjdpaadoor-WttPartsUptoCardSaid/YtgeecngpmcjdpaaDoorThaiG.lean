/- Layer 7: the table of classes stays. -/
import Derived.Test.YtgeecngpmcjdpaaDoorThaiO
import Derived.Test.YtgeecngpmcjdpaaDoorGlob
namespace Go.Proofs.YtgeecngpmcjdpaaDoor
set_option linter.unusedVariables false
open Go.RowKit
theorem HighAt.stay {w w' : World} (h : HighAt w) (hb : Stay 1 w w') : HighAt w' := tab_block h (by kernel_rfl) hb
theorem HighAt.lt {w : World} (h : HighAt w) : 1 < w.heap.size := World.block_lt_of_cell? w _ (h.cell 0 (by decide))
end Go.Proofs.YtgeecngpmcjdpaaDoor
