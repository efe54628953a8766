/- What the statements of pack use: string(b), numbers behind nothing, the chapter's example. -/
import Derived.Test.YtkjckdndkljeeaaPackF
namespace Go.Proofs.Ytkjckdndkljeeaa
open Go.RowKit
theorem enc_m1 : enc (zig (-1)) = [1] := by decide
theorem enc_300 : enc (zig 300) = [216, 4] := by decide
theorem enc_m1_len : (enc (zig (-1))).length = 1 := by decide
theorem enc_300_len : (enc (zig 300)).length = 2 := by decide
end Go.Proofs.Ytkjckdndkljeeaa
