/- The reference's Name, at a value of one's own. No condition. -/
import Derived.Test.YtflegdijmkacdaaRef
namespace Go.Proofs.Ytflegdijmkacdaa
open Go.RowKit
theorem rname_at (op : Int) (s : ByteArray) (w : World) (h : nm (ix op) = s) : Calls Try.prog 11 #[.int .i64 op] w fun e w' => e = .returned (.string s) ∧ Below w.heap.size w w' := by
  subst h; exact rname_any op w
end Go.Proofs.Ytflegdijmkacdaa
