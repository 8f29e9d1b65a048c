/- Contracts of the reference of package ext, its inverses and powers; no conditions but that words are words. -/
import Derived.Test.YtompkhgnbbadaaaExtR
import Derived.Deep.LoopGhost
namespace Go.Proofs.Ytompkhgnbbadaaa
open Go.RowKit Gold
theorem field_A (a b : Value) (w : World) : (Instr.field 27 (.agg #[a, b]) 0).run Try.prog w = .ok a w := by kernel_rfl
theorem field_B (a b : Value) (w : World) : (Instr.field 27 (.agg #[a, b]) 1).run Try.prog w = .ok b w := by kernel_rfl



end Go.Proofs.Ytompkhgnbbadaaa
