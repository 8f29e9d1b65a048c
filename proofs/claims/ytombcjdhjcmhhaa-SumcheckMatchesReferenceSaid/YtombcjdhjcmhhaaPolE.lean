/- Contracts of package poly: values, quotients by linear factors, roots; no conditions but lengths. -/
import Derived.Test.YtombcjdhjcmhhaaPolC
namespace Go.Proofs.Ytombcjdhjcmhhaa
set_option maxRecDepth 8000
open Go.RowKit Gold



end Go.Proofs.Ytombcjdhjcmhhaa
