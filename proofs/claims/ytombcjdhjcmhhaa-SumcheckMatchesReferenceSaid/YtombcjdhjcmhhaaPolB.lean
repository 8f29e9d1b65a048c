/- Contracts of package poly: the polynomial whose coefficients a closure gives, at each closure of the package; no conditions but the closure's own contract and a length of at most 65536. -/
import Derived.Test.YtombcjdhjcmhhaaPolA
namespace Go.Proofs.Ytombcjdhjcmhhaa
set_option maxRecDepth 8000
open Go.RowKit Gold





end Go.Proofs.Ytombcjdhjcmhhaa
