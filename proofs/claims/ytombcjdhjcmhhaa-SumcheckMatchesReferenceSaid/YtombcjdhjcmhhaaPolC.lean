/- Contracts of package poly: its closures, and Trim, Add, Sub and Scale: the trimmed list; no conditions but lengths of at most 65536. -/
import Derived.Test.YtombcjdhjcmhhaaPolB
namespace Go.Proofs.Ytombcjdhjcmhhaa
set_option maxRecDepth 8000
open Go.RowKit Gold

theorem tab_scale (xs : List E2) (y : E2) : trimE (tabE xs.length fun i => y * cfE xs i) = scaleE xs y := by
  unfold scaleE
  congr 1
  apply List.ext_getElem?
  intro i
  by_cases h : i < xs.length
  · rw [tabE_get _ h, cfE_lt h]; simp [h]
  · rw [List.getElem?_eq_none (by rw [tabE_length]; omega), List.getElem?_eq_none (by simp; omega)]









end Go.Proofs.Ytombcjdhjcmhhaa
