/- What the laws of two field elements have in common: they reduce the two words that come in; no condition. -/
import Derived.Test.YtnhiggpndhndfaaW4
import Derived.Test.YtnhiggpndhndfaaL0
import Derived.Deep.QuietTactic
import Derived.BigQuiet
namespace Go.Proofs.Ytnhiggpndhndfaa
open Go.RowKit Gold

theorem rvalid_yes (a : Int) (w : World) (h : El a) : Calls Try.prog 18 #[.int .u64 a] w fun e w' => e = .returned (.bool true) ∧ w' = w := by
  have e := rvalid_any a w
  rw [show decide (a < 18446744069414584321) = true from decide_eq_true h.2] at e
  exact e

end Go.Proofs.Ytnhiggpndhndfaa
