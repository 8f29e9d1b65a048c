/- Contracts of the leaves of package sha256: word. -/
import Derived.Test.YtliflbelhogopaaDoorSha1
import Derived.Deep.QuietTactic
import Derived.BigQuiet
namespace Go.Proofs.YtliflbelhogopaaDoor
set_option maxRecDepth 8000
open Go.RowKit

theorem bel_drewN (B : Nat) (w : World) (n : Nat) : Below B w (w.drewN n) := ⟨rfl, rfl, rfl, Nat.le_refl _, fun _ _ => rfl⟩
theorem word_val (a b c d : Nat) (ha : a < 256) (hb : b < 256) (hc : c < 256) (hd : d < 256) :
    bits .or .u32 (bits .or .u32 (bits .or .u32 ((a : Int) * 16777216) ((b : Int) * 65536)) ((c : Int) * 256)) (d : Int) = ((wordN a b c d : Nat) : Int) := by
  have e1 : a * 16777216 ||| b * 65536 = a * 16777216 + b * 65536 := or_sum a (b * 65536) 24 (by omega)
  have e2 : (a * 16777216 + b * 65536) ||| c * 256 = a * 16777216 + b * 65536 + c * 256 := by
    have h := or_sum (a * 256 + b) (c * 256) 16 (by omega)
    rw [show (a * 256 + b) * 2 ^ 16 = a * 16777216 + b * 65536 by omega] at h
    exact h
  have e3 : (a * 16777216 + b * 65536 + c * 256) ||| d = a * 16777216 + b * 65536 + c * 256 + d := by
    have h := or_sum (a * 65536 + b * 256 + c) d 8 (by omega)
    rw [show (a * 65536 + b * 256 + c) * 2 ^ 8 = a * 16777216 + b * 65536 + c * 256 by omega] at h
    exact h
  have h1 := or32 (a * 16777216) (b * 65536) (by omega) (by omega)
  rw [e1] at h1
  have h2 := or32 (a * 16777216 + b * 65536) (c * 256) (by omega) (by omega)
  rw [e2] at h2
  have h3 := or32 (a * 16777216 + b * 65536 + c * 256) d (by omega) (by omega)
  rw [e3] at h3
  unfold wordN
  rw [← h3, ← h2, ← h1]
  rfl

set_option maxHeartbeats 1000000 in
theorem word_any (ad : Addr) (cp : Nat) (a b c d : Nat) (w : World) (ha : a < 256) (hb : b < 256) (hc : c < 256) (hd : d < 256)
    (c0 : w.cell? ad = some (.int .u8 a)) (c1 : w.cell? (ad.add 1) = some (.int .u8 b)) (c2 : w.cell? (ad.add 2) = some (.int .u8 c)) (c3 : w.cell? (ad.add 3) = some (.int .u8 d)) :
    Calls Tryd.prog 44 #[.slice (some ad) 4 cp] w fun e w' => e = .returned (.int .u32 ((wordN a b c d : Nat) : Int)) ∧ Below w.heap.size w w' := by
  simp [Addr.add] at c1 c2 c3
  go_enter Tryd.func44, Tryd.ntmps44
  go_wp2
  go_quiet (fail)
  go_wp2
  go_ret
  exact ⟨congrArg (fun v => Ending.returned (.int .u32 v)) (word_val a b c d ha hb hc hd), bel_drewN _ _ _⟩
end Go.Proofs.YtliflbelhogopaaDoor
