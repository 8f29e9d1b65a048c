/- Contracts of the leaves of package sha256 and of its reference: rotate, word. -/
import Derived.Test.YtliflbelhogopaaDoorLex
import Derived.Test.YtliflbelhogopaaDoorShn
import Derived.WalkSpells
import Derived.WalkSmall
import Derived.Laws.Shifts
namespace Go.Proofs.YtliflbelhogopaaDoor
set_option maxRecDepth 8000
open Go.RowKit

theorem rot_val (x n : Nat) (hx : x < 4294967296) (v : Int) (hv : v = bits .or .u32 ((x : Int) / (2 ^ n : Nat)) ((x : Int) * (2 ^ (32 - n) : Nat) % 4294967296)) : v = ((rotN x n : Nat) : Int) := by
  rw [hv]
  exact or32 (x / 2 ^ n) (x * 2 ^ (32 - n) % 4294967296) (Nat.lt_of_le_of_lt (Nat.div_le_self _ _) hx) (Nat.mod_lt _ (by decide))

set_option maxHeartbeats 400000 in
theorem rotate_2 (x : Nat) (w : World) (hx : x < 4294967296) :
    Calls Tryd.prog 43 #[.int .u32 x, .int .i64 2] w fun e w' => e = .returned (.int .u32 ((rotN x 2 : Nat) : Int)) ∧ Below w.heap.size w w' := by
  go_enter Tryd.func43, Tryd.ntmps43
  go_wp2
  go_region
  go_wp2
  go_ret
  exact ⟨congrArg (fun v => Ending.returned (.int .u32 v)) (rot_val x 2 hx _ rfl), (Below.refl _ _).drew⟩
set_option maxHeartbeats 400000 in
theorem rotate_6 (x : Nat) (w : World) (hx : x < 4294967296) :
    Calls Tryd.prog 43 #[.int .u32 x, .int .i64 6] w fun e w' => e = .returned (.int .u32 ((rotN x 6 : Nat) : Int)) ∧ Below w.heap.size w w' := by
  go_enter Tryd.func43, Tryd.ntmps43
  go_wp2
  go_region
  go_wp2
  go_ret
  exact ⟨congrArg (fun v => Ending.returned (.int .u32 v)) (rot_val x 6 hx _ rfl), (Below.refl _ _).drew⟩
set_option maxHeartbeats 400000 in
theorem rotate_7 (x : Nat) (w : World) (hx : x < 4294967296) :
    Calls Tryd.prog 43 #[.int .u32 x, .int .i64 7] w fun e w' => e = .returned (.int .u32 ((rotN x 7 : Nat) : Int)) ∧ Below w.heap.size w w' := by
  go_enter Tryd.func43, Tryd.ntmps43
  go_wp2
  go_region
  go_wp2
  go_ret
  exact ⟨congrArg (fun v => Ending.returned (.int .u32 v)) (rot_val x 7 hx _ rfl), (Below.refl _ _).drew⟩
set_option maxHeartbeats 400000 in
theorem rotate_11 (x : Nat) (w : World) (hx : x < 4294967296) :
    Calls Tryd.prog 43 #[.int .u32 x, .int .i64 11] w fun e w' => e = .returned (.int .u32 ((rotN x 11 : Nat) : Int)) ∧ Below w.heap.size w w' := by
  go_enter Tryd.func43, Tryd.ntmps43
  go_wp2
  go_region
  go_wp2
  go_ret
  exact ⟨congrArg (fun v => Ending.returned (.int .u32 v)) (rot_val x 11 hx _ rfl), (Below.refl _ _).drew⟩
set_option maxHeartbeats 400000 in
theorem rotate_13 (x : Nat) (w : World) (hx : x < 4294967296) :
    Calls Tryd.prog 43 #[.int .u32 x, .int .i64 13] w fun e w' => e = .returned (.int .u32 ((rotN x 13 : Nat) : Int)) ∧ Below w.heap.size w w' := by
  go_enter Tryd.func43, Tryd.ntmps43
  go_wp2
  go_region
  go_wp2
  go_ret
  exact ⟨congrArg (fun v => Ending.returned (.int .u32 v)) (rot_val x 13 hx _ rfl), (Below.refl _ _).drew⟩
set_option maxHeartbeats 400000 in
theorem rotate_17 (x : Nat) (w : World) (hx : x < 4294967296) :
    Calls Tryd.prog 43 #[.int .u32 x, .int .i64 17] w fun e w' => e = .returned (.int .u32 ((rotN x 17 : Nat) : Int)) ∧ Below w.heap.size w w' := by
  go_enter Tryd.func43, Tryd.ntmps43
  go_wp2
  go_region
  go_wp2
  go_ret
  exact ⟨congrArg (fun v => Ending.returned (.int .u32 v)) (rot_val x 17 hx _ rfl), (Below.refl _ _).drew⟩
set_option maxHeartbeats 400000 in
theorem rotate_18 (x : Nat) (w : World) (hx : x < 4294967296) :
    Calls Tryd.prog 43 #[.int .u32 x, .int .i64 18] w fun e w' => e = .returned (.int .u32 ((rotN x 18 : Nat) : Int)) ∧ Below w.heap.size w w' := by
  go_enter Tryd.func43, Tryd.ntmps43
  go_wp2
  go_region
  go_wp2
  go_ret
  exact ⟨congrArg (fun v => Ending.returned (.int .u32 v)) (rot_val x 18 hx _ rfl), (Below.refl _ _).drew⟩
set_option maxHeartbeats 400000 in
theorem rotate_19 (x : Nat) (w : World) (hx : x < 4294967296) :
    Calls Tryd.prog 43 #[.int .u32 x, .int .i64 19] w fun e w' => e = .returned (.int .u32 ((rotN x 19 : Nat) : Int)) ∧ Below w.heap.size w w' := by
  go_enter Tryd.func43, Tryd.ntmps43
  go_wp2
  go_region
  go_wp2
  go_ret
  exact ⟨congrArg (fun v => Ending.returned (.int .u32 v)) (rot_val x 19 hx _ rfl), (Below.refl _ _).drew⟩
set_option maxHeartbeats 400000 in
theorem rotate_22 (x : Nat) (w : World) (hx : x < 4294967296) :
    Calls Tryd.prog 43 #[.int .u32 x, .int .i64 22] w fun e w' => e = .returned (.int .u32 ((rotN x 22 : Nat) : Int)) ∧ Below w.heap.size w w' := by
  go_enter Tryd.func43, Tryd.ntmps43
  go_wp2
  go_region
  go_wp2
  go_ret
  exact ⟨congrArg (fun v => Ending.returned (.int .u32 v)) (rot_val x 22 hx _ rfl), (Below.refl _ _).drew⟩
set_option maxHeartbeats 400000 in
theorem rotate_25 (x : Nat) (w : World) (hx : x < 4294967296) :
    Calls Tryd.prog 43 #[.int .u32 x, .int .i64 25] w fun e w' => e = .returned (.int .u32 ((rotN x 25 : Nat) : Int)) ∧ Below w.heap.size w w' := by
  go_enter Tryd.func43, Tryd.ntmps43
  go_wp2
  go_region
  go_wp2
  go_ret
  exact ⟨congrArg (fun v => Ending.returned (.int .u32 v)) (rot_val x 25 hx _ rfl), (Below.refl _ _).drew⟩
set_option maxHeartbeats 400000 in
theorem rrotate_2 (x : Nat) (w : World) (hx : x < 4294967296) :
    Calls Tryd.prog 35 #[.int .u32 x, .int .i64 2] w fun e w' => e = .returned (.int .u32 ((rotN x 2 : Nat) : Int)) ∧ Below w.heap.size w w' := by
  go_enter Tryd.func35, Tryd.ntmps35
  go_wp2
  go_region
  go_wp2
  go_ret
  exact ⟨congrArg (fun v => Ending.returned (.int .u32 v)) (rot_val x 2 hx _ rfl), (Below.refl _ _).drew⟩
set_option maxHeartbeats 400000 in
theorem rrotate_6 (x : Nat) (w : World) (hx : x < 4294967296) :
    Calls Tryd.prog 35 #[.int .u32 x, .int .i64 6] w fun e w' => e = .returned (.int .u32 ((rotN x 6 : Nat) : Int)) ∧ Below w.heap.size w w' := by
  go_enter Tryd.func35, Tryd.ntmps35
  go_wp2
  go_region
  go_wp2
  go_ret
  exact ⟨congrArg (fun v => Ending.returned (.int .u32 v)) (rot_val x 6 hx _ rfl), (Below.refl _ _).drew⟩
set_option maxHeartbeats 400000 in
theorem rrotate_7 (x : Nat) (w : World) (hx : x < 4294967296) :
    Calls Tryd.prog 35 #[.int .u32 x, .int .i64 7] w fun e w' => e = .returned (.int .u32 ((rotN x 7 : Nat) : Int)) ∧ Below w.heap.size w w' := by
  go_enter Tryd.func35, Tryd.ntmps35
  go_wp2
  go_region
  go_wp2
  go_ret
  exact ⟨congrArg (fun v => Ending.returned (.int .u32 v)) (rot_val x 7 hx _ rfl), (Below.refl _ _).drew⟩
set_option maxHeartbeats 400000 in
theorem rrotate_11 (x : Nat) (w : World) (hx : x < 4294967296) :
    Calls Tryd.prog 35 #[.int .u32 x, .int .i64 11] w fun e w' => e = .returned (.int .u32 ((rotN x 11 : Nat) : Int)) ∧ Below w.heap.size w w' := by
  go_enter Tryd.func35, Tryd.ntmps35
  go_wp2
  go_region
  go_wp2
  go_ret
  exact ⟨congrArg (fun v => Ending.returned (.int .u32 v)) (rot_val x 11 hx _ rfl), (Below.refl _ _).drew⟩
set_option maxHeartbeats 400000 in
theorem rrotate_13 (x : Nat) (w : World) (hx : x < 4294967296) :
    Calls Tryd.prog 35 #[.int .u32 x, .int .i64 13] w fun e w' => e = .returned (.int .u32 ((rotN x 13 : Nat) : Int)) ∧ Below w.heap.size w w' := by
  go_enter Tryd.func35, Tryd.ntmps35
  go_wp2
  go_region
  go_wp2
  go_ret
  exact ⟨congrArg (fun v => Ending.returned (.int .u32 v)) (rot_val x 13 hx _ rfl), (Below.refl _ _).drew⟩
set_option maxHeartbeats 400000 in
theorem rrotate_17 (x : Nat) (w : World) (hx : x < 4294967296) :
    Calls Tryd.prog 35 #[.int .u32 x, .int .i64 17] w fun e w' => e = .returned (.int .u32 ((rotN x 17 : Nat) : Int)) ∧ Below w.heap.size w w' := by
  go_enter Tryd.func35, Tryd.ntmps35
  go_wp2
  go_region
  go_wp2
  go_ret
  exact ⟨congrArg (fun v => Ending.returned (.int .u32 v)) (rot_val x 17 hx _ rfl), (Below.refl _ _).drew⟩
set_option maxHeartbeats 400000 in
theorem rrotate_18 (x : Nat) (w : World) (hx : x < 4294967296) :
    Calls Tryd.prog 35 #[.int .u32 x, .int .i64 18] w fun e w' => e = .returned (.int .u32 ((rotN x 18 : Nat) : Int)) ∧ Below w.heap.size w w' := by
  go_enter Tryd.func35, Tryd.ntmps35
  go_wp2
  go_region
  go_wp2
  go_ret
  exact ⟨congrArg (fun v => Ending.returned (.int .u32 v)) (rot_val x 18 hx _ rfl), (Below.refl _ _).drew⟩
set_option maxHeartbeats 400000 in
theorem rrotate_19 (x : Nat) (w : World) (hx : x < 4294967296) :
    Calls Tryd.prog 35 #[.int .u32 x, .int .i64 19] w fun e w' => e = .returned (.int .u32 ((rotN x 19 : Nat) : Int)) ∧ Below w.heap.size w w' := by
  go_enter Tryd.func35, Tryd.ntmps35
  go_wp2
  go_region
  go_wp2
  go_ret
  exact ⟨congrArg (fun v => Ending.returned (.int .u32 v)) (rot_val x 19 hx _ rfl), (Below.refl _ _).drew⟩
set_option maxHeartbeats 400000 in
theorem rrotate_22 (x : Nat) (w : World) (hx : x < 4294967296) :
    Calls Tryd.prog 35 #[.int .u32 x, .int .i64 22] w fun e w' => e = .returned (.int .u32 ((rotN x 22 : Nat) : Int)) ∧ Below w.heap.size w w' := by
  go_enter Tryd.func35, Tryd.ntmps35
  go_wp2
  go_region
  go_wp2
  go_ret
  exact ⟨congrArg (fun v => Ending.returned (.int .u32 v)) (rot_val x 22 hx _ rfl), (Below.refl _ _).drew⟩
set_option maxHeartbeats 400000 in
theorem rrotate_25 (x : Nat) (w : World) (hx : x < 4294967296) :
    Calls Tryd.prog 35 #[.int .u32 x, .int .i64 25] w fun e w' => e = .returned (.int .u32 ((rotN x 25 : Nat) : Int)) ∧ Below w.heap.size w w' := by
  go_enter Tryd.func35, Tryd.ntmps35
  go_wp2
  go_region
  go_wp2
  go_ret
  exact ⟨congrArg (fun v => Ending.returned (.int .u32 v)) (rot_val x 25 hx _ rfl), (Below.refl _ _).drew⟩
end Go.Proofs.YtliflbelhogopaaDoor
