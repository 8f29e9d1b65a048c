/- Several texts in one: Yu, Yw, Yx, Yz. -/
import Derived.Test.YtlicfidcfhbmpaaDoorTp17
import Derived.Test.YtlicfidcfhbmpaaDoorTp14
set_option linter.unusedVariables false
set_option linter.unusedSimpArgs false
set_option linter.unusedSectionVars false
namespace Go.Proofs.YtlicfidcfhbmpaaDoor
set_option maxRecDepth 8000
open Go.RowKit Go.Proofs.YtlicfidcfhbmpaaDoor.K
attribute [local irreducible] wpList wpQuiet
set_option maxRecDepth 100000 in
set_option maxHeartbeats 8000000 in
theorem max_as (c m : Nat) (hc : c < 4) (hm : Qu.maxN c = m) (w : World) : Calls Tryd.prog 24 #[.int .i64 (c : Int)] w fun e w' => e = .returned (.int .i64 (m : Int)) ∧ w' = w := by
 go_enter Tryd.func24, Tryd.ntmps24
 go_upto_region 1 with fail
 have h4 : c = 0 ∨ c = 1 ∨ c = 2 ∨ c = 3 := by omega
 rcases h4 with rfl | rfl | rfl | rfl
 ·refine wp_region_lit ?_
  refine zr (.int .i64 0) w rfl ?_
  simp only [Act.put, zA, zB, zC]
  refine zr (.bool true) w (xo_eqlT .i64 0 0 (by omega) rfl rfl rfl) ?_
  simp only [Act.put, zA, zB, zC]
  refine zr (.bool true) w rfl ?_
  simp only [Act.put, zA, zB, zC]
  refine zl ?_
  try simp only [Act.put, zA, zB, zC]
  refine zl ?_
  try simp only [Act.put, zA, zB, zC]
  refine zr (.bool true) w rfl ?_
  simp only [Act.put, zA, zB, zC]
  refine wpList_nil ?_
  go_upto_region 2 with fail
  refine wp_region_lit ?_
  refine zr (.int .i64 15) w rfl ?_
  simp only [Act.put, zA, zB, zC]
  refine wpList_nil ?_
  go_wp2_with fail
  go_ret
  exact ⟨by rw [← hm]; rfl, rfl⟩
 ·refine wp_region_lit ?_
  refine zr (.int .i64 1) w rfl ?_
  simp only [Act.put, zA, zB, zC]
  refine zr (.bool false) w (xo_eqlF .i64 1 0 (by omega) rfl rfl rfl) ?_
  simp only [Act.put, zA, zB, zC]
  refine zr (.bool false) w rfl ?_
  simp only [Act.put, zA, zB, zC]
  refine zr (.int .i64 1) w rfl ?_
  simp only [Act.put, zA, zB, zC]
  refine zr (.bool false) w (xo_eqlF .i64 1 2 (by omega) rfl rfl rfl) ?_
  simp only [Act.put, zA, zB, zC]
  refine zr (.bool false) w rfl ?_
  simp only [Act.put, zA, zB, zC]
  refine wpList_nil ?_
  go_upto_region 3 with fail
  refine wp_region_lit ?_
  refine zr (.int .i64 255) w rfl ?_
  simp only [Act.put, zA, zB, zC]
  refine wpList_nil ?_
  go_wp2_with fail
  go_ret
  exact ⟨by rw [← hm]; rfl, rfl⟩
 ·refine wp_region_lit ?_
  refine zr (.int .i64 2) w rfl ?_
  simp only [Act.put, zA, zB, zC]
  refine zr (.bool false) w (xo_eqlF .i64 2 0 (by omega) rfl rfl rfl) ?_
  simp only [Act.put, zA, zB, zC]
  refine zr (.bool false) w rfl ?_
  simp only [Act.put, zA, zB, zC]
  refine zr (.int .i64 2) w rfl ?_
  simp only [Act.put, zA, zB, zC]
  refine zr (.bool true) w (xo_eqlT .i64 2 2 (by omega) rfl rfl rfl) ?_
  simp only [Act.put, zA, zB, zC]
  refine zr (.bool true) w rfl ?_
  simp only [Act.put, zA, zB, zC]
  refine wpList_nil ?_
  go_upto_region 2 with fail
  refine wp_region_lit ?_
  refine zr (.int .i64 15) w rfl ?_
  simp only [Act.put, zA, zB, zC]
  refine wpList_nil ?_
  go_wp2_with fail
  go_ret
  exact ⟨by rw [← hm]; rfl, rfl⟩
 ·refine wp_region_lit ?_
  refine zr (.int .i64 3) w rfl ?_
  simp only [Act.put, zA, zB, zC]
  refine zr (.bool false) w (xo_eqlF .i64 3 0 (by omega) rfl rfl rfl) ?_
  simp only [Act.put, zA, zB, zC]
  refine zr (.bool false) w rfl ?_
  simp only [Act.put, zA, zB, zC]
  refine zr (.int .i64 3) w rfl ?_
  simp only [Act.put, zA, zB, zC]
  refine zr (.bool false) w (xo_eqlF .i64 3 2 (by omega) rfl rfl rfl) ?_
  simp only [Act.put, zA, zB, zC]
  refine zr (.bool false) w rfl ?_
  simp only [Act.put, zA, zB, zC]
  refine wpList_nil ?_
  go_upto_region 3 with fail
  refine wp_region_lit ?_
  refine zr (.int .i64 255) w rfl ?_
  simp only [Act.put, zA, zB, zC]
  refine wpList_nil ?_
  go_wp2_with fail
  go_ret
  exact ⟨by rw [← hm]; rfl, rfl⟩
end Go.Proofs.YtlicfidcfhbmpaaDoor

namespace Go.Proofs.YtlicfidcfhbmpaaDoor
set_option maxRecDepth 8000
def eqA (c v z : Nat) : List UInt8 := [99, 111, 117, 110, 116, 32, 119, 104, 101, 114, 101, 32] ++ Qu.nameN c ++ [32, 61, 32] ++ (List.replicate z 48 ++ Qu.decN v)
def eqB (c v z : Nat) : List UInt8 := [99, 111, 117, 110, 116, 32, 119, 104, 101, 114, 101, 32] ++ Qu.nameN c ++ [32, 105, 110, 32] ++ Qu.decN v ++ [46, 46] ++ (List.replicate z 48 ++ Qu.decN v)
def eqQ (c v : Nat) : Qu.Qy × Nat × Nat := (⟨1, 0, 0, [[⟨c, v, v⟩]]⟩, 0, 0)
def EqOk (c v z : Nat) : Prop := Qu.parseN (eqA c v z) = eqQ c v ∧ Qu.parseN (eqB c v z) = eqQ c v
instance (c v z : Nat) : Decidable (EqOk c v z) := inferInstanceAs (Decidable (_ ∧ _))
end Go.Proofs.YtlicfidcfhbmpaaDoor

namespace Go.Proofs.YtlicfidcfhbmpaaDoor
set_option maxRecDepth 8000
open Go.RowKit Go.Proofs.YtlicfidcfhbmpaaDoor.K
attribute [local irreducible] wpList wpQuiet
def stC (l : List UInt8) : List Value := [.string (sB l)]
instance : Enc stC 1 := ⟨fun _ => rfl, fun x u hu => by
 simp only [stC, List.mem_cons, List.not_mem_nil, or_false] at hu
 subst hu
 rfl, by decide⟩
end Go.Proofs.YtlicfidcfhbmpaaDoor

namespace Go.Proofs.YtlicfidcfhbmpaaDoor
set_option maxRecDepth 8000
open Go.RowKit Go.Proofs.YtlicfidcfhbmpaaDoor.K
attribute [local irreducible] wpList wpQuiet
def zzC (x : Int) : List Value := [.int .i64 x]
instance : Enc zzC 1 := ⟨fun _ => rfl, fun x u hu => by
 simp only [zzC, List.mem_cons, List.not_mem_nil, or_false] at hu
 subst hu
 rfl, by decide⟩
set_option maxRecDepth 100000 in
set_option maxHeartbeats 8000000 in
theorem rhasC_as (k : Nat) (b : Bool) (hb : Qu.hasC k = b) (w : World) : Calls Tryd.prog 32 #[.int .i64 (k : Int)] w fun e w' => e = .returned (.bool b) ∧ w' = w := by
 go_enter Tryd.func32, Tryd.ntmps32
 go_upto_region 1 with fail
 by_cases h2 : 2 ≤ k
 ·have hci0 : ((k : Int) ≥ 2) := by omega
  by_cases h6 : k ≤ 6
  ·have hci1 : ((k : Int) ≤ 6) := by omega
   refine wp_region_lit ?_
   refine zr (.int .i64 (k : Int)) w rfl ?_
   simp only [Act.put, zA, zB, zC]
   refine zr (.bool true) w (xo_geqT .i64 (k : Int) 2 (by omega) rfl rfl rfl) ?_
   simp only [Act.put, zA, zB, zC]
   refine zr (.bool true) w rfl ?_
   simp only [Act.put, zA, zB, zC]
   refine zr (.int .i64 (k : Int)) w rfl ?_
   simp only [Act.put, zA, zB, zC]
   refine zr (.bool true) w (xo_leqT .i64 (k : Int) 6 (by omega) rfl rfl rfl) ?_
   simp only [Act.put, zA, zB, zC]
   refine zr (.bool true) w rfl ?_
   simp only [Act.put, zA, zB, zC]
   refine zr (.bool true) w rfl ?_
   simp only [Act.put, zA, zB, zC]
   refine wpList_nil ?_
   obtain rfl : b = true := by rw [← hb]; unfold Qu.hasC; simp <;> omega
   go_wp2_with fail
   go_ret
   exact ⟨rfl, rfl⟩
  ·have hci1 : ¬ ((k : Int) ≤ 6) := by omega
   refine wp_region_lit ?_
   refine zr (.int .i64 (k : Int)) w rfl ?_
   simp only [Act.put, zA, zB, zC]
   refine zr (.bool true) w (xo_geqT .i64 (k : Int) 2 (by omega) rfl rfl rfl) ?_
   simp only [Act.put, zA, zB, zC]
   refine zr (.bool true) w rfl ?_
   simp only [Act.put, zA, zB, zC]
   refine zr (.int .i64 (k : Int)) w rfl ?_
   simp only [Act.put, zA, zB, zC]
   refine zr (.bool false) w (xo_leqF .i64 (k : Int) 6 (by omega) rfl rfl rfl) ?_
   simp only [Act.put, zA, zB, zC]
   refine zr (.bool false) w rfl ?_
   simp only [Act.put, zA, zB, zC]
   refine zr (.bool false) w rfl ?_
   simp only [Act.put, zA, zB, zC]
   refine wpList_nil ?_
   obtain rfl : b = false := by rw [← hb]; unfold Qu.hasC; simp <;> omega
   go_wp2_with fail
   go_ret
   exact ⟨rfl, rfl⟩
 ·have hci0 : ¬ ((k : Int) ≥ 2) := by omega
  refine wp_region_lit ?_
  refine zr (.int .i64 (k : Int)) w rfl ?_
  simp only [Act.put, zA, zB, zC]
  refine zr (.bool false) w (xo_geqF .i64 (k : Int) 2 (by omega) rfl rfl rfl) ?_
  simp only [Act.put, zA, zB, zC]
  refine zr (.bool false) w rfl ?_
  simp only [Act.put, zA, zB, zC]
  refine zl ?_
  try simp only [Act.put, zA, zB, zC]
  refine zl ?_
  try simp only [Act.put, zA, zB, zC]
  refine zr (.bool false) w rfl ?_
  simp only [Act.put, zA, zB, zC]
  refine zr (.bool false) w rfl ?_
  simp only [Act.put, zA, zB, zC]
  refine wpList_nil ?_
  obtain rfl : b = false := by rw [← hb]; unfold Qu.hasC; simp <;> omega
  go_wp2_with fail
  go_ret
  exact ⟨rfl, rfl⟩
set_option maxRecDepth 100000 in
set_option maxHeartbeats 8000000 in
theorem rmaxK_as (k m : Nat) (hm : Qu.maxK k = m) (w : World) : Calls Tryd.prog 33 #[.int .i64 (k : Int)] w fun e w' => e = .returned (.int .i64 (m : Int)) ∧ w' = w := by
 go_enter Tryd.func33, Tryd.ntmps33
 go_upto_region 1 with fail
 have hm2 : m = if k = 3 then 6 else if k = 6 then 65536 else 0 := by rw [← hm]; unfold Qu.maxK; split <;> simp_all
 by_cases h3 : k = 3
 ·have hci0 : ((k : Int) = 3) := by omega
  obtain rfl : m = 6 := by rw [hm2, if_pos h3]
  refine wp_region_lit ?_
  refine zr (.int .i64 (k : Int)) w rfl ?_
  simp only [Act.put, zA, zB, zC]
  refine zr (.bool true) w (xo_eqlT .i64 (k : Int) 3 (by omega) rfl rfl rfl) ?_
  simp only [Act.put, zA, zB, zC]
  refine wpList_nil ?_
  go_upto_region 2 with fail
  refine wp_region_lit ?_
  refine zr (.int .i64 6) w rfl ?_
  simp only [Act.put, zA, zB, zC]
  refine wpList_nil ?_
  go_wp2_with fail
  go_ret
  exact ⟨rfl, rfl⟩
 ·have hci0 : ¬ ((k : Int) = 3) := by omega
  refine wp_region_lit ?_
  refine zr (.int .i64 (k : Int)) w rfl ?_
  simp only [Act.put, zA, zB, zC]
  refine zr (.bool false) w (xo_eqlF .i64 (k : Int) 3 (by omega) rfl rfl rfl) ?_
  simp only [Act.put, zA, zB, zC]
  refine wpList_nil ?_
  by_cases h6 : k = 6
  ·have hci1 : ((k : Int) = 6) := by omega
   obtain rfl : m = 65536 := by rw [hm2, if_neg h3, if_pos h6]
   go_upto_region 3 with fail
   refine wp_region_lit ?_
   refine zr (.int .i64 (k : Int)) w rfl ?_
   simp only [Act.put, zA, zB, zC]
   refine zr (.bool true) w (xo_eqlT .i64 (k : Int) 6 (by omega) rfl rfl rfl) ?_
   simp only [Act.put, zA, zB, zC]
   refine wpList_nil ?_
   go_upto_region 4 with fail
   refine wp_region_lit ?_
   refine zr (.int .i64 65536) w rfl ?_
   simp only [Act.put, zA, zB, zC]
   refine wpList_nil ?_
   go_wp2_with fail
   go_ret
   exact ⟨rfl, rfl⟩
  ·have hci1 : ¬ ((k : Int) = 6) := by omega
   obtain rfl : m = 0 := by rw [hm2, if_neg h3, if_neg h6]
   go_upto_region 3 with fail
   refine wp_region_lit ?_
   refine zr (.int .i64 (k : Int)) w rfl ?_
   simp only [Act.put, zA, zB, zC]
   refine zr (.bool false) w (xo_eqlF .i64 (k : Int) 6 (by omega) rfl rfl rfl) ?_
   simp only [Act.put, zA, zB, zC]
   refine wpList_nil ?_
   go_upto_region 5 with fail
   refine wp_region_lit ?_
   refine zr (.int .i64 0) w rfl ?_
   simp only [Act.put, zA, zB, zC]
   refine wpList_nil ?_
   go_wp2_with fail
   go_ret
   exact ⟨rfl, rfl⟩
end Go.Proofs.YtlicfidcfhbmpaaDoor

