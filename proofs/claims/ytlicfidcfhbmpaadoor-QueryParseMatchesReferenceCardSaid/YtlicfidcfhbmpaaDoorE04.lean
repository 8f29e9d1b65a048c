/- Several texts in one: Yd. -/
import Derived.Test.YtlicfidcfhbmpaaDoorE03
set_option linter.unusedVariables false
set_option linter.unusedSimpArgs false
set_option linter.unusedSectionVars false
namespace Go.Proofs.YtlicfidcfhbmpaaDoor
set_option maxRecDepth 8000
open Go.RowKit Go.Proofs.YtlicfidcfhbmpaaDoor.K
attribute [local irreducible] wpList wpQuiet
/-- how far a scanner is -/
def scAt (w : World) (bs : Nat) : Nat := match w.cell? ⟨bs, 1, none⟩ with
 | some (.int _ m) => m.toNat
 | _ => 0
theorem scAt_of {w : World} {bs j : Nat} {v : Value} (h : w.heap[bs]? = some (.cells #[v, .int .i64 (j : Int)] 66 (0, 0))) : scAt w bs = j := by
 unfold scAt World.cell?
 simp [h]
set_option maxRecDepth 100000 in
set_option maxHeartbeats 8000000 in
theorem space_any (b : UInt8) (w : World) : Calls Tryd.prog 53 #[.int .u8 (b.toNat : Int)] w fun e w' => e = .returned (.bool (Qu.isSp b)) ∧ w' = w := by
 obtain ⟨n, hn⟩ : ∃ n, b.toNat = n := ⟨_, rfl⟩
 rw [hn]
 go_enter Tryd.func53, Tryd.ntmps53
 go_upto_region 1 with fail
 by_cases h32 : n = 32
 ·have hci0 : ((n : Int) = 32) := by omega
  refine wp_region_lit ?_
  refine zr (.int .u8 (n : Int)) w rfl ?_
  simp only [Act.put, zA]
  refine zr (.bool true) w (xo_eqlT .u8 (n : Int) 32 (by omega) rfl rfl rfl) ?_
  simp only [Act.put, zA]
  refine zr (.bool true) w rfl ?_
  simp only [Act.put, zA]
  refine zl ?_
  try simp only [Act.put, zA]
  refine zl ?_
  try simp only [Act.put, zA]
  refine zr (.bool true) w rfl ?_
  simp only [Act.put, zA]
  refine zr (.bool true) w rfl ?_
  simp only [Act.put, zA]
  refine zl ?_
  try simp only [Act.put, zA]
  refine zl ?_
  try simp only [Act.put, zA]
  refine zr (.bool true) w rfl ?_
  simp only [Act.put, zA]
  refine zr (.bool true) w rfl ?_
  simp only [Act.put, zA]
  refine zl ?_
  try simp only [Act.put, zA]
  refine zl ?_
  try simp only [Act.put, zA]
  refine zr (.bool true) w rfl ?_
  simp only [Act.put, zA]
  refine zr (.bool true) w rfl ?_
  simp only [Act.put, zA]
  refine wpList_nil ?_
  go_wp2_with fail
  go_ret
  exact ⟨by unfold Qu.isSp; rw [hn]; simp [*] <;> omega, rfl⟩
 ·have hci0 : ¬ ((n : Int) = 32) := by omega
  by_cases h9 : n = 9
  ·have hci1 : ((n : Int) = 9) := by omega
   refine wp_region_lit ?_
   refine zr (.int .u8 (n : Int)) w rfl ?_
   simp only [Act.put, zA]
   refine zr (.bool false) w (xo_eqlF .u8 (n : Int) 32 (by omega) rfl rfl rfl) ?_
   simp only [Act.put, zA]
   refine zr (.bool false) w rfl ?_
   simp only [Act.put, zA]
   refine zr (.int .u8 (n : Int)) w rfl ?_
   simp only [Act.put, zA]
   refine zr (.bool true) w (xo_eqlT .u8 (n : Int) 9 (by omega) rfl rfl rfl) ?_
   simp only [Act.put, zA]
   refine zr (.bool true) w rfl ?_
   simp only [Act.put, zA]
   refine zr (.bool true) w rfl ?_
   simp only [Act.put, zA]
   refine zl ?_
   try simp only [Act.put, zA]
   refine zl ?_
   try simp only [Act.put, zA]
   refine zr (.bool true) w rfl ?_
   simp only [Act.put, zA]
   refine zr (.bool true) w rfl ?_
   simp only [Act.put, zA]
   refine zl ?_
   try simp only [Act.put, zA]
   refine zl ?_
   try simp only [Act.put, zA]
   refine zr (.bool true) w rfl ?_
   simp only [Act.put, zA]
   refine zr (.bool true) w rfl ?_
   simp only [Act.put, zA]
   refine wpList_nil ?_
   go_wp2_with fail
   go_ret
   exact ⟨by unfold Qu.isSp; rw [hn]; simp [*] <;> omega, rfl⟩
  ·have hci1 : ¬ ((n : Int) = 9) := by omega
   by_cases h13 : n = 13
   ·have hci2 : ((n : Int) = 13) := by omega
    refine wp_region_lit ?_
    refine zr (.int .u8 (n : Int)) w rfl ?_
    simp only [Act.put, zA]
    refine zr (.bool false) w (xo_eqlF .u8 (n : Int) 32 (by omega) rfl rfl rfl) ?_
    simp only [Act.put, zA]
    refine zr (.bool false) w rfl ?_
    simp only [Act.put, zA]
    refine zr (.int .u8 (n : Int)) w rfl ?_
    simp only [Act.put, zA]
    refine zr (.bool false) w (xo_eqlF .u8 (n : Int) 9 (by omega) rfl rfl rfl) ?_
    simp only [Act.put, zA]
    refine zr (.bool false) w rfl ?_
    simp only [Act.put, zA]
    refine zr (.bool false) w rfl ?_
    simp only [Act.put, zA]
    refine zr (.int .u8 (n : Int)) w rfl ?_
    simp only [Act.put, zA]
    refine zr (.bool true) w (xo_eqlT .u8 (n : Int) 13 (by omega) rfl rfl rfl) ?_
    simp only [Act.put, zA]
    refine zr (.bool true) w rfl ?_
    simp only [Act.put, zA]
    refine zr (.bool true) w rfl ?_
    simp only [Act.put, zA]
    refine zl ?_
    try simp only [Act.put, zA]
    refine zl ?_
    try simp only [Act.put, zA]
    refine zr (.bool true) w rfl ?_
    simp only [Act.put, zA]
    refine zr (.bool true) w rfl ?_
    simp only [Act.put, zA]
    refine wpList_nil ?_
    go_wp2_with fail
    go_ret
    exact ⟨by unfold Qu.isSp; rw [hn]; simp [*] <;> omega, rfl⟩
   ·have hci2 : ¬ ((n : Int) = 13) := by omega
    by_cases h10 : n = 10
    ·have hci3 : ((n : Int) = 10) := by omega
     refine wp_region_lit ?_
     refine zr (.int .u8 (n : Int)) w rfl ?_
     simp only [Act.put, zA]
     refine zr (.bool false) w (xo_eqlF .u8 (n : Int) 32 (by omega) rfl rfl rfl) ?_
     simp only [Act.put, zA]
     refine zr (.bool false) w rfl ?_
     simp only [Act.put, zA]
     refine zr (.int .u8 (n : Int)) w rfl ?_
     simp only [Act.put, zA]
     refine zr (.bool false) w (xo_eqlF .u8 (n : Int) 9 (by omega) rfl rfl rfl) ?_
     simp only [Act.put, zA]
     refine zr (.bool false) w rfl ?_
     simp only [Act.put, zA]
     refine zr (.bool false) w rfl ?_
     simp only [Act.put, zA]
     refine zr (.int .u8 (n : Int)) w rfl ?_
     simp only [Act.put, zA]
     refine zr (.bool false) w (xo_eqlF .u8 (n : Int) 13 (by omega) rfl rfl rfl) ?_
     simp only [Act.put, zA]
     refine zr (.bool false) w rfl ?_
     simp only [Act.put, zA]
     refine zr (.bool false) w rfl ?_
     simp only [Act.put, zA]
     refine zr (.int .u8 (n : Int)) w rfl ?_
     simp only [Act.put, zA]
     refine zr (.bool true) w (xo_eqlT .u8 (n : Int) 10 (by omega) rfl rfl rfl) ?_
     simp only [Act.put, zA]
     refine zr (.bool true) w rfl ?_
     simp only [Act.put, zA]
     refine zr (.bool true) w rfl ?_
     simp only [Act.put, zA]
     refine wpList_nil ?_
     go_wp2_with fail
     go_ret
     exact ⟨by unfold Qu.isSp; rw [hn]; simp [*] <;> omega, rfl⟩
    ·have hci3 : ¬ ((n : Int) = 10) := by omega
     refine wp_region_lit ?_
     refine zr (.int .u8 (n : Int)) w rfl ?_
     simp only [Act.put, zA]
     refine zr (.bool false) w (xo_eqlF .u8 (n : Int) 32 (by omega) rfl rfl rfl) ?_
     simp only [Act.put, zA]
     refine zr (.bool false) w rfl ?_
     simp only [Act.put, zA]
     refine zr (.int .u8 (n : Int)) w rfl ?_
     simp only [Act.put, zA]
     refine zr (.bool false) w (xo_eqlF .u8 (n : Int) 9 (by omega) rfl rfl rfl) ?_
     simp only [Act.put, zA]
     refine zr (.bool false) w rfl ?_
     simp only [Act.put, zA]
     refine zr (.bool false) w rfl ?_
     simp only [Act.put, zA]
     refine zr (.int .u8 (n : Int)) w rfl ?_
     simp only [Act.put, zA]
     refine zr (.bool false) w (xo_eqlF .u8 (n : Int) 13 (by omega) rfl rfl rfl) ?_
     simp only [Act.put, zA]
     refine zr (.bool false) w rfl ?_
     simp only [Act.put, zA]
     refine zr (.bool false) w rfl ?_
     simp only [Act.put, zA]
     refine zr (.int .u8 (n : Int)) w rfl ?_
     simp only [Act.put, zA]
     refine zr (.bool false) w (xo_eqlF .u8 (n : Int) 10 (by omega) rfl rfl rfl) ?_
     simp only [Act.put, zA]
     refine zr (.bool false) w rfl ?_
     simp only [Act.put, zA]
     refine zr (.bool false) w rfl ?_
     simp only [Act.put, zA]
     refine wpList_nil ?_
     go_wp2_with fail
     go_ret
     exact ⟨by unfold Qu.isSp; rw [hn]; simp [*] <;> omega, rfl⟩
theorem space_as (b : UInt8) (r : Bool) (h : Qu.isSp b = r) (w : World) : Calls Tryd.prog 53 #[.int .u8 (b.toNat : Int)] w fun e w' => e = .returned (.bool r) ∧ w' = w := by
 rw [← h]
 exact space_any b w
set_option maxRecDepth 100000 in
set_option maxHeartbeats 8000000 in
theorem letter_any (b : UInt8) (w : World) : Calls Tryd.prog 54 #[.int .u8 (b.toNat : Int)] w fun e w' => e = .returned (.bool (Qu.isLt b)) ∧ w' = w := by
 obtain ⟨n, hn⟩ : ∃ n, b.toNat = n := ⟨_, rfl⟩
 rw [hn]
 go_enter Tryd.func54, Tryd.ntmps54
 go_upto_region 1 with fail
 by_cases h1 : 97 ≤ n
 ·have hci0 : ((n : Int) ≥ 97) := by omega
  by_cases h2 : n ≤ 122
  ·have hci1 : ((n : Int) ≤ 122) := by omega
   refine wp_region_lit ?_
   refine zr (.int .u8 (n : Int)) w rfl ?_
   simp only [Act.put, zA]
   refine zr (.bool true) w (xo_geqT .u8 (n : Int) 97 (by omega) rfl rfl rfl) ?_
   simp only [Act.put, zA]
   refine zr (.bool true) w rfl ?_
   simp only [Act.put, zA]
   refine zr (.int .u8 (n : Int)) w rfl ?_
   simp only [Act.put, zA]
   refine zr (.bool true) w (xo_leqT .u8 (n : Int) 122 (by omega) rfl rfl rfl) ?_
   simp only [Act.put, zA]
   refine zr (.bool true) w rfl ?_
   simp only [Act.put, zA]
   refine zr (.bool true) w rfl ?_
   simp only [Act.put, zA]
   refine wpList_nil ?_
   go_wp2_with fail
   go_ret
   exact ⟨by unfold Qu.isLt; rw [hn]; simp [*] <;> omega, rfl⟩
  ·have hci1 : ¬ ((n : Int) ≤ 122) := by omega
   refine wp_region_lit ?_
   refine zr (.int .u8 (n : Int)) w rfl ?_
   simp only [Act.put, zA]
   refine zr (.bool true) w (xo_geqT .u8 (n : Int) 97 (by omega) rfl rfl rfl) ?_
   simp only [Act.put, zA]
   refine zr (.bool true) w rfl ?_
   simp only [Act.put, zA]
   refine zr (.int .u8 (n : Int)) w rfl ?_
   simp only [Act.put, zA]
   refine zr (.bool false) w (xo_leqF .u8 (n : Int) 122 (by omega) rfl rfl rfl) ?_
   simp only [Act.put, zA]
   refine zr (.bool false) w rfl ?_
   simp only [Act.put, zA]
   refine zr (.bool false) w rfl ?_
   simp only [Act.put, zA]
   refine wpList_nil ?_
   go_wp2_with fail
   go_ret
   exact ⟨by unfold Qu.isLt; rw [hn]; simp [*] <;> omega, rfl⟩
 ·have hci0 : ¬ ((n : Int) ≥ 97) := by omega
  refine wp_region_lit ?_
  refine zr (.int .u8 (n : Int)) w rfl ?_
  simp only [Act.put, zA]
  refine zr (.bool false) w (xo_geqF .u8 (n : Int) 97 (by omega) rfl rfl rfl) ?_
  simp only [Act.put, zA]
  refine zr (.bool false) w rfl ?_
  simp only [Act.put, zA]
  refine zl ?_
  try simp only [Act.put, zA]
  refine zl ?_
  try simp only [Act.put, zA]
  refine zr (.bool false) w rfl ?_
  simp only [Act.put, zA]
  refine zr (.bool false) w rfl ?_
  simp only [Act.put, zA]
  refine wpList_nil ?_
  go_wp2_with fail
  go_ret
  exact ⟨by unfold Qu.isLt; rw [hn]; simp [*] <;> omega, rfl⟩
theorem letter_as (b : UInt8) (r : Bool) (h : Qu.isLt b = r) (w : World) : Calls Tryd.prog 54 #[.int .u8 (b.toNat : Int)] w fun e w' => e = .returned (.bool r) ∧ w' = w := by
 rw [← h]
 exact letter_any b w
set_option maxRecDepth 100000 in
set_option maxHeartbeats 8000000 in
theorem digit_any (b : UInt8) (w : World) : Calls Tryd.prog 55 #[.int .u8 (b.toNat : Int)] w fun e w' => e = .returned (.bool (Qu.isDg b)) ∧ w' = w := by
 obtain ⟨n, hn⟩ : ∃ n, b.toNat = n := ⟨_, rfl⟩
 rw [hn]
 go_enter Tryd.func55, Tryd.ntmps55
 go_upto_region 1 with fail
 by_cases h1 : 48 ≤ n
 ·have hci0 : ((n : Int) ≥ 48) := by omega
  by_cases h2 : n ≤ 57
  ·have hci1 : ((n : Int) ≤ 57) := by omega
   refine wp_region_lit ?_
   refine zr (.int .u8 (n : Int)) w rfl ?_
   simp only [Act.put, zA]
   refine zr (.bool true) w (xo_geqT .u8 (n : Int) 48 (by omega) rfl rfl rfl) ?_
   simp only [Act.put, zA]
   refine zr (.bool true) w rfl ?_
   simp only [Act.put, zA]
   refine zr (.int .u8 (n : Int)) w rfl ?_
   simp only [Act.put, zA]
   refine zr (.bool true) w (xo_leqT .u8 (n : Int) 57 (by omega) rfl rfl rfl) ?_
   simp only [Act.put, zA]
   refine zr (.bool true) w rfl ?_
   simp only [Act.put, zA]
   refine zr (.bool true) w rfl ?_
   simp only [Act.put, zA]
   refine wpList_nil ?_
   go_wp2_with fail
   go_ret
   exact ⟨by unfold Qu.isDg; rw [hn]; simp [*] <;> omega, rfl⟩
  ·have hci1 : ¬ ((n : Int) ≤ 57) := by omega
   refine wp_region_lit ?_
   refine zr (.int .u8 (n : Int)) w rfl ?_
   simp only [Act.put, zA]
   refine zr (.bool true) w (xo_geqT .u8 (n : Int) 48 (by omega) rfl rfl rfl) ?_
   simp only [Act.put, zA]
   refine zr (.bool true) w rfl ?_
   simp only [Act.put, zA]
   refine zr (.int .u8 (n : Int)) w rfl ?_
   simp only [Act.put, zA]
   refine zr (.bool false) w (xo_leqF .u8 (n : Int) 57 (by omega) rfl rfl rfl) ?_
   simp only [Act.put, zA]
   refine zr (.bool false) w rfl ?_
   simp only [Act.put, zA]
   refine zr (.bool false) w rfl ?_
   simp only [Act.put, zA]
   refine wpList_nil ?_
   go_wp2_with fail
   go_ret
   exact ⟨by unfold Qu.isDg; rw [hn]; simp [*] <;> omega, rfl⟩
 ·have hci0 : ¬ ((n : Int) ≥ 48) := by omega
  refine wp_region_lit ?_
  refine zr (.int .u8 (n : Int)) w rfl ?_
  simp only [Act.put, zA]
  refine zr (.bool false) w (xo_geqF .u8 (n : Int) 48 (by omega) rfl rfl rfl) ?_
  simp only [Act.put, zA]
  refine zr (.bool false) w rfl ?_
  simp only [Act.put, zA]
  refine zl ?_
  try simp only [Act.put, zA]
  refine zl ?_
  try simp only [Act.put, zA]
  refine zr (.bool false) w rfl ?_
  simp only [Act.put, zA]
  refine zr (.bool false) w rfl ?_
  simp only [Act.put, zA]
  refine wpList_nil ?_
  go_wp2_with fail
  go_ret
  exact ⟨by unfold Qu.isDg; rw [hn]; simp [*] <;> omega, rfl⟩
theorem digit_as (b : UInt8) (r : Bool) (h : Qu.isDg b = r) (w : World) : Calls Tryd.prog 55 #[.int .u8 (b.toNat : Int)] w fun e w' => e = .returned (.bool r) ∧ w' = w := by
 rw [← h]
 exact digit_any b w
set_option maxRecDepth 100000 in
set_option maxHeartbeats 16000000 in
theorem skip_space (s : List UInt8) (hs4 : s.length ≤ 1000) (bs : Nat) (i : Nat) (hi : i ≤ s.length) (w : World) (hS : w.heap[bs]? = some (.cells #[.string (sB s), .int .i64 (i : Int)] 66 (0, 0))) :
  Calls Tryd.prog 52 #[.pointer (some ⟨bs, 0, none⟩), .func (.func 53) #[] #[]] w fun e w' => e = .returned (.string (sB ((s.take (Qu.runE Qu.isSp s i)).drop i))) ∧ w'.heap[bs]? = some (.cells #[.string (sB s), .int .i64 ((Qu.runE Qu.isSp s i : Nat) : Int)] 66 (0, 0)) ∧ FarC bs bs w w' := by
 obtain ⟨V, hV0, hV⟩ := base_world w
 have B0 := zh hV
 have HVW := zh hV
 clear hV
 have HF := zh (FarH.refl bs bs w)
 obtain ⟨n, hn⟩ : ∃ n, s.length = n := ⟨_, rfl⟩
 have HN := zh hn
 rw [hn] at hs4 hi
 have Hpbs : Hid (w.heap[bs]? = some (.cells #[.string (sB s), .int .i64 (i : Int)] 66 (0, 0))) := zh (hS)
 have Gpbs : Hid (V.heap.size ≤ bs) := zh (by omega)
 have Lpbs : Hid (bs < w.heap.size) := zh (xp_lt Hpbs.out)
 clear hS hn
 go_enter Tryd.func52, Tryd.ntmps52
 go_upto_region 1 with fail
 refine wp_region_lit ?_
 refine zr (.pointer (some ⟨bs, 0, none⟩)) w rfl ?_
 simp only [Act.put, zA]
 refine zr (.pointer (some ⟨bs, 0, none⟩)) w (xo_nil _ rfl rfl) ?_
 simp only [Act.put, zA]
 refine zr (.pointer (some ⟨bs, 1, none⟩)) w (xo_fld0 1 bs 1 (by kernel_rfl) rfl rfl) ?_
 simp only [Act.put, zA]
 refine zr (.int .i64 (i : Int)) w (xo_load1 ⟨bs, 1, none⟩ _ (cells_at Hpbs.out 1 rfl) Tryd.underlying3 rfl rfl rfl) ?_
 simp only [Act.put, zA]
 refine zr (.int .i64 (i : Int)) w rfl ?_
 simp only [Act.put, zA]
 refine wpList_nil ?_
 have o0 := Hpbs.out
 have f0 := HF.out
 have b0 := B0.out
 go_wp2_with fail
 go_loopw [] (fun wr => ∃ j : Nat, i ≤ j ∧ j ≤ n ∧ Qu.runE Qu.isSp s i = Qu.runE Qu.isSp s j ∧ wr.heap[bs]? = some (.cells #[.string (sB s), .int .i64 (j : Int)] 66 (0, 0)) ∧ FarH bs bs w wr ∧ Below V.heap.size V wr) (fun wr => n - scAt wr bs)
 case atStart => exact ⟨i, Nat.le_refl _, hi, rfl, o0, f0, b0⟩
 case round =>
  clear o0 f0 b0 B0 HF Hpbs
  obtain ⟨wo, rfl⟩ : ∃ wo : World, wo = wr := ⟨_, rfl⟩
  obtain ⟨j, hij, hj, hrun, hsc, hfh, hbb⟩ := hrel
  have B0 := zh hbb
  have HF := zh hfh
  have Hpbs := zh hsc
  have HRUN := zh hrun
  have HAT := zh (scAt_of hsc)
  clear hbb hfh hsc hrun
  by_cases hjn : j < n
  ·have hci0 : ((j : Int) < (n : Int)) := by omega
   obtain ⟨bb, hbb⟩ : ∃ b, s[j]? = some b := ⟨_, List.getElem?_eq_getElem (by rw [HN.out]; exact hjn)⟩
   have HEb := zh hbb
   clear hbb
   cases hpb : Qu.isSp bb with
   | true =>
    go_upto_region 2 with fail
    try simp only [List.append_eq, List.cons_append, List.nil_append]
    refine wp_ordX (.q 0 (.q 1 (.q 2 (.q 3 (.q 4 (.q 5 (.q 6 (.q 7 (.q 8 (.q 9 (.q 10 (.q 11 (.q 12 (.q 13 (.q 14 (.q 15 (.q 16 (.q 17 (.q 18 (.q 19 (.q 20 (.one 21 (.q 22 .nil))))))))))))))))))))))) (by kernel_rfl) (by kernel_rfl) (fun _ _ dt _ _ h => by first | exact h.elim | (cases dt <;> exact h)) (by kernel_rfl) (by kernel_rfl) (fun V2 hb => ?_)
    have B1 := zh hb
    clear hb
    refine wpX_q (.pointer (some ⟨bs, 0, none⟩)) rfl (by kernel_rfl) (fun v hW => rfl) ?_
    simp only [ptr, Act.put, zA]
    refine wpX_q (.pointer (some ⟨bs, 0, none⟩)) rfl (by kernel_rfl) (fun v hW => (xo_nil _ rfl rfl)) ?_
    simp only [ptr, Act.put, zA]
    refine wpX_q (.pointer (some ⟨bs, 1, none⟩)) rfl (by kernel_rfl) (fun v hW => (xo_fld0 1 bs 1 (by kernel_rfl) rfl rfl)) ?_
    simp only [ptr, Act.put, zA]
    refine wpX_q (.int .i64 (j : Int)) rfl (by kernel_rfl) (fun v hW => (xo_load1 ⟨bs, 1, none⟩ _ (cells_at (heap_keep (heap_keep Hpbs.out B1.out) hW) 1 rfl) Tryd.underlying3 rfl rfl rfl)) ?_
    simp only [ptr, Act.put, zA]
    refine wpX_q (.pointer (some ⟨bs, 0, none⟩)) rfl (by kernel_rfl) (fun v hW => rfl) ?_
    simp only [ptr, Act.put, zA]
    refine wpX_q (.pointer (some ⟨bs, 0, none⟩)) rfl (by kernel_rfl) (fun v hW => (xo_nil _ rfl rfl)) ?_
    simp only [ptr, Act.put, zA]
    refine wpX_q (.pointer (some ⟨bs, 0, none⟩)) rfl (by kernel_rfl) (fun v hW => (xo_fld0 0 bs 0 (by kernel_rfl) rfl rfl)) ?_
    simp only [ptr, Act.put, zA]
    refine wpX_q (.string (sB s)) rfl (by kernel_rfl) (fun v hW => (xo_load1 ⟨bs, 0, none⟩ _ (cells_at (heap_keep (heap_keep Hpbs.out B1.out) hW) 0 rfl) Tryd.underlying9 rfl rfl rfl)) ?_
    simp only [ptr, Act.put, zA]
    refine wpX_q (.int .i64 (n : Int)) rfl (by kernel_rfl) (fun v hW => (xs_lenN s n HN.out Tryd.underlying9 rfl rfl)) ?_
    simp only [ptr, Act.put, zA]
    refine wpX_q (.bool true) rfl (by kernel_rfl) (fun v hW => (xo_lssT .i64 (j : Int) (n : Int) (by omega) rfl rfl rfl)) ?_
    simp only [ptr, Act.put, zA]
    refine wpX_q (.bool true) rfl (by kernel_rfl) (fun v hW => rfl) ?_
    simp only [ptr, Act.put, zA]
    refine wpX_q (.func (.func 53) #[] #[]) rfl (by kernel_rfl) (fun v hW => rfl) ?_
    simp only [ptr, Act.put, zA]
    refine wpX_q (.pointer (some ⟨bs, 0, none⟩)) rfl (by kernel_rfl) (fun v hW => rfl) ?_
    simp only [ptr, Act.put, zA]
    refine wpX_q (.pointer (some ⟨bs, 0, none⟩)) rfl (by kernel_rfl) (fun v hW => (xo_nil _ rfl rfl)) ?_
    simp only [ptr, Act.put, zA]
    refine wpX_q (.pointer (some ⟨bs, 0, none⟩)) rfl (by kernel_rfl) (fun v hW => (xo_fld0 0 bs 0 (by kernel_rfl) rfl rfl)) ?_
    simp only [ptr, Act.put, zA]
    refine wpX_q (.string (sB s)) rfl (by kernel_rfl) (fun v hW => (xo_load1 ⟨bs, 0, none⟩ _ (cells_at (heap_keep (heap_keep Hpbs.out B1.out) hW) 0 rfl) Tryd.underlying9 rfl rfl rfl)) ?_
    simp only [ptr, Act.put, zA]
    refine wpX_q (.pointer (some ⟨bs, 0, none⟩)) rfl (by kernel_rfl) (fun v hW => rfl) ?_
    simp only [ptr, Act.put, zA]
    refine wpX_q (.pointer (some ⟨bs, 0, none⟩)) rfl (by kernel_rfl) (fun v hW => (xo_nil _ rfl rfl)) ?_
    simp only [ptr, Act.put, zA]
    refine wpX_q (.pointer (some ⟨bs, 1, none⟩)) rfl (by kernel_rfl) (fun v hW => (xo_fld0 1 bs 1 (by kernel_rfl) rfl rfl)) ?_
    simp only [ptr, Act.put, zA]
    refine wpX_q (.int .i64 (j : Int)) rfl (by kernel_rfl) (fun v hW => (xo_load1 ⟨bs, 1, none⟩ _ (cells_at (heap_keep (heap_keep Hpbs.out B1.out) hW) 1 rfl) Tryd.underlying3 rfl rfl rfl)) ?_
    simp only [ptr, Act.put, zA]
    refine wpX_q (.int .u8 ((bb.toNat : Nat) : Int)) rfl (by kernel_rfl) (fun v hW => (xs_idx s j bb HEb.out Tryd.underlying9 rfl rfl rfl)) ?_
    simp only [ptr, Act.put, zA]
    refine wpX_one rfl (by kernel_rfl) ?_
    refine hOp_callA 53 Tryd.func53 (by kernel_rfl) (by kernel_rfl) 21 _ #[] _ rfl rfl #[.int .u8 ((bb.toNat : Nat) : Int)] (by kernel_rfl) ?_
    try simp only [List.append_toArray, List.append_nil, List.nil_append, List.cons_append]
    refine (space_as bb true hpb V2).mono ?_
    rintro e W1 ⟨rfl, hw1⟩
    rw [hw1]
    clear hw1 W1
    refine ⟨_, rfl, (Below.refl V2.heap.size V2), ?_⟩
    simp only [ptr, Act.put, zA]
    refine wpX_q (.bool true) rfl (by kernel_rfl) (fun v hW => rfl) ?_
    simp only [ptr, Act.put, zA]
    refine wpX_nil ?_
    go_upto_region 3 with fail
    refine wp_region_lit ?_
    refine zr (.pointer (some ⟨bs, 0, none⟩)) V2 rfl ?_
    simp only [Act.put, zA]
    refine zr (.pointer (some ⟨bs, 0, none⟩)) V2 (xo_nil _ rfl rfl) ?_
    simp only [Act.put, zA]
    refine zr (.pointer (some ⟨bs, 1, none⟩)) V2 (xo_fld0 1 bs 1 (by kernel_rfl) rfl rfl) ?_
    simp only [Act.put, zA]
    refine zr (.int .i64 (j : Int)) V2 (xo_load1 ⟨bs, 1, none⟩ _ (cells_at (heap_keep Hpbs.out B1.out) 1 rfl) Tryd.underlying3 rfl rfl rfl) ?_
    simp only [Act.put, zA]
    refine zr (.int .i64 ((j + 1 : Nat) : Int)) V2 (xo_addI (j : Int) 1 ((j + 1 : Nat) : Int) (by omega) (by omega) (by omega) rfl rfl rfl) ?_
    simp only [Act.put, zA]
    refine zr (.pointer (some ⟨bs, 0, none⟩)) V2 (xo_nil _ rfl rfl) ?_
    simp only [Act.put, zA]
    refine zr (.pointer (some ⟨bs, 1, none⟩)) V2 (xo_fld0 1 bs 1 (by kernel_rfl) rfl rfl) ?_
    simp only [Act.put, zA]
    refine wpList_store1 bs 1 #[.string (sB s), .int .i64 (j : Int)] (.int .i64 ((j + 1 : Nat) : Int)) 66 (by kernel_rfl) (heap_keep Hpbs.out B1.out) (xo_store1 bs 1 #[.string (sB s), .int .i64 (j : Int)] _ (.int .i64 ((j + 1 : Nat) : Int)) (heap_keep Hpbs.out B1.out) rfl (by kernel_rfl) rfl rfl rfl rfl) ?_
    intro X2_1 h1 hfar hbel hsz
    have YHF : FarH bs bs w X2_1 := FarH.store (HF.out.keep B1.out) (.inl rfl) hsz hfar
    have C0_2 := zb B0 B1
    have hbr := hbel _ _ Gpbs.out C0_2.out
    clear B0
    have B0 := zh hbr
    clear hbr
    clear HF
    have HF := zh YHF
    clear YHF
    clear Hpbs
    have Hpbs : Hid (X2_1.heap[bs]? = some (.cells #[.string (sB s), .int .i64 ((j + 1 : Nat) : Int)] 66 (0, 0))) := zh (h1)
    have HszX2_1 := zh hsz
    clear h1 hfar hbel hsz
    simp only [ptr, Act.put, zA]
    refine wpList_nil ?_
    have hsf := Hpbs.out
    have hff := HF.out
    have hbf := B0.out
    have hr2 : Qu.runE Qu.isSp s i = Qu.runE Qu.isSp s (j + 1) := HRUN.out.trans (Qu.runE_yes HEb.out hpb)
    have hat := scAt_of hsf
    go_wp2_with fail
    go_roundw
    case rel => exact ⟨j + 1, by omega, by omega, hr2, hsf, hff, hbf⟩
    case measure => rw [hat, HAT.out]; omega
   | false =>
    go_upto_region 2 with fail
    try simp only [List.append_eq, List.cons_append, List.nil_append]
    refine wp_ordX (.q 0 (.q 1 (.q 2 (.q 3 (.q 4 (.q 5 (.q 6 (.q 7 (.q 8 (.q 9 (.q 10 (.q 11 (.q 12 (.q 13 (.q 14 (.q 15 (.q 16 (.q 17 (.q 18 (.q 19 (.q 20 (.one 21 (.q 22 .nil))))))))))))))))))))))) (by kernel_rfl) (by kernel_rfl) (fun _ _ dt _ _ h => by first | exact h.elim | (cases dt <;> exact h)) (by kernel_rfl) (by kernel_rfl) (fun V2 hb => ?_)
    have B1 := zh hb
    clear hb
    refine wpX_q (.pointer (some ⟨bs, 0, none⟩)) rfl (by kernel_rfl) (fun v hW => rfl) ?_
    simp only [ptr, Act.put, zA]
    refine wpX_q (.pointer (some ⟨bs, 0, none⟩)) rfl (by kernel_rfl) (fun v hW => (xo_nil _ rfl rfl)) ?_
    simp only [ptr, Act.put, zA]
    refine wpX_q (.pointer (some ⟨bs, 1, none⟩)) rfl (by kernel_rfl) (fun v hW => (xo_fld0 1 bs 1 (by kernel_rfl) rfl rfl)) ?_
    simp only [ptr, Act.put, zA]
    refine wpX_q (.int .i64 (j : Int)) rfl (by kernel_rfl) (fun v hW => (xo_load1 ⟨bs, 1, none⟩ _ (cells_at (heap_keep (heap_keep Hpbs.out B1.out) hW) 1 rfl) Tryd.underlying3 rfl rfl rfl)) ?_
    simp only [ptr, Act.put, zA]
    refine wpX_q (.pointer (some ⟨bs, 0, none⟩)) rfl (by kernel_rfl) (fun v hW => rfl) ?_
    simp only [ptr, Act.put, zA]
    refine wpX_q (.pointer (some ⟨bs, 0, none⟩)) rfl (by kernel_rfl) (fun v hW => (xo_nil _ rfl rfl)) ?_
    simp only [ptr, Act.put, zA]
    refine wpX_q (.pointer (some ⟨bs, 0, none⟩)) rfl (by kernel_rfl) (fun v hW => (xo_fld0 0 bs 0 (by kernel_rfl) rfl rfl)) ?_
    simp only [ptr, Act.put, zA]
    refine wpX_q (.string (sB s)) rfl (by kernel_rfl) (fun v hW => (xo_load1 ⟨bs, 0, none⟩ _ (cells_at (heap_keep (heap_keep Hpbs.out B1.out) hW) 0 rfl) Tryd.underlying9 rfl rfl rfl)) ?_
    simp only [ptr, Act.put, zA]
    refine wpX_q (.int .i64 (n : Int)) rfl (by kernel_rfl) (fun v hW => (xs_lenN s n HN.out Tryd.underlying9 rfl rfl)) ?_
    simp only [ptr, Act.put, zA]
    refine wpX_q (.bool true) rfl (by kernel_rfl) (fun v hW => (xo_lssT .i64 (j : Int) (n : Int) (by omega) rfl rfl rfl)) ?_
    simp only [ptr, Act.put, zA]
    refine wpX_q (.bool true) rfl (by kernel_rfl) (fun v hW => rfl) ?_
    simp only [ptr, Act.put, zA]
    refine wpX_q (.func (.func 53) #[] #[]) rfl (by kernel_rfl) (fun v hW => rfl) ?_
    simp only [ptr, Act.put, zA]
    refine wpX_q (.pointer (some ⟨bs, 0, none⟩)) rfl (by kernel_rfl) (fun v hW => rfl) ?_
    simp only [ptr, Act.put, zA]
    refine wpX_q (.pointer (some ⟨bs, 0, none⟩)) rfl (by kernel_rfl) (fun v hW => (xo_nil _ rfl rfl)) ?_
    simp only [ptr, Act.put, zA]
    refine wpX_q (.pointer (some ⟨bs, 0, none⟩)) rfl (by kernel_rfl) (fun v hW => (xo_fld0 0 bs 0 (by kernel_rfl) rfl rfl)) ?_
    simp only [ptr, Act.put, zA]
    refine wpX_q (.string (sB s)) rfl (by kernel_rfl) (fun v hW => (xo_load1 ⟨bs, 0, none⟩ _ (cells_at (heap_keep (heap_keep Hpbs.out B1.out) hW) 0 rfl) Tryd.underlying9 rfl rfl rfl)) ?_
    simp only [ptr, Act.put, zA]
    refine wpX_q (.pointer (some ⟨bs, 0, none⟩)) rfl (by kernel_rfl) (fun v hW => rfl) ?_
    simp only [ptr, Act.put, zA]
    refine wpX_q (.pointer (some ⟨bs, 0, none⟩)) rfl (by kernel_rfl) (fun v hW => (xo_nil _ rfl rfl)) ?_
    simp only [ptr, Act.put, zA]
    refine wpX_q (.pointer (some ⟨bs, 1, none⟩)) rfl (by kernel_rfl) (fun v hW => (xo_fld0 1 bs 1 (by kernel_rfl) rfl rfl)) ?_
    simp only [ptr, Act.put, zA]
    refine wpX_q (.int .i64 (j : Int)) rfl (by kernel_rfl) (fun v hW => (xo_load1 ⟨bs, 1, none⟩ _ (cells_at (heap_keep (heap_keep Hpbs.out B1.out) hW) 1 rfl) Tryd.underlying3 rfl rfl rfl)) ?_
    simp only [ptr, Act.put, zA]
    refine wpX_q (.int .u8 ((bb.toNat : Nat) : Int)) rfl (by kernel_rfl) (fun v hW => (xs_idx s j bb HEb.out Tryd.underlying9 rfl rfl rfl)) ?_
    simp only [ptr, Act.put, zA]
    refine wpX_one rfl (by kernel_rfl) ?_
    refine hOp_callA 53 Tryd.func53 (by kernel_rfl) (by kernel_rfl) 21 _ #[] _ rfl rfl #[.int .u8 ((bb.toNat : Nat) : Int)] (by kernel_rfl) ?_
    try simp only [List.append_toArray, List.append_nil, List.nil_append, List.cons_append]
    refine (space_as bb false hpb V2).mono ?_
    rintro e W1 ⟨rfl, hw1⟩
    rw [hw1]
    clear hw1 W1
    refine ⟨_, rfl, (Below.refl V2.heap.size V2), ?_⟩
    simp only [ptr, Act.put, zA]
    refine wpX_q (.bool false) rfl (by kernel_rfl) (fun v hW => rfl) ?_
    simp only [ptr, Act.put, zA]
    refine wpX_nil ?_
    have HRE : Hid (Qu.runE Qu.isSp s i = j) := zh (HRUN.out.trans (Qu.runE_no HEb.out hpb))
    have hln := HN.out
    go_upto_region 4 with fail
    refine wp_later_lex (by kernel_rfl) (lexOK_of (by kernel_rfl) (by kernel_rfl)) ?_
    refine zv (.pointer (some ⟨bs, 0, none⟩)) (fun v hv => rfl) ?_
    simp only [Act.put, zA]
    refine zv (.pointer (some ⟨bs, 0, none⟩)) (fun v hv => (xo_nil _ rfl rfl)) ?_
    simp only [Act.put, zA]
    refine zv (.pointer (some ⟨bs, 0, none⟩)) (fun v hv => (xo_fld0 0 bs 0 (by kernel_rfl) rfl rfl)) ?_
    simp only [Act.put, zA]
    refine zv (.string (sB s)) (fun v hv => (xo_load1 ⟨bs, 0, none⟩ _ (cells_at (heap_keep (heap_keep Hpbs.out B1.out) (later_bel hv)) 0 rfl) Tryd.underlying9 rfl rfl rfl)) ?_
    simp only [Act.put, zA]
    refine zv (.int .i64 (i : Int)) (fun v hv => rfl) ?_
    simp only [Act.put, zA]
    refine zv (.pointer (some ⟨bs, 0, none⟩)) (fun v hv => rfl) ?_
    simp only [Act.put, zA]
    refine zv (.pointer (some ⟨bs, 0, none⟩)) (fun v hv => (xo_nil _ rfl rfl)) ?_
    simp only [Act.put, zA]
    refine zv (.pointer (some ⟨bs, 1, none⟩)) (fun v hv => (xo_fld0 1 bs 1 (by kernel_rfl) rfl rfl)) ?_
    simp only [Act.put, zA]
    refine zv (.int .i64 (j : Int)) (fun v hv => (xo_load1 ⟨bs, 1, none⟩ _ (cells_at (heap_keep (heap_keep Hpbs.out B1.out) (later_bel hv)) 1 rfl) Tryd.underlying3 rfl rfl rfl)) ?_
    simp only [Act.put, zA]
    refine zv (.string (sB ((s.take j).drop i))) (fun v hv => (xs_cut s i j (by omega) (by omega) Tryd.underlying9 rfl rfl rfl rfl)) ?_
    simp only [Act.put, zA]
    refine zv (.string (sB ((s.take j).drop i))) (fun v hv => rfl) ?_
    simp only [Act.put, zA]
    refine wpQuiet_nil ?_
    intro X2_1
    have hb := X2_1.below
    generalize X2_1.at = V3 at *
    have B2 := zh hb
    clear hb
    clear hln
    have C1_3 := zb B1 B2
    have hsf := (heap_keep Hpbs.out C1_3.out)
    have C0_2 := zb B0 B1
    have C0_3 := zb C0_2 B2
    have hff := farc_mk (HF.out.keep C1_3.out) HVW.out C0_3.out
    have hre := HRE.out
    go_wp2_with fail
    go_ret
    first | exact ⟨rfl, hsf, hff⟩ | (rw [hre]; exact ⟨rfl, hsf, hff⟩)
  ·have hci0 : ¬ ((j : Int) < (n : Int)) := by omega
   obtain rfl : n = j := by omega
   go_upto_region 2 with fail
   try simp only [List.append_eq, List.cons_append, List.nil_append]
   refine wp_ordX (.q 0 (.q 1 (.q 2 (.q 3 (.q 4 (.q 5 (.q 6 (.q 7 (.q 8 (.q 9 (.q 10 (.q 11 (.q 12 (.q 13 (.q 14 (.q 15 (.q 16 (.q 17 (.q 18 (.q 19 (.q 20 (.q 21 (.q 22 .nil))))))))))))))))))))))) (by kernel_rfl) (by kernel_rfl) (fun _ _ dt _ _ h => by first | exact h.elim | (cases dt <;> exact h)) (by kernel_rfl) (by kernel_rfl) (fun V2 hb => ?_)
   have B1 := zh hb
   clear hb
   refine wpX_q (.pointer (some ⟨bs, 0, none⟩)) rfl (by kernel_rfl) (fun v hW => rfl) ?_
   simp only [ptr, Act.put, zA]
   refine wpX_q (.pointer (some ⟨bs, 0, none⟩)) rfl (by kernel_rfl) (fun v hW => (xo_nil _ rfl rfl)) ?_
   simp only [ptr, Act.put, zA]
   refine wpX_q (.pointer (some ⟨bs, 1, none⟩)) rfl (by kernel_rfl) (fun v hW => (xo_fld0 1 bs 1 (by kernel_rfl) rfl rfl)) ?_
   simp only [ptr, Act.put, zA]
   refine wpX_q (.int .i64 (n : Int)) rfl (by kernel_rfl) (fun v hW => (xo_load1 ⟨bs, 1, none⟩ _ (cells_at (heap_keep (heap_keep Hpbs.out B1.out) hW) 1 rfl) Tryd.underlying3 rfl rfl rfl)) ?_
   simp only [ptr, Act.put, zA]
   refine wpX_q (.pointer (some ⟨bs, 0, none⟩)) rfl (by kernel_rfl) (fun v hW => rfl) ?_
   simp only [ptr, Act.put, zA]
   refine wpX_q (.pointer (some ⟨bs, 0, none⟩)) rfl (by kernel_rfl) (fun v hW => (xo_nil _ rfl rfl)) ?_
   simp only [ptr, Act.put, zA]
   refine wpX_q (.pointer (some ⟨bs, 0, none⟩)) rfl (by kernel_rfl) (fun v hW => (xo_fld0 0 bs 0 (by kernel_rfl) rfl rfl)) ?_
   simp only [ptr, Act.put, zA]
   refine wpX_q (.string (sB s)) rfl (by kernel_rfl) (fun v hW => (xo_load1 ⟨bs, 0, none⟩ _ (cells_at (heap_keep (heap_keep Hpbs.out B1.out) hW) 0 rfl) Tryd.underlying9 rfl rfl rfl)) ?_
   simp only [ptr, Act.put, zA]
   refine wpX_q (.int .i64 (n : Int)) rfl (by kernel_rfl) (fun v hW => (xs_lenN s n HN.out Tryd.underlying9 rfl rfl)) ?_
   simp only [ptr, Act.put, zA]
   refine wpX_q (.bool false) rfl (by kernel_rfl) (fun v hW => (xo_lssF .i64 (n : Int) (n : Int) (by omega) rfl rfl rfl)) ?_
   simp only [ptr, Act.put, zA]
   refine wpX_q (.bool false) rfl (by kernel_rfl) (fun v hW => rfl) ?_
   simp only [ptr, Act.put, zA]
   refine wpX_skip rfl (by kernel_rfl) ?_
   try simp only [ptr, Act.put, zA]
   refine wpX_skip rfl (by kernel_rfl) ?_
   try simp only [ptr, Act.put, zA]
   refine wpX_skip rfl (by kernel_rfl) ?_
   try simp only [ptr, Act.put, zA]
   refine wpX_skip rfl (by kernel_rfl) ?_
   try simp only [ptr, Act.put, zA]
   refine wpX_skip rfl (by kernel_rfl) ?_
   try simp only [ptr, Act.put, zA]
   refine wpX_skip rfl (by kernel_rfl) ?_
   try simp only [ptr, Act.put, zA]
   refine wpX_skip rfl (by kernel_rfl) ?_
   try simp only [ptr, Act.put, zA]
   refine wpX_skip rfl (by kernel_rfl) ?_
   try simp only [ptr, Act.put, zA]
   refine wpX_skip rfl (by kernel_rfl) ?_
   try simp only [ptr, Act.put, zA]
   refine wpX_skip rfl (by kernel_rfl) ?_
   try simp only [ptr, Act.put, zA]
   refine wpX_skip rfl (by kernel_rfl) ?_
   try simp only [ptr, Act.put, zA]
   refine wpX_q (.bool false) rfl (by kernel_rfl) (fun v hW => rfl) ?_
   simp only [ptr, Act.put, zA]
   refine wpX_nil ?_
   have HRE : Hid (Qu.runE Qu.isSp s i = n) := zh (HRUN.out.trans (Qu.runE_end (by rw [HN.out]; exact Nat.le_refl _)))
   have hln := HN.out
   go_upto_region 4 with fail
   refine wp_later_lex (by kernel_rfl) (lexOK_of (by kernel_rfl) (by kernel_rfl)) ?_
   refine zv (.pointer (some ⟨bs, 0, none⟩)) (fun v hv => rfl) ?_
   simp only [Act.put, zA]
   refine zv (.pointer (some ⟨bs, 0, none⟩)) (fun v hv => (xo_nil _ rfl rfl)) ?_
   simp only [Act.put, zA]
   refine zv (.pointer (some ⟨bs, 0, none⟩)) (fun v hv => (xo_fld0 0 bs 0 (by kernel_rfl) rfl rfl)) ?_
   simp only [Act.put, zA]
   refine zv (.string (sB s)) (fun v hv => (xo_load1 ⟨bs, 0, none⟩ _ (cells_at (heap_keep (heap_keep Hpbs.out B1.out) (later_bel hv)) 0 rfl) Tryd.underlying9 rfl rfl rfl)) ?_
   simp only [Act.put, zA]
   refine zv (.int .i64 (i : Int)) (fun v hv => rfl) ?_
   simp only [Act.put, zA]
   refine zv (.pointer (some ⟨bs, 0, none⟩)) (fun v hv => rfl) ?_
   simp only [Act.put, zA]
   refine zv (.pointer (some ⟨bs, 0, none⟩)) (fun v hv => (xo_nil _ rfl rfl)) ?_
   simp only [Act.put, zA]
   refine zv (.pointer (some ⟨bs, 1, none⟩)) (fun v hv => (xo_fld0 1 bs 1 (by kernel_rfl) rfl rfl)) ?_
   simp only [Act.put, zA]
   refine zv (.int .i64 (n : Int)) (fun v hv => (xo_load1 ⟨bs, 1, none⟩ _ (cells_at (heap_keep (heap_keep Hpbs.out B1.out) (later_bel hv)) 1 rfl) Tryd.underlying3 rfl rfl rfl)) ?_
   simp only [Act.put, zA]
   refine zv (.string (sB ((s.take n).drop i))) (fun v hv => (xs_cut s i n (by omega) (by omega) Tryd.underlying9 rfl rfl rfl rfl)) ?_
   simp only [Act.put, zA]
   refine zv (.string (sB ((s.take n).drop i))) (fun v hv => rfl) ?_
   simp only [Act.put, zA]
   refine wpQuiet_nil ?_
   intro X2_1
   have hb := X2_1.below
   generalize X2_1.at = V3 at *
   have B2 := zh hb
   clear hb
   clear hln
   have C1_3 := zb B1 B2
   have hsf := (heap_keep Hpbs.out C1_3.out)
   have C0_2 := zb B0 B1
   have C0_3 := zb C0_2 B2
   have hff := farc_mk (HF.out.keep C1_3.out) HVW.out C0_3.out
   have hre := HRE.out
   go_wp2_with fail
   go_ret
   first | exact ⟨rfl, hsf, hff⟩ | (rw [hre]; exact ⟨rfl, hsf, hff⟩)
set_option maxRecDepth 100000 in
set_option maxHeartbeats 16000000 in
theorem skip_letter (s : List UInt8) (hs4 : s.length ≤ 1000) (bs : Nat) (i : Nat) (hi : i ≤ s.length) (w : World) (hS : w.heap[bs]? = some (.cells #[.string (sB s), .int .i64 (i : Int)] 66 (0, 0))) :
  Calls Tryd.prog 52 #[.pointer (some ⟨bs, 0, none⟩), .func (.func 54) #[] #[]] w fun e w' => e = .returned (.string (sB ((s.take (Qu.runE Qu.isLt s i)).drop i))) ∧ w'.heap[bs]? = some (.cells #[.string (sB s), .int .i64 ((Qu.runE Qu.isLt s i : Nat) : Int)] 66 (0, 0)) ∧ FarC bs bs w w' := by
 obtain ⟨V, hV0, hV⟩ := base_world w
 have B0 := zh hV
 have HVW := zh hV
 clear hV
 have HF := zh (FarH.refl bs bs w)
 obtain ⟨n, hn⟩ : ∃ n, s.length = n := ⟨_, rfl⟩
 have HN := zh hn
 rw [hn] at hs4 hi
 have Hpbs : Hid (w.heap[bs]? = some (.cells #[.string (sB s), .int .i64 (i : Int)] 66 (0, 0))) := zh (hS)
 have Gpbs : Hid (V.heap.size ≤ bs) := zh (by omega)
 have Lpbs : Hid (bs < w.heap.size) := zh (xp_lt Hpbs.out)
 clear hS hn
 go_enter Tryd.func52, Tryd.ntmps52
 go_upto_region 1 with fail
 refine wp_region_lit ?_
 refine zr (.pointer (some ⟨bs, 0, none⟩)) w rfl ?_
 simp only [Act.put, zA]
 refine zr (.pointer (some ⟨bs, 0, none⟩)) w (xo_nil _ rfl rfl) ?_
 simp only [Act.put, zA]
 refine zr (.pointer (some ⟨bs, 1, none⟩)) w (xo_fld0 1 bs 1 (by kernel_rfl) rfl rfl) ?_
 simp only [Act.put, zA]
 refine zr (.int .i64 (i : Int)) w (xo_load1 ⟨bs, 1, none⟩ _ (cells_at Hpbs.out 1 rfl) Tryd.underlying3 rfl rfl rfl) ?_
 simp only [Act.put, zA]
 refine zr (.int .i64 (i : Int)) w rfl ?_
 simp only [Act.put, zA]
 refine wpList_nil ?_
 have o0 := Hpbs.out
 have f0 := HF.out
 have b0 := B0.out
 go_wp2_with fail
 go_loopw [] (fun wr => ∃ j : Nat, i ≤ j ∧ j ≤ n ∧ Qu.runE Qu.isLt s i = Qu.runE Qu.isLt s j ∧ wr.heap[bs]? = some (.cells #[.string (sB s), .int .i64 (j : Int)] 66 (0, 0)) ∧ FarH bs bs w wr ∧ Below V.heap.size V wr) (fun wr => n - scAt wr bs)
 case atStart => exact ⟨i, Nat.le_refl _, hi, rfl, o0, f0, b0⟩
 case round =>
  clear o0 f0 b0 B0 HF Hpbs
  obtain ⟨wo, rfl⟩ : ∃ wo : World, wo = wr := ⟨_, rfl⟩
  obtain ⟨j, hij, hj, hrun, hsc, hfh, hbb⟩ := hrel
  have B0 := zh hbb
  have HF := zh hfh
  have Hpbs := zh hsc
  have HRUN := zh hrun
  have HAT := zh (scAt_of hsc)
  clear hbb hfh hsc hrun
  by_cases hjn : j < n
  ·have hci0 : ((j : Int) < (n : Int)) := by omega
   obtain ⟨bb, hbb⟩ : ∃ b, s[j]? = some b := ⟨_, List.getElem?_eq_getElem (by rw [HN.out]; exact hjn)⟩
   have HEb := zh hbb
   clear hbb
   cases hpb : Qu.isLt bb with
   | true =>
    go_upto_region 2 with fail
    try simp only [List.append_eq, List.cons_append, List.nil_append]
    refine wp_ordX (.q 0 (.q 1 (.q 2 (.q 3 (.q 4 (.q 5 (.q 6 (.q 7 (.q 8 (.q 9 (.q 10 (.q 11 (.q 12 (.q 13 (.q 14 (.q 15 (.q 16 (.q 17 (.q 18 (.q 19 (.q 20 (.one 21 (.q 22 .nil))))))))))))))))))))))) (by kernel_rfl) (by kernel_rfl) (fun _ _ dt _ _ h => by first | exact h.elim | (cases dt <;> exact h)) (by kernel_rfl) (by kernel_rfl) (fun V2 hb => ?_)
    have B1 := zh hb
    clear hb
    refine wpX_q (.pointer (some ⟨bs, 0, none⟩)) rfl (by kernel_rfl) (fun v hW => rfl) ?_
    simp only [ptr, Act.put, zA]
    refine wpX_q (.pointer (some ⟨bs, 0, none⟩)) rfl (by kernel_rfl) (fun v hW => (xo_nil _ rfl rfl)) ?_
    simp only [ptr, Act.put, zA]
    refine wpX_q (.pointer (some ⟨bs, 1, none⟩)) rfl (by kernel_rfl) (fun v hW => (xo_fld0 1 bs 1 (by kernel_rfl) rfl rfl)) ?_
    simp only [ptr, Act.put, zA]
    refine wpX_q (.int .i64 (j : Int)) rfl (by kernel_rfl) (fun v hW => (xo_load1 ⟨bs, 1, none⟩ _ (cells_at (heap_keep (heap_keep Hpbs.out B1.out) hW) 1 rfl) Tryd.underlying3 rfl rfl rfl)) ?_
    simp only [ptr, Act.put, zA]
    refine wpX_q (.pointer (some ⟨bs, 0, none⟩)) rfl (by kernel_rfl) (fun v hW => rfl) ?_
    simp only [ptr, Act.put, zA]
    refine wpX_q (.pointer (some ⟨bs, 0, none⟩)) rfl (by kernel_rfl) (fun v hW => (xo_nil _ rfl rfl)) ?_
    simp only [ptr, Act.put, zA]
    refine wpX_q (.pointer (some ⟨bs, 0, none⟩)) rfl (by kernel_rfl) (fun v hW => (xo_fld0 0 bs 0 (by kernel_rfl) rfl rfl)) ?_
    simp only [ptr, Act.put, zA]
    refine wpX_q (.string (sB s)) rfl (by kernel_rfl) (fun v hW => (xo_load1 ⟨bs, 0, none⟩ _ (cells_at (heap_keep (heap_keep Hpbs.out B1.out) hW) 0 rfl) Tryd.underlying9 rfl rfl rfl)) ?_
    simp only [ptr, Act.put, zA]
    refine wpX_q (.int .i64 (n : Int)) rfl (by kernel_rfl) (fun v hW => (xs_lenN s n HN.out Tryd.underlying9 rfl rfl)) ?_
    simp only [ptr, Act.put, zA]
    refine wpX_q (.bool true) rfl (by kernel_rfl) (fun v hW => (xo_lssT .i64 (j : Int) (n : Int) (by omega) rfl rfl rfl)) ?_
    simp only [ptr, Act.put, zA]
    refine wpX_q (.bool true) rfl (by kernel_rfl) (fun v hW => rfl) ?_
    simp only [ptr, Act.put, zA]
    refine wpX_q (.func (.func 54) #[] #[]) rfl (by kernel_rfl) (fun v hW => rfl) ?_
    simp only [ptr, Act.put, zA]
    refine wpX_q (.pointer (some ⟨bs, 0, none⟩)) rfl (by kernel_rfl) (fun v hW => rfl) ?_
    simp only [ptr, Act.put, zA]
    refine wpX_q (.pointer (some ⟨bs, 0, none⟩)) rfl (by kernel_rfl) (fun v hW => (xo_nil _ rfl rfl)) ?_
    simp only [ptr, Act.put, zA]
    refine wpX_q (.pointer (some ⟨bs, 0, none⟩)) rfl (by kernel_rfl) (fun v hW => (xo_fld0 0 bs 0 (by kernel_rfl) rfl rfl)) ?_
    simp only [ptr, Act.put, zA]
    refine wpX_q (.string (sB s)) rfl (by kernel_rfl) (fun v hW => (xo_load1 ⟨bs, 0, none⟩ _ (cells_at (heap_keep (heap_keep Hpbs.out B1.out) hW) 0 rfl) Tryd.underlying9 rfl rfl rfl)) ?_
    simp only [ptr, Act.put, zA]
    refine wpX_q (.pointer (some ⟨bs, 0, none⟩)) rfl (by kernel_rfl) (fun v hW => rfl) ?_
    simp only [ptr, Act.put, zA]
    refine wpX_q (.pointer (some ⟨bs, 0, none⟩)) rfl (by kernel_rfl) (fun v hW => (xo_nil _ rfl rfl)) ?_
    simp only [ptr, Act.put, zA]
    refine wpX_q (.pointer (some ⟨bs, 1, none⟩)) rfl (by kernel_rfl) (fun v hW => (xo_fld0 1 bs 1 (by kernel_rfl) rfl rfl)) ?_
    simp only [ptr, Act.put, zA]
    refine wpX_q (.int .i64 (j : Int)) rfl (by kernel_rfl) (fun v hW => (xo_load1 ⟨bs, 1, none⟩ _ (cells_at (heap_keep (heap_keep Hpbs.out B1.out) hW) 1 rfl) Tryd.underlying3 rfl rfl rfl)) ?_
    simp only [ptr, Act.put, zA]
    refine wpX_q (.int .u8 ((bb.toNat : Nat) : Int)) rfl (by kernel_rfl) (fun v hW => (xs_idx s j bb HEb.out Tryd.underlying9 rfl rfl rfl)) ?_
    simp only [ptr, Act.put, zA]
    refine wpX_one rfl (by kernel_rfl) ?_
    refine hOp_callA 54 Tryd.func54 (by kernel_rfl) (by kernel_rfl) 21 _ #[] _ rfl rfl #[.int .u8 ((bb.toNat : Nat) : Int)] (by kernel_rfl) ?_
    try simp only [List.append_toArray, List.append_nil, List.nil_append, List.cons_append]
    refine (letter_as bb true hpb V2).mono ?_
    rintro e W1 ⟨rfl, hw1⟩
    rw [hw1]
    clear hw1 W1
    refine ⟨_, rfl, (Below.refl V2.heap.size V2), ?_⟩
    simp only [ptr, Act.put, zA]
    refine wpX_q (.bool true) rfl (by kernel_rfl) (fun v hW => rfl) ?_
    simp only [ptr, Act.put, zA]
    refine wpX_nil ?_
    go_upto_region 3 with fail
    refine wp_region_lit ?_
    refine zr (.pointer (some ⟨bs, 0, none⟩)) V2 rfl ?_
    simp only [Act.put, zA]
    refine zr (.pointer (some ⟨bs, 0, none⟩)) V2 (xo_nil _ rfl rfl) ?_
    simp only [Act.put, zA]
    refine zr (.pointer (some ⟨bs, 1, none⟩)) V2 (xo_fld0 1 bs 1 (by kernel_rfl) rfl rfl) ?_
    simp only [Act.put, zA]
    refine zr (.int .i64 (j : Int)) V2 (xo_load1 ⟨bs, 1, none⟩ _ (cells_at (heap_keep Hpbs.out B1.out) 1 rfl) Tryd.underlying3 rfl rfl rfl) ?_
    simp only [Act.put, zA]
    refine zr (.int .i64 ((j + 1 : Nat) : Int)) V2 (xo_addI (j : Int) 1 ((j + 1 : Nat) : Int) (by omega) (by omega) (by omega) rfl rfl rfl) ?_
    simp only [Act.put, zA]
    refine zr (.pointer (some ⟨bs, 0, none⟩)) V2 (xo_nil _ rfl rfl) ?_
    simp only [Act.put, zA]
    refine zr (.pointer (some ⟨bs, 1, none⟩)) V2 (xo_fld0 1 bs 1 (by kernel_rfl) rfl rfl) ?_
    simp only [Act.put, zA]
    refine wpList_store1 bs 1 #[.string (sB s), .int .i64 (j : Int)] (.int .i64 ((j + 1 : Nat) : Int)) 66 (by kernel_rfl) (heap_keep Hpbs.out B1.out) (xo_store1 bs 1 #[.string (sB s), .int .i64 (j : Int)] _ (.int .i64 ((j + 1 : Nat) : Int)) (heap_keep Hpbs.out B1.out) rfl (by kernel_rfl) rfl rfl rfl rfl) ?_
    intro X2_1 h1 hfar hbel hsz
    have YHF : FarH bs bs w X2_1 := FarH.store (HF.out.keep B1.out) (.inl rfl) hsz hfar
    have C0_2 := zb B0 B1
    have hbr := hbel _ _ Gpbs.out C0_2.out
    clear B0
    have B0 := zh hbr
    clear hbr
    clear HF
    have HF := zh YHF
    clear YHF
    clear Hpbs
    have Hpbs : Hid (X2_1.heap[bs]? = some (.cells #[.string (sB s), .int .i64 ((j + 1 : Nat) : Int)] 66 (0, 0))) := zh (h1)
    have HszX2_1 := zh hsz
    clear h1 hfar hbel hsz
    simp only [ptr, Act.put, zA]
    refine wpList_nil ?_
    have hsf := Hpbs.out
    have hff := HF.out
    have hbf := B0.out
    have hr2 : Qu.runE Qu.isLt s i = Qu.runE Qu.isLt s (j + 1) := HRUN.out.trans (Qu.runE_yes HEb.out hpb)
    have hat := scAt_of hsf
    go_wp2_with fail
    go_roundw
    case rel => exact ⟨j + 1, by omega, by omega, hr2, hsf, hff, hbf⟩
    case measure => rw [hat, HAT.out]; omega
   | false =>
    go_upto_region 2 with fail
    try simp only [List.append_eq, List.cons_append, List.nil_append]
    refine wp_ordX (.q 0 (.q 1 (.q 2 (.q 3 (.q 4 (.q 5 (.q 6 (.q 7 (.q 8 (.q 9 (.q 10 (.q 11 (.q 12 (.q 13 (.q 14 (.q 15 (.q 16 (.q 17 (.q 18 (.q 19 (.q 20 (.one 21 (.q 22 .nil))))))))))))))))))))))) (by kernel_rfl) (by kernel_rfl) (fun _ _ dt _ _ h => by first | exact h.elim | (cases dt <;> exact h)) (by kernel_rfl) (by kernel_rfl) (fun V2 hb => ?_)
    have B1 := zh hb
    clear hb
    refine wpX_q (.pointer (some ⟨bs, 0, none⟩)) rfl (by kernel_rfl) (fun v hW => rfl) ?_
    simp only [ptr, Act.put, zA]
    refine wpX_q (.pointer (some ⟨bs, 0, none⟩)) rfl (by kernel_rfl) (fun v hW => (xo_nil _ rfl rfl)) ?_
    simp only [ptr, Act.put, zA]
    refine wpX_q (.pointer (some ⟨bs, 1, none⟩)) rfl (by kernel_rfl) (fun v hW => (xo_fld0 1 bs 1 (by kernel_rfl) rfl rfl)) ?_
    simp only [ptr, Act.put, zA]
    refine wpX_q (.int .i64 (j : Int)) rfl (by kernel_rfl) (fun v hW => (xo_load1 ⟨bs, 1, none⟩ _ (cells_at (heap_keep (heap_keep Hpbs.out B1.out) hW) 1 rfl) Tryd.underlying3 rfl rfl rfl)) ?_
    simp only [ptr, Act.put, zA]
    refine wpX_q (.pointer (some ⟨bs, 0, none⟩)) rfl (by kernel_rfl) (fun v hW => rfl) ?_
    simp only [ptr, Act.put, zA]
    refine wpX_q (.pointer (some ⟨bs, 0, none⟩)) rfl (by kernel_rfl) (fun v hW => (xo_nil _ rfl rfl)) ?_
    simp only [ptr, Act.put, zA]
    refine wpX_q (.pointer (some ⟨bs, 0, none⟩)) rfl (by kernel_rfl) (fun v hW => (xo_fld0 0 bs 0 (by kernel_rfl) rfl rfl)) ?_
    simp only [ptr, Act.put, zA]
    refine wpX_q (.string (sB s)) rfl (by kernel_rfl) (fun v hW => (xo_load1 ⟨bs, 0, none⟩ _ (cells_at (heap_keep (heap_keep Hpbs.out B1.out) hW) 0 rfl) Tryd.underlying9 rfl rfl rfl)) ?_
    simp only [ptr, Act.put, zA]
    refine wpX_q (.int .i64 (n : Int)) rfl (by kernel_rfl) (fun v hW => (xs_lenN s n HN.out Tryd.underlying9 rfl rfl)) ?_
    simp only [ptr, Act.put, zA]
    refine wpX_q (.bool true) rfl (by kernel_rfl) (fun v hW => (xo_lssT .i64 (j : Int) (n : Int) (by omega) rfl rfl rfl)) ?_
    simp only [ptr, Act.put, zA]
    refine wpX_q (.bool true) rfl (by kernel_rfl) (fun v hW => rfl) ?_
    simp only [ptr, Act.put, zA]
    refine wpX_q (.func (.func 54) #[] #[]) rfl (by kernel_rfl) (fun v hW => rfl) ?_
    simp only [ptr, Act.put, zA]
    refine wpX_q (.pointer (some ⟨bs, 0, none⟩)) rfl (by kernel_rfl) (fun v hW => rfl) ?_
    simp only [ptr, Act.put, zA]
    refine wpX_q (.pointer (some ⟨bs, 0, none⟩)) rfl (by kernel_rfl) (fun v hW => (xo_nil _ rfl rfl)) ?_
    simp only [ptr, Act.put, zA]
    refine wpX_q (.pointer (some ⟨bs, 0, none⟩)) rfl (by kernel_rfl) (fun v hW => (xo_fld0 0 bs 0 (by kernel_rfl) rfl rfl)) ?_
    simp only [ptr, Act.put, zA]
    refine wpX_q (.string (sB s)) rfl (by kernel_rfl) (fun v hW => (xo_load1 ⟨bs, 0, none⟩ _ (cells_at (heap_keep (heap_keep Hpbs.out B1.out) hW) 0 rfl) Tryd.underlying9 rfl rfl rfl)) ?_
    simp only [ptr, Act.put, zA]
    refine wpX_q (.pointer (some ⟨bs, 0, none⟩)) rfl (by kernel_rfl) (fun v hW => rfl) ?_
    simp only [ptr, Act.put, zA]
    refine wpX_q (.pointer (some ⟨bs, 0, none⟩)) rfl (by kernel_rfl) (fun v hW => (xo_nil _ rfl rfl)) ?_
    simp only [ptr, Act.put, zA]
    refine wpX_q (.pointer (some ⟨bs, 1, none⟩)) rfl (by kernel_rfl) (fun v hW => (xo_fld0 1 bs 1 (by kernel_rfl) rfl rfl)) ?_
    simp only [ptr, Act.put, zA]
    refine wpX_q (.int .i64 (j : Int)) rfl (by kernel_rfl) (fun v hW => (xo_load1 ⟨bs, 1, none⟩ _ (cells_at (heap_keep (heap_keep Hpbs.out B1.out) hW) 1 rfl) Tryd.underlying3 rfl rfl rfl)) ?_
    simp only [ptr, Act.put, zA]
    refine wpX_q (.int .u8 ((bb.toNat : Nat) : Int)) rfl (by kernel_rfl) (fun v hW => (xs_idx s j bb HEb.out Tryd.underlying9 rfl rfl rfl)) ?_
    simp only [ptr, Act.put, zA]
    refine wpX_one rfl (by kernel_rfl) ?_
    refine hOp_callA 54 Tryd.func54 (by kernel_rfl) (by kernel_rfl) 21 _ #[] _ rfl rfl #[.int .u8 ((bb.toNat : Nat) : Int)] (by kernel_rfl) ?_
    try simp only [List.append_toArray, List.append_nil, List.nil_append, List.cons_append]
    refine (letter_as bb false hpb V2).mono ?_
    rintro e W1 ⟨rfl, hw1⟩
    rw [hw1]
    clear hw1 W1
    refine ⟨_, rfl, (Below.refl V2.heap.size V2), ?_⟩
    simp only [ptr, Act.put, zA]
    refine wpX_q (.bool false) rfl (by kernel_rfl) (fun v hW => rfl) ?_
    simp only [ptr, Act.put, zA]
    refine wpX_nil ?_
    have HRE : Hid (Qu.runE Qu.isLt s i = j) := zh (HRUN.out.trans (Qu.runE_no HEb.out hpb))
    have hln := HN.out
    go_upto_region 4 with fail
    refine wp_later_lex (by kernel_rfl) (lexOK_of (by kernel_rfl) (by kernel_rfl)) ?_
    refine zv (.pointer (some ⟨bs, 0, none⟩)) (fun v hv => rfl) ?_
    simp only [Act.put, zA]
    refine zv (.pointer (some ⟨bs, 0, none⟩)) (fun v hv => (xo_nil _ rfl rfl)) ?_
    simp only [Act.put, zA]
    refine zv (.pointer (some ⟨bs, 0, none⟩)) (fun v hv => (xo_fld0 0 bs 0 (by kernel_rfl) rfl rfl)) ?_
    simp only [Act.put, zA]
    refine zv (.string (sB s)) (fun v hv => (xo_load1 ⟨bs, 0, none⟩ _ (cells_at (heap_keep (heap_keep Hpbs.out B1.out) (later_bel hv)) 0 rfl) Tryd.underlying9 rfl rfl rfl)) ?_
    simp only [Act.put, zA]
    refine zv (.int .i64 (i : Int)) (fun v hv => rfl) ?_
    simp only [Act.put, zA]
    refine zv (.pointer (some ⟨bs, 0, none⟩)) (fun v hv => rfl) ?_
    simp only [Act.put, zA]
    refine zv (.pointer (some ⟨bs, 0, none⟩)) (fun v hv => (xo_nil _ rfl rfl)) ?_
    simp only [Act.put, zA]
    refine zv (.pointer (some ⟨bs, 1, none⟩)) (fun v hv => (xo_fld0 1 bs 1 (by kernel_rfl) rfl rfl)) ?_
    simp only [Act.put, zA]
    refine zv (.int .i64 (j : Int)) (fun v hv => (xo_load1 ⟨bs, 1, none⟩ _ (cells_at (heap_keep (heap_keep Hpbs.out B1.out) (later_bel hv)) 1 rfl) Tryd.underlying3 rfl rfl rfl)) ?_
    simp only [Act.put, zA]
    refine zv (.string (sB ((s.take j).drop i))) (fun v hv => (xs_cut s i j (by omega) (by omega) Tryd.underlying9 rfl rfl rfl rfl)) ?_
    simp only [Act.put, zA]
    refine zv (.string (sB ((s.take j).drop i))) (fun v hv => rfl) ?_
    simp only [Act.put, zA]
    refine wpQuiet_nil ?_
    intro X2_1
    have hb := X2_1.below
    generalize X2_1.at = V3 at *
    have B2 := zh hb
    clear hb
    clear hln
    have C1_3 := zb B1 B2
    have hsf := (heap_keep Hpbs.out C1_3.out)
    have C0_2 := zb B0 B1
    have C0_3 := zb C0_2 B2
    have hff := farc_mk (HF.out.keep C1_3.out) HVW.out C0_3.out
    have hre := HRE.out
    go_wp2_with fail
    go_ret
    first | exact ⟨rfl, hsf, hff⟩ | (rw [hre]; exact ⟨rfl, hsf, hff⟩)
  ·have hci0 : ¬ ((j : Int) < (n : Int)) := by omega
   obtain rfl : n = j := by omega
   go_upto_region 2 with fail
   try simp only [List.append_eq, List.cons_append, List.nil_append]
   refine wp_ordX (.q 0 (.q 1 (.q 2 (.q 3 (.q 4 (.q 5 (.q 6 (.q 7 (.q 8 (.q 9 (.q 10 (.q 11 (.q 12 (.q 13 (.q 14 (.q 15 (.q 16 (.q 17 (.q 18 (.q 19 (.q 20 (.q 21 (.q 22 .nil))))))))))))))))))))))) (by kernel_rfl) (by kernel_rfl) (fun _ _ dt _ _ h => by first | exact h.elim | (cases dt <;> exact h)) (by kernel_rfl) (by kernel_rfl) (fun V2 hb => ?_)
   have B1 := zh hb
   clear hb
   refine wpX_q (.pointer (some ⟨bs, 0, none⟩)) rfl (by kernel_rfl) (fun v hW => rfl) ?_
   simp only [ptr, Act.put, zA]
   refine wpX_q (.pointer (some ⟨bs, 0, none⟩)) rfl (by kernel_rfl) (fun v hW => (xo_nil _ rfl rfl)) ?_
   simp only [ptr, Act.put, zA]
   refine wpX_q (.pointer (some ⟨bs, 1, none⟩)) rfl (by kernel_rfl) (fun v hW => (xo_fld0 1 bs 1 (by kernel_rfl) rfl rfl)) ?_
   simp only [ptr, Act.put, zA]
   refine wpX_q (.int .i64 (n : Int)) rfl (by kernel_rfl) (fun v hW => (xo_load1 ⟨bs, 1, none⟩ _ (cells_at (heap_keep (heap_keep Hpbs.out B1.out) hW) 1 rfl) Tryd.underlying3 rfl rfl rfl)) ?_
   simp only [ptr, Act.put, zA]
   refine wpX_q (.pointer (some ⟨bs, 0, none⟩)) rfl (by kernel_rfl) (fun v hW => rfl) ?_
   simp only [ptr, Act.put, zA]
   refine wpX_q (.pointer (some ⟨bs, 0, none⟩)) rfl (by kernel_rfl) (fun v hW => (xo_nil _ rfl rfl)) ?_
   simp only [ptr, Act.put, zA]
   refine wpX_q (.pointer (some ⟨bs, 0, none⟩)) rfl (by kernel_rfl) (fun v hW => (xo_fld0 0 bs 0 (by kernel_rfl) rfl rfl)) ?_
   simp only [ptr, Act.put, zA]
   refine wpX_q (.string (sB s)) rfl (by kernel_rfl) (fun v hW => (xo_load1 ⟨bs, 0, none⟩ _ (cells_at (heap_keep (heap_keep Hpbs.out B1.out) hW) 0 rfl) Tryd.underlying9 rfl rfl rfl)) ?_
   simp only [ptr, Act.put, zA]
   refine wpX_q (.int .i64 (n : Int)) rfl (by kernel_rfl) (fun v hW => (xs_lenN s n HN.out Tryd.underlying9 rfl rfl)) ?_
   simp only [ptr, Act.put, zA]
   refine wpX_q (.bool false) rfl (by kernel_rfl) (fun v hW => (xo_lssF .i64 (n : Int) (n : Int) (by omega) rfl rfl rfl)) ?_
   simp only [ptr, Act.put, zA]
   refine wpX_q (.bool false) rfl (by kernel_rfl) (fun v hW => rfl) ?_
   simp only [ptr, Act.put, zA]
   refine wpX_skip rfl (by kernel_rfl) ?_
   try simp only [ptr, Act.put, zA]
   refine wpX_skip rfl (by kernel_rfl) ?_
   try simp only [ptr, Act.put, zA]
   refine wpX_skip rfl (by kernel_rfl) ?_
   try simp only [ptr, Act.put, zA]
   refine wpX_skip rfl (by kernel_rfl) ?_
   try simp only [ptr, Act.put, zA]
   refine wpX_skip rfl (by kernel_rfl) ?_
   try simp only [ptr, Act.put, zA]
   refine wpX_skip rfl (by kernel_rfl) ?_
   try simp only [ptr, Act.put, zA]
   refine wpX_skip rfl (by kernel_rfl) ?_
   try simp only [ptr, Act.put, zA]
   refine wpX_skip rfl (by kernel_rfl) ?_
   try simp only [ptr, Act.put, zA]
   refine wpX_skip rfl (by kernel_rfl) ?_
   try simp only [ptr, Act.put, zA]
   refine wpX_skip rfl (by kernel_rfl) ?_
   try simp only [ptr, Act.put, zA]
   refine wpX_skip rfl (by kernel_rfl) ?_
   try simp only [ptr, Act.put, zA]
   refine wpX_q (.bool false) rfl (by kernel_rfl) (fun v hW => rfl) ?_
   simp only [ptr, Act.put, zA]
   refine wpX_nil ?_
   have HRE : Hid (Qu.runE Qu.isLt s i = n) := zh (HRUN.out.trans (Qu.runE_end (by rw [HN.out]; exact Nat.le_refl _)))
   have hln := HN.out
   go_upto_region 4 with fail
   refine wp_later_lex (by kernel_rfl) (lexOK_of (by kernel_rfl) (by kernel_rfl)) ?_
   refine zv (.pointer (some ⟨bs, 0, none⟩)) (fun v hv => rfl) ?_
   simp only [Act.put, zA]
   refine zv (.pointer (some ⟨bs, 0, none⟩)) (fun v hv => (xo_nil _ rfl rfl)) ?_
   simp only [Act.put, zA]
   refine zv (.pointer (some ⟨bs, 0, none⟩)) (fun v hv => (xo_fld0 0 bs 0 (by kernel_rfl) rfl rfl)) ?_
   simp only [Act.put, zA]
   refine zv (.string (sB s)) (fun v hv => (xo_load1 ⟨bs, 0, none⟩ _ (cells_at (heap_keep (heap_keep Hpbs.out B1.out) (later_bel hv)) 0 rfl) Tryd.underlying9 rfl rfl rfl)) ?_
   simp only [Act.put, zA]
   refine zv (.int .i64 (i : Int)) (fun v hv => rfl) ?_
   simp only [Act.put, zA]
   refine zv (.pointer (some ⟨bs, 0, none⟩)) (fun v hv => rfl) ?_
   simp only [Act.put, zA]
   refine zv (.pointer (some ⟨bs, 0, none⟩)) (fun v hv => (xo_nil _ rfl rfl)) ?_
   simp only [Act.put, zA]
   refine zv (.pointer (some ⟨bs, 1, none⟩)) (fun v hv => (xo_fld0 1 bs 1 (by kernel_rfl) rfl rfl)) ?_
   simp only [Act.put, zA]
   refine zv (.int .i64 (n : Int)) (fun v hv => (xo_load1 ⟨bs, 1, none⟩ _ (cells_at (heap_keep (heap_keep Hpbs.out B1.out) (later_bel hv)) 1 rfl) Tryd.underlying3 rfl rfl rfl)) ?_
   simp only [Act.put, zA]
   refine zv (.string (sB ((s.take n).drop i))) (fun v hv => (xs_cut s i n (by omega) (by omega) Tryd.underlying9 rfl rfl rfl rfl)) ?_
   simp only [Act.put, zA]
   refine zv (.string (sB ((s.take n).drop i))) (fun v hv => rfl) ?_
   simp only [Act.put, zA]
   refine wpQuiet_nil ?_
   intro X2_1
   have hb := X2_1.below
   generalize X2_1.at = V3 at *
   have B2 := zh hb
   clear hb
   clear hln
   have C1_3 := zb B1 B2
   have hsf := (heap_keep Hpbs.out C1_3.out)
   have C0_2 := zb B0 B1
   have C0_3 := zb C0_2 B2
   have hff := farc_mk (HF.out.keep C1_3.out) HVW.out C0_3.out
   have hre := HRE.out
   go_wp2_with fail
   go_ret
   first | exact ⟨rfl, hsf, hff⟩ | (rw [hre]; exact ⟨rfl, hsf, hff⟩)
set_option maxRecDepth 100000 in
set_option maxHeartbeats 16000000 in
theorem skip_digit (s : List UInt8) (hs4 : s.length ≤ 1000) (bs : Nat) (i : Nat) (hi : i ≤ s.length) (w : World) (hS : w.heap[bs]? = some (.cells #[.string (sB s), .int .i64 (i : Int)] 66 (0, 0))) :
  Calls Tryd.prog 52 #[.pointer (some ⟨bs, 0, none⟩), .func (.func 55) #[] #[]] w fun e w' => e = .returned (.string (sB ((s.take (Qu.runE Qu.isDg s i)).drop i))) ∧ w'.heap[bs]? = some (.cells #[.string (sB s), .int .i64 ((Qu.runE Qu.isDg s i : Nat) : Int)] 66 (0, 0)) ∧ FarC bs bs w w' := by
 obtain ⟨V, hV0, hV⟩ := base_world w
 have B0 := zh hV
 have HVW := zh hV
 clear hV
 have HF := zh (FarH.refl bs bs w)
 obtain ⟨n, hn⟩ : ∃ n, s.length = n := ⟨_, rfl⟩
 have HN := zh hn
 rw [hn] at hs4 hi
 have Hpbs : Hid (w.heap[bs]? = some (.cells #[.string (sB s), .int .i64 (i : Int)] 66 (0, 0))) := zh (hS)
 have Gpbs : Hid (V.heap.size ≤ bs) := zh (by omega)
 have Lpbs : Hid (bs < w.heap.size) := zh (xp_lt Hpbs.out)
 clear hS hn
 go_enter Tryd.func52, Tryd.ntmps52
 go_upto_region 1 with fail
 refine wp_region_lit ?_
 refine zr (.pointer (some ⟨bs, 0, none⟩)) w rfl ?_
 simp only [Act.put, zA]
 refine zr (.pointer (some ⟨bs, 0, none⟩)) w (xo_nil _ rfl rfl) ?_
 simp only [Act.put, zA]
 refine zr (.pointer (some ⟨bs, 1, none⟩)) w (xo_fld0 1 bs 1 (by kernel_rfl) rfl rfl) ?_
 simp only [Act.put, zA]
 refine zr (.int .i64 (i : Int)) w (xo_load1 ⟨bs, 1, none⟩ _ (cells_at Hpbs.out 1 rfl) Tryd.underlying3 rfl rfl rfl) ?_
 simp only [Act.put, zA]
 refine zr (.int .i64 (i : Int)) w rfl ?_
 simp only [Act.put, zA]
 refine wpList_nil ?_
 have o0 := Hpbs.out
 have f0 := HF.out
 have b0 := B0.out
 go_wp2_with fail
 go_loopw [] (fun wr => ∃ j : Nat, i ≤ j ∧ j ≤ n ∧ Qu.runE Qu.isDg s i = Qu.runE Qu.isDg s j ∧ wr.heap[bs]? = some (.cells #[.string (sB s), .int .i64 (j : Int)] 66 (0, 0)) ∧ FarH bs bs w wr ∧ Below V.heap.size V wr) (fun wr => n - scAt wr bs)
 case atStart => exact ⟨i, Nat.le_refl _, hi, rfl, o0, f0, b0⟩
 case round =>
  clear o0 f0 b0 B0 HF Hpbs
  obtain ⟨wo, rfl⟩ : ∃ wo : World, wo = wr := ⟨_, rfl⟩
  obtain ⟨j, hij, hj, hrun, hsc, hfh, hbb⟩ := hrel
  have B0 := zh hbb
  have HF := zh hfh
  have Hpbs := zh hsc
  have HRUN := zh hrun
  have HAT := zh (scAt_of hsc)
  clear hbb hfh hsc hrun
  by_cases hjn : j < n
  ·have hci0 : ((j : Int) < (n : Int)) := by omega
   obtain ⟨bb, hbb⟩ : ∃ b, s[j]? = some b := ⟨_, List.getElem?_eq_getElem (by rw [HN.out]; exact hjn)⟩
   have HEb := zh hbb
   clear hbb
   cases hpb : Qu.isDg bb with
   | true =>
    go_upto_region 2 with fail
    try simp only [List.append_eq, List.cons_append, List.nil_append]
    refine wp_ordX (.q 0 (.q 1 (.q 2 (.q 3 (.q 4 (.q 5 (.q 6 (.q 7 (.q 8 (.q 9 (.q 10 (.q 11 (.q 12 (.q 13 (.q 14 (.q 15 (.q 16 (.q 17 (.q 18 (.q 19 (.q 20 (.one 21 (.q 22 .nil))))))))))))))))))))))) (by kernel_rfl) (by kernel_rfl) (fun _ _ dt _ _ h => by first | exact h.elim | (cases dt <;> exact h)) (by kernel_rfl) (by kernel_rfl) (fun V2 hb => ?_)
    have B1 := zh hb
    clear hb
    refine wpX_q (.pointer (some ⟨bs, 0, none⟩)) rfl (by kernel_rfl) (fun v hW => rfl) ?_
    simp only [ptr, Act.put, zA]
    refine wpX_q (.pointer (some ⟨bs, 0, none⟩)) rfl (by kernel_rfl) (fun v hW => (xo_nil _ rfl rfl)) ?_
    simp only [ptr, Act.put, zA]
    refine wpX_q (.pointer (some ⟨bs, 1, none⟩)) rfl (by kernel_rfl) (fun v hW => (xo_fld0 1 bs 1 (by kernel_rfl) rfl rfl)) ?_
    simp only [ptr, Act.put, zA]
    refine wpX_q (.int .i64 (j : Int)) rfl (by kernel_rfl) (fun v hW => (xo_load1 ⟨bs, 1, none⟩ _ (cells_at (heap_keep (heap_keep Hpbs.out B1.out) hW) 1 rfl) Tryd.underlying3 rfl rfl rfl)) ?_
    simp only [ptr, Act.put, zA]
    refine wpX_q (.pointer (some ⟨bs, 0, none⟩)) rfl (by kernel_rfl) (fun v hW => rfl) ?_
    simp only [ptr, Act.put, zA]
    refine wpX_q (.pointer (some ⟨bs, 0, none⟩)) rfl (by kernel_rfl) (fun v hW => (xo_nil _ rfl rfl)) ?_
    simp only [ptr, Act.put, zA]
    refine wpX_q (.pointer (some ⟨bs, 0, none⟩)) rfl (by kernel_rfl) (fun v hW => (xo_fld0 0 bs 0 (by kernel_rfl) rfl rfl)) ?_
    simp only [ptr, Act.put, zA]
    refine wpX_q (.string (sB s)) rfl (by kernel_rfl) (fun v hW => (xo_load1 ⟨bs, 0, none⟩ _ (cells_at (heap_keep (heap_keep Hpbs.out B1.out) hW) 0 rfl) Tryd.underlying9 rfl rfl rfl)) ?_
    simp only [ptr, Act.put, zA]
    refine wpX_q (.int .i64 (n : Int)) rfl (by kernel_rfl) (fun v hW => (xs_lenN s n HN.out Tryd.underlying9 rfl rfl)) ?_
    simp only [ptr, Act.put, zA]
    refine wpX_q (.bool true) rfl (by kernel_rfl) (fun v hW => (xo_lssT .i64 (j : Int) (n : Int) (by omega) rfl rfl rfl)) ?_
    simp only [ptr, Act.put, zA]
    refine wpX_q (.bool true) rfl (by kernel_rfl) (fun v hW => rfl) ?_
    simp only [ptr, Act.put, zA]
    refine wpX_q (.func (.func 55) #[] #[]) rfl (by kernel_rfl) (fun v hW => rfl) ?_
    simp only [ptr, Act.put, zA]
    refine wpX_q (.pointer (some ⟨bs, 0, none⟩)) rfl (by kernel_rfl) (fun v hW => rfl) ?_
    simp only [ptr, Act.put, zA]
    refine wpX_q (.pointer (some ⟨bs, 0, none⟩)) rfl (by kernel_rfl) (fun v hW => (xo_nil _ rfl rfl)) ?_
    simp only [ptr, Act.put, zA]
    refine wpX_q (.pointer (some ⟨bs, 0, none⟩)) rfl (by kernel_rfl) (fun v hW => (xo_fld0 0 bs 0 (by kernel_rfl) rfl rfl)) ?_
    simp only [ptr, Act.put, zA]
    refine wpX_q (.string (sB s)) rfl (by kernel_rfl) (fun v hW => (xo_load1 ⟨bs, 0, none⟩ _ (cells_at (heap_keep (heap_keep Hpbs.out B1.out) hW) 0 rfl) Tryd.underlying9 rfl rfl rfl)) ?_
    simp only [ptr, Act.put, zA]
    refine wpX_q (.pointer (some ⟨bs, 0, none⟩)) rfl (by kernel_rfl) (fun v hW => rfl) ?_
    simp only [ptr, Act.put, zA]
    refine wpX_q (.pointer (some ⟨bs, 0, none⟩)) rfl (by kernel_rfl) (fun v hW => (xo_nil _ rfl rfl)) ?_
    simp only [ptr, Act.put, zA]
    refine wpX_q (.pointer (some ⟨bs, 1, none⟩)) rfl (by kernel_rfl) (fun v hW => (xo_fld0 1 bs 1 (by kernel_rfl) rfl rfl)) ?_
    simp only [ptr, Act.put, zA]
    refine wpX_q (.int .i64 (j : Int)) rfl (by kernel_rfl) (fun v hW => (xo_load1 ⟨bs, 1, none⟩ _ (cells_at (heap_keep (heap_keep Hpbs.out B1.out) hW) 1 rfl) Tryd.underlying3 rfl rfl rfl)) ?_
    simp only [ptr, Act.put, zA]
    refine wpX_q (.int .u8 ((bb.toNat : Nat) : Int)) rfl (by kernel_rfl) (fun v hW => (xs_idx s j bb HEb.out Tryd.underlying9 rfl rfl rfl)) ?_
    simp only [ptr, Act.put, zA]
    refine wpX_one rfl (by kernel_rfl) ?_
    refine hOp_callA 55 Tryd.func55 (by kernel_rfl) (by kernel_rfl) 21 _ #[] _ rfl rfl #[.int .u8 ((bb.toNat : Nat) : Int)] (by kernel_rfl) ?_
    try simp only [List.append_toArray, List.append_nil, List.nil_append, List.cons_append]
    refine (digit_as bb true hpb V2).mono ?_
    rintro e W1 ⟨rfl, hw1⟩
    rw [hw1]
    clear hw1 W1
    refine ⟨_, rfl, (Below.refl V2.heap.size V2), ?_⟩
    simp only [ptr, Act.put, zA]
    refine wpX_q (.bool true) rfl (by kernel_rfl) (fun v hW => rfl) ?_
    simp only [ptr, Act.put, zA]
    refine wpX_nil ?_
    go_upto_region 3 with fail
    refine wp_region_lit ?_
    refine zr (.pointer (some ⟨bs, 0, none⟩)) V2 rfl ?_
    simp only [Act.put, zA]
    refine zr (.pointer (some ⟨bs, 0, none⟩)) V2 (xo_nil _ rfl rfl) ?_
    simp only [Act.put, zA]
    refine zr (.pointer (some ⟨bs, 1, none⟩)) V2 (xo_fld0 1 bs 1 (by kernel_rfl) rfl rfl) ?_
    simp only [Act.put, zA]
    refine zr (.int .i64 (j : Int)) V2 (xo_load1 ⟨bs, 1, none⟩ _ (cells_at (heap_keep Hpbs.out B1.out) 1 rfl) Tryd.underlying3 rfl rfl rfl) ?_
    simp only [Act.put, zA]
    refine zr (.int .i64 ((j + 1 : Nat) : Int)) V2 (xo_addI (j : Int) 1 ((j + 1 : Nat) : Int) (by omega) (by omega) (by omega) rfl rfl rfl) ?_
    simp only [Act.put, zA]
    refine zr (.pointer (some ⟨bs, 0, none⟩)) V2 (xo_nil _ rfl rfl) ?_
    simp only [Act.put, zA]
    refine zr (.pointer (some ⟨bs, 1, none⟩)) V2 (xo_fld0 1 bs 1 (by kernel_rfl) rfl rfl) ?_
    simp only [Act.put, zA]
    refine wpList_store1 bs 1 #[.string (sB s), .int .i64 (j : Int)] (.int .i64 ((j + 1 : Nat) : Int)) 66 (by kernel_rfl) (heap_keep Hpbs.out B1.out) (xo_store1 bs 1 #[.string (sB s), .int .i64 (j : Int)] _ (.int .i64 ((j + 1 : Nat) : Int)) (heap_keep Hpbs.out B1.out) rfl (by kernel_rfl) rfl rfl rfl rfl) ?_
    intro X2_1 h1 hfar hbel hsz
    have YHF : FarH bs bs w X2_1 := FarH.store (HF.out.keep B1.out) (.inl rfl) hsz hfar
    have C0_2 := zb B0 B1
    have hbr := hbel _ _ Gpbs.out C0_2.out
    clear B0
    have B0 := zh hbr
    clear hbr
    clear HF
    have HF := zh YHF
    clear YHF
    clear Hpbs
    have Hpbs : Hid (X2_1.heap[bs]? = some (.cells #[.string (sB s), .int .i64 ((j + 1 : Nat) : Int)] 66 (0, 0))) := zh (h1)
    have HszX2_1 := zh hsz
    clear h1 hfar hbel hsz
    simp only [ptr, Act.put, zA]
    refine wpList_nil ?_
    have hsf := Hpbs.out
    have hff := HF.out
    have hbf := B0.out
    have hr2 : Qu.runE Qu.isDg s i = Qu.runE Qu.isDg s (j + 1) := HRUN.out.trans (Qu.runE_yes HEb.out hpb)
    have hat := scAt_of hsf
    go_wp2_with fail
    go_roundw
    case rel => exact ⟨j + 1, by omega, by omega, hr2, hsf, hff, hbf⟩
    case measure => rw [hat, HAT.out]; omega
   | false =>
    go_upto_region 2 with fail
    try simp only [List.append_eq, List.cons_append, List.nil_append]
    refine wp_ordX (.q 0 (.q 1 (.q 2 (.q 3 (.q 4 (.q 5 (.q 6 (.q 7 (.q 8 (.q 9 (.q 10 (.q 11 (.q 12 (.q 13 (.q 14 (.q 15 (.q 16 (.q 17 (.q 18 (.q 19 (.q 20 (.one 21 (.q 22 .nil))))))))))))))))))))))) (by kernel_rfl) (by kernel_rfl) (fun _ _ dt _ _ h => by first | exact h.elim | (cases dt <;> exact h)) (by kernel_rfl) (by kernel_rfl) (fun V2 hb => ?_)
    have B1 := zh hb
    clear hb
    refine wpX_q (.pointer (some ⟨bs, 0, none⟩)) rfl (by kernel_rfl) (fun v hW => rfl) ?_
    simp only [ptr, Act.put, zA]
    refine wpX_q (.pointer (some ⟨bs, 0, none⟩)) rfl (by kernel_rfl) (fun v hW => (xo_nil _ rfl rfl)) ?_
    simp only [ptr, Act.put, zA]
    refine wpX_q (.pointer (some ⟨bs, 1, none⟩)) rfl (by kernel_rfl) (fun v hW => (xo_fld0 1 bs 1 (by kernel_rfl) rfl rfl)) ?_
    simp only [ptr, Act.put, zA]
    refine wpX_q (.int .i64 (j : Int)) rfl (by kernel_rfl) (fun v hW => (xo_load1 ⟨bs, 1, none⟩ _ (cells_at (heap_keep (heap_keep Hpbs.out B1.out) hW) 1 rfl) Tryd.underlying3 rfl rfl rfl)) ?_
    simp only [ptr, Act.put, zA]
    refine wpX_q (.pointer (some ⟨bs, 0, none⟩)) rfl (by kernel_rfl) (fun v hW => rfl) ?_
    simp only [ptr, Act.put, zA]
    refine wpX_q (.pointer (some ⟨bs, 0, none⟩)) rfl (by kernel_rfl) (fun v hW => (xo_nil _ rfl rfl)) ?_
    simp only [ptr, Act.put, zA]
    refine wpX_q (.pointer (some ⟨bs, 0, none⟩)) rfl (by kernel_rfl) (fun v hW => (xo_fld0 0 bs 0 (by kernel_rfl) rfl rfl)) ?_
    simp only [ptr, Act.put, zA]
    refine wpX_q (.string (sB s)) rfl (by kernel_rfl) (fun v hW => (xo_load1 ⟨bs, 0, none⟩ _ (cells_at (heap_keep (heap_keep Hpbs.out B1.out) hW) 0 rfl) Tryd.underlying9 rfl rfl rfl)) ?_
    simp only [ptr, Act.put, zA]
    refine wpX_q (.int .i64 (n : Int)) rfl (by kernel_rfl) (fun v hW => (xs_lenN s n HN.out Tryd.underlying9 rfl rfl)) ?_
    simp only [ptr, Act.put, zA]
    refine wpX_q (.bool true) rfl (by kernel_rfl) (fun v hW => (xo_lssT .i64 (j : Int) (n : Int) (by omega) rfl rfl rfl)) ?_
    simp only [ptr, Act.put, zA]
    refine wpX_q (.bool true) rfl (by kernel_rfl) (fun v hW => rfl) ?_
    simp only [ptr, Act.put, zA]
    refine wpX_q (.func (.func 55) #[] #[]) rfl (by kernel_rfl) (fun v hW => rfl) ?_
    simp only [ptr, Act.put, zA]
    refine wpX_q (.pointer (some ⟨bs, 0, none⟩)) rfl (by kernel_rfl) (fun v hW => rfl) ?_
    simp only [ptr, Act.put, zA]
    refine wpX_q (.pointer (some ⟨bs, 0, none⟩)) rfl (by kernel_rfl) (fun v hW => (xo_nil _ rfl rfl)) ?_
    simp only [ptr, Act.put, zA]
    refine wpX_q (.pointer (some ⟨bs, 0, none⟩)) rfl (by kernel_rfl) (fun v hW => (xo_fld0 0 bs 0 (by kernel_rfl) rfl rfl)) ?_
    simp only [ptr, Act.put, zA]
    refine wpX_q (.string (sB s)) rfl (by kernel_rfl) (fun v hW => (xo_load1 ⟨bs, 0, none⟩ _ (cells_at (heap_keep (heap_keep Hpbs.out B1.out) hW) 0 rfl) Tryd.underlying9 rfl rfl rfl)) ?_
    simp only [ptr, Act.put, zA]
    refine wpX_q (.pointer (some ⟨bs, 0, none⟩)) rfl (by kernel_rfl) (fun v hW => rfl) ?_
    simp only [ptr, Act.put, zA]
    refine wpX_q (.pointer (some ⟨bs, 0, none⟩)) rfl (by kernel_rfl) (fun v hW => (xo_nil _ rfl rfl)) ?_
    simp only [ptr, Act.put, zA]
    refine wpX_q (.pointer (some ⟨bs, 1, none⟩)) rfl (by kernel_rfl) (fun v hW => (xo_fld0 1 bs 1 (by kernel_rfl) rfl rfl)) ?_
    simp only [ptr, Act.put, zA]
    refine wpX_q (.int .i64 (j : Int)) rfl (by kernel_rfl) (fun v hW => (xo_load1 ⟨bs, 1, none⟩ _ (cells_at (heap_keep (heap_keep Hpbs.out B1.out) hW) 1 rfl) Tryd.underlying3 rfl rfl rfl)) ?_
    simp only [ptr, Act.put, zA]
    refine wpX_q (.int .u8 ((bb.toNat : Nat) : Int)) rfl (by kernel_rfl) (fun v hW => (xs_idx s j bb HEb.out Tryd.underlying9 rfl rfl rfl)) ?_
    simp only [ptr, Act.put, zA]
    refine wpX_one rfl (by kernel_rfl) ?_
    refine hOp_callA 55 Tryd.func55 (by kernel_rfl) (by kernel_rfl) 21 _ #[] _ rfl rfl #[.int .u8 ((bb.toNat : Nat) : Int)] (by kernel_rfl) ?_
    try simp only [List.append_toArray, List.append_nil, List.nil_append, List.cons_append]
    refine (digit_as bb false hpb V2).mono ?_
    rintro e W1 ⟨rfl, hw1⟩
    rw [hw1]
    clear hw1 W1
    refine ⟨_, rfl, (Below.refl V2.heap.size V2), ?_⟩
    simp only [ptr, Act.put, zA]
    refine wpX_q (.bool false) rfl (by kernel_rfl) (fun v hW => rfl) ?_
    simp only [ptr, Act.put, zA]
    refine wpX_nil ?_
    have HRE : Hid (Qu.runE Qu.isDg s i = j) := zh (HRUN.out.trans (Qu.runE_no HEb.out hpb))
    have hln := HN.out
    go_upto_region 4 with fail
    refine wp_later_lex (by kernel_rfl) (lexOK_of (by kernel_rfl) (by kernel_rfl)) ?_
    refine zv (.pointer (some ⟨bs, 0, none⟩)) (fun v hv => rfl) ?_
    simp only [Act.put, zA]
    refine zv (.pointer (some ⟨bs, 0, none⟩)) (fun v hv => (xo_nil _ rfl rfl)) ?_
    simp only [Act.put, zA]
    refine zv (.pointer (some ⟨bs, 0, none⟩)) (fun v hv => (xo_fld0 0 bs 0 (by kernel_rfl) rfl rfl)) ?_
    simp only [Act.put, zA]
    refine zv (.string (sB s)) (fun v hv => (xo_load1 ⟨bs, 0, none⟩ _ (cells_at (heap_keep (heap_keep Hpbs.out B1.out) (later_bel hv)) 0 rfl) Tryd.underlying9 rfl rfl rfl)) ?_
    simp only [Act.put, zA]
    refine zv (.int .i64 (i : Int)) (fun v hv => rfl) ?_
    simp only [Act.put, zA]
    refine zv (.pointer (some ⟨bs, 0, none⟩)) (fun v hv => rfl) ?_
    simp only [Act.put, zA]
    refine zv (.pointer (some ⟨bs, 0, none⟩)) (fun v hv => (xo_nil _ rfl rfl)) ?_
    simp only [Act.put, zA]
    refine zv (.pointer (some ⟨bs, 1, none⟩)) (fun v hv => (xo_fld0 1 bs 1 (by kernel_rfl) rfl rfl)) ?_
    simp only [Act.put, zA]
    refine zv (.int .i64 (j : Int)) (fun v hv => (xo_load1 ⟨bs, 1, none⟩ _ (cells_at (heap_keep (heap_keep Hpbs.out B1.out) (later_bel hv)) 1 rfl) Tryd.underlying3 rfl rfl rfl)) ?_
    simp only [Act.put, zA]
    refine zv (.string (sB ((s.take j).drop i))) (fun v hv => (xs_cut s i j (by omega) (by omega) Tryd.underlying9 rfl rfl rfl rfl)) ?_
    simp only [Act.put, zA]
    refine zv (.string (sB ((s.take j).drop i))) (fun v hv => rfl) ?_
    simp only [Act.put, zA]
    refine wpQuiet_nil ?_
    intro X2_1
    have hb := X2_1.below
    generalize X2_1.at = V3 at *
    have B2 := zh hb
    clear hb
    clear hln
    have C1_3 := zb B1 B2
    have hsf := (heap_keep Hpbs.out C1_3.out)
    have C0_2 := zb B0 B1
    have C0_3 := zb C0_2 B2
    have hff := farc_mk (HF.out.keep C1_3.out) HVW.out C0_3.out
    have hre := HRE.out
    go_wp2_with fail
    go_ret
    first | exact ⟨rfl, hsf, hff⟩ | (rw [hre]; exact ⟨rfl, hsf, hff⟩)
  ·have hci0 : ¬ ((j : Int) < (n : Int)) := by omega
   obtain rfl : n = j := by omega
   go_upto_region 2 with fail
   try simp only [List.append_eq, List.cons_append, List.nil_append]
   refine wp_ordX (.q 0 (.q 1 (.q 2 (.q 3 (.q 4 (.q 5 (.q 6 (.q 7 (.q 8 (.q 9 (.q 10 (.q 11 (.q 12 (.q 13 (.q 14 (.q 15 (.q 16 (.q 17 (.q 18 (.q 19 (.q 20 (.q 21 (.q 22 .nil))))))))))))))))))))))) (by kernel_rfl) (by kernel_rfl) (fun _ _ dt _ _ h => by first | exact h.elim | (cases dt <;> exact h)) (by kernel_rfl) (by kernel_rfl) (fun V2 hb => ?_)
   have B1 := zh hb
   clear hb
   refine wpX_q (.pointer (some ⟨bs, 0, none⟩)) rfl (by kernel_rfl) (fun v hW => rfl) ?_
   simp only [ptr, Act.put, zA]
   refine wpX_q (.pointer (some ⟨bs, 0, none⟩)) rfl (by kernel_rfl) (fun v hW => (xo_nil _ rfl rfl)) ?_
   simp only [ptr, Act.put, zA]
   refine wpX_q (.pointer (some ⟨bs, 1, none⟩)) rfl (by kernel_rfl) (fun v hW => (xo_fld0 1 bs 1 (by kernel_rfl) rfl rfl)) ?_
   simp only [ptr, Act.put, zA]
   refine wpX_q (.int .i64 (n : Int)) rfl (by kernel_rfl) (fun v hW => (xo_load1 ⟨bs, 1, none⟩ _ (cells_at (heap_keep (heap_keep Hpbs.out B1.out) hW) 1 rfl) Tryd.underlying3 rfl rfl rfl)) ?_
   simp only [ptr, Act.put, zA]
   refine wpX_q (.pointer (some ⟨bs, 0, none⟩)) rfl (by kernel_rfl) (fun v hW => rfl) ?_
   simp only [ptr, Act.put, zA]
   refine wpX_q (.pointer (some ⟨bs, 0, none⟩)) rfl (by kernel_rfl) (fun v hW => (xo_nil _ rfl rfl)) ?_
   simp only [ptr, Act.put, zA]
   refine wpX_q (.pointer (some ⟨bs, 0, none⟩)) rfl (by kernel_rfl) (fun v hW => (xo_fld0 0 bs 0 (by kernel_rfl) rfl rfl)) ?_
   simp only [ptr, Act.put, zA]
   refine wpX_q (.string (sB s)) rfl (by kernel_rfl) (fun v hW => (xo_load1 ⟨bs, 0, none⟩ _ (cells_at (heap_keep (heap_keep Hpbs.out B1.out) hW) 0 rfl) Tryd.underlying9 rfl rfl rfl)) ?_
   simp only [ptr, Act.put, zA]
   refine wpX_q (.int .i64 (n : Int)) rfl (by kernel_rfl) (fun v hW => (xs_lenN s n HN.out Tryd.underlying9 rfl rfl)) ?_
   simp only [ptr, Act.put, zA]
   refine wpX_q (.bool false) rfl (by kernel_rfl) (fun v hW => (xo_lssF .i64 (n : Int) (n : Int) (by omega) rfl rfl rfl)) ?_
   simp only [ptr, Act.put, zA]
   refine wpX_q (.bool false) rfl (by kernel_rfl) (fun v hW => rfl) ?_
   simp only [ptr, Act.put, zA]
   refine wpX_skip rfl (by kernel_rfl) ?_
   try simp only [ptr, Act.put, zA]
   refine wpX_skip rfl (by kernel_rfl) ?_
   try simp only [ptr, Act.put, zA]
   refine wpX_skip rfl (by kernel_rfl) ?_
   try simp only [ptr, Act.put, zA]
   refine wpX_skip rfl (by kernel_rfl) ?_
   try simp only [ptr, Act.put, zA]
   refine wpX_skip rfl (by kernel_rfl) ?_
   try simp only [ptr, Act.put, zA]
   refine wpX_skip rfl (by kernel_rfl) ?_
   try simp only [ptr, Act.put, zA]
   refine wpX_skip rfl (by kernel_rfl) ?_
   try simp only [ptr, Act.put, zA]
   refine wpX_skip rfl (by kernel_rfl) ?_
   try simp only [ptr, Act.put, zA]
   refine wpX_skip rfl (by kernel_rfl) ?_
   try simp only [ptr, Act.put, zA]
   refine wpX_skip rfl (by kernel_rfl) ?_
   try simp only [ptr, Act.put, zA]
   refine wpX_skip rfl (by kernel_rfl) ?_
   try simp only [ptr, Act.put, zA]
   refine wpX_q (.bool false) rfl (by kernel_rfl) (fun v hW => rfl) ?_
   simp only [ptr, Act.put, zA]
   refine wpX_nil ?_
   have HRE : Hid (Qu.runE Qu.isDg s i = n) := zh (HRUN.out.trans (Qu.runE_end (by rw [HN.out]; exact Nat.le_refl _)))
   have hln := HN.out
   go_upto_region 4 with fail
   refine wp_later_lex (by kernel_rfl) (lexOK_of (by kernel_rfl) (by kernel_rfl)) ?_
   refine zv (.pointer (some ⟨bs, 0, none⟩)) (fun v hv => rfl) ?_
   simp only [Act.put, zA]
   refine zv (.pointer (some ⟨bs, 0, none⟩)) (fun v hv => (xo_nil _ rfl rfl)) ?_
   simp only [Act.put, zA]
   refine zv (.pointer (some ⟨bs, 0, none⟩)) (fun v hv => (xo_fld0 0 bs 0 (by kernel_rfl) rfl rfl)) ?_
   simp only [Act.put, zA]
   refine zv (.string (sB s)) (fun v hv => (xo_load1 ⟨bs, 0, none⟩ _ (cells_at (heap_keep (heap_keep Hpbs.out B1.out) (later_bel hv)) 0 rfl) Tryd.underlying9 rfl rfl rfl)) ?_
   simp only [Act.put, zA]
   refine zv (.int .i64 (i : Int)) (fun v hv => rfl) ?_
   simp only [Act.put, zA]
   refine zv (.pointer (some ⟨bs, 0, none⟩)) (fun v hv => rfl) ?_
   simp only [Act.put, zA]
   refine zv (.pointer (some ⟨bs, 0, none⟩)) (fun v hv => (xo_nil _ rfl rfl)) ?_
   simp only [Act.put, zA]
   refine zv (.pointer (some ⟨bs, 1, none⟩)) (fun v hv => (xo_fld0 1 bs 1 (by kernel_rfl) rfl rfl)) ?_
   simp only [Act.put, zA]
   refine zv (.int .i64 (n : Int)) (fun v hv => (xo_load1 ⟨bs, 1, none⟩ _ (cells_at (heap_keep (heap_keep Hpbs.out B1.out) (later_bel hv)) 1 rfl) Tryd.underlying3 rfl rfl rfl)) ?_
   simp only [Act.put, zA]
   refine zv (.string (sB ((s.take n).drop i))) (fun v hv => (xs_cut s i n (by omega) (by omega) Tryd.underlying9 rfl rfl rfl rfl)) ?_
   simp only [Act.put, zA]
   refine zv (.string (sB ((s.take n).drop i))) (fun v hv => rfl) ?_
   simp only [Act.put, zA]
   refine wpQuiet_nil ?_
   intro X2_1
   have hb := X2_1.below
   generalize X2_1.at = V3 at *
   have B2 := zh hb
   clear hb
   clear hln
   have C1_3 := zb B1 B2
   have hsf := (heap_keep Hpbs.out C1_3.out)
   have C0_2 := zb B0 B1
   have C0_3 := zb C0_2 B2
   have hff := farc_mk (HF.out.keep C1_3.out) HVW.out C0_3.out
   have hre := HRE.out
   go_wp2_with fail
   go_ret
   first | exact ⟨rfl, hsf, hff⟩ | (rw [hre]; exact ⟨rfl, hsf, hff⟩)
end Go.Proofs.YtlicfidcfhbmpaaDoor

