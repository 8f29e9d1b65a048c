/- Several texts in one: Yz, Yaa, Yam. -/
import Derived.Test.YtlicfidcfhbmpaaDoorE19
import Derived.Test.YtlicfidcfhbmpaaDoorE15
import Derived.Test.YtlicfidcfhbmpaaDoorE14
set_option linter.unusedVariables false
set_option linter.unusedSimpArgs false
set_option linter.unusedSectionVars false
namespace Go.Proofs.YtlicfidcfhbmpaaDoor
set_option maxRecDepth 8000
open Go.RowKit Go.Proofs.YtlicfidcfhbmpaaDoor.K
attribute [local irreducible] wpList wpQuiet
def zzC (x : Int) : List Value := [.int .i64 x]
instance : Enc zzC 1 := ⟨fun _ => rfl, fun x u hu => by
 simp only [zzC, List.mem_cons, List.not_mem_nil, or_false] at hu
 subst hu
 rfl, by decide⟩
set_option maxRecDepth 100000 in
set_option maxHeartbeats 8000000 in
theorem rhasC_as (k : Nat) (b : Bool) (hb : Qu.hasC k = b) (w : World) : Calls Tryd.prog 32 #[.int .i64 (k : Int)] w fun e w' => e = .returned (.bool b) ∧ w' = w := by
 go_enter Tryd.func32, Tryd.ntmps32
 go_upto_region 1 with fail
 by_cases h2 : 2 ≤ k
 ·have hci0 : ((k : Int) ≥ 2) := by omega
  by_cases h6 : k ≤ 6
  ·have hci1 : ((k : Int) ≤ 6) := by omega
   refine wp_region_lit ?_
   refine zr (.int .i64 (k : Int)) w rfl ?_
   simp only [Act.put, zA]
   refine zr (.bool true) w (xo_geqT .i64 (k : Int) 2 (by omega) rfl rfl rfl) ?_
   simp only [Act.put, zA]
   refine zr (.bool true) w rfl ?_
   simp only [Act.put, zA]
   refine zr (.int .i64 (k : Int)) w rfl ?_
   simp only [Act.put, zA]
   refine zr (.bool true) w (xo_leqT .i64 (k : Int) 6 (by omega) rfl rfl rfl) ?_
   simp only [Act.put, zA]
   refine zr (.bool true) w rfl ?_
   simp only [Act.put, zA]
   refine zr (.bool true) w rfl ?_
   simp only [Act.put, zA]
   refine wpList_nil ?_
   obtain rfl : b = true := by rw [← hb]; unfold Qu.hasC; simp <;> omega
   go_wp2_with fail
   go_ret
   exact ⟨rfl, rfl⟩
  ·have hci1 : ¬ ((k : Int) ≤ 6) := by omega
   refine wp_region_lit ?_
   refine zr (.int .i64 (k : Int)) w rfl ?_
   simp only [Act.put, zA]
   refine zr (.bool true) w (xo_geqT .i64 (k : Int) 2 (by omega) rfl rfl rfl) ?_
   simp only [Act.put, zA]
   refine zr (.bool true) w rfl ?_
   simp only [Act.put, zA]
   refine zr (.int .i64 (k : Int)) w rfl ?_
   simp only [Act.put, zA]
   refine zr (.bool false) w (xo_leqF .i64 (k : Int) 6 (by omega) rfl rfl rfl) ?_
   simp only [Act.put, zA]
   refine zr (.bool false) w rfl ?_
   simp only [Act.put, zA]
   refine zr (.bool false) w rfl ?_
   simp only [Act.put, zA]
   refine wpList_nil ?_
   obtain rfl : b = false := by rw [← hb]; unfold Qu.hasC; simp <;> omega
   go_wp2_with fail
   go_ret
   exact ⟨rfl, rfl⟩
 ·have hci0 : ¬ ((k : Int) ≥ 2) := by omega
  refine wp_region_lit ?_
  refine zr (.int .i64 (k : Int)) w rfl ?_
  simp only [Act.put, zA]
  refine zr (.bool false) w (xo_geqF .i64 (k : Int) 2 (by omega) rfl rfl rfl) ?_
  simp only [Act.put, zA]
  refine zr (.bool false) w rfl ?_
  simp only [Act.put, zA]
  refine zl ?_
  try simp only [Act.put, zA]
  refine zl ?_
  try simp only [Act.put, zA]
  refine zr (.bool false) w rfl ?_
  simp only [Act.put, zA]
  refine zr (.bool false) w rfl ?_
  simp only [Act.put, zA]
  refine wpList_nil ?_
  obtain rfl : b = false := by rw [← hb]; unfold Qu.hasC; simp <;> omega
  go_wp2_with fail
  go_ret
  exact ⟨rfl, rfl⟩
set_option maxRecDepth 100000 in
set_option maxHeartbeats 8000000 in
theorem rmaxK_as (k m : Nat) (hm : Qu.maxK k = m) (w : World) : Calls Tryd.prog 33 #[.int .i64 (k : Int)] w fun e w' => e = .returned (.int .i64 (m : Int)) ∧ w' = w := by
 go_enter Tryd.func33, Tryd.ntmps33
 go_upto_region 1 with fail
 have hm2 : m = if k = 3 then 6 else if k = 6 then 65536 else 0 := by rw [← hm]; unfold Qu.maxK; split <;> simp_all
 by_cases h3 : k = 3
 ·have hci0 : ((k : Int) = 3) := by omega
  obtain rfl : m = 6 := by rw [hm2, if_pos h3]
  refine wp_region_lit ?_
  refine zr (.int .i64 (k : Int)) w rfl ?_
  simp only [Act.put, zA]
  refine zr (.bool true) w (xo_eqlT .i64 (k : Int) 3 (by omega) rfl rfl rfl) ?_
  simp only [Act.put, zA]
  refine wpList_nil ?_
  go_upto_region 2 with fail
  refine wp_region_lit ?_
  refine zr (.int .i64 6) w rfl ?_
  simp only [Act.put, zA]
  refine wpList_nil ?_
  go_wp2_with fail
  go_ret
  exact ⟨rfl, rfl⟩
 ·have hci0 : ¬ ((k : Int) = 3) := by omega
  refine wp_region_lit ?_
  refine zr (.int .i64 (k : Int)) w rfl ?_
  simp only [Act.put, zA]
  refine zr (.bool false) w (xo_eqlF .i64 (k : Int) 3 (by omega) rfl rfl rfl) ?_
  simp only [Act.put, zA]
  refine wpList_nil ?_
  by_cases h6 : k = 6
  ·have hci1 : ((k : Int) = 6) := by omega
   obtain rfl : m = 65536 := by rw [hm2, if_neg h3, if_pos h6]
   go_upto_region 3 with fail
   refine wp_region_lit ?_
   refine zr (.int .i64 (k : Int)) w rfl ?_
   simp only [Act.put, zA]
   refine zr (.bool true) w (xo_eqlT .i64 (k : Int) 6 (by omega) rfl rfl rfl) ?_
   simp only [Act.put, zA]
   refine wpList_nil ?_
   go_upto_region 4 with fail
   refine wp_region_lit ?_
   refine zr (.int .i64 65536) w rfl ?_
   simp only [Act.put, zA]
   refine wpList_nil ?_
   go_wp2_with fail
   go_ret
   exact ⟨rfl, rfl⟩
  ·have hci1 : ¬ ((k : Int) = 6) := by omega
   obtain rfl : m = 0 := by rw [hm2, if_neg h3, if_neg h6]
   go_upto_region 3 with fail
   refine wp_region_lit ?_
   refine zr (.int .i64 (k : Int)) w rfl ?_
   simp only [Act.put, zA]
   refine zr (.bool false) w (xo_eqlF .i64 (k : Int) 6 (by omega) rfl rfl rfl) ?_
   simp only [Act.put, zA]
   refine wpList_nil ?_
   go_upto_region 5 with fail
   refine wp_region_lit ?_
   refine zr (.int .i64 0) w rfl ?_
   simp only [Act.put, zA]
   refine wpList_nil ?_
   go_wp2_with fail
   go_ret
   exact ⟨rfl, rfl⟩
end Go.Proofs.YtlicfidcfhbmpaaDoor

namespace Go.Proofs.YtlicfidcfhbmpaaDoor
set_option maxRecDepth 8000
open Go.RowKit Go.Proofs.YtlicfidcfhbmpaaDoor.K
attribute [local irreducible] wpList wpQuiet
theorem kw_list {k : Nat} {x : List UInt8} (h1 : 1 ≤ k) (h7 : k ≤ 7) (h : Qu.kwN k = x) : ([[99, 111, 117, 110, 116], [116, 111, 116, 97, 108], [109, 111, 109, 101, 110, 116], [103, 114, 111, 117, 112, 115], [100, 105, 115, 116, 105, 110, 99, 116], [115, 109, 97, 108, 108, 101, 115, 116], [112, 97, 105, 114, 115]] : List (List UInt8))[k - 1]? = some x := by
 subst h
 have h4 : k = 1 ∨ k = 2 ∨ k = 3 ∨ k = 4 ∨ k = 5 ∨ k = 6 ∨ k = 7 := by omega
 rcases h4 with rfl | rfl | rfl | rfl | rfl | rfl | rfl <;> rfl
set_option maxRecDepth 100000 in
set_option maxHeartbeats 16000000 in
theorem rkw_as (k : Nat) (h1 : 1 ≤ k) (h7 : k ≤ 7) (x : List UInt8) (h : Qu.kwN k = x) (w : World) : Calls Tryd.prog 39 #[.int .i64 (k : Int)] w fun e w' => e = .returned (.string (sB x)) ∧ Below w.heap.size w w' := by
 go_enter Tryd.func39, Tryd.ntmps39
 go_upto_region 1 with fail
 have HE := zh (kw_list h1 h7 h)
 refine wp_region_lit ?_
 refine wpList_mk (by kernel_rfl) ([[99, 111, 117, 110, 116], [116, 111, 116, 97, 108], [109, 111, 109, 101, 110, 116], [103, 114, 111, 117, 112, 115], [100, 105, 115, 116, 105, 110, 99, 116], [115, 109, 97, 108, 108, 101, 115, 116], [112, 97, 105, 114, 115]].flatMap stC).toArray 9 7 7 (xg_lit (E := stC) (bytes := 16) (.string ByteArray.empty) [.const (.string ⟨#[99, 111, 117, 110, 116]⟩), .const (.string ⟨#[116, 111, 116, 97, 108]⟩), .const (.string ⟨#[109, 111, 109, 101, 110, 116]⟩), .const (.string ⟨#[103, 114, 111, 117, 112, 115]⟩), .const (.string ⟨#[100, 105, 115, 116, 105, 110, 99, 116]⟩), .const (.string ⟨#[115, 109, 97, 108, 108, 101, 115, 116]⟩), .const (.string ⟨#[112, 97, 105, 114, 115]⟩)] [[99, 111, 117, 110, 116], [116, 111, 116, 97, 108], [109, 111, 109, 101, 110, 116], [103, 114, 111, 117, 112, 115], [100, 105, 115, 116, 105, 110, 99, 116], [115, 109, 97, 108, 108, 101, 115, 116], [112, 97, 105, 114, 115]] 7 Tryd.underlying86 (by kernel_rfl) rfl (by decide) (by decide) rfl rfl) ?_
 intro g3 V1 hge h0 hb
 have Ge0 : Hid (w.heap.size ≤ g3) := zh hge
 have B0 := zh hb
 have Fv1_3 : Hid (RowG stC V1 g3 9 ([[99, 111, 117, 110, 116], [116, 111, 116, 97, 108], [109, 111, 109, 101, 110, 116], [103, 114, 111, 117, 112, 115], [100, 105, 115, 116, 105, 110, 99, 116], [115, 109, 97, 108, 108, 101, 115, 116], [112, 97, 105, 114, 115]])) := zh (h0)
 have Lt2 : Hid (g3 < V1.heap.size) := zh (xp_lt Fv1_3.out)
 clear hge h0 hb
 simp only [ptr, Act.put, zA]
 refine zr (.int .i64 (k : Int)) V1 rfl ?_
 simp only [Act.put, zA]
 refine zr (.int .i64 ((k - 1 : Nat) : Int)) V1 (xo_subI (k : Int) 1 ((k - 1 : Nat) : Int) (by omega) (by omega) (by omega) rfl rfl rfl) ?_
 simp only [Act.put, zA]
 refine zr (.pointer (some (gad (some ⟨g3, 0, none⟩) ((k - 1) * 1)))) V1 (xg_idx .i64 (RowG.sg (n := 7) (c := 7) Fv1_3.out (show ([[99, 111, 117, 110, 116], [116, 111, 116, 97, 108], [109, 111, 109, 101, 110, 116], [103, 114, 111, 117, 112, 115], [100, 105, 115, 116, 105, 110, 99, 116], [115, 109, 97, 108, 108, 101, 115, 116], [112, 97, 105, 114, 115]]).length = 7 from rfl) (Nat.le_refl _) (by omega)) HE.out Tryd.underlying86 (by kernel_rfl) rfl rfl rfl) ?_
 simp only [Act.put, zA]
 refine zr (.string (sB x)) V1 (xg_load1 (E := stC) (i := (k - 1)) (j := 0) (RowG.sg (n := 7) (c := 7) Fv1_3.out (show ([[99, 111, 117, 110, 116], [116, 111, 116, 97, 108], [109, 111, 109, 101, 110, 116], [103, 114, 111, 117, 112, 115], [100, 105, 115, 116, 105, 110, 99, 116], [115, 109, 97, 108, 108, 101, 115, 116], [112, 97, 105, 114, 115]]).length = 7 from rfl) (Nat.le_refl _) (by omega)) HE.out rfl rfl Tryd.underlying9 rfl rfl rfl) ?_
 simp only [Act.put, zA]
 refine zr (.string (sB x)) V1 rfl ?_
 simp only [Act.put, zA]
 refine wpList_nil ?_
 have hbf := B0.out
 go_wp2_with fail
 go_ret
 exact ⟨rfl, hbf⟩
end Go.Proofs.YtlicfidcfhbmpaaDoor

namespace Go.Proofs.YtlicfidcfhbmpaaDoor
set_option maxRecDepth 8000
open Go.RowKit Go.Proofs.YtlicfidcfhbmpaaDoor.K
attribute [local irreducible] wpList wpQuiet
theorem OwnsC.farT {w w' : World} {b base : Nat} {t u : TypeId} {hs : List Hd} {fs : List (List Qu.Cd)} {ds : Array Value} (h : OwnsC w t base hs fs) (hb : w.heap[b]? = some (.cells ds u (0, 0))) (hne : u ≠ t) (hfar : ∀ k o, k ≠ b → w.heap[k]? = some o → w'.heap[k]? = some o) : OwnsC w' t base hs fs :=
 ⟨h.len, fun i d xs hi hx => ⟨(h.row i d xs hi hx).1, own_farT (h.row i d xs hi hx).2 hb hne hfar⟩⟩
end Go.Proofs.YtlicfidcfhbmpaaDoor

