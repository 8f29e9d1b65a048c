/- Several texts in one: Yu, Yw, Yv. -/
import Derived.Test.YtbcgfjlbjfkfmaaDoorM17
import Derived.Test.YtbcgfjlbjfkfmaaDoorM14
import Derived.Test.YtbcgfjlbjfkfmaaDoorRows
import Derived.Test.YtbcgfjlbjfkfmaaDoorTie
import Derived.ProofKit
import Derived.OpenShut
import Derived.ChangeOld
import Derived.ChangeSlices
import Derived.ChangeArms
import Derived.Below
import Derived.Lib.SmallJoins
import Derived.Lib.LaidTab
import Derived.LaidMore
import Derived.Deep.Slices
import Derived.Test.YtbcgfjlbjfkfmaaDoorM03
namespace Go.Proofs.YtbcgfjlbjfkfmaaDoor
set_option linter.unusedVariables false
set_option linter.unusedSimpArgs false
set_option linter.unusedSectionVars false
set_option maxRecDepth 8000
open Go.RowKit Go.Proofs.YtbcgfjlbjfkfmaaDoor.K
attribute [local irreducible] wpList wpQuiet
set_option maxRecDepth 100000 in
set_option maxHeartbeats 8000000 in
theorem max_as (c m : Nat) (hc : c < 4) (hm : Qu.maxN c = m) (w : World) : Calls Tryd.prog 24 #[.int .i64 (c : Int)] w fun e w' => e = .returned (.int .i64 (m : Int)) ∧ w' = w := by
  go_enter Tryd.func24, Tryd.ntmps24
  go_upto_region 1 with fail
  have h4 : c = 0 ∨ c = 1 ∨ c = 2 ∨ c = 3 := by omega
  rcases h4 with rfl | rfl | rfl | rfl
  · refine wp_region_lit ?_
    refine wpList_run (by kernel_rfl) (.int .i64 0) w rfl ?_
    simp only [Act.put, List.setIfInBounds_toArray, List.set_cons_zero, List.set_cons_succ]
    refine wpList_run (by kernel_rfl) (.bool true) w (xo_eqlT .i64 0 0 (by omega) rfl rfl rfl) ?_
    simp only [Act.put, List.setIfInBounds_toArray, List.set_cons_zero, List.set_cons_succ]
    refine wpList_run (by kernel_rfl) (.bool true) w rfl ?_
    simp only [Act.put, List.setIfInBounds_toArray, List.set_cons_zero, List.set_cons_succ]
    refine wpList_skip (by kernel_rfl) ?_
    try simp only [Act.put, List.setIfInBounds_toArray, List.set_cons_zero, List.set_cons_succ]
    refine wpList_skip (by kernel_rfl) ?_
    try simp only [Act.put, List.setIfInBounds_toArray, List.set_cons_zero, List.set_cons_succ]
    refine wpList_run (by kernel_rfl) (.bool true) w rfl ?_
    simp only [Act.put, List.setIfInBounds_toArray, List.set_cons_zero, List.set_cons_succ]
    refine wpList_nil ?_
    go_upto_region 2 with fail
    refine wp_region_lit ?_
    refine wpList_run (by kernel_rfl) (.int .i64 15) w rfl ?_
    simp only [Act.put, List.setIfInBounds_toArray, List.set_cons_zero, List.set_cons_succ]
    refine wpList_nil ?_
    go_wp2_with fail
    go_ret
    exact ⟨by rw [← hm]; rfl, rfl⟩
  · refine wp_region_lit ?_
    refine wpList_run (by kernel_rfl) (.int .i64 1) w rfl ?_
    simp only [Act.put, List.setIfInBounds_toArray, List.set_cons_zero, List.set_cons_succ]
    refine wpList_run (by kernel_rfl) (.bool false) w (xo_eqlF .i64 1 0 (by omega) rfl rfl rfl) ?_
    simp only [Act.put, List.setIfInBounds_toArray, List.set_cons_zero, List.set_cons_succ]
    refine wpList_run (by kernel_rfl) (.bool false) w rfl ?_
    simp only [Act.put, List.setIfInBounds_toArray, List.set_cons_zero, List.set_cons_succ]
    refine wpList_run (by kernel_rfl) (.int .i64 1) w rfl ?_
    simp only [Act.put, List.setIfInBounds_toArray, List.set_cons_zero, List.set_cons_succ]
    refine wpList_run (by kernel_rfl) (.bool false) w (xo_eqlF .i64 1 2 (by omega) rfl rfl rfl) ?_
    simp only [Act.put, List.setIfInBounds_toArray, List.set_cons_zero, List.set_cons_succ]
    refine wpList_run (by kernel_rfl) (.bool false) w rfl ?_
    simp only [Act.put, List.setIfInBounds_toArray, List.set_cons_zero, List.set_cons_succ]
    refine wpList_nil ?_
    go_upto_region 3 with fail
    refine wp_region_lit ?_
    refine wpList_run (by kernel_rfl) (.int .i64 255) w rfl ?_
    simp only [Act.put, List.setIfInBounds_toArray, List.set_cons_zero, List.set_cons_succ]
    refine wpList_nil ?_
    go_wp2_with fail
    go_ret
    exact ⟨by rw [← hm]; rfl, rfl⟩
  · refine wp_region_lit ?_
    refine wpList_run (by kernel_rfl) (.int .i64 2) w rfl ?_
    simp only [Act.put, List.setIfInBounds_toArray, List.set_cons_zero, List.set_cons_succ]
    refine wpList_run (by kernel_rfl) (.bool false) w (xo_eqlF .i64 2 0 (by omega) rfl rfl rfl) ?_
    simp only [Act.put, List.setIfInBounds_toArray, List.set_cons_zero, List.set_cons_succ]
    refine wpList_run (by kernel_rfl) (.bool false) w rfl ?_
    simp only [Act.put, List.setIfInBounds_toArray, List.set_cons_zero, List.set_cons_succ]
    refine wpList_run (by kernel_rfl) (.int .i64 2) w rfl ?_
    simp only [Act.put, List.setIfInBounds_toArray, List.set_cons_zero, List.set_cons_succ]
    refine wpList_run (by kernel_rfl) (.bool true) w (xo_eqlT .i64 2 2 (by omega) rfl rfl rfl) ?_
    simp only [Act.put, List.setIfInBounds_toArray, List.set_cons_zero, List.set_cons_succ]
    refine wpList_run (by kernel_rfl) (.bool true) w rfl ?_
    simp only [Act.put, List.setIfInBounds_toArray, List.set_cons_zero, List.set_cons_succ]
    refine wpList_nil ?_
    go_upto_region 2 with fail
    refine wp_region_lit ?_
    refine wpList_run (by kernel_rfl) (.int .i64 15) w rfl ?_
    simp only [Act.put, List.setIfInBounds_toArray, List.set_cons_zero, List.set_cons_succ]
    refine wpList_nil ?_
    go_wp2_with fail
    go_ret
    exact ⟨by rw [← hm]; rfl, rfl⟩
  · refine wp_region_lit ?_
    refine wpList_run (by kernel_rfl) (.int .i64 3) w rfl ?_
    simp only [Act.put, List.setIfInBounds_toArray, List.set_cons_zero, List.set_cons_succ]
    refine wpList_run (by kernel_rfl) (.bool false) w (xo_eqlF .i64 3 0 (by omega) rfl rfl rfl) ?_
    simp only [Act.put, List.setIfInBounds_toArray, List.set_cons_zero, List.set_cons_succ]
    refine wpList_run (by kernel_rfl) (.bool false) w rfl ?_
    simp only [Act.put, List.setIfInBounds_toArray, List.set_cons_zero, List.set_cons_succ]
    refine wpList_run (by kernel_rfl) (.int .i64 3) w rfl ?_
    simp only [Act.put, List.setIfInBounds_toArray, List.set_cons_zero, List.set_cons_succ]
    refine wpList_run (by kernel_rfl) (.bool false) w (xo_eqlF .i64 3 2 (by omega) rfl rfl rfl) ?_
    simp only [Act.put, List.setIfInBounds_toArray, List.set_cons_zero, List.set_cons_succ]
    refine wpList_run (by kernel_rfl) (.bool false) w rfl ?_
    simp only [Act.put, List.setIfInBounds_toArray, List.set_cons_zero, List.set_cons_succ]
    refine wpList_nil ?_
    go_upto_region 3 with fail
    refine wp_region_lit ?_
    refine wpList_run (by kernel_rfl) (.int .i64 255) w rfl ?_
    simp only [Act.put, List.setIfInBounds_toArray, List.set_cons_zero, List.set_cons_succ]
    refine wpList_nil ?_
    go_wp2_with fail
    go_ret
    exact ⟨by rw [← hm]; rfl, rfl⟩
end Go.Proofs.YtbcgfjlbjfkfmaaDoor

namespace Go.Proofs.YtbcgfjlbjfkfmaaDoor
set_option linter.unusedVariables false
set_option linter.unusedSimpArgs false
set_option linter.unusedSectionVars false
set_option maxRecDepth 8000
def eqA (c v z : Nat) : List UInt8 := [99, 111, 117, 110, 116, 32, 119, 104, 101, 114, 101, 32] ++ Qu.nameN c ++ [32, 61, 32] ++ (List.replicate z 48 ++ Qu.decN v)
def eqB (c v z : Nat) : List UInt8 := [99, 111, 117, 110, 116, 32, 119, 104, 101, 114, 101, 32] ++ Qu.nameN c ++ [32, 105, 110, 32] ++ Qu.decN v ++ [46, 46] ++ (List.replicate z 48 ++ Qu.decN v)
def eqQ (c v : Nat) : Qu.Qy × Nat × Nat := (⟨1, 0, 0, [[⟨c, v, v⟩]]⟩, 0, 0)
def EqOk (c v z : Nat) : Prop := Qu.parseN (eqA c v z) = eqQ c v ∧ Qu.parseN (eqB c v z) = eqQ c v
instance (c v z : Nat) : Decidable (EqOk c v z) := inferInstanceAs (Decidable (_ ∧ _))
theorem eqOk_0_0 : ∀ v, v < 16 → ∀ z, z < 6 → EqOk 0 (0 + v) z := by decide +kernel
theorem eqOk_1_0 : ∀ v, v < 32 → ∀ z, z < 6 → EqOk 1 (0 + v) z := by decide +kernel
theorem eqOk_1_1 : ∀ v, v < 32 → ∀ z, z < 6 → EqOk 1 (32 + v) z := by decide +kernel
theorem eqOk_1_2 : ∀ v, v < 32 → ∀ z, z < 6 → EqOk 1 (64 + v) z := by decide +kernel
theorem eqOk_1_3 : ∀ v, v < 32 → ∀ z, z < 6 → EqOk 1 (96 + v) z := by decide +kernel
theorem eqOk_1_4 : ∀ v, v < 32 → ∀ z, z < 6 → EqOk 1 (128 + v) z := by decide +kernel
theorem eqOk_1_5 : ∀ v, v < 32 → ∀ z, z < 6 → EqOk 1 (160 + v) z := by decide +kernel
theorem eqOk_1_6 : ∀ v, v < 32 → ∀ z, z < 6 → EqOk 1 (192 + v) z := by decide +kernel
theorem eqOk_1_7 : ∀ v, v < 32 → ∀ z, z < 6 → EqOk 1 (224 + v) z := by decide +kernel
theorem eqOk_2_0 : ∀ v, v < 16 → ∀ z, z < 6 → EqOk 2 (0 + v) z := by decide +kernel
theorem eqOk_3_0 : ∀ v, v < 32 → ∀ z, z < 6 → EqOk 3 (0 + v) z := by decide +kernel
theorem eqOk_3_1 : ∀ v, v < 32 → ∀ z, z < 6 → EqOk 3 (32 + v) z := by decide +kernel
theorem eqOk_3_2 : ∀ v, v < 32 → ∀ z, z < 6 → EqOk 3 (64 + v) z := by decide +kernel
theorem eqOk_3_3 : ∀ v, v < 32 → ∀ z, z < 6 → EqOk 3 (96 + v) z := by decide +kernel
theorem eqOk_3_4 : ∀ v, v < 32 → ∀ z, z < 6 → EqOk 3 (128 + v) z := by decide +kernel
theorem eqOk_3_5 : ∀ v, v < 32 → ∀ z, z < 6 → EqOk 3 (160 + v) z := by decide +kernel
theorem eqOk_3_6 : ∀ v, v < 32 → ∀ z, z < 6 → EqOk 3 (192 + v) z := by decide +kernel
theorem eqOk_3_7 : ∀ v, v < 32 → ∀ z, z < 6 → EqOk 3 (224 + v) z := by decide +kernel
theorem eqOk (c v z : Nat) (hc : c < 4) (hv : v ≤ Qu.maxN c) (hz : z < 6) : EqOk c v z := by
  have h4 : c = 0 ∨ c = 1 ∨ c = 2 ∨ c = 3 := by omega
  rcases h4 with rfl | rfl | rfl | rfl
  · have h := eqOk_0_0 v (by have : v ≤ 15 := hv; omega) z hz
    rwa [Nat.zero_add] at h
  · have hv : v ≤ 255 := hv
    have e := Nat.div_add_mod v 32
    have h8 : v / 32 = 0 ∨ v / 32 = 1 ∨ v / 32 = 2 ∨ v / 32 = 3 ∨ v / 32 = 4 ∨ v / 32 = 5 ∨ v / 32 = 6 ∨ v / 32 = 7 := by omega
    have hm := Nat.mod_lt v (by decide : 0 < 32)
    rcases h8 with h | h | h | h | h | h | h | h
    · have g := eqOk_1_0 (v % 32) hm z hz
      rwa [show 0 + v % 32 = v from by omega] at g
    · have g := eqOk_1_1 (v % 32) hm z hz
      rwa [show 32 + v % 32 = v from by omega] at g
    · have g := eqOk_1_2 (v % 32) hm z hz
      rwa [show 64 + v % 32 = v from by omega] at g
    · have g := eqOk_1_3 (v % 32) hm z hz
      rwa [show 96 + v % 32 = v from by omega] at g
    · have g := eqOk_1_4 (v % 32) hm z hz
      rwa [show 128 + v % 32 = v from by omega] at g
    · have g := eqOk_1_5 (v % 32) hm z hz
      rwa [show 160 + v % 32 = v from by omega] at g
    · have g := eqOk_1_6 (v % 32) hm z hz
      rwa [show 192 + v % 32 = v from by omega] at g
    · have g := eqOk_1_7 (v % 32) hm z hz
      rwa [show 224 + v % 32 = v from by omega] at g
  · have h := eqOk_2_0 v (by have : v ≤ 15 := hv; omega) z hz
    rwa [Nat.zero_add] at h
  · have hv : v ≤ 255 := hv
    have e := Nat.div_add_mod v 32
    have h8 : v / 32 = 0 ∨ v / 32 = 1 ∨ v / 32 = 2 ∨ v / 32 = 3 ∨ v / 32 = 4 ∨ v / 32 = 5 ∨ v / 32 = 6 ∨ v / 32 = 7 := by omega
    have hm := Nat.mod_lt v (by decide : 0 < 32)
    rcases h8 with h | h | h | h | h | h | h | h
    · have g := eqOk_3_0 (v % 32) hm z hz
      rwa [show 0 + v % 32 = v from by omega] at g
    · have g := eqOk_3_1 (v % 32) hm z hz
      rwa [show 32 + v % 32 = v from by omega] at g
    · have g := eqOk_3_2 (v % 32) hm z hz
      rwa [show 64 + v % 32 = v from by omega] at g
    · have g := eqOk_3_3 (v % 32) hm z hz
      rwa [show 96 + v % 32 = v from by omega] at g
    · have g := eqOk_3_4 (v % 32) hm z hz
      rwa [show 128 + v % 32 = v from by omega] at g
    · have g := eqOk_3_5 (v % 32) hm z hz
      rwa [show 160 + v % 32 = v from by omega] at g
    · have g := eqOk_3_6 (v % 32) hm z hz
      rwa [show 192 + v % 32 = v from by omega] at g
    · have g := eqOk_3_7 (v % 32) hm z hz
      rwa [show 224 + v % 32 = v from by omega] at g
end Go.Proofs.YtbcgfjlbjfkfmaaDoor

namespace Go.Proofs.YtbcgfjlbjfkfmaaDoor
set_option linter.unusedVariables false
set_option linter.unusedSimpArgs false
set_option linter.unusedSectionVars false
set_option maxRecDepth 8000
open Go.ChangeShapes Go.WideShapes Go.ChangeAt Go.RowKit Go.Joins Go.Deep Go.Proofs.YtbcgfjlbjfkfmaaDoor.K
theorem own : ownKnob Tryd.prog.godebug = none := by kernel_rfl
section
variable {H : Type} {enc : TypeId × Value → H} {W : World} {base : Nat} {sp : Nat → Bool} {b1 : Nat} {hd : Bool} {v : Value} {d : DataW H} {p : List MemPlace}
theorem cells13I : Tryd.prog.cellsOf 3 = 1 := by kernel_rfl
theorem cells13S : Tryd.prog.cellsOf 9 = 1 := by kernel_rfl
theorem cells13C : Tryd.prog.cellsOf 62 = 2 := by kernel_rfl
theorem cells13T : Tryd.prog.cellsOf 63 = 8 := by kernel_rfl
theorem trod13_col {fuel : Nat} {c0 c1 : Value} {s : List UInt8} {z : Int} {q : List MemPlace} (h : DataW.trod enc Tryd.prog W b1 sp hd fuel 62 [c0, c1] = some (.agg [.lit (.string s), .lit (.int .i64 z)], q)) : c0 = .string (sB s) ∧ c1 = .int .i64 z := by
  obtain ⟨ys, m', _, hx, _, hn, hel⟩ := DataW.trod_struct Tryd.underlying62 h
  match ys, hn with
  | [y0, y1], _ =>
    have g0 : DataW.trod enc Tryd.prog W b1 sp hd m' 9 [c0] = some y0 := by simpa [cells13S] using hel 0 _ rfl
    have g1 : DataW.trod enc Tryd.prog W b1 sp hd m' 3 [c1] = some y1 := by simpa [cells13I] using hel 1 _ rfl
    obtain ⟨b0, e0, x0, _⟩ := DataW.trod_string Tryd.underlying9 g0
    obtain ⟨a1, e1, x1, _⟩ := DataW.trod_int Tryd.underlying3 g1
    subst x0
    have hx' := congrArg Prod.fst hx
    simp [x1] at hx' e0 e1
    obtain ⟨rfl, rfl⟩ := hx'
    subst e0 e1
    exact ⟨by rw [sB_of], rfl⟩
end
def laid13 : List (String × DataW Unit) := [("attestor/query.columns", Rows.laid_attestor_query_columns)]
theorem of_laid13 {W : World} (h : laidMetH Tryd.prog laid13 W) : Gc W := by
  rw [MakeChecks.laidMetH_plain _ _ _ (by kernel_rfl)] at h
  obtain ⟨ps, ⟨g', t', cs, fuel, p, q, hg', ht', hvar, hd, _, _⟩, _⟩ := h
  have g1 : Tryd.prog.globalNamed "attestor/query.columns" = some 0 := by kernel_rfl
  obtain rfl := Option.some.inj (g1.symm.trans hg')
  have t1 : (Tryd.prog.globals[0]?).map (·.type) = some 63 := by kernel_rfl
  obtain rfl := Option.some.inj (t1.symm.trans ht')
  obtain ⟨xs, m, _, hx, hl, hn, hel⟩ := DataW.trod_array Tryd.underlying63 hd
  rw [cells13T] at hl
  rw [cells13C] at hel
  have hx' := congrArg Prod.fst hx
  match cs, hl, xs, hn with
  | ⟨[c0, c1, c2, c3, c4, c5, c6, c7]⟩, _, [y0, y1, y2, y3], _ =>
    simp [Rows.laid_attestor_query_columns] at hx'
    obtain ⟨h0, h1, h2, h3⟩ := hx'
    have k0 := hel 0 (by omega)
    have k1 := hel 1 (by omega)
    have k2 := hel 2 (by omega)
    have k3 := hel 3 (by omega)
    simp at k0 k1 k2 k3
    obtain ⟨e0, e1⟩ := trod13_col (q := y0.2) (by rw [k0]; rw [h0])
    obtain ⟨e2, e3⟩ := trod13_col (q := y1.2) (by rw [k1]; rw [h1])
    obtain ⟨e4, e5⟩ := trod13_col (q := y2.2) (by rw [k2]; rw [h2])
    obtain ⟨e6, e7⟩ := trod13_col (q := y3.2) (by rw [k3]; rw [h3])
    subst e0 e1 e2 e3 e4 e5 e6 e7
    intro j v hv
    rw [Nat.zero_add]
    have hc := World.var?_cell g1 hvar j
    rw [hc]
    simpa [Qu.nameN] using hv
theorem door_met13 (os : Os) (args : Array Value) : laidMetH Tryd.prog laid13 ((World.doorLaid Tryd.prog 400 os).forCall (fun _ _ => 0) ⟨#[], args, []⟩).memory :=
  laidMetH_of_parts3 (fuel := 8) (laidMet_of_run' 8 (by kernel_rfl) (by kernel_rfl)) (by kernel_rfl) (by kernel_rfl)
end Go.Proofs.YtbcgfjlbjfkfmaaDoor

