/- The frames of the laws of stage 7: bytes that come in are opened, the listed variables are read, digests are compared. -/
import Derived.Test.YtliflbelhogopaaDoorRows
import Derived.Test.YtliflbelhogopaaDoorTie
import Derived.Test.YtliflbelhogopaaDoorShz
import Derived.ProofKit
import Derived.OpenShut
import Derived.ChangeOld
import Derived.ChangeSlices
import Derived.Below
import Derived.Lib.SmallJoins
import Derived.Lib.LaidTab
import Derived.LaidMore
import Derived.Stop.Joined
import Derived.Stop.BytesEq
namespace Go.Proofs.YtliflbelhogopaaDoor
set_option maxRecDepth 8000
open Go.ChangeShapes Go.WideShapes Go.ChangeAt Go.RowKit Go.Joins

theorem own : ownKnob Tryd.prog.godebug = none := by kernel_rfl
theorem laidOut : laidOutB Tryd.prog = true := by kernel_rfl
theorem cellsB : Tryd.prog.cellsOf 5 = 1 := by kernel_rfl
section
variable {H : Type} {enc : TypeId × Value → H} {W : World} {base : Nat} {sp : Nat → Bool} {b1 : Nat} {hd : Bool} {v : Value} {d : DataW H} {p : List MemPlace}
theorem open_bytes (hv : Value.okWide Tryd.prog W .any base 22 v) (h : DataW.Trod enc Tryd.prog W b1 sp hd 22 v d p) : ∃ (A : Option Addr) (n c : Nat) (bs : List Nat), v = .slice A n c ∧ Sb W A n c bs := by
  obtain ⟨A, n, c, rfl⟩ : ∃ A n c, v = .slice A n c := okWide_slice Tryd.underlying22 hv
  obtain ⟨fuel, hf⟩ := h
  rcases open_ints Tryd.underlying22 Tryd.underlying5 cellsB (show DataW.trod enc Tryd.prog W b1 sp hd fuel 22 [.slice A n c] = some (d, p) from by simpa [Value.cells] using hf) with ⟨hcs, _⟩ | ⟨a, len, cap, zs, hcs, _, hl, hm, hlen, _, hcell, hwf⟩
  · injection hcs with hcs
    injection hcs with e1 e2 e3
    subst e1 e2 e3
    exact ⟨none, 0, 0, [], rfl, Sb.nil_ _⟩
  · injection hcs with hcs
    injection hcs with e1 e2 e3
    subst e1 e2 e3
    unfold maxLen at hm
    have hnl : n ≤ zs.length := by rw [hlen]; split <;> omega
    have hbd : ∀ z ∈ zs, 0 ≤ z ∧ z ≤ 255 := fun z hz => bounds_u8 (hwf z hz)
    refine ⟨some a, n, c, (zs.take n).map Int.toNat, rfl, ⟨by rw [List.length_map, List.length_take]; omega, hl, by omega, (fun e => by cases e), fun x hx => ?_, fun i z hz => ⟨a, rfl, ?_⟩⟩⟩
    · obtain ⟨z, hz, rfl⟩ := List.mem_map.1 hx
      have := hbd z (List.mem_of_mem_take hz)
      omega
    · rw [List.getElem?_map] at hz
      cases hx : (zs.take n)[i]? with
      | none => rw [hx] at hz; cases hz
      | some x =>
        rw [hx] at hz
        injection hz with hz
        subst hz
        have hi := (List.getElem?_eq_some_iff.1 hx).1
        rw [List.length_take] at hi
        have hxz := hbd x (List.mem_of_mem_take (List.mem_of_getElem? hx))
        rw [List.getElem?_take_of_lt (by omega)] at hx
        have h1 := hcell i (by omega)
        rw [List.getD_eq_getElem?_getD, hx] at h1
        rw [Int.toNat_of_nonneg hxz.1]
        exact h1
end
/-! ### The listed variables -/
def laid7 : List (String × DataW Unit) := [("attestor/sha256.initialChain", Rows.laid_attestor_sha256_initialChain), ("attestor/sha256.roundConstants", Rows.laid_attestor_sha256_roundConstants)]
theorem of_laid {W : World} (h : laidMetH Tryd.prog laid7 W) : Gl W := by
  rw [MakeChecks.laidMetH_plain _ _ _ (by kernel_rfl)] at h
  have h1 : laidMet Tryd.prog (("attestor/sha256.initialChain", Lib.tabData .u32 ((chL ch0).map fun x : Nat => (x : Int))) :: [("attestor/sha256.roundConstants", Rows.laid_attestor_sha256_roundConstants)]) W := h
  have h2 : laidMet Tryd.prog (("attestor/sha256.roundConstants", Lib.tabData .u32 (kN.map fun x : Nat => (x : Int))) :: []) W := by
    have hk := laidMet.filter (fun x => x.1 == "attestor/sha256.roundConstants") h
    rwa [show (laid7.filter fun x => x.1 == "attestor/sha256.roundConstants") = [("attestor/sha256.roundConstants", Lib.tabData .u32 (kN.map fun x : Nat => (x : Int)))] by kernel_rfl] at hk
  have g1 : Tryd.prog.globalNamed "attestor/sha256.initialChain" = some 0 := by kernel_rfl
  have g2 : Tryd.prog.globalNamed "attestor/sha256.roundConstants" = some 1 := by kernel_rfl
  have t1 := Lib.tabIs_of_head g1 (t := 58) (by kernel_rfl) Tryd.underlying58 Tryd.underlying35 (by kernel_rfl) (by kernel_rfl) h1
  have t2 := Lib.tabIs_of_head g2 (t := 53) (by kernel_rfl) Tryd.underlying53 Tryd.underlying35 (by kernel_rfl) (by kernel_rfl) h2
  refine ⟨fun i hi => ?_, fun i hi => ?_⟩
  · have := t2.cell g2 i (by rw [List.length_map, kN_length]; exact hi)
    rw [this, List.getD_eq_getElem?_getD, List.getElem?_map, List.getD_eq_getElem?_getD, List.getElem?_eq_getElem (by rw [kN_length]; exact hi)]
    rfl
  · have := t1.cell g1 i (by rw [List.length_map, chL_length]; exact hi)
    rw [this, List.getD_eq_getElem?_getD, List.getElem?_map, List.getD_eq_getElem?_getD, List.getElem?_eq_getElem (by rw [chL_length]; exact hi)]
    rfl
theorem door_met (os : Os) (args : Array Value) : laidMetH Tryd.prog laid7 ((World.doorLaid Tryd.prog 400 os).forCall (fun _ _ => 0) ⟨#[], args, []⟩).memory :=
  laidMetH_of_parts3 (fuel := 8) (laidMet_of_run' 8 (by kernel_rfl) (by kernel_rfl)) (by kernel_rfl) (by kernel_rfl)

/-! ### Digests compared -/
theorem celB_cell {xs : List Nat} (h : ∀ x ∈ xs, x < 256) : celB xs = (xs.map UInt8.ofNat).map Extern.Stop.cell := by
  unfold celB
  rw [List.map_map]
  refine List.map_congr_left fun x hx => ?_
  have := h x hx
  show Value.int .u8 (x : Int) = Value.int .u8 ((UInt8.ofNat x).toNat : Int)
  rw [UInt8.toNat_ofNat', Nat.mod_eq_of_lt this]
theorem ofNat_inj {xs ys : List Nat} (hx : ∀ x ∈ xs, x < 256) (hy : ∀ y ∈ ys, y < 256) : (xs.map UInt8.ofNat == ys.map UInt8.ofNat) = decide (xs = ys) := by
  by_cases h : xs = ys
  · subst h
    simp
  · rw [decide_eq_false h]
    refine beq_false_of_ne fun e => h ?_
    have e2 := congrArg (List.map UInt8.toNat) e
    rw [List.map_map, List.map_map] at e2
    have key : ∀ (l : List Nat), (∀ x ∈ l, x < 256) → l.map (UInt8.toNat ∘ UInt8.ofNat) = l := fun l hl => by
      conv => rhs; rw [← List.map_id l]
      refine List.map_congr_left fun x hx => ?_
      show (UInt8.ofNat x).toNat = x
      rw [UInt8.toNat_ofNat', Nat.mod_eq_of_lt (hl x hx)]
    rwa [key xs hx, key ys hy] at e2
theorem run_eqD (w : World) (xs ys : List Nat) (hx : xs.length = 32) (hy : ys.length = 32) (bx : ∀ x ∈ xs, x < 256) (b2 : ∀ y ∈ ys, y < 256) :
    (binOp .eql 26 (.agg (celB xs).toArray) (.agg (celB ys).toArray)).run Tryd.prog w = .ok (.bool (decide (xs = ys))) w := by
  rw [celB_cell bx, celB_cell b2, run_eql_bytes w 26 5 32 Tryd.underlying26 Tryd.underlying5 (fun w => by kernel_rfl) _ _ (by rw [List.length_map, hx]) (by rw [List.length_map, hy]), ofNat_inj bx b2]
theorem run_eqD_same (xs : List Nat) (hx : xs.length = 32) (bx : ∀ x ∈ xs, x < 256) (w : World) :
    (binOp .eql 26 (.agg (celB xs).toArray) (.agg (celB xs).toArray)).run Tryd.prog w = .ok (.bool true) w := by
  rw [run_eqD w xs xs hx hx bx bx, decide_eq_true rfl]
end Go.Proofs.YtliflbelhogopaaDoor
