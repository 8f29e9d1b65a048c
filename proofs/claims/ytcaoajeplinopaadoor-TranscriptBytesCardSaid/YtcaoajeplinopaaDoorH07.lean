/- Several texts in one: Shy, Shz, Shf0, Shf1, Flp, Dig, Cal, Mkl, Mkr, Ora, Mkd, Mkx, Mnb, Seq, Mva, Mvd, Mvk. -/
import Derived.Test.YtcaoajeplinopaaDoorH06
import Derived.Test.YtcaoajeplinopaaDoorH05
import Derived.Lib.SlBytesConst
import Derived.Test.YtcaoajeplinopaaDoorRows
import Derived.Test.YtcaoajeplinopaaDoorTie
import Derived.ProofKit
import Derived.OpenShut
import Derived.ChangeOld
import Derived.ChangeSlices
import Derived.Below
import Derived.Lib.SmallJoins
import Derived.Lib.LaidTab
import Derived.LaidMore
import Derived.Stop.Joined
import Derived.Stop.BytesEq
import Derived.Test.YtcaoajeplinopaaDoorH03
import Derived.ArgAppend
import Derived.Deep.MidRow
import Derived.Great.BuildSlice
import Derived.OrdersHeld
import Derived.Test.YtcaoajeplinopaaDoorH04
import Derived.RangeFuncCalls
import Derived.OrdersIn
import Derived.OwnWalkIn
import Derived.Test.YtcaoajeplinopaaDoorH01
import Derived.Laws.ResultCell
import Derived.Deep.AppendLies
namespace Go.Proofs.YtcaoajeplinopaaDoor
set_option linter.unusedVariables false
set_option linter.unusedSimpArgs false
set_option maxRecDepth 8000
open Go.RowKit
attribute [local simp] z32_ne z32_run
attribute [-simp] Tryd.zeroValue30 Tryd.isAgg30 Tryd.sizeOf30
def hexd (i : Nat) : Nat := [48, 49, 50, 51, 52, 53, 54, 55, 56, 57, 97, 98, 99, 100, 101, 102].getD i 0
def hexN (bs : List Nat) : List Nat := bs.flatMap fun b => [hexd (b / 16), hexd (b % 16)]
theorem hexN_snoc (bs : List Nat) (b : Nat) : hexN (bs ++ [b]) = hexN bs ++ [hexd (b / 16), hexd (b % 16)] := by
  unfold hexN
  rw [List.flatMap_append]
  simp
def hexS (bs : List Nat) : ByteArray := ⟨((hexN bs).map UInt8.ofNat).toArray⟩
theorem run_hexS {P : Program} {w : World} {src dst e : TypeId} {A : Option Addr} {n c : Nat} {bs : List Nat} (h : Sb w A n c bs) (hn : 0 < n) (hs : P.underlying src = some (.slice e)) (he : P.underlying e = some (.int .u8)) (hd : P.underlying dst = some .string) :
    (convert src dst (.slice A n c)).run P w = .ok (.string ⟨(bs.map UInt8.ofNat).toArray⟩) w := by
  obtain ⟨ad, rfl⟩ := h.some_ hn
  have hl : n = (bs.map UInt8.ofNat).length := by rw [List.length_map]; exact h.len
  rw [hl]
  refine run_convert_bytes_back w src dst e ad c (bs.map UInt8.ofNat) hs he hd (fun j hj => ?_)
  have hj2 : j < bs.length := by simpa using hj
  have h1 := h.at_ (i := j) (by rw [h.len]; exact hj2)
  rw [h1]
  have hb := h.byte (bs.getD j 0) (by rw [List.getD_eq_getElem?_getD, List.getElem?_eq_getElem hj2]; exact List.getElem_mem hj2)
  simp only [List.getElem_map, UInt8.toNat_ofNat']
  rw [List.getD_eq_getElem?_getD, List.getElem?_eq_getElem hj2] at hb ⊢
  simp only [Option.getD_some] at hb ⊢
  rw [Nat.mod_eq_of_lt hb]
def hexA : ByteArray := ⟨#[48, 49, 50, 51, 52, 53, 54, 55, 56, 57, 97, 98, 99, 100, 101, 102]⟩
theorem hexd_lt (i : Nat) : hexd i < 256 := by
  unfold hexd
  exact getD_byte (by decide) i
theorem run_hexd {ev : Operand → Value} {o : Oper} {s p : Operand} (i : Nat) (hi : i < 16) (ho : o.op = .index 9 s p) (hs : ev s = .string hexA) (hp : ev p = .int .u8 (i : Int)) (w : World) :
    (execOp ev o).run Tryd.prog w = .ok (.value (.int .u8 (hexd i : Nat))) w := by
  unfold execOp
  rw [ho]
  simp only [hs, hp]
  rcases (by omega : i = 0 ∨ i = 1 ∨ i = 2 ∨ i = 3 ∨ i = 4 ∨ i = 5 ∨ i = 6 ∨ i = 7 ∨ i = 8 ∨ i = 9 ∨ i = 10 ∨ i = 11 ∨ i = 12 ∨ i = 13 ∨ i = 14 ∨ i = 15) with rfl | rfl | rfl | rfl | rfl | rfl | rfl | rfl | rfl | rfl | rfl | rfl | rfl | rfl | rfl | rfl <;> kernel_rfl
theorem run_buildB2 {ev : Operand → Value} {o : Oper} {x y : Operand} (u v : Nat) (ho : o.op = .buildSlice 22 2 #[(0, x), (1, y)]) (hx : ev x = .int .u8 (u : Int)) (hy : ev y = .int .u8 (v : Int)) (w : World) :
    (execOp ev o).run Tryd.prog w = .ok (.value (.slice (some ⟨w.heap.size, 0, none⟩) 2 2)) (w.alloc (.cells #[.int .u8 (u : Int), .int .u8 (v : Int)] 5)) := by
  unfold execOp
  rw [ho]
  simp only [List.map_toArray, List.map_cons, List.map_nil, hx, hy]
  go_simp
theorem hOp_appendB2 {o : Oper} {a : Act} {w : World} {K : Value → World → Prop} (s x : Operand)
    (ho : o.op = .call { callee := .builtin .append, args := #[s, x], argTypes := #[22, 22] }) (base : Nat) (v : Value) (n : Nat) (bs : List Nat) (hs : a.eval s = v) (hown : OwB w base v n bs)
    (ad : Addr) (m c : Nat) (ys : List Nat) (hx : a.eval x = .slice (some ad) m c) (hy : Sb w (some ad) m c ys) (hn : n + m ≤ 140737488353000) (hbase : base ≤ w.heap.size)
    (h : ∀ v' w', OwB w' base v' (n + m) (bs ++ ys) → Below base w w' → K v' w') : H4.hOp Tryd.prog o K a w := by
  obtain ⟨i, hi, hz, hs2, hb⟩ := info_parts u8_info
  obtain ⟨v', w', hrun, hown', hg, _⟩ := run_append_own (P := Tryd.prog) w base 22 o.type 5 i (.int .u8 0) 1 1 Tryd.underlying22 hi hz hs2 hb rfl (by omega) v n (celB bs) hown.1 ad m c (celB ys) (by rw [celB_length, ← hy.len, Nat.mul_one]) (celB_src hy) (fun u hu => celB_one' hu) (by unfold maxLen; omega) (by omega) hbase
  unfold H4.hOp execOp
  simp only [ho, resolve, invoke, builtin, Sem.run_bind, Sem.run_pure, Result.andThen_ok, List.map_toArray, List.map_cons, List.map_nil, hs, hx, hrun]
  refine h v' w' ⟨?_, fun z hz => ?_⟩ (OwB.below hown hg hbase)
  · rw [celB_append]
    exact hown'
  · rcases List.mem_append.1 hz with hz | hz
    · exact hown.2 z hz
    · exact hy.byte z hz
set_option maxHeartbeats 2000000 in
theorem rhex_any (x : List Nat) (w : World) (hl : x.length = 32) (hb : ∀ z ∈ x, z < 256) :
    Calls Tryd.prog 36 #[.agg (celB x).toArray] w fun e w' => e = .returned (.string (hexS x)) ∧ Below w.heap.size w w' := by
  have HL := Lib.hid hl
  have HXB := Lib.hid hb
  clear hl hb
  go_enter Tryd.func36, Tryd.ntmps36
  go_wp2_with fail
  refine wp_named2 (fun w1 hb1 g0 g1 hlt1 => ?_)
  have H0 : Hid (RowB w1 30 w.heap.size x) := Lib.hid g0
  have hrow : w1.heap[w.heap.size + 1]? = some (.cells #[] 5 (0, 0)) := g1
  have HB1 := Lib.hid hb1
  have HO0 := Lib.hid (OwB.nil1 g1 (Nat.le_refl _))
  clear g0 g1 hb1 hrow
  go_loopw [4, 5] (fun v s wr => ∃ k : Nat, k ≤ 32 ∧ s = .int .i64 k ∧ RowB wr 30 w.heap.size x ∧ OwB wr (w.heap.size + 1) v (2 * k) (hexN (x.take k)) ∧ Below w.heap.size w wr ∧ w.heap.size + 1 ≤ wr.heap.size) (fun _ s _ => 32 - (intOf s).toNat)
  case atStart => exact ⟨0, by omega, rfl, H0.out, HO0.out, HB1.out, by omega⟩
  case round =>
    clear H0 HO0 HB1
    obtain ⟨k, hk, rfl, hr, ho, hb, hz⟩ := hrel
    have HR := Lib.hid hr
    have HO := Lib.hid ho
    have HB := Lib.hid hb
    obtain ⟨C, f, rfl, hsl⟩ := ho.sl
    have HSL := Lib.hid hsl
    clear hr ho hb hsl
    by_cases hlt : k < 32
    · have hk1 : (k : Int) < 32 := by omega
      have hk0 : (0 : Int) ≤ (k : Int) := by omega
      have c0 := H4.LaterB.cell (B := w.heap.size + 1) (HR.out.at_ (some_getD (show k < x.length by rw [HL.out]; exact hlt))) (show w.heap.size < w.heap.size + 1 by omega)
      have hxb := getD_byte HXB.out k
      have HTS := Lib.hid (take_snoc (show k < x.length by rw [HL.out]; exact hlt))
      generalize x.getD k 0 = y at *
      go_wp2_with fail
      refine H4.wp_heldB (w.heap.size + 1) (by kernel_rfl) (lexOK_of (by kernel_rfl) (by kernel_rfl)) (H4.chainOK_of (by kernel_rfl)) (fun W0 hbW hSW => ?_)
      have HR0 := Lib.hid (HR.out.keep hbW)
      have HO0 := Lib.hid (HO.out.keep hbW)
      have HB0 := Lib.hid (bel_step HB.out hbW)
      have HS0 := Lib.hid hSW
      have hz0 : w.heap.size + 1 ≤ W0.heap.size := by have := hbW.size; omega
      clear hbW hSW
      refine H4.wpHeld_seg 13 HS0.out (by kernel_rfl) ?_
      simp only [List.take_succ_cons, List.take_zero, List.drop_succ_cons, List.drop_zero]
      repeat (go_big_quiet_step (fail))
      refine wpQuiet_val (by kernel_rfl) _ (fun v _ => run_hexd (y / 16) (by omega) rfl rfl rfl v) ?_
      simp only [Act.put, List.setIfInBounds_toArray, List.set_cons_zero, List.set_cons_succ]
      repeat (go_big_quiet_step (fail))
      refine wpQuiet_val (by kernel_rfl) _ (fun v _ => run_hexd (y % 16) (by omega) rfl rfl rfl v) ?_
      simp only [Act.put, List.setIfInBounds_toArray, List.set_cons_zero, List.set_cons_succ]
      refine wpQuiet_nil ?_
      have hb1 : Below W0.heap.size W0 (W0.alloc (.cells #[.int .u8 ((hexd (y / 16) : Nat) : Int), .int .u8 ((hexd (y % 16) : Nat) : Int)] 5)) := (Below.refl _ _).alloc (Nat.le_refl _) _
      refine H4.wpHeld_run _ _ (by kernel_rfl) (by kernel_rfl) (run_buildB2 (hexd (y / 16)) (hexd (y % 16)) rfl rfl rfl _) (H4.LaterB.step HS0.out (hb1.mono hz0)) ?_
      simp only [Act.put, List.setIfInBounds_toArray, List.set_cons_zero, List.set_cons_succ]
      have hrw : RowB (W0.alloc (.cells #[.int .u8 ((hexd (y / 16) : Nat) : Int), .int .u8 ((hexd (y % 16) : Nat) : Int)] 5)) 5 W0.heap.size [hexd (y / 16), hexd (y % 16)] := heap_new W0 _
      have hs2 := hrw.all (n := 2) (c := 2) (by intro z hz; simp at hz; rcases hz with rfl | rfl <;> exact hexd_lt _) rfl (Nat.le_refl _) (by omega)
      have HO1 := Lib.hid (HO0.out.keep hb1)
      have HS1 := Lib.hid (H4.LaterB.step HS0.out (hb1.mono hz0))
      have HB1 := Lib.hid (hb1.mono hz0)
      have hz1 : w.heap.size + 1 ≤ (W0.alloc (.cells #[.int .u8 ((hexd (y / 16) : Nat) : Int), .int .u8 ((hexd (y % 16) : Nat) : Int)] 5)).heap.size := Nat.le_trans hz0 hb1.size
      clear hb1 hrw
      generalize W0.alloc (.cells #[.int .u8 ((hexd (y / 16) : Nat) : Int), .int .u8 ((hexd (y % 16) : Nat) : Int)] 5) = W1 at *
      refine H4.wpHeld_op (by kernel_rfl) (by kernel_rfl) ?_
      refine hOp_appendB2 (.tmp 11) (.tmp 24) rfl (w.heap.size + 1) _ (2 * k) _ rfl HO1.out ⟨W0.heap.size, 0, none⟩ 2 2 _ rfl hs2 (by omega) hz1 ?_
      intro v2 W2 ho2 hb2
      obtain ⟨C2, f2, rfl, _⟩ := ho2.sl
      have HO2 := Lib.hid ho2
      have HB2 := Lib.hid (HB1.out.trans hb2)
      have HS2 := Lib.hid (H4.LaterB.step HS1.out hb2)
      clear ho2 hb2
      refine ⟨HS2.out, ?_⟩
      simp only [Act.put, List.setIfInBounds_toArray, List.set_cons_zero, List.set_cons_succ]
      refine H4.wpHeld_seg 1 HS2.out (by kernel_rfl) ?_
      simp only [List.take_succ_cons, List.take_zero, List.drop_succ_cons, List.drop_zero]
      repeat (go_big_quiet_step (fail))
      refine wpQuiet_nil (H4.wpHeld_nil ?_)
      go_wp2_with fail
      go_roundw
      case rel => exact ⟨k + 1, by omega, by go_num, HR0.out.same (HB2.out.block _ (by omega)), by rw [← HTS.out, hexN_snoc]; exact HO2.out, HB0.out.trans (HB2.out.mono (by omega)), Nat.le_trans hz0 HB2.out.size⟩
      case measure => simp [intOf]; omega
    · obtain rfl : k = 32 := by omega
      have hcv : ∀ dst, Tryd.prog.underlying dst = some .string → (convert 22 dst (.slice C (2 * 32) f)).run Tryd.prog wr = .ok (.string (hexS x)) wr := fun dst hd => by
        have := run_hexS (P := Tryd.prog) (dst := dst) HSL.out (by omega) Tryd.underlying22 Tryd.underlying5 hd
        rw [List.take_of_length_le (by rw [HL.out]; exact Nat.le_refl _)] at this
        exact this
      have hcv2 := hcv 9 Tryd.underlying9
      clear hcv
      obtain ⟨hx, HX⟩ : ∃ h, Hid (hexS x = h) := ⟨_, Lib.hid rfl⟩
      rw [HX.out] at hcv2
      go_wp2_with fail
      refine bodyPost_ret (v := .string hx) ?_ rfl ⟨by rw [HX.out], HB.out⟩
      simp [results, Tryd.results36, go_sem]
end Go.Proofs.YtcaoajeplinopaaDoor

namespace Go.Proofs.YtcaoajeplinopaaDoor
set_option linter.unusedVariables false
set_option linter.unusedSimpArgs false
set_option maxRecDepth 8000
open Go.RowKit
attribute [local simp] z32_ne z32_run
attribute [-simp] Tryd.zeroValue30 Tryd.isAgg30 Tryd.sizeOf30
theorem rhex_as (x : List Nat) (s : ByteArray) (w : World) (hl : x.length = 32) (hb : ∀ z ∈ x, z < 256) (hs : hexS x = s) :
    Calls Tryd.prog 36 #[.agg (celB x).toArray] w fun e w' => e = .returned (.string s) ∧ Below w.heap.size w w' := by
  have := rhex_any x w hl hb
  rwa [hs] at this
end Go.Proofs.YtcaoajeplinopaaDoor

namespace Go.Proofs.YtcaoajeplinopaaDoor
set_option linter.unusedVariables false
set_option linter.unusedSimpArgs false
set_option maxRecDepth 8000
open Go.ChangeShapes Go.WideShapes Go.ChangeAt Go.RowKit Go.Joins

theorem own : ownKnob Tryd.prog.godebug = none := by kernel_rfl
theorem laidOut : laidOutB Tryd.prog = true := by kernel_rfl
theorem cellsB : Tryd.prog.cellsOf 5 = 1 := by kernel_rfl
section
variable {H : Type} {enc : TypeId × Value → H} {W : World} {base : Nat} {sp : Nat → Bool} {b1 : Nat} {hd : Bool} {v : Value} {d : DataW H} {p : List MemPlace}
end
def laid7 : List (String × DataW Unit) := [("attestor/sha256.initialChain", Rows.laid_attestor_sha256_initialChain), ("attestor/sha256.roundConstants", Rows.laid_attestor_sha256_roundConstants)]
theorem of_laid {W : World} (h : laidMetH Tryd.prog laid7 W) : Gl W := by
  rw [MakeChecks.laidMetH_plain _ _ _ (by kernel_rfl)] at h
  have h1 : laidMet Tryd.prog (("attestor/sha256.initialChain", Lib.tabData .u32 ((chL ch0).map fun x : Nat => (x : Int))) :: [("attestor/sha256.roundConstants", Rows.laid_attestor_sha256_roundConstants)]) W := h
  have h2 : laidMet Tryd.prog (("attestor/sha256.roundConstants", Lib.tabData .u32 (kN.map fun x : Nat => (x : Int))) :: []) W := by
    have hk := laidMet.filter (fun x => x.1 == "attestor/sha256.roundConstants") h
    rwa [show (laid7.filter fun x => x.1 == "attestor/sha256.roundConstants") = [("attestor/sha256.roundConstants", Lib.tabData .u32 (kN.map fun x : Nat => (x : Int)))] by kernel_rfl] at hk
  have g1 : Tryd.prog.globalNamed "attestor/sha256.initialChain" = some 0 := by kernel_rfl
  have g2 : Tryd.prog.globalNamed "attestor/sha256.roundConstants" = some 1 := by kernel_rfl
  have t1 := Lib.tabIs_of_head g1 (t := 98) (by kernel_rfl) Tryd.underlying98 Tryd.underlying82 (by kernel_rfl) (by kernel_rfl) h1
  have t2 := Lib.tabIs_of_head g2 (t := 94) (by kernel_rfl) Tryd.underlying94 Tryd.underlying82 (by kernel_rfl) (by kernel_rfl) h2
  refine ⟨fun i hi => ?_, fun i hi => ?_⟩
  · have := t2.cell g2 i (by rw [List.length_map, kN_length]; exact hi)
    rw [this, List.getD_eq_getElem?_getD, List.getElem?_map, List.getD_eq_getElem?_getD, List.getElem?_eq_getElem (by rw [kN_length]; exact hi)]
    rfl
  · have := t1.cell g1 i (by rw [List.length_map, chL_length]; exact hi)
    rw [this, List.getD_eq_getElem?_getD, List.getElem?_map, List.getD_eq_getElem?_getD, List.getElem?_eq_getElem (by rw [chL_length]; exact hi)]
    rfl
theorem door_met (os : Os) (args : Array Value) : laidMetH Tryd.prog laid7 ((World.doorLaid Tryd.prog 400 os).forCall (fun _ _ => 0) ⟨#[], args, []⟩).memory :=
  laidMetH_of_parts3 (fuel := 8) (laidMet_of_run' 8 (by kernel_rfl) (by kernel_rfl)) (by kernel_rfl) (by kernel_rfl)

theorem celB_cell {xs : List Nat} (h : ∀ x ∈ xs, x < 256) : celB xs = (xs.map UInt8.ofNat).map Extern.Stop.cell := by
  unfold celB
  rw [List.map_map]
  refine List.map_congr_left fun x hx => ?_
  have := h x hx
  show Value.int .u8 (x : Int) = Value.int .u8 ((UInt8.ofNat x).toNat : Int)
  rw [UInt8.toNat_ofNat', Nat.mod_eq_of_lt this]
theorem ofNat_inj {xs ys : List Nat} (hx : ∀ x ∈ xs, x < 256) (hy : ∀ y ∈ ys, y < 256) : (xs.map UInt8.ofNat == ys.map UInt8.ofNat) = decide (xs = ys) := by
  by_cases h : xs = ys
  · subst h
    simp
  · rw [decide_eq_false h]
    refine beq_false_of_ne fun e => h ?_
    have e2 := congrArg (List.map UInt8.toNat) e
    rw [List.map_map, List.map_map] at e2
    have key : ∀ (l : List Nat), (∀ x ∈ l, x < 256) → l.map (UInt8.toNat ∘ UInt8.ofNat) = l := fun l hl => by
      conv => rhs; rw [← List.map_id l]
      refine List.map_congr_left fun x hx => ?_
      show (UInt8.ofNat x).toNat = x
      rw [UInt8.toNat_ofNat', Nat.mod_eq_of_lt (hl x hx)]
    rwa [key xs hx, key ys hy] at e2
theorem run_eqD (w : World) (xs ys : List Nat) (hx : xs.length = 32) (hy : ys.length = 32) (bx : ∀ x ∈ xs, x < 256) (b2 : ∀ y ∈ ys, y < 256) :
    (binOp .eql 30 (.agg (celB xs).toArray) (.agg (celB ys).toArray)).run Tryd.prog w = .ok (.bool (decide (xs = ys))) w := by
  rw [celB_cell bx, celB_cell b2, run_eql_bytes w 30 5 32 Tryd.underlying30 Tryd.underlying5 (fun w => by kernel_rfl) _ _ (by rw [List.length_map, hx]) (by rw [List.length_map, hy]), ofNat_inj bx b2]
theorem run_eqD_same (xs : List Nat) (hx : xs.length = 32) (bx : ∀ x ∈ xs, x < 256) (w : World) :
    (binOp .eql 30 (.agg (celB xs).toArray) (.agg (celB xs).toArray)).run Tryd.prog w = .ok (.bool true) w := by
  rw [run_eqD w xs xs hx hx bx bx, decide_eq_true rfl]
end Go.Proofs.YtcaoajeplinopaaDoor

namespace Go.Proofs.YtcaoajeplinopaaDoor
set_option linter.unusedVariables false
set_option linter.unusedSimpArgs false
set_option maxRecDepth 8000
open Go.ChangeShapes Go.WideShapes Go.ChangeAt Go.RowKit Go.Joins
attribute [local simp] z32_ne z32_run

section
variable {H : Type} {enc : TypeId × Value → H} {W : World} {base : Nat} {sp : Nat → Bool} {b1 : Nat} {hd : Bool} {v : Value} {d : DataW H} {p : List MemPlace}
theorem bytes_of_trod {fuel : Nat} {cs : List Value} (hf : DataW.trod enc Tryd.prog W b1 sp hd fuel 22 cs = some (d, p)) : ∃ (A : Option Addr) (n c : Nat) (bs : List Nat), cs = [.slice A n c] ∧ Sb W A n c bs := by
  rcases open_ints Tryd.underlying22 Tryd.underlying5 cellsB hf with ⟨hcs, _⟩ | ⟨a, len, cap, zs, hcs, _, hl, hm, hlen, _, hcell, hwf⟩
  · exact ⟨none, 0, 0, [], hcs, Sb.nil_ _⟩
  · unfold maxLen at hm
    have hnl : len ≤ zs.length := by rw [hlen]; split <;> omega
    have hbd : ∀ z ∈ zs, 0 ≤ z ∧ z ≤ 255 := fun z hz => bounds_u8 (hwf z hz)
    refine ⟨some a, len, cap, (zs.take len).map Int.toNat, hcs, ⟨by rw [List.length_map, List.length_take]; omega, hl, by omega, (fun e => by cases e), fun x hx => ?_, fun i z hz => ⟨a, rfl, ?_⟩⟩⟩
    · obtain ⟨z, hz, rfl⟩ := List.mem_map.1 hx
      have := hbd z (List.mem_of_mem_take hz)
      omega
    · rw [List.getElem?_map] at hz
      cases hx : (zs.take len)[i]? with
      | none => rw [hx] at hz; cases hz
      | some x =>
        rw [hx] at hz
        injection hz with hz
        subst hz
        have hi := (List.getElem?_eq_some_iff.1 hx).1
        rw [List.length_take] at hi
        have hxz := hbd x (List.mem_of_mem_take (List.mem_of_getElem? hx))
        rw [List.getElem?_take_of_lt (by omega)] at hx
        have h1 := hcell i (by omega)
        rw [List.getD_eq_getElem?_getD, hx] at h1
        rw [Int.toNat_of_nonneg hxz.1]
        exact h1
end
theorem run_allocD (ev : Operand → Value) (o : Oper) (w : World) (h : o.op = .alloc 30) : (execOp ev o).run Tryd.prog w = .ok (.value (ptr w.heap.size)) (w.alloc (.cells z32 30)) := by
  unfold execOp
  rw [h]
  go_simp
  exact ⟨rfl, rfl⟩
section
variable {P : Program} {ops : Array Oper} {w0 : World}
/-- the last operation, a run that yields a value -/
theorem mOp_val {m : Nat} {o : Oper} {a : Act} {w : World} {K : Act → World → Prop} (v : Value) (h0 : ops[m]? = some o) (hg : o.guard = none) (hr : (execOp a.eval o).run P w = .ok (.value v) w) (h : K (a.put o.dst v) w) : mOp P ops m K a w := by
  refine ⟨o, h0, by unfold Region.wanted; rw [hg], ?_⟩
  unfold hOp
  rw [hr]
  exact h
end
end Go.Proofs.YtcaoajeplinopaaDoor

namespace Go.Proofs.YtcaoajeplinopaaDoor
set_option linter.unusedVariables false
set_option linter.unusedSimpArgs false
set_option maxRecDepth 8000
open Go.RowKit

section
variable {P : Program} {ops : Array Oper} {w0 : World} {Q : Exit → Act → World → Prop}
theorem wpG_firstP {i : Nat} {oi : Oper} (hi : ops[i]? = some oi) (hsel : ∀ (j : Nat) (o : Oper) cs b, ops[j]? = some o → o.op ≠ .select cs b) : ∀ (n : Nat) (listed : Array Bool) (a : Act) (w : World), SL w0 w →
      (∀ j oj, ops[j]? = some oj → j ≠ i → listed.getD j true = false → (∀ e ∈ oj.after, Region.binds .any e = true → e.on ≠ i) → oi.apart ops oj = true) →
      (∀ j, listed.getD j true = false → j ≠ i → i + 1 < ops.size) →
      (stillOp oi = false → ChainF ops i listed) → i ∈ Region.ready .any ops listed → gOp P ops w0 i (wpG P ops w0 Q n (listed.setIfInBounds i true)) a w → wpG P ops w0 Q (n + 1) listed a w := by
  intro n
  induction n with
  | zero =>
    intro listed a w hS _ _ _ hr H
    refine ⟨fun h => (by rw [h] at hr; cases hr), fun j hj => ?_⟩
    by_cases hji : j = i
    · subst hji; exact H
    · obtain ⟨a', w', h0, _⟩ := gOp_out hS H
      have := ready_mono hj hji
      rw [h0] at this
      cases this
  | succ n ih =>
    intro listed a w hS hfree hgt hchain hr H
    refine ⟨fun h => (by rw [h] at hr; cases hr), fun j hj => ?_⟩
    by_cases hji : j = i
    · subst hji; exact H
    obtain ⟨hjun, oj, hoj, hall⟩ := mem_ready.1 hj
    have hnot : ∀ e ∈ oj.after, Region.binds .any e = true → e.on ≠ i := fun e he hb heq => by
      have h1 := hall e he hb
      have h0 := (mem_ready.1 hr).1
      rw [heq, getD_both h0] at h1
      cases h1
    have hap := hfree j oj hoj hji hjun hnot
    obtain ⟨p1, p2, p3⟩ := Oper.apart_spec hap
    have hsi := fun cs b => hsel i oi cs b hi
    have hsj := fun cs b => hsel j oj cs b hoj
    have hij := hgt j hjun hji
    have hjlt : j < ops.size := (Array.getElem?_eq_some_iff.1 hoj).1
    have hfree' : ∀ k ok, ops[k]? = some ok → k ≠ i → (listed.setIfInBounds j true).getD k true = false →
        (∀ e ∈ ok.after, Region.binds .any e = true → e.on ≠ i) → oi.apart ops ok = true := fun k ok hk hki hun hno => by
      refine hfree k ok hk hki ?_ hno
      by_cases hjk : j = k
      · subst hjk; exact hjun
      · rw [getD_set_ne true hjk] at hun; exact hun
    have hgt' : ∀ k, (listed.setIfInBounds j true).getD k true = false → k ≠ i → i + 1 < ops.size := fun k hun hki => by
      refine hgt k ?_ hki
      by_cases hjk : j = k
      · subst hjk; exact hjun
      · rw [getD_set_ne true hjk] at hun; exact hun
    -- where i calls or makes, j does not call
    have hjc : stillOp oi = false → ¬ (stillOp oj = false ∧ makerOp oj = false) := fun hs ⟨h1, h2⟩ => by
      exact ((hchain hs).2 j oj hoj hji hjun h1 h2).not_ready (hchain hs).1 (getD_both (mem_ready.1 hr).1) hoj hall
    have hchain' : stillOp oi = false → ChainF ops i (listed.setIfInBounds j true) := fun hs => by
      refine ⟨fun k hk => ?_, fun k ok hk hki hun hks hkm => ?_⟩
      · have hjk : j ≠ k := by
          rintro rfl
          exact hk.not_ready (hchain hs).1 (getD_both (mem_ready.1 hr).1) hoj hall
        rw [getD_set_ne false hjk]
        exact (hchain hs).1 k hk
      · refine (hchain hs).2 k ok hk hki ?_ hks hkm
        by_cases hjk : j = k
        · subst hjk; exact hjun
        · rw [getD_set_ne true hjk] at hun; exact hun
    have hr' := ready_mono hr (Ne.symm hji)
    have hjr := ready_mono hj hji
    have nst : ¬ quietNow ops oi a → stillOp oi = false := fun h => by
      cases e : stillOp oi with
      | false => rfl
      | true => exact absurd (.inl e) h
    have nst' : ¬ quietNow ops oj a → stillOp oj = false := fun h => by
      cases e : stillOp oj with
      | false => rfl
      | true => exact absurd (.inl e) h
    have qj : ∀ v, quietNow ops oj (a.put oi.dst v) ↔ quietNow ops oj a := fun v => quietNow_put p1
    have qi : ∀ v, quietNow ops oi (a.put oj.dst v) ↔ quietNow ops oi a := fun v => quietNow_put p3
    have yj : ∀ {u v : Value}, YieldsIf P ops (SL w0) oj u (a.put oi.dst v) → YieldsIf P ops (SL w0) oj u a := fun h => h.of_same (execOp_put oj hsj a oi.dst _ p1).symm (wanted_put oj a oi.dst _ p1).symm
    have yi : ∀ {u v : Value}, YieldsIf P ops (SL w0) oi u a → YieldsIf P ops (SL w0) oi u (a.put oj.dst v) := fun h => h.of_same (execOp_put oi hsi a oj.dst _ p3) (wanted_put oi a oj.dst _ p3)
    have mj : ∀ {z : Obj × (Nat → Value)} {v : Value}, Makes P ops oj z (a.put oi.dst v) → Makes P ops oj z a := fun h => h.of_same (execOp_put oj hsj a oi.dst _ p1).symm
    have mi : ∀ {z : Obj × (Nat → Value)} {v : Value}, Makes P ops oi z a → Makes P ops oi z (a.put oj.dst v) := fun h => h.of_same (execOp_put oi hsi a oj.dst _ p3)
    have cm : ∀ {u v : Value} {W : World}, wpG P ops w0 Q n ((listed.setIfInBounds i true).setIfInBounds j true) ((a.put oi.dst v).put oj.dst u) W → wpG P ops w0 Q n ((listed.setIfInBounds j true).setIfInBounds i true) ((a.put oj.dst u).put oi.dst v) W := fun {u v W} h => by
      rw [Array.setIfInBounds_comm _ _ hji, ← Act.put_comm a v u p2]
      exact h
    unfold gOp at H
    rw [hi] at H
    unfold gOp
    rw [hoj]
    rcases H with ⟨hq, v, hy, HK⟩ | ⟨⟨hnq, hm⟩, z, hz, HK⟩ | ⟨⟨hnq, hm⟩, HK⟩
    · have h1 := HK.2 j hjr
      unfold gOp at h1
      rw [hoj] at h1
      have step : ∀ u W, SL w0 W → wpG P ops w0 Q n ((listed.setIfInBounds i true).setIfInBounds j true) ((a.put oi.dst v).put oj.dst u) W → wpG P ops w0 Q (n + 1) (listed.setIfInBounds j true) (a.put oj.dst u) W := fun u W hW hk => by
        refine ih (listed.setIfInBounds j true) (a.put oj.dst u) W hW hfree' hgt' hchain' hr' ?_
        unfold gOp
        rw [hi]
        exact .inl ⟨(qi u).2 hq, v, yi hy, cm hk⟩
      rcases h1 with ⟨hqj, u, hu, hk⟩ | ⟨⟨hqj, hmj⟩, z, hz, hk⟩ | ⟨⟨hqj, hmj⟩, hk⟩
      · exact .inl ⟨(qj v).1 hqj, u, yj hu, step u w hS hk⟩
      · exact .inr (.inl ⟨⟨fun e => hqj ((qj v).2 e), hmj⟩, z, mj hz, fun b W h1 h2 h3 => step _ W (hS.ext h1) (hk b W h1 h2 h3)⟩)
      · exact .inr (.inr ⟨⟨fun e => hqj ((qj v).2 e), hmj⟩, fun W hW => hOp_mono (fun u w' ⟨e1, e2, e3⟩ => ⟨e1, e2, step u w' e2 e3⟩) (hOp_unput hsj p1 (hk W hW))⟩)
    · have hs := nst hnq
      have hE : Below w.heap.size w (w.alloc z.1) := (Below.refl _ _).alloc (Nat.le_refl _) _
      have h1 := (HK w.heap.size (w.alloc z.1) hE (heap_new w z.1) hS.below.size).2 j hjr
      unfold gOp at h1
      rw [hoj] at h1
      rcases h1 with ⟨hqj, u, hu, _⟩ | ⟨⟨hqj, hmj⟩, z', hz', _⟩ | ⟨⟨hqj, hmj⟩, _⟩
      · refine .inl ⟨(qj _).1 hqj, u, yj hu, ih (listed.setIfInBounds j true) (a.put oj.dst u) w hS hfree' hgt' hchain' hr' ?_⟩
        unfold gOp
        rw [hi]
        refine .inr (.inl ⟨⟨fun e => hnq ((qi u).1 e), hm⟩, z, mi hz, fun b W h1 h2 h3 => ?_⟩)
        have h4 := (HK b W h1 h2 h3).2 j hjr
        unfold gOp at h4
        rw [hoj] at h4
        rcases h4 with ⟨_, u', hu', hk'⟩ | ⟨⟨hqj', _⟩, _⟩ | ⟨⟨hqj', _⟩, _⟩
        · have e := YieldsIf.one (hS.ext h1) (yj hu') (yj hu)
          subst e
          exact cm hk'
        · exact absurd ((qj _).2 ((qj _).1 hqj)) hqj'
        · exact absurd ((qj _).2 ((qj _).1 hqj)) hqj'
      · refine .inr (.inl ⟨⟨fun e => hqj ((qj _).2 e), hmj⟩, z', mj hz', fun b' W' h1' h2' h3' => ih (listed.setIfInBounds j true) (a.put oj.dst (z'.2 b')) W' (hS.ext h1') hfree' hgt' hchain' hr' ?_⟩)
        unfold gOp
        rw [hi]
        refine .inr (.inl ⟨⟨fun e => hnq ((qi _).1 e), hm⟩, z, mi hz, fun b W h1 h2 h3 => ?_⟩)
        have h4 := (HK b W (ext_trans h1' h1) h2 h3).2 j hjr
        unfold gOp at h4
        rw [hoj] at h4
        rcases h4 with ⟨hqj', _⟩ | ⟨_, z'', hz'', hk'⟩ | ⟨⟨_, hmj'⟩, _⟩
        · exact absurd ((qj _).2 ((qj _).1 hqj')) hqj
        · have e := Makes.one w (mj hz'') (mj hz')
          subst e
          exact cm (hk' b' W (Below.refl _ _) (heap_keep h2' h1) h3')
        · rw [hmj] at hmj'; cases hmj'
      · exact absurd ⟨nst' (fun e => hqj ((qj _).2 e)), hmj⟩ (hjc hs)
    · have hs := nst hnq
      obtain ⟨v0, w1, _, hS1, hK1⟩ := hOp_out (HK w (Below.refl _ _))
      have h1 := hK1.2 j hjr
      unfold gOp at h1
      rw [hoj] at h1
      rcases h1 with ⟨hqj, u, hu, _⟩ | ⟨⟨hqj, hmj⟩, z', hz', _⟩ | ⟨⟨hqj, hmj⟩, _⟩
      · refine .inl ⟨(qj _).1 hqj, u, yj hu, ih (listed.setIfInBounds j true) (a.put oj.dst u) w hS hfree' hgt' hchain' hr' ?_⟩
        unfold gOp
        rw [hi]
        refine .inr (.inr ⟨⟨fun e => hnq ((qi u).1 e), hm⟩, fun W hW => hOp_put hsi p3 (hOp_mono (fun v w' ⟨e1, e2, e3⟩ => ⟨e1, e2, ?_⟩) (HK W hW))⟩)
        have h4 := e3.2 j hjr
        unfold gOp at h4
        rw [hoj] at h4
        rcases h4 with ⟨_, u', hu', hk'⟩ | ⟨⟨hqj', _⟩, _⟩ | ⟨⟨hqj', _⟩, _⟩
        · have e := YieldsIf.one e2 (yj hu') (yj hu)
          subst e
          exact cm hk'
        · exact absurd ((qj _).2 ((qj _).1 hqj)) hqj'
        · exact absurd ((qj _).2 ((qj _).1 hqj)) hqj'
      · refine .inr (.inl ⟨⟨fun e => hqj ((qj _).2 e), hmj⟩, z', mj hz', fun b W' h1' h2' h3' => ih (listed.setIfInBounds j true) (a.put oj.dst (z'.2 b)) W' (hS.ext h1') hfree' hgt' hchain' hr' ?_⟩)
        unfold gOp
        rw [hi]
        refine .inr (.inr ⟨⟨fun e => hnq ((qi _).1 e), hm⟩, fun W hW => hOp_put hsi p3 (hOp_mono (fun v w' ⟨e1, e2, e3⟩ => ⟨e1, e2, ?_⟩) (HK W (ext_trans h1' hW)))⟩)
        have h4 := e3.2 j hjr
        unfold gOp at h4
        rw [hoj] at h4
        rcases h4 with ⟨hqj', _⟩ | ⟨_, z'', hz'', hk'⟩ | ⟨⟨_, hmj'⟩, _⟩
        · exact absurd ((qj _).2 ((qj _).1 hqj')) hqj
        · have e := Makes.one w (mj hz'') (mj hz')
          subst e
          exact cm (hk' b w' (Below.refl _ _) (heap_keep (heap_keep h2' hW) (e1 hij)) h3')
        · rw [hmj] at hmj'; cases hmj'
      · exact absurd ⟨nst' (fun e => hqj ((qj _).2 e)), hmj⟩ (hjc hs)


theorem apart_symm {x y : Oper} (h : x.apart ops y = true) : y.apart ops x = true := by
  obtain ⟨p1, p2, p3⟩ := Oper.apart_spec h
  unfold Oper.apart
  rw [Bool.and_eq_true]
  constructor
  · cases hd : y.dst with
    | none => rfl
    | some d =>
      simp only [Bool.and_eq_true]
      refine ⟨by simpa using p3 d hd, ?_⟩
      have : x.dst ≠ some d := fun e => p2 d e hd
      simpa using this
  · cases hd : x.dst with
    | none => rfl
    | some d => simpa using p1 d hd

/-- what the order keeps: each is taken once, behind what it waits for; what calls or makes waits for the calls before it -/
structure OrdOK (ops : Array Oper) (done is : List Nat) : Prop where
  every : ∀ j, j < ops.size → j ∈ done ∨ j ∈ is
  step : ∀ (pre : List Nat) (i : Nat) (rest : List Nat), is = pre ++ i :: rest → ∃ o, ops[i]? = some o ∧ i ∉ pre ∧ i ∉ done ∧ i ∉ rest ∧
    (∀ e ∈ o.after, Region.binds .any e = true → e.on ∈ done ∨ e.on ∈ pre) ∧ (rest ≠ [] → i + 1 < ops.size) ∧
    (stillOp o = false → ∀ j oj, j ∈ rest → ops[j]? = some oj → stillOp oj = false → makerOp oj = false → Waits ops i j)
theorem OrdOK.tail {done : List Nat} {i : Nat} {is : List Nat} (h : OrdOK ops done (i :: is)) : OrdOK ops (i :: done) is := by
  refine ⟨fun j hj => ?_, fun pre k rest e => ?_⟩
  · rcases h.every j hj with h1 | h1
    · exact .inl (List.mem_cons_of_mem _ h1)
    · rcases List.mem_cons.1 h1 with h1 | h1
      · exact .inl (h1 ▸ List.mem_cons_self)
      · exact .inr h1
  · obtain ⟨o, h1, h2, h3, h4, h5, h6, h7⟩ := h.step (i :: pre) k rest (by rw [e]; rfl)
    refine ⟨o, h1, fun hh => h2 (List.mem_cons_of_mem _ hh), fun hh => ?_, h4, fun e' he hb => ?_, h6, h7⟩
    · rcases List.mem_cons.1 hh with hh | hh
      · exact h2 (hh ▸ List.mem_cons_self)
      · exact h3 hh
    · rcases h5 e' he hb with h8 | h8
      · exact .inl (List.mem_cons_of_mem _ h8)
      · rcases List.mem_cons.1 h8 with h8 | h8
        · exact .inl (h8 ▸ List.mem_cons_self)
        · exact .inr h8

theorem wpG_of_ord (hx : LexOK ops) : ∀ (is : List Nat) (l : List Oper) (done : List Nat) (listed : Array Bool) (a : Act) (w : World), SL w0 w → OrdOK ops done is →
    is.map (fun i => ops[i]?) = l.map some → listed.size = ops.size → (∀ i, i ∈ done → listed.getD i false = true) → (∀ i, i ∈ is → listed.getD i true = false) → (∀ j k, k ∈ done → Waits ops j k → j ∈ done) → (is ≠ [] → ∀ j, j ∈ done → j + 1 < ops.size) →
    wpF P ops w0 Q l a w → wpG P ops w0 Q l.length listed a w
  | [], [], done, listed, a, w, _, ho, _, hz, h1, _, _, _, h => by
    refine ⟨?_, h⟩
    refine List.eq_nil_iff_forall_not_mem.2 fun i hi => ?_
    obtain ⟨h0, o, hoi, _⟩ := mem_ready.1 hi
    have hlt := (Array.getElem?_eq_some_iff.1 hoi).1
    rcases ho.every i hlt with h3 | h3
    · have h4 := h1 i h3
      rw [getD_both h0] at h4
      cases h4
    · cases h3
  | [], _ :: _, _, _, _, _, _, _, hm, _, _, _, _, _, _ => by simp at hm
  | _ :: _, [], _, _, _, _, _, _, hm, _, _, _, _, _, _ => by simp at hm
  | k :: is, o :: l, done, listed, a, w, hS, ho, hm, hz, h1, h2, hw, hd, h => by
    simp only [List.map_cons, List.cons.injEq] at hm
    obtain ⟨h0, hm⟩ := hm
    have hlt : k < ops.size := (Array.getElem?_eq_some_iff.1 h0).1
    obtain ⟨o', h0', _, hkd, hkr, hed, hlast, hch⟩ := ho.step [] k is rfl
    rw [h0] at h0'
    injection h0' with h0'
    subst h0'
    have hed' : ∀ e ∈ o.after, Region.binds .any e = true → e.on ∈ done := fun e he hb => by
      rcases hed e he hb with h3 | h3
      · exact h3
      · cases h3
    have hun : ∀ j, listed.getD j true = false → j ≠ k → j ∈ is := fun j hun hne => by
      have hj : j < ops.size := by
        rw [← hz]
        rcases Nat.lt_or_ge j listed.size with h3 | h3
        · exact h3
        · rw [Array.getD_eq_getD_getElem?, Array.getElem?_eq_none h3] at hun
          cases hun
      rcases ho.every j hj with h3 | h3
      · have h4 := h1 j h3
        rw [getD_both hun] at h4
        cases h4
      · rcases List.mem_cons.1 h3 with h3 | h3
        · exact absurd h3 hne
        · exact h3
    have hnil : l ≠ [] ↔ is ≠ [] := by
      have := congrArg List.length hm
      simp only [List.length_map] at this
      constructor
      · intro h3 h4
        subst h4
        exact h3 (List.eq_nil_of_length_eq_zero this.symm)
      · intro h3 h4
        subst h4
        exact h3 (List.eq_nil_of_length_eq_zero this)
    have rec_ : ∀ a' W, SL w0 W → wpF P ops w0 Q l a' W → wpG P ops w0 Q l.length (listed.setIfInBounds k true) a' W := fun a' W hW h' =>
      wpG_of_ord hx is l (k :: done) _ a' W hW ho.tail hm (by simpa using hz)
        (by
          intro i hi
          rcases List.mem_cons.1 hi with e | e
          · subst e
            simp [hz, hlt]
          · exact getD_set_true (h1 i e))
        (by
          intro i hi
          rw [getD_set_ne true (show k ≠ i from fun e => hkr (by rw [e]; exact hi))]
          exact h2 i (List.mem_cons_of_mem _ hi))
        (by
          intro j q hq hjq
          rcases List.mem_cons.1 hq with e | e
          · subst e
            cases hjq with
            | on e' h3 he hb hon =>
              rw [h0] at h3
              injection h3 with h3
              subst h3
              exact List.mem_cons_of_mem _ (hon ▸ hed' _ he hb)
            | step e' h3 he hb hst =>
              rw [h0] at h3
              injection h3 with h3
              subst h3
              exact List.mem_cons_of_mem _ (hw j _ (hed' _ he hb) hst)
          · exact List.mem_cons_of_mem _ (hw j q e hjq))
        (by
          intro hne j hj
          rcases List.mem_cons.1 hj with e | e
          · subst e
            exact hlast hne
          · exact hd (by simp) j e) h'
    have hst : gOp P ops w0 k (wpG P ops w0 Q l.length (listed.setIfInBounds k true)) a w := by
      unfold gOp
      rw [h0]
      rcases h with ⟨hq, v, hy, hk'⟩ | ⟨hq, z, hz', hk'⟩ | ⟨hq, hk'⟩
      · exact .inl ⟨hq, v, hy, rec_ _ _ hS hk'⟩
      · exact .inr (.inl ⟨hq, z, hz', fun b W e1 e2 e3 => rec_ _ _ (hS.ext e1) (hk' b W e1 e2 e3)⟩)
      · refine .inr (.inr ⟨hq, fun W hW => hOp_mono (fun v w' ⟨e1, e2, e3⟩ => ⟨fun hk1 => e1 ?_, e2, rec_ _ _ e2 e3⟩) (hk' W hW)⟩)
        intro hl
        have hi : is = [] := Classical.byContradiction fun h9 => (hnil.2 h9) hl
        rcases ho.every (ops.size - 1) (by omega) with h8 | h8
        · have := hd (by simp) _ h8
          omega
        · rw [hi] at h8
          rcases List.mem_cons.1 h8 with h8 | h8
          · omega
          · cases h8
    refine wpG_firstP h0 (Region.noSelect_spec hx.sel) l.length listed a w hS ?_ ?_ ?_ (mem_ready.2 ⟨h2 k List.mem_cons_self, o, h0, fun e he hb => h1 _ (hed' e he hb)⟩) hst
    · intro j oj hj hne hju hno
      rcases Nat.lt_trichotomy k j with h3 | h3 | h3
      · exact hx.free k j o oj h3 h0 hj hno
      · exact absurd h3.symm hne
      · refine apart_symm (hx.free j k oj o h3 hj h0 fun e he hb heq => ?_)
        have h4 := h1 _ (hed' e he hb)
        rw [heq, getD_both hju] at h4
        cases h4
    · intro j hju hne
      exact hlast (List.ne_nil_of_mem (hun j hju hne))
    · intro hs
      refine ⟨fun j hjw => ?_, fun j oj hj hne hju hjs hjm => hch hs j oj (hun j hju hne) hj hjs hjm⟩
      have hjl : j < ops.size := (hjw.lt hx).2
      have hnd : j ∉ done := fun hd => hkd (hw k j hd hjw)
      have hjk : j ≠ k := fun e => by have := (hjw.lt hx).1; omega
      rcases ho.every j hjl with h3 | h3
      · exact absurd h3 hnd
      · exact getD_both (h2 j h3)

theorem wp_floatP (is : List Nat) {id : Nat} {a : Act} {w : World} {l l' : List Oper} (hm : P.follows .mixedOrders = true) (hx : LexOK l.toArray) (ho : OrdOK l.toArray [] is) (hl : is.map (fun i => l.toArray[i]?) = l'.map some) (hn : is.length = l.length)
    (h : ∀ V, Below w.heap.size w V → SL w V → wpF P l.toArray w Q l' a V) : (Code.region id l.toArray true).wp P Q a w := by
  have hS : SL w w.drew := ⟨⟨w.drew, (Below.refl _ _).drew⟩, rfl⟩
  refine wp_region_any hm (wpAny_of_wpG (w0 := w) _ _ _ _ hS ?_)
  have := wpG_of_ord (P := P) (w0 := w) (Q := Q) hx is l' [] (Array.replicate l.toArray.size false) a w.drew hS ho hl (by simp) (fun i hi => by cases hi) (fun i hi => by
    obtain ⟨pre, rest, e⟩ := List.append_of_mem hi
    obtain ⟨o, h1, _⟩ := ho.step pre i rest e
    have hlt := (Array.getElem?_eq_some_iff.1 h1).1
    exact getD_in (by simpa using hlt) (getD_replicate_false _ _)) (fun j k hk => by cases hk) (fun _ j hj => by cases hj) (h _ (Below.refl _ _).drew hS)
  have hll : l'.length = l.length := by
    have := congrArg List.length hl
    simp at this
    omega
  rw [hll] at this
  simpa using this
end

def maskL : List Oper → List Nat → List Nat
  | [], ms => ms
  | o :: l, ms => maskL l (ms ++ [waitM ms o.after.toList])
theorem maskL_spec {ops : Array Oper} : ∀ (l : List Oper) (ms : List Nat), (∀ j, l[j]? = ops[ms.length + j]?) → (∀ j i, (ms.getD j 0).testBit i = true → Waits ops i j) → ∀ j i, ((maskL l ms).getD j 0).testBit i = true → Waits ops i j
  | [], ms, _, hp => hp
  | o :: l, ms, hl, hp => by
    have h0 : ops[ms.length]? = some o := by simpa using (hl 0).symm
    refine maskL_spec l _ (fun j => by have := hl (j + 1); simpa [Nat.add_assoc, Nat.add_comm 1 j] using this) ?_
    intro j' i' hw
    rcases Nat.lt_trichotomy j' ms.length with h' | h' | h'
    · refine hp j' i' ?_
      rw [List.getD_eq_getElem?_getD, List.getElem?_append_left h', ← List.getD_eq_getElem?_getD] at hw
      exact hw
    · subst h'
      rw [List.getD_eq_getElem?_getD, List.getElem?_append_right (Nat.le_refl _), Nat.sub_self] at hw
      obtain ⟨e, he, hb, hon⟩ := waitM_spec _ i' hw
      have he' : e ∈ o.after := by simpa using he
      rcases hon with hon | hon
      · exact .on e h0 he' hb hon
      · exact .step e h0 he' hb (hp _ _ hon)
    · rw [List.getD_eq_getElem?_getD, List.getElem?_eq_none (by simp; omega)] at hw
      simp at hw
def edgesIn (done : List Nat) : List Edge → Bool
  | [] => true
  | e :: l => (bif Region.binds .any e then done.elem e.on else true) && edgesIn done l
def waitsAll (l : List Oper) (ms : List Nat) (i : Nat) : List Nat → Bool
  | [] => true
  | j :: rest => (match l[j]? with | none => true | some oj => stillOp oj || (makerOp oj || bitOf (ms.getD j 0) i)) && waitsAll l ms i rest
def ordN (l : List Oper) (ms : List Nat) : List Nat → List Nat → Bool
  | _, [] => true
  | done, i :: rest => (match l[i]? with
    | none => false
    | some o => edgesIn done o.after.toList && (stillOp o || waitsAll l ms i rest)) && (rest.isEmpty || Nat.blt (i + 1) l.length) && !(done.elem i) && !(rest.elem i) && ordN l ms (i :: done) rest
def allIn (is : List Nat) : Nat → Bool
  | 0 => true
  | n + 1 => is.elem n && allIn is n
theorem allIn_spec {is : List Nat} : ∀ (n : Nat), allIn is n = true → ∀ j, j < n → j ∈ is
  | n + 1, h, j, hj => by
    unfold allIn at h
    rw [Bool.and_eq_true] at h
    rcases Nat.lt_or_ge j n with h1 | h1
    · exact allIn_spec n h.2 j h1
    · obtain rfl : j = n := by omega
      exact List.elem_iff.1 h.1
theorem edgesIn_spec {done : List Nat} : ∀ (es : List Edge), edgesIn done es = true → ∀ e, e ∈ es → Region.binds .any e = true → e.on ∈ done
  | e :: l, h, e', he, hb => by
    unfold edgesIn at h
    rw [Bool.and_eq_true] at h
    rcases List.mem_cons.1 he with h1 | h1
    · subst h1
      rw [hb] at h
      exact List.elem_iff.1 h.1
    · exact edgesIn_spec l h.2 e' h1 hb
theorem waitsAll_cons {l : List Oper} {ms : List Nat} {i k : Nat} {rest : List Nat} (h : waitsAll l ms i (k :: rest) = true) : (∀ oj, l[k]? = some oj → stillOp oj = false → makerOp oj = false → bitOf (ms.getD k 0) i = true) ∧ waitsAll l ms i rest = true := by
  have h' : ((match l[k]? with | none => true | some oj => stillOp oj || (makerOp oj || bitOf (ms.getD k 0) i)) && waitsAll l ms i rest) = true := h
  rw [Bool.and_eq_true] at h'
  refine ⟨fun oj hoj hs hm => ?_, h'.2⟩
  have h2 := h'.1
  rw [hoj] at h2
  simpa only [hs, hm, Bool.false_or] using h2
theorem waitsAll_spec {l : List Oper} {ms : List Nat} {i : Nat} (rest : List Nat) (h : waitsAll l ms i rest = true) (j : Nat) (oj : Oper) (hj : j ∈ rest) (hoj : l[j]? = some oj) (hs : stillOp oj = false) (hm : makerOp oj = false) : (ms.getD j 0).testBit i = true := by
  induction rest with
  | nil => cases hj
  | cons k rest ih =>
    obtain ⟨h1, h2⟩ := waitsAll_cons h
    rcases List.mem_cons.1 hj with e | e
    · rw [← bitOf_eq, e]
      exact h1 oj (e ▸ hoj) hs hm
    · exact ih h2 e
theorem ordN_spec {l : List Oper} {ms : List Nat} (hms : ∀ j i, (ms.getD j 0).testBit i = true → Waits l.toArray i j) : ∀ (is done : List Nat), ordN l ms done is = true →
    ∀ (pre : List Nat) (i : Nat) (rest : List Nat), is = pre ++ i :: rest → ∃ o, l.toArray[i]? = some o ∧ i ∉ pre ∧ i ∉ done ∧ i ∉ rest ∧
    (∀ e ∈ o.after, Region.binds .any e = true → e.on ∈ done ∨ e.on ∈ pre) ∧ (rest ≠ [] → i + 1 < l.toArray.size) ∧
    (stillOp o = false → ∀ j oj, j ∈ rest → l.toArray[j]? = some oj → stillOp oj = false → makerOp oj = false → Waits l.toArray i j)
  | [], done, _, pre, i, rest, e => by simp at e
  | k :: is, done, h, pre, i, rest, e => by
    unfold ordN at h
    simp only [Bool.and_eq_true, Bool.not_eq_true'] at h
    obtain ⟨⟨⟨⟨h1, h2⟩, h3⟩, h4⟩, h5⟩ := h
    cases pre with
    | nil =>
      injection e with e1 e2
      subst e1
      subst e2
      cases hk : l[k]? with
      | none => rw [hk] at h1; cases h1
      | some o =>
        rw [hk] at h1
        simp only [Bool.and_eq_true] at h1
        refine ⟨o, by simpa using hk, by simp, fun hh => ?_, fun hh => ?_, fun e' he hb => .inl (edgesIn_spec _ h1.1 e' (by simpa using he) hb), fun hne => ?_, fun hs j oj hj hoj hjs hjm => ?_⟩
        · rw [List.elem_iff.2 hh] at h3
          cases h3
        · rw [List.elem_iff.2 hh] at h4
          cases h4
        · rw [Bool.or_eq_true] at h2
          rcases h2 with h2 | h2
          · exact absurd (List.isEmpty_iff.1 h2) hne
          · simpa [Nat.blt_eq] using h2
        · have h6 := h1.2
          rw [hs, Bool.false_or] at h6
          exact hms _ _ (waitsAll_spec _ h6 j oj hj (by simpa using hoj) hjs hjm)
    | cons q pre =>
      injection e with e1 e2
      subst e1
      obtain ⟨o, g1, g2, g3, g4, g5, g6, g7⟩ := ordN_spec hms is (k :: done) h5 pre i rest e2
      refine ⟨o, g1, fun hh => ?_, fun hh => g3 (List.mem_cons_of_mem _ hh), g4, fun e' he hb => ?_, g6, g7⟩
      · rcases List.mem_cons.1 hh with hh | hh
        · exact g3 (hh ▸ List.mem_cons_self)
        · exact g2 hh
      · rcases g5 e' he hb with g8 | g8
        · rcases List.mem_cons.1 g8 with g8 | g8
          · exact .inr (g8 ▸ List.mem_cons_self)
          · exact .inl g8
        · exact .inr (List.mem_cons_of_mem _ g8)
theorem ordOK_of {l : List Oper} {is : List Nat} (h : allIn is l.length = true) (h2 : ordN l (maskL l []) [] is = true) : OrdOK l.toArray [] is :=
  ⟨fun j hj => .inr (allIn_spec _ h j (by simpa using hj)), ordN_spec (maskL_spec (ops := l.toArray) l [] (by simp) (by intro j i hw; simp at hw)) is [] h2⟩
end Go.Proofs.YtcaoajeplinopaaDoor

namespace Go.Proofs.YtcaoajeplinopaaDoor
set_option linter.unusedVariables false
set_option linter.unusedSimpArgs false
set_option maxRecDepth 8000
open Go.RowKit
attribute [local simp] z32_ne z32_run
attribute [-simp] Tryd.zeroValue30 Tryd.isAgg30 Tryd.sizeOf30
section
variable {w w' : World} {base : Nat} {v : Value} {n : Nat} {Ds : List (List Nat)}
end
theorem rangeAt_keep {w w' : World} {g o : Nat} {cs : List Value} (h : w.rangeAt g o cs) (hb : Below w.heap.size w w') : w'.rangeAt g o cs := fun j v hj => cell_keep (h j v hj) hb
theorem exec_loadM {ev : Operand → Value} {o : Oper} {w : World} {x : Operand} (g k : Nat) {bs : List Nat} (hl : bs.length = 32) (h : w.rangeAt g k (celB bs)) (ho : o.op = .load 30 x) (hx : ev x = .pointer (some ⟨g, k, none⟩)) :
    (execOp ev o).run Tryd.prog w = .ok (.value (.agg (celB bs).toArray)) w := by
  unfold execOp
  simp only [ho, hx, Sem.run_bind, run_loadAt_mid w g k 30 (celB bs) _ h Tryd.underlying30 rfl (by rw [celB_length, hl]; kernel_rfl), Result.andThen_ok, Sem.run_pure]
end Go.Proofs.YtcaoajeplinopaaDoor

namespace Go.Proofs.YtcaoajeplinopaaDoor
set_option linter.unusedVariables false
set_option linter.unusedSimpArgs false
set_option maxRecDepth 8000
open Go.RowKit
section
variable {P : Program} {Q : Exit → Act → World → Prop}
theorem wpOp_of_hOp {ops : Array Oper} {i : Nat} {o : Oper} {K : Act → World → Prop} {a : Act} {w : World} (hi : ops[i]? = some o) (hw : Region.wanted o (yielded ops a.tmps) = true) (h : hOp P o (fun v w' => K (a.put o.dst v) w') a w) : wpOp P ops Q i K a w :=
  wpOp_of_mOp ⟨o, hi, hw, h⟩
theorem hOp_call {o : Oper} {a : Act} {w : World} {K : Value → World → Prop} {fn : Func} (f : FuncId) (hf : P.funcs[f]? = some fn) (hname : (fn.name == "runtime.NumGoroutine") = false) (hb : fn.body.isNone = false) (args : Array Operand) (ts : Array TypeId) (vs : Array Value) (ho : o.op = .call { callee := .value (.func f), args := args, argTypes := ts })
    (hv : args.map a.eval = vs) (h : Calls P f vs w fun e w' => ∃ v, e = .returned v ∧ K v w') : hOp P o K a w := by
  unfold hOp execOp
  simp only [ho]
  have e : (do let d ← resolve a.eval { callee := .value (.func f), args := args, argTypes := ts } o.type; invoke d.target d.args : Sem Next).run P w = .ok (.enter f vs) w := by
    subst hv
    have h1 : fn.name ≠ "runtime.NumGoroutine" := by simpa using hname
    have h2 : fn.body ≠ none := by
      intro e
      rw [e] at hb
      cases hb
    simp [resolve, Deferred.ofValue, invoke, go_sem, Act.eval, callFunc, hf, h1, h2]
  rw [e]
  exact h
end
end Go.Proofs.YtcaoajeplinopaaDoor

namespace Go.Proofs.YtcaoajeplinopaaDoor
set_option linter.unusedVariables false
set_option linter.unusedSimpArgs false
set_option maxRecDepth 8000
open Go.RowKit
attribute [local simp] z32_ne z32_run
attribute [-simp] Tryd.zeroValue30 Tryd.isAgg30 Tryd.sizeOf30
/-- a slice value that reads as digests -/
structure Db (w : World) (A : Option Addr) (n c : Nat) (Ds : List (List Nat)) : Prop where
  len : n = Ds.length
  cap : n ≤ c
  top : c ≤ 9223372036854775807
  nil : A = none → c = 0
  dig : ∀ d ∈ Ds, d.length = 32 ∧ ∀ x ∈ d, x < 256
  cells : ∀ (i : Nat) (d : List Nat), Ds[i]? = some d → ∃ g o, A = some ⟨g, o, none⟩ ∧ w.rangeAt g (o + 32 * i) (celB d)
theorem Db.keep {w w' : World} {A : Option Addr} {n c : Nat} {Ds : List (List Nat)} (h : Db w A n c Ds) (hb : Below w.heap.size w w') : Db w' A n c Ds :=
  ⟨h.len, h.cap, h.top, h.nil, h.dig, fun i d hd => by obtain ⟨g, o, e, hr⟩ := h.cells i d hd; exact ⟨g, o, e, rangeAt_keep hr hb⟩⟩
theorem range_ne {w : World} {g o x : Nat} {d : List Nat} {t : TypeId} {u : Value} (h : w.rangeAt g o (celB d)) (hl : d.length = 32) (hx : One w x t u) (hu : ∀ z, u ≠ .int .u8 z) : g ≠ x := by
  intro e
  subst e
  match d, hl with
  | z :: d, _ =>
    have := h 0 (.int .u8 (z : Int)) rfl
    unfold One at hx
    rw [World.cell?, hx] at this
    have h2 := List.mem_of_getElem? (l := [u]) (i := o) (by simpa using this)
    exact hu _ (List.mem_singleton.1 h2).symm
theorem Db.keepX {w w' : World} {A : Option Addr} {n c x : Nat} {Ds : List (List Nat)} {t : TypeId} {u : Value} (h : Db w A n c Ds) (hx : One w x t u) (hu : ∀ z, u ≠ .int .u8 z) (hb : SameX x w w') : Db w' A n c Ds :=
  ⟨h.len, h.cap, h.top, h.nil, h.dig, fun i d hd => by
    obtain ⟨g, o, e, hr⟩ := h.cells i d hd
    exact ⟨g, o, e, fun j v hj => cell_same hb (hr j v hj) (range_ne hr (h.dig d (List.mem_of_getElem? hd)).1 hx hu)⟩⟩
theorem Db.drop {w : World} {g o n c k : Nat} {Ds : List (List Nat)} (h : Db w (some ⟨g, o, none⟩) n c Ds) (hk : k ≤ n) : Db w (if c = k then some ⟨g, o, none⟩ else some ((⟨g, o, none⟩ : Addr).add (k * 32))) (n - k) (c - k) (Ds.drop k) := by
  have hl := h.len
  have hcp := h.cap
  refine ⟨by rw [List.length_drop]; omega, by omega, by have := h.top; omega, (fun e => by split at e <;> cases e), fun d hd => h.dig d (List.mem_of_mem_drop hd), fun i d hd => ?_⟩
  have hi := (List.getElem?_eq_some_iff.1 hd).1
  rw [List.length_drop] at hi
  rw [List.getElem?_drop] at hd
  obtain ⟨g', o', e, hr⟩ := h.cells _ _ hd
  injection e with e
  injection e with e1 e2
  subst e1 e2
  rw [if_neg (by omega)]
  refine ⟨g, o + k * 32, by rw [Addr.add_mid], ?_⟩
  rw [show o + k * 32 + 32 * i = o + 32 * (k + i) by omega]
  exact hr
theorem Db.take {w : World} {A : Option Addr} {n c k : Nat} {Ds : List (List Nat)} (h : Db w A n c Ds) (hk : k ≤ n) : Db w A k c (Ds.take k) :=
  ⟨by rw [List.length_take]; have := h.len; omega, by have := h.cap; omega, h.top, h.nil, fun d hd => h.dig d (List.mem_of_mem_take hd), fun i d hd => h.cells i d (by
    have hl := (List.getElem?_eq_some_iff.1 hd).1
    rw [List.getElem?_take_of_lt (by rw [List.length_take] at hl; omega)] at hd
    exact hd)⟩
theorem Db.some_ {w : World} {A : Option Addr} {n c : Nat} {Ds : List (List Nat)} (h : Db w A n c Ds) (hn : 0 < n) : ∃ g o, A = some ⟨g, o, none⟩ := by
  have hl := h.len
  obtain ⟨g, o, e, _⟩ := h.cells 0 (Ds[0]'(by omega)) (List.getElem?_eq_getElem _)
  exact ⟨g, o, e⟩
end Go.Proofs.YtcaoajeplinopaaDoor

namespace Go.Proofs.YtcaoajeplinopaaDoor
set_option linter.unusedVariables false
set_option linter.unusedSimpArgs false
set_option maxRecDepth 8000
open Go.RowKit
attribute [local simp] z32_ne z32_run
attribute [-simp] Tryd.zeroValue30 Tryd.isAgg30 Tryd.sizeOf30
theorem SameX.trans {x : Nat} {A B C : World} (h : SameX x A B) (k : SameX x B C) : SameX x A C := ⟨Nat.le_trans h.1 k.1, fun b hb hx => (k.2 b (by have := h.1; omega) hx).trans (h.2 b hb hx)⟩
theorem SameX.of_below {x : Nat} {A B : World} (h : Below A.heap.size A B) : SameX x A B := ⟨h.size, fun b hb _ => h.block b hb⟩
end Go.Proofs.YtcaoajeplinopaaDoor

namespace Go.Proofs.YtcaoajeplinopaaDoor
set_option linter.unusedVariables false
set_option linter.unusedSimpArgs false
set_option maxRecDepth 8000
open Go.RowKit
section
variable {P : Program} {Q : Exit → Act → World → Prop} {ops : Array Oper} {S : World → Prop}
/-- the walk: (i, true) is taken first, (i, false) comes up alone -/
def wpO (P : Program) (ops : Array Oper) (S : World → Prop) (Q : Exit → Act → World → Prop) : List (Nat × Bool) → Act → World → Prop
  | [], a, w => Q .normal a w
  | (i, true) :: is, a, w => ∃ o, ops[i]? = some o ∧ ∃ v, YieldsIf P ops S o v a ∧ wpO P ops S Q is (a.put o.dst v) w
  | (i, false) :: is, a, w => ∃ o, ops[i]? = some o ∧ Region.wanted o (yielded ops a.tmps) = true ∧ hOp P o (fun v w' => S w' ∧ wpO P ops S Q is (a.put o.dst v) w') a w
def okO (ops : Array Oper) : List (Nat × Bool) → Array Bool → Bool
  | [], m => (Region.ready .any ops m).isEmpty
  | (i, true) :: is, m => Region.free .any ops m i && (Region.ready .any ops m).contains i && okO ops is (m.setIfInBounds i true)
  | (i, false) :: is, m => (Region.ready .any ops m == [i]) && okO ops is (m.setIfInBounds i true)
theorem wpAnyH_of_wpO (hs : Region.noSelect ops = true) (hQ : ∀ c a (dt : Option Tmp) v w, Q (.panic c) (Act.put a dt v) w → Q (.panic c) a w) : ∀ (is : List (Nat × Bool)) (m : Array Bool) (a : Act) (w : World), okO ops is m = true → S w → wpO P ops S Q is a w → wpAnyH P .any ops Q S is.length m a w
  | [], m, a, w, ho, hS, h => wpAnyH_done (by unfold okO at ho; simpa using ho) h _
  | (i, true) :: is, m, a, w, ho, hS, h => by
    unfold okO at ho
    rw [Bool.and_eq_true, Bool.and_eq_true] at ho
    obtain ⟨o, hi, v, hy, hk⟩ := h
    exact wpAnyH_take hi hs ho.1.1 ho.1.2 (fun c a w h => hQ c a _ _ w h) hy hS (wpAnyH_of_wpO hs hQ is _ _ w ho.2 hS hk)
  | (i, false) :: is, m, a, w, ho, hS, h => by
    unfold okO at ho
    rw [Bool.and_eq_true] at ho
    obtain ⟨o, hi, hw, hk⟩ := h
    refine wpAnyH_all (rs := [i]) (by simpa using ho.1) (by simp) ?_
    intro j hj
    obtain rfl : j = i := by simpa using hj
    exact wpOp_of_hOp hi hw (hOp_mono (fun v w' hk => ⟨hk.1, wpAnyH_of_wpO hs hQ is _ _ w' ho.2 hk.1 hk.2⟩) hk)
theorem wp_ordA (S : World → Prop) (is : List (Nat × Bool)) {id : Nat} {a : Act} {w : World} {l : List Oper} (hm : P.follows .mixedOrders = true) (hs : Region.noSelect l.toArray = true) (hQ : ∀ c a (dt : Option Tmp) v w, Q (.panic c) (Act.put a dt v) w → Q (.panic c) a w)
    (hn : is.length = l.length) (ho : okO l.toArray is (Array.replicate l.length false) = true) (hS : S w.drew) (h : wpO P l.toArray S Q is a w.drew) : (Code.region id l.toArray true).wp P Q a w := by
  refine wp_region_held (S := S) hm ?_
  have := wpAnyH_of_wpO hs hQ is _ a w.drew ho hS h
  rw [hn] at this
  simpa using this
theorem wpO_nil {a : Act} {w : World} (h : Q .normal a w) : wpO P ops S Q [] a w := h
/-- a value that is laid -/
theorem wpO_val {i : Nat} {is : List (Nat × Bool)} {o : Oper} {l : List Oper} {a : Act} {w : World} (v : Value) (hi : l[i]? = some o) (hg : o.guard = none) (hr : ∀ w', S w' → (execOp a.eval o).run P w' = .ok (.value v) w') (h : wpO P l.toArray S Q is (a.put o.dst v) w) : wpO P l.toArray S Q ((i, true) :: is) a w :=
  ⟨o, by simpa using hi, v, .inl ⟨by unfold Region.wanted; rw [hg], hr⟩, h⟩
theorem wpO_op {i : Nat} {is : List (Nat × Bool)} {o : Oper} {l : List Oper} {a : Act} {w : World} (hi : l[i]? = some o) (hw : Region.wanted o (yielded l.toArray a.tmps) = true) (h : hOp P o (fun v w' => S w' ∧ wpO P l.toArray S Q is (a.put o.dst v) w') a w) : wpO P l.toArray S Q ((i, false) :: is) a w := ⟨o, by simpa using hi, hw, h⟩
end
section
variable {lp m : Nat} {P : Program} {Q : Exit → Act → World → Prop}
end
end Go.Proofs.YtcaoajeplinopaaDoor

namespace Go.Proofs.YtcaoajeplinopaaDoor
set_option linter.unusedVariables false
set_option linter.unusedSimpArgs false
set_option maxRecDepth 8000
open Go.RowKit
attribute [local simp] z32_ne z32_run
attribute [-simp] Tryd.zeroValue30 Tryd.isAgg30 Tryd.sizeOf30
theorem results_row_tmp {P : Program} {fn : Func} {p u : Tmp} {ty : TypeId} (h : fn.results = #[.cell p ty, .tmp u]) (tmps : Array Value) (w : World) (g : Nat) (t : TypeId) (cs : Array Value) (fr : Nat × Nat) (d : TypeDesc) (v : Value)
    (hp : tmps.getD p undef = .pointer (some ⟨g, 0, none⟩)) (hv : tmps.getD u undef = v) (hg : w.heap[g]? = some (.cells cs t fr))
    (hu : P.underlying ty = some d) (hd : (match d with | .struct _ | .array _ _ => true | _ => false) = true) (hi : (P.info? ty).map (·.size) = some cs.size) :
    (results fn tmps).run P w = .ok (.tuple #[.agg cs, v]) w := by
  rw [results_cell_tmp h, hp, hv]
  simp [asAddr, Result.andThen, run_loadVar_row w g t ty cs fr d hg hu hd hi]
end Go.Proofs.YtcaoajeplinopaaDoor

namespace Go.Proofs.YtcaoajeplinopaaDoor
set_option linter.unusedVariables false
set_option linter.unusedSimpArgs false
set_option maxRecDepth 8000
open Go.RowKit
attribute [local simp] z32_ne z32_run
attribute [-simp] Tryd.zeroValue30 Tryd.isAgg30 Tryd.sizeOf30
theorem run_neD (w : World) (xs ys : List Nat) (hx : xs.length = 32) (hy : ys.length = 32) (bx : ∀ x ∈ xs, x < 256) (b2 : ∀ y ∈ ys, y < 256) :
    (binOp .neq 30 (.agg (celB xs).toArray) (.agg (celB ys).toArray)).run Tryd.prog w = .ok (.bool (!decide (xs = ys))) w := by
  have h := run_eqD w xs ys hx hy bx b2
  unfold binOp at h ⊢
  simp only [Sem.run_bind, Sem.run_pure] at h ⊢
  cases hr : (Op.equal 30 (Value.agg (celB xs).toArray) (Value.agg (celB ys).toArray)).run Tryd.prog w with
  | ok a w' =>
    rw [hr] at h
    simp only [Result.andThen_ok] at h ⊢
    injection h with h1 h2
    injection h1 with h1
    rw [h1, h2]
  | halt x w' => rw [hr] at h; cases h
theorem exec_cmpD {ev : Operand → Value} {o : Oper} {w : World} {b : BinOp} {t2 : TypeId} {x y : Operand} {us vs : Array Value} {r : Value} (ho : o.op = .binOp b 30 x y t2) (hx : ev x = .agg us) (hy : ev y = .agg vs) (h : (binOp b 30 (.agg us) (.agg vs)).run Tryd.prog w = .ok r w) : (execOp ev o).run Tryd.prog w = .ok (.value r) w := by
  unfold execOp
  simp only [ho, hx, hy, Sem.run_bind, run_eqGuard_agg _ _ _ _ _ _ _ Tryd.eqGuardType30, Result.andThen_ok, h, Sem.run_pure]
end Go.Proofs.YtcaoajeplinopaaDoor

namespace Go.Proofs.YtcaoajeplinopaaDoor
set_option linter.unusedVariables false
set_option linter.unusedSimpArgs false
set_option maxRecDepth 8000
open Go.RowKit
theorem zint_info : (Tryd.prog.info? 3).map (fun i => (i.zero, i.size, i.bytes)) = some (some (.int .i64 0), 1, 8) := by kernel_rfl
/-- a slice of integers of the call's own -/
def OwZ (w : World) (base : Nat) (v : Value) (n : Nat) (is : List Int) : Prop := w.ownsRow base 3 1 v n (is.map fun z => Value.int .i64 z)
theorem OwZ.keep {w w' : World} {base : Nat} {v : Value} {n : Nat} {is : List Int} (h : OwZ w base v n is) (hb : Below w.heap.size w w') : OwZ w' base v n is :=
  ⟨h.1, by
    rcases h.2 with hn | ⟨g, cap, cur, rfl, hbs, hgg, rest⟩
    · exact .inl hn
    · exact .inr ⟨g, cap, cur, rfl, hbs, heap_keep hgg hb, rest⟩⟩
theorem OwZ.made (w : World) (base : Nat) (hb : base ≤ w.heap.size) : OwZ (w.alloc (.cells #[] 3)) base (.slice (some ⟨w.heap.size, 0, none⟩) 0 0) 0 [] :=
  ⟨rfl, .inr ⟨w.heap.size, 0, #[], rfl, hb, heap_new w _, Nat.le_refl _, by unfold maxLen; omega, rfl, rfl⟩⟩
theorem OwZ.below {w w' : World} {base : Nat} {v : Value} {n : Nat} {is : List Int} (h : OwZ w base v n is) (hg : w.grownBy w' v.ownBlock) (hbase : base ≤ w.heap.size) : Below base w w' :=
  ⟨hg.os, hg.tape, hg.output, hg.size, fun k hk => hg.block k (by omega) (fun e => by have := (World.ownsRow.lt h k e.symm).1; omega)⟩
theorem OwZ.ib {w : World} {base : Nat} {v : Value} {n : Nat} {is : List Int} (h : OwZ w base v n is) : ∃ A c, v = .slice A n c ∧ Ib w A n c is := by
  have hvl : is.length = n := by simpa using h.1
  have hro := h
  rcases h.2 with ⟨rfl, rfl⟩ | ⟨g, cap, cur, rfl, hbs, hgg, k1, k2, _⟩
  · obtain rfl : is = [] := List.length_eq_zero_iff.1 hvl
    exact ⟨none, 0, rfl, ⟨rfl, Nat.le_refl _, Nat.zero_le _, fun _ => rfl, fun i p hp => by simp at hp⟩⟩
  · unfold maxLen at k2
    refine ⟨_, cap, rfl, ⟨hvl.symm, k1, by omega, (fun e => by cases e), fun i p hp => ⟨⟨g, 0, none⟩, rfl, ?_⟩⟩⟩
    rw [ad_base]
    have hl := (List.getElem?_eq_some_iff.1 hp).1
    rw [World.ownsRow.cellAt hro i (by omega), List.getElem?_map, hp]
    rfl
theorem wpList_appendZ {ops : Array Oper} {rest : List Oper} {o : Oper} {a : Act} {Q : Exit → Act → World → Prop} {w : World} (hgd : o.guard = none) (s x : Operand)
    (ho : o.op = .call { callee := .builtin .append, args := #[s, x], argTypes := #[48, 48] }) (base : Nat) (v : Value) (n : Nat) (is : List Int) (hs : a.eval s = v) (hown : OwZ w base v n is)
    (g c : Nat) (z : Int) (hx : a.eval x = .slice (some ⟨g, 0, none⟩) 1 c) (hy : One w g 3 (.int .i64 z)) (hn : n ≤ 65536) (hbase : base ≤ w.heap.size)
    (h : ∀ v' w', OwZ w' base v' (n + 1) (is ++ [z]) → w.grownBy w' v.ownBlock → wpList Tryd.prog ops Q rest (a.put o.dst v') w') : wpList Tryd.prog ops Q (o :: rest) a w := by
  refine wpList_plain hgd fun K hK => ?_
  obtain ⟨i, hi, hz, hs2, hb⟩ := info_parts zint_info
  obtain ⟨v', w', hrun, hown', hg, _⟩ := run_append_own (P := Tryd.prog) w base 48 o.type 3 i (.int .i64 0) 1 8 Tryd.underlying48 hi hz hs2 hb rfl (by omega) v n _ hown ⟨g, 0, none⟩ 1 c [.int .i64 z] rfl
    (by
      intro j u hj
      rw [ad_base]
      match j, hj with
      | 0, hj => injection hj with hj; subst hj; exact hy.c
      | j + 1, hj => simp at hj)
    (by
      intro u hu
      simp at hu
      subst hu
      rfl) (by unfold maxLen; omega) (by omega) hbase
  unfold Oper.wp
  simp [execOp, ho, resolve, invoke, builtin, hs, hx, hrun, Result.andThen]
  refine hK _ _ (h v' w' ?_ hg)
  unfold OwZ
  rw [List.map_append]
  exact hown'
end Go.Proofs.YtcaoajeplinopaaDoor

namespace Go.Proofs.YtcaoajeplinopaaDoor
set_option linter.unusedVariables false
set_option linter.unusedSimpArgs false
set_option maxRecDepth 8000
open Go.RowKit
section
variable {P : Program} {Q : Exit → Act → World → Prop} {ops : Array Oper}
/-- an operation that is carried out -/
theorem wpList_op {rest : List Oper} {o : Oper} {a : Act} {w : World} (hw : Region.wanted o (yielded ops a.tmps) = true) (h : hOp P o (fun v w' => wpList P ops Q rest (a.put o.dst v) w') a w) : wpList P ops Q (o :: rest) a w := by
  unfold wpList
  rw [if_pos hw]
  refine .inl ?_
  unfold hOp at h
  unfold Oper.wp
  generalize (execOp a.eval o).run P w = r at *
  cases r with
  | ok n w' =>
    cases n <;> simp only [heldUpon] at h <;> simp only [Oper.upon]
    case value u => exact h
    case skip => exact h
    case enter f args => exact h.mono fun e w'' ⟨v, he, h2⟩ => by subst he; exact h2
  | halt x w' => exact h.elim
/-- by its run -/
theorem wpList_run {rest : List Oper} {o : Oper} {a : Act} {w : World} (hw : Region.wanted o (yielded ops a.tmps) = true) (v : Value) (w' : World) (hr : (execOp a.eval o).run P w = .ok (.value v) w') (h : wpList P ops Q rest (a.put o.dst v) w') : wpList P ops Q (o :: rest) a w :=
  wpList_op hw (by unfold hOp; rw [hr]; exact h)
theorem wpList_run0 {rest : List Oper} {o : Oper} {a : Act} {w : World} (hw : Region.wanted o (yielded ops a.tmps) = true) (w' : World) (hr : (execOp a.eval o).run P w = .ok .skip w') (h : wpList P ops Q rest (a.put o.dst undef) w') : wpList P ops Q (o :: rest) a w :=
  wpList_op hw (by unfold hOp; rw [hr]; exact h)
end
end Go.Proofs.YtcaoajeplinopaaDoor

namespace Go.Proofs.YtcaoajeplinopaaDoor
set_option linter.unusedVariables false
set_option linter.unusedSimpArgs false
set_option maxRecDepth 8000
open Go.RowKit
attribute [local simp] z32_ne z32_run
attribute [-simp] Tryd.zeroValue30 Tryd.isAgg30 Tryd.sizeOf30
section
variable {P : Program} {Q : Exit → Act → World → Prop} {ops : Array Oper}
/-- a call -/
theorem wpList_call {rest : List Oper} {o : Oper} {a : Act} {w : World} {fn : Func} (hw : Region.wanted o (yielded ops a.tmps) = true) (f : FuncId) (hf : P.funcs[f]? = some fn) (hname : (fn.name == "runtime.NumGoroutine") = false) (hb : fn.body.isNone = false) (args : Array Operand) (ts : Array TypeId) (vs : Array Value) (ho : o.op = .call { callee := .value (.func f), args := args, argTypes := ts })
    (hv : args.map a.eval = vs) (h : Calls P f vs w fun e w' => ∃ v, e = .returned v ∧ wpList P ops Q rest (a.put o.dst v) w') : wpList P ops Q (o :: rest) a w :=
  wpList_op hw (hOp_call f hf hname hb args ts vs ho hv h)
/-- what is made lies somewhere new -/
theorem wpList_mk {rest : List Oper} {o : Oper} {a : Act} {w : World} (hw : Region.wanted o (yielded ops a.tmps) = true) (cs : Array Value) (t : TypeId) (n c : Nat) (hr : (execOp a.eval o).run P w = .ok (.value (.slice (some ⟨w.heap.size, 0, none⟩) n c)) (w.alloc (.cells cs t)))
    (h : ∀ b W, w.heap.size ≤ b → W.heap[b]? = some (.cells cs t (0, 0)) → Below w.heap.size w W → wpList P ops Q rest (a.put o.dst (.slice (some ⟨b, 0, none⟩) n c)) W) : wpList P ops Q (o :: rest) a w :=
  wpList_run hw _ _ hr (h _ _ (Nat.le_refl _) (heap_new w _) ((Below.refl _ _).alloc (Nat.le_refl _) _))
theorem wpHeld_mk {S : World → Prop} {rest : List Oper} {o : Oper} {a : Act} {w : World} (hst : stillOp o = false) (hw : Region.wanted o (yielded ops a.tmps) = true) (cs : Array Value) (t : TypeId) (n c : Nat) (hr : (execOp a.eval o).run P w = .ok (.value (.slice (some ⟨w.heap.size, 0, none⟩) n c)) (w.alloc (.cells cs t)))
    (h : ∀ b W, w.heap.size ≤ b → W.heap[b]? = some (.cells cs t (0, 0)) → Below w.heap.size w W → S W ∧ wpHeld P ops S Q rest (a.put o.dst (.slice (some ⟨b, 0, none⟩) n c)) W) : wpHeld P ops S Q (o :: rest) a w :=
  have k := h _ _ (Nat.le_refl _) (heap_new w _) ((Below.refl _ _).alloc (Nat.le_refl _) _)
  wpHeld_run _ _ hst hw hr k.1 k.2
/-- a new variable and its first store -/
theorem wpList_decl {rest : List Oper} {o1 o2 : Oper} {a : Act} {w : World} (z row : Array Value) (t : TypeId) (hw1 : Region.wanted o1 (yielded ops a.tmps) = true) (hr : (execOp a.eval o1).run P w = .ok (.value (ptr w.heap.size)) (w.alloc (.cells z t)))
    (hw2 : ∀ b, Region.wanted o2 (yielded ops (a.put o1.dst (ptr b)).tmps) = true) (hs : ∀ b W, W.heap[b]? = some (.cells z t (0, 0)) → (execOp (a.put o1.dst (ptr b)).eval o2).run P W = .ok .skip (W.setRow b row))
    (h : ∀ b W, w.heap.size ≤ b → W.heap[b]? = some (.cells row t (0, 0)) → Below w.heap.size w W → wpList P ops Q rest ((a.put o1.dst (ptr b)).put o2.dst undef) W) : wpList P ops Q (o1 :: o2 :: rest) a w := by
  refine wpList_run hw1 _ _ hr ?_
  refine wpList_run0 (hw2 _) _ (hs w.heap.size _ (heap_new w _)) ?_
  refine h _ _ (Nat.le_refl _) ?_ (bel_setRow ((Below.refl _ _).alloc (Nat.le_refl _) _) (Nat.le_refl _) _)
  have h0 := heap_new w (.cells z t)
  obtain ⟨hlt, hk⟩ := Array.getElem?_eq_some_iff.1 h0
  show ((w.alloc (.cells z t)).heap.modify w.heap.size _)[w.heap.size]? = _
  rw [Array.getElem?_eq_getElem (by rw [Array.size_modify]; exact hlt), Array.getElem_modify_self, hk]
end
section
variable {ev : Operand → Value} {o : Oper}
theorem run_buildI1 {x : Operand} (y : Int) (ho : o.op = .buildSlice 48 1 #[(0, x)]) (hx : ev x = .int .i64 y) (w : World) :
    (execOp ev o).run Tryd.prog w = .ok (.value (.slice (some ⟨w.heap.size, 0, none⟩) 1 1)) (w.alloc (.cells #[.int .i64 y] 3)) := by
  unfold execOp
  rw [ho]
  simp only [List.map_toArray, List.map_cons, List.map_nil, hx]
  go_simp
theorem ib_cells1 {w : World} {b : Nat} {t : TypeId} {y : Int} (h : w.heap[b]? = some (.cells #[.int .i64 y] t (0, 0))) : Ib w (some ⟨b, 0, none⟩) 1 1 [y] :=
  ⟨rfl, Nat.le_refl _, by omega, (fun e => by cases e), fun i z hz => ⟨_, rfl, by
    rw [ad_base]
    match i, hz with
    | 0, hz => injection hz with hz; subst hz; simp [World.cell?, h]⟩⟩
theorem Ib.none_ (w : World) : Ib w none 0 0 [] := ⟨rfl, Nat.le_refl _, Nat.zero_le _, fun _ => rfl, fun i z hz => by cases i <;> cases hz⟩
theorem Pb.none_ (w : World) : Pb w none 0 0 [] := ⟨rfl, Nat.le_refl _, Nat.zero_le _, fun _ => rfl, fun i z hz => by cases i <;> cases hz⟩
theorem Db.none_ (w : World) : Db w none 0 0 [] := ⟨rfl, Nat.le_refl _, Nat.zero_le _, fun _ => rfl, fun d hd => (by cases hd), fun i z hz => by cases i <;> cases hz⟩
/-- the element of a list of byte lists -/
structure El (w : World) (ad : Addr) (i : Nat) (B : Option Addr) (m d : Nat) (p : List Nat) : Prop where
  cell : w.cell? (ad.add i) = some (.slice B m d)
  sb : Sb w B m d p
theorem El.keep {w w' : World} {ad : Addr} {i : Nat} {B : Option Addr} {m d : Nat} {p : List Nat} (h : El w ad i B m d p) (hb : Below w.heap.size w w') : El w' ad i B m d p := ⟨cell_keep h.cell hb, h.sb.keep hb⟩
theorem exec_loadS {x : Operand} {w : World} (a : Addr) (B : Option Addr) (m d : Nat) (hc : w.cell? a = some (.slice B m d)) (ho : o.op = .load 22 x) (hx : ev x = .pointer (some a)) :
    (execOp ev o).run Tryd.prog w = .ok (.value (.slice B m d)) w := by
  unfold execOp
  simp only [ho, hx]
  go_simp
end
end Go.Proofs.YtcaoajeplinopaaDoor

namespace Go.Proofs.YtcaoajeplinopaaDoor
set_option linter.unusedVariables false
set_option linter.unusedSimpArgs false
set_option maxRecDepth 8000
open Go.RowKit
attribute [local simp] z32_ne z32_run
attribute [-simp] Tryd.zeroValue30 Tryd.isAgg30 Tryd.sizeOf30
theorem run_neD_same (xs : List Nat) (hx : xs.length = 32) (bx : ∀ x ∈ xs, x < 256) (w : World) :
    (binOp .neq 30 (.agg (celB xs).toArray) (.agg (celB xs).toArray)).run Tryd.prog w = .ok (.bool false) w := by
  rw [run_neD w xs xs hx hx bx bx, decide_eq_true rfl]
  rfl
end Go.Proofs.YtcaoajeplinopaaDoor

namespace Go.Proofs.YtcaoajeplinopaaDoor
set_option linter.unusedVariables false
set_option linter.unusedSimpArgs false
set_option maxRecDepth 8000
open Go.RowKit
attribute [local simp] z32_ne z32_run
attribute [-simp] Tryd.zeroValue30 Tryd.isAgg30 Tryd.sizeOf30
section
variable {P : Program} {Q : Exit → Act → World → Prop} {ops : Array Oper}
theorem wpList_skip {rest : List Oper} {o : Oper} {a : Act} {w : World} (hw : Region.wanted o (yielded ops a.tmps) = false) (h : wpList P ops Q rest (a.put o.dst undef) w) : wpList P ops Q (o :: rest) a w := by
  unfold wpList
  rw [if_neg (by rw [hw]; simp)]
  exact h
end
/-- an element of a list of digests -/
structure Ed (w : World) (g o i : Nat) (d : List Nat) : Prop where
  at_ : w.rangeAt g (o + 32 * i) (celB d)
  dig : d.length = 32 ∧ ∀ x ∈ d, x < 256
theorem Ed.keep {w w' : World} {g o i : Nat} {d : List Nat} (h : Ed w g o i d) (hb : Below w.heap.size w w') : Ed w' g o i d := ⟨rangeAt_keep h.at_ hb, h.dig⟩
section
variable {ev : Operand → Value} {o : Oper}
end
end Go.Proofs.YtcaoajeplinopaaDoor

