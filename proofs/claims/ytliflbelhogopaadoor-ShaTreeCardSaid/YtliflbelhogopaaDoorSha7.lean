/- The reference's digest and the majority by 'or'. -/
import Derived.Test.YtliflbelhogopaaDoorSha5
import Derived.Test.YtliflbelhogopaaDoorSha6
namespace Go.Proofs.YtliflbelhogopaaDoor
set_option maxRecDepth 8000
open Go.RowKit
def z32 : Array Value := (celB (List.replicate 32 0)).toArray
theorem z32_size : z32.size = 32 := by unfold z32; rw [List.size_toArray, celB_length]; simp
theorem z32_ne : z32 ≠ #[] := fun e => by have h := z32_size; rw [e] at h; simp at h
theorem z32_run (w : World) : Sem.run Tryd.prog (zeroValue 26) w = .ok (.agg z32) w := Tryd.zeroValue26 w
/-- the majority of three bits, by 'or' and by 'xor' -/
theorem maj_or (a b c : Nat) : a &&& b ||| a &&& c ||| b &&& c = majN a b c := by
  unfold majN
  apply Nat.eq_of_testBit_eq
  intro i
  simp only [Nat.testBit_or, Nat.testBit_and, Nat.testBit_xor]
  cases a.testBit i <;> cases b.testBit i <;> cases c.testBit i <;> rfl
theorem maj_val_or {a b c : Nat} (ha : a < 4294967296) (hb : b < 4294967296) (hc : c < 4294967296) :
    bits .or .u32 (bits .or .u32 (bits .and .u32 (a : Int) (b : Int)) (bits .and .u32 (a : Int) (c : Int))) (bits .and .u32 (b : Int) (c : Int)) = ((majN a b c : Nat) : Int) := by
  rw [and32 _ _ ha hb, and32 _ _ ha hc, and32 _ _ hb hc, or32 _ _ (and_lt hb) (and_lt hc), or32 _ _ (or_lt (and_lt hb) (and_lt hc)) (and_lt hc), maj_or]
theorem chs_val {e f g : Nat} (he : e < 4294967296) (hf : f < 4294967296) (hg : g < 4294967296) :
    bits .xor .u32 (bits .and .u32 (e : Int) (f : Int)) (bits .and .u32 (4294967295 - (e : Int)) (g : Int)) = ((chN e f g : Nat) : Int) := by
  rw [show (4294967295 : Int) - (e : Int) = ((4294967295 - e : Nat) : Int) by omega, and32 _ _ he hf, and32 _ _ (by omega) hg, xor32 _ _ (and_lt hf) (and_lt hg)]
  rfl
attribute [local simp] z32_ne z32_run
attribute [-simp] Tryd.zeroValue26 Tryd.isAgg26 Tryd.sizeOf26
set_option maxHeartbeats 1000000 in
theorem rdigest_any (s : Ch) (w : World) (hs : s.Ok) :
    Calls Tryd.prog 25 #[.agg (celW (chL s)).toArray] w fun e w' => e = .returned (.agg (celB (digN s 32)).toArray) ∧ Below w.heap.size w w' := by
  go_enter Tryd.func25, Tryd.ntmps25
  go_wp2_with fail
  have hsc := run_storeCells_new (P := Tryd.prog) ((w.alloc (.cells (celW (chL s)).toArray 36)).alloc (.cells z32 26)) 26 z32 z32 (by rw [z32_size]; kernel_rfl) rfl celB_one
  rw [alloc_sz, alloc_sz] at hsc
  simp only [Tryd.sizeOf26, Result.andThen, ↓reduceIte, hsc, z32_size]
  rw [Oper.upon_skip]
  clear hsc
  go_wp2_with fail
  refine wp_named3 (fun w1 hb1 g0 g1 g2 hlt1 => ?_)
  have HR0 := Lib.hid (show RowW w1 36 w.heap.size (chL s) from g0)
  have hr1 : RowB w1 26 (w.heap.size + 1) (List.replicate 32 0) := g1
  have hr2 : RowB w1 26 (w.heap.size + 1 + 1) (List.replicate 32 0) := g2
  have HR1 := Lib.hid hr1
  have HR2 := Lib.hid hr2
  have HB1 := Lib.hid hb1
  clear g0 g1 g2 hlt1 hr1 hr2 hb1
  have HL := Lib.hid (chL_lt hs)
  go_loopw [4] (fun s0 wr => ∃ i : Nat, i ≤ 32 ∧ s0 = .int .i64 i ∧ RowW wr 36 w.heap.size (chL s) ∧ RowB wr 26 (w.heap.size + 1) (List.replicate 32 0) ∧ RowB wr 26 (w.heap.size + 1 + 1) (digN s i ++ List.replicate (32 - i) 0) ∧ Below w.heap.size w wr) (fun s0 _ => 32 - (intOf s0).toNat)
  case atStart => exact ⟨0, by omega, rfl, HR0.out, HR1.out, HR2.out, HB1.out⟩
  case round =>
    clear HR0 HR1 HR2 HB1
    obtain ⟨i, hi, rfl, hr0, hr1, hr2, hb⟩ := hrel
    have HR0 := Lib.hid hr0
    have HR1 := Lib.hid hr1
    have HR2 := Lib.hid hr2
    have HB := Lib.hid hb
    clear hr0 hr1 hr2 hb
    by_cases hlt : i < 32
    · have hk1 : (i : Int) < 32 := by omega
      have hk0 : (0 : Int) ≤ (i : Int) := by omega
      have c0 := HR0.out.at_ (i := i / 4) (x := (chL s).getD (i / 4) 0) (by rw [List.getD_eq_getElem?_getD, List.getElem?_eq_getElem (by rw [chL_length]; omega)]; rfl)
      have hx := getD_lt HL.out (i / 4)
      have hdg := digN_succ s i
      generalize (chL s).getD (i / 4) 0 = x at *
      have HDG := Lib.hid hdg
      have HX := Lib.hid hx
      clear hdg hx
      have b0 := HR2.out.at_ (i := i) (x := 0) (get_zero (digN_length s i) hlt)
      have b1 := HR2.out.free i
      have e0 : (0 : Int) ≤ (i : Int) / 4 := by omega
      have e1 : (i : Int) / 4 < 8 := by omega
      have e2 : ((i : Int) / 4).toNat = i / 4 := by omega
      have e3 : (0 : Int) ≤ 24 - (i : Int) % 4 * 8 := by omega
      have e4 : (24 - (i : Int) % 4 * 8).toNat = 24 - i % 4 * 8 := by omega
      have e5 : min (24 - i % 4 * 8) 32 = 24 - i % 4 * 8 := by omega
      go_wp2_with fail
      go_roundw
      case rel =>
        refine ⟨i + 1, by omega, by go_num, HR0.out.far _ (by simp; omega), HR1.out.far _ (by simp), ?_, HB.out.setCell (by simp; omega) _⟩
        rw [HDG.out, ← set_midB _ (digN_length s i) (by omega)]
        refine HR2.out.put i _ _ ?_
        rw [Int.natCast_emod, Int.natCast_ediv, Int.natCast_pow, Nat.mul_comm 8]
        rfl
      case measure => simp [intOf]; omega
    · have hkn : i = 32 := by omega
      subst hkn
      have hld := run_loadB (P := Tryd.prog) HR2.out 32 (by simp [digN_length])
      have hsz : (celB (digN s 32)).length = 32 := by rw [celB_length, digN_length]
      have hsc := run_storeB (P := Tryd.prog) (ws := digN s 32) HR1.out (by simp [digN_length])
      go_wp2_with fail
      simp only [Tryd.isAgg26, Tryd.sizeOf26, Result.andThen, ↓reduceIte, hld]
      rw [Oper.upon_value]
      go_wp2_with fail
      simp only [Tryd.sizeOf26, Result.andThen, ↓reduceIte, hsc]
      rw [Oper.upon_skip]
      go_wp2_with fail
      refine bodyPost_ret (v := .agg (celB (digN s 32)).toArray) ?_ rfl ⟨rfl, bel_setRow HB.out (by omega) _⟩
      exact results_cell_row rfl _ _ (w.heap.size + 1) 26 _ (0, 0) _ rfl (HR1.out.row (digN s 32)) Tryd.underlying26 rfl (by rw [show (celB (digN s 32)).toArray.size = 32 by simp [hsz]]; kernel_rfl)
end Go.Proofs.YtliflbelhogopaaDoor
