/- Contracts of package sha256: keyBlock. -/
import Derived.Test.YtliflbelhogopaaDoorShl
import Derived.Laws.CopyOwn
namespace Go.Proofs.YtliflbelhogopaaDoor
set_option maxRecDepth 8000
open Go.RowKit
/-- the first k bytes masked -/
def mL (L : List Nat) (m k : Nat) : List Nat := (L.take k).map (· ^^^ m) ++ L.drop k
def maskN (key : List Nat) (m : Nat) : List Nat := (key ++ List.replicate 32 0).map (· ^^^ m)
theorem mL_get {L : List Nat} {m k : Nat} (h : k < L.length) : (mL L m k)[k]? = some (L.getD k 0) := by
  unfold mL
  have e : ((L.take k).map (· ^^^ m)).length = k := by simp; omega
  rw [List.getElem?_append_right (by omega), e, Nat.sub_self, List.getElem?_drop, List.getD_eq_getElem?_getD, Nat.add_zero, List.getElem?_eq_getElem h]
  rfl
theorem mL_set {L : List Nat} {m k : Nat} (h : k < L.length) : (mL L m k).set k (L.getD k 0 ^^^ m) = mL L m (k + 1) := by
  unfold mL
  have e : ((L.take k).map (· ^^^ m)).length = k := by simp; omega
  rw [List.set_append_right _ _ (by omega), e, Nat.sub_self, List.drop_eq_getElem_cons h, List.take_succ_eq_append_getElem h, List.set_cons_zero, List.getD_eq_getElem?_getD, List.getElem?_eq_getElem h, List.map_append, List.append_assoc]
  rfl
theorem mL_length {L : List Nat} {m k : Nat} : (mL L m k).length = L.length := by unfold mL; simp; omega
theorem xor_byte {a b : Nat} (ha : a < 256) (hb : b < 256) : a ^^^ b < 256 := Nat.xor_lt_two_pow (n := 8) ha hb
theorem maskN_length (key : List Nat) (m : Nat) (h : key.length = 32) : (maskN key m).length = 64 := by unfold maskN; simp [h]
theorem maskN_lt (key : List Nat) (m : Nat) (h : ∀ x ∈ key, x < 256) (hm : m < 256) : ∀ x ∈ maskN key m, x < 256 := by
  intro x hx
  unfold maskN at hx
  obtain ⟨y, hy, rfl⟩ := List.mem_map.1 hx
  refine xor_byte ?_ hm
  rcases List.mem_append.1 hy with hy | hy
  · exact h y hy
  · rw [(List.mem_replicate.1 hy).2]; decide
attribute [local simp] z32_ne z32_run
attribute [-simp] Tryd.zeroValue26 Tryd.isAgg26 Tryd.sizeOf26
set_option maxHeartbeats 2000000 in
theorem keyBlock_any (key : List Nat) (m : Nat) (w : World) (hk : key.length = 32) (hkb : ∀ x ∈ key, x < 256) (hm : m < 256) :
    Calls Tryd.prog 32 #[.agg (celB key).toArray, .int .u8 (m : Int)] w fun e w' => e = .returned (.slice (some ⟨w.heap.size + 1, 0, none⟩) 64 64) ∧ RowB w' 5 (w.heap.size + 1) (maskN key m) ∧ Below w.heap.size w w' := by
  have HKL := Lib.hid hk
  have HKB := Lib.hid hkb
  clear hk hkb
  have hmk0 : ∀ w : World, (Instr.makeSlice 22 (.int .i64 64) (.int .i64 64)).run Tryd.prog w = .ok (.slice (some ⟨w.heap.size, 0, none⟩) 64 64) (w.alloc (.cells (celB (List.replicate 64 0)).toArray 5)) := fun w => run_makeB 64 64 (by omega) (by omega) w
  obtain ⟨zs, hzs⟩ : ∃ zs : List Value, zs = celB (List.replicate 64 0) := ⟨_, rfl⟩
  have hmk : ∀ w : World, (Instr.makeSlice 22 (.int .i64 64) (.int .i64 64)).run Tryd.prog w = .ok (.slice (some ⟨w.heap.size, 0, none⟩) 64 64) (w.alloc (.cells zs.toArray 5)) := fun w => by rw [hzs]; exact hmk0 w
  have HZ := Lib.hid hzs
  clear hmk0 hzs
  go_enter Tryd.func32, Tryd.ntmps32
  go_upto_region 2 with fail
  clear hmk
  refine wp_named2 (fun w1 hb1 g0 g1 hlt1 => ?_)
  have H0 : Hid (RowB w1 26 w.heap.size key) := Lib.hid g0
  have H1 : Hid (RowB w1 5 (w.heap.size + 1) (List.replicate 64 0)) := Lib.hid (by unfold RowB; rw [← HZ.out]; exact g1)
  have HB1 := Lib.hid hb1
  have hg1 : w1.heap[w.heap.size + 1]? = some (.cells (celB (List.replicate 64 0)).toArray 5 (0, 0)) := H1.out
  clear g0 g1 hb1
  go_wp2_with fail
  rw [run_copy_row (P := Tryd.prog) w1 22 22 3 5 (w.heap.size + 1) 0 64 64 ⟨w.heap.size, 0, none⟩ 32 32 _ _ (celB key) Tryd.underlying22 (by kernel_rfl) hg1 (by rw [celB_length, HKL.out]; rfl) (fun j v hv => ?src) (by simp [celB_length, HKL.out]) (fun v hv => celB_one' hv)]
  case src =>
    exact celB_src (H0.out.all HKB.out (n := 32) (c := 32) HKL.out.symm (Nat.le_refl _) (by omega)) j v hv
  have e0 : (celB (List.replicate 64 0)).toArray.toList.take 0 ++ celB key ++ (celB (List.replicate 64 0)).toArray.toList.drop (0 + (celB key).length) = celB (mL (key ++ List.replicate 32 0) m 0) := by
    unfold mL
    rw [List.take_zero, List.take_zero, List.nil_append, List.map_nil, List.nil_append, List.drop_zero, celB_append, celB_length, HKL.out, Nat.zero_add]
    rfl
  rw [e0]
  clear e0 hg1
  have H2 : Hid (RowB (w1.setRow (w.heap.size + 1) (celB (mL (key ++ List.replicate 32 0) m 0)).toArray) 5 (w.heap.size + 1) (mL (key ++ List.replicate 32 0) m 0)) := Lib.hid (H1.out.row _)
  have HB2 := Lib.hid (bel_setRow HB1.out (show w.heap.size ≤ w.heap.size + 1 by omega) (celB (mL (key ++ List.replicate 32 0) m 0)).toArray)
  generalize w1.setRow (w.heap.size + 1) (celB (mL (key ++ List.replicate 32 0) m 0)).toArray = w2 at *
  have HLL : Hid ((key ++ List.replicate 32 0).length = 64) := Lib.hid (by simp [HKL.out])
  have HMK : Hid (maskN key m = (key ++ List.replicate 32 0).map (· ^^^ m)) := Lib.hid rfl
  have hLB : ∀ x ∈ key ++ List.replicate 32 0, x < 256 := fun x hx => (List.mem_append.1 hx).elim (HKB.out x) (fun h => by rw [(List.mem_replicate.1 h).2]; decide)
  have HLB := Lib.hid hLB
  clear hLB H0 H1 HB1
  generalize key ++ List.replicate 32 0 = L at *
  simp only [Result.andThen]
  rw [Oper.upon_value]
  go_wp2_with fail
  go_loopw [13] (fun s wr => ∃ k : Nat, k ≤ 64 ∧ s = .int .i64 k ∧ RowB wr 5 (w.heap.size + 1) (mL L m k) ∧ Below w.heap.size w wr) (fun s _ => 64 - (intOf s).toNat)
  case atStart => exact ⟨0, by omega, rfl, H2.out, HB2.out⟩
  case round =>
    clear H2 HB2
    obtain ⟨k, hk, rfl, hr, hb⟩ := hrel
    have HR := Lib.hid hr
    have HB := Lib.hid hb
    clear hr hb
    by_cases hlt : k < 64
    · have hk1 : (k : Int) < 64 := by omega
      have hk0 : (0 : Int) ≤ (k : Int) := by omega
      have c0 := HR.out.at_ (mL_get (by rw [HLL.out]; exact hlt))
      have f0 := HR.out.free k
      have hx := getD_byte HLB.out k
      have HMS := Lib.hid (mL_set (L := L) (m := m) (k := k) (by rw [HLL.out]; exact hlt))
      generalize L.getD k 0 = x at *
      have hxm := xor8 x m hx hm
      have HX := Lib.hid hxm
      clear hxm
      go_wp2_with fail
      go_roundw
      case rel =>
        refine ⟨k + 1, by omega, by go_num, ?_, HB.out.setCell (by simp) _⟩
        rw [HX.out, ← HMS.out]
        exact HR.out.put k _ _ rfl
      case measure => simp [intOf]; omega
    · have hkn : k = 64 := by omega
      subst hkn
      go_wp2_with fail
      go_ret
      refine ⟨rfl, ?_, HB.out⟩
      have h := HR.out
      unfold mL at h
      rw [List.take_of_length_le (by rw [HLL.out]; exact Nat.le_refl _), List.drop_of_length_le (by rw [HLL.out]; exact Nat.le_refl _), List.append_nil] at h
      rw [HMK.out]
      exact h
end Go.Proofs.YtliflbelhogopaaDoor
