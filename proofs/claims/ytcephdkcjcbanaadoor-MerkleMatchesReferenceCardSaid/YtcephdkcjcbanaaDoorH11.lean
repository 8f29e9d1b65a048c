/- Several texts in one: Shv, Shw, Shx. -/
import Derived.Test.YtcephdkcjcbanaaDoorH10
import Derived.Test.YtcephdkcjcbanaaDoorH08
import Derived.OrdersHeld
/- The reference's Pair and Keyed. -/
namespace Go.Proofs.YtcephdkcjcbanaaDoor
set_option maxRecDepth 8000
set_option linter.unusedVariables false
set_option linter.unusedSimpArgs false
open Go.RowKit
attribute [local simp] z32_ne z32_run
attribute [-simp] Tryd.zeroValue31 Tryd.isAgg31 Tryd.sizeOf31
section
variable {P : Program} {ops : Array Oper} {Q : Exit → Act → World → Prop} {K : Act → World → Prop} {a : Act} {w : World} {o : Oper} {i : Nat}
theorem wpOp_val (d : Option Tmp) (ho : ops[i]? = some o) (hd : o.dst = d) (hw : Region.wanted o (yielded ops a.tmps) = true) (v : Value) (w' : World) (hr : (execOp a.eval o).run P w = .ok (.value v) w') (h : K (a.put d v) w') : wpOp P ops Q i K a w := by
  subst hd
  unfold wpOp
  simp only [ho, hw, if_true]
  refine .inl ?_
  unfold Oper.wp
  rw [hr]
  exact h
theorem wpOp_skip0 (ho : ops[i]? = some o) (hd : o.dst = none) (hw : Region.wanted o (yielded ops a.tmps) = true) (w' : World) (hr : (execOp a.eval o).run P w = .ok .skip w') (h : K (a.put none undef) w') : wpOp P ops Q i K a w := by
  rw [← hd] at h
  unfold wpOp
  simp only [ho, hw, if_true]
  refine .inl ?_
  unfold Oper.wp
  rw [hr]
  exact h
theorem wpOp_call {fn : Func} (d : Option Tmp) (f : FuncId) (hf : P.funcs[f]? = some fn) (hname : (fn.name == "runtime.NumGoroutine") = false) (hb : fn.body.isNone = false) (args : Array Operand) (ts : Array TypeId) (vs : Array Value) (ho : ops[i]? = some o) (hd : o.dst = d) (hop : o.op = .call { callee := .value (.func f), args := args, argTypes := ts })
    (hw : Region.wanted o (yielded ops a.tmps) = true) (hv : args.map a.eval = vs) (h : Calls P f vs w fun e w' => ∃ v, e = .returned v ∧ K (a.put d v) w') : wpOp P ops Q i K a w := by
  subst hd
  have e : (execOp a.eval o).run P w = .ok (.enter f vs) w := by
    subst hv
    have h1 : fn.name ≠ "runtime.NumGoroutine" := by simpa using hname
    have h2 : fn.body ≠ none := by
      intro e
      rw [e] at hb
      cases hb
    unfold execOp
    simp only [hop]
    simp [resolve, Deferred.ofValue, invoke, go_sem, Act.eval, callFunc, hf, h1, h2]
  unfold wpOp
  simp only [ho, hw, if_true]
  refine .inl ?_
  unfold Oper.wp
  rw [e]
  exact h.mono fun _ _ ⟨v, he, h2⟩ => by subst he; exact h2
end
theorem wpAnyH_takeD {P : Program} {ops : Array Oper} {Q : Exit → Act → World → Prop} {md : Region.Mode} {S : World → Prop} (d : Option Tmp) {i : Nat} {oi : Oper} {v : Value} {fuel : Nat} {listed : Array Bool} {a : Act} {w : World} (hi : ops[i]? = some oi) (hd : oi.dst = d)
    (hs : Region.noSelect ops = true) (hf : Region.free md ops listed i = true) (hr : (Region.ready md ops listed).contains i = true)
    (hQ : ∀ c a w, Q (.panic c) (a.put oi.dst v) w → Q (.panic c) a w) (hy : YieldsIf P ops S oi v a) (hS : S w)
    (h : wpAnyH P md ops Q S fuel (listed.setIfInBounds i true) (a.put d v) w) : wpAnyH P md ops Q S (fuel + 1) listed a w := by
  subst hd
  exact wpAnyH_take hi hs hf hr hQ hy hS h
set_option maxHeartbeats 2000000 in
theorem rpair_any (x y : List Nat) (w : World) (hx : x.length = 32) (hy : y.length = 32) (hxb : ∀ z ∈ x, z < 256) (hyb : ∀ z ∈ y, z < 256) (R : List Nat) (hR : shaN (1 :: (x ++ y)) = R) :
    Calls Tryd.prog 28 #[.agg (celB x).toArray, .agg (celB y).toArray] w fun e w' => e = .returned (.agg (celB R).toArray) ∧ Below w.heap.size w w' := by
  have hl : R.length = 32 := by rw [← hR]; exact shaN_length _
  have HR := Lib.hid hR
  have HXL := Lib.hid hx
  have HYL := Lib.hid hy
  have HXB := Lib.hid hxb
  have HYB := Lib.hid hyb
  clear hR hx hy hxb hyb
  go_enter Tryd.func28, Tryd.ntmps28
  go_upto_region 1 with fail
  refine wp_named3 (fun w1 hb1 g0 g1 g2 hlt1 => ?_)
  have H0 : Hid (RowB w1 31 w.heap.size x) := Lib.hid g0
  have H1 : Hid (RowB w1 31 (w.heap.size + 1) y) := Lib.hid g1
  have H2 : Hid (RowB w1 31 (w.heap.size + 1 + 1) (List.replicate 32 0)) := Lib.hid g2
  have HB1 := Lib.hid hb1
  clear g0 g1 g2 hb1
  refine wp_region_held (S := fun v => Below (w.heap.size + 1 + 1) w1 v) (by kernel_rfl) ?_
  change wpAnyH _ _ _ _ _ _ _ _ w1.drew
  have hd : Below w1.heap.size w1 w1.drew := (Below.refl _ _).drew
  refine wpAnyH_takeD (some 6) (i := 1) (v := .agg (celB x).toArray) rfl (by kernel_rfl) (by kernel_rfl) (by kernel_rfl) (by kernel_rfl) (fun _ _ _ h => h) (Or.inl ⟨by kernel_rfl, fun v hv => exec_loadD HXL.out (H0.out.same (hv.block _ (by omega))) rfl rfl⟩) (hd.mono (by omega)) ?_
  simp only [Act.put, List.setIfInBounds_toArray, List.set_cons_zero, List.set_cons_succ]
  refine wpAnyH_takeD (some 9) (i := 4) (v := .agg (celB y).toArray) rfl (by kernel_rfl) (by kernel_rfl) (by kernel_rfl) (by kernel_rfl) (fun _ _ _ h => h) (Or.inl ⟨by kernel_rfl, fun v hv => exec_loadD HYL.out (H1.out.same (hv.block _ (by omega))) rfl rfl⟩) (hd.mono (by omega)) ?_
  simp only [Act.put, List.setIfInBounds_toArray, List.set_cons_zero, List.set_cons_succ]
  have H20 := Lib.hid (H2.out.keep hd)
  have HB := Lib.hid (bel_step HB1.out hd)
  have HS0 := Lib.hid (hd.mono (show w.heap.size + 1 + 1 ≤ w1.heap.size by omega))
  have hz := hd.size
  clear hd H0 H1 H2 HB1
  generalize w1.drew = V at *
  refine wpAnyH_all (rs := [0, 2]) (by kernel_rfl) (by simp) (fun i hi => ?_)
  have hi2 : i = 0 ∨ i = 2 := by simpa using hi
  clear hi
  rcases hi2 with rfl | rfl
  case' inl =>
    have hb1 : Below V.heap.size V (V.alloc (.cells #[.int .u8 ((1 : Nat) : Int)] 5)) := (Below.refl _ _).alloc (Nat.le_refl _) _
    refine wpOp_val (some 5) rfl (by kernel_rfl) (by kernel_rfl) _ _ (run_buildB1 1 rfl rfl _) ⟨HS0.out.trans (hb1.mono (by omega)), ?_⟩
    simp only [Act.put, List.setIfInBounds_toArray, List.set_cons_zero, List.set_cons_succ]
    have HO1 := Lib.hid (show RowB (V.alloc (.cells #[.int .u8 ((1 : Nat) : Int)] 5)) 5 V.heap.size [1] from heap_new V _)
    have H21 := Lib.hid (H20.out.keep hb1)
    have HB1 := Lib.hid (bel_step HB.out hb1)
    have HS1 := Lib.hid (HS0.out.trans (hb1.mono (by omega)))
    have hz1 := hb1.size
    clear hb1 H20 HB HS0
    generalize V.alloc (.cells #[.int .u8 ((1 : Nat) : Int)] 5) = V1 at *
    generalize V.heap.size = b5 at *
    refine wpAnyH_all (rs := [2]) (by kernel_rfl) (by simp) (fun j hj => ?_)
    obtain rfl : j = 2 := by simpa using hj
    clear hj
    refine wpOp_call (some 7) 56 Tryd.func56 (by kernel_rfl) (by kernel_rfl) _ _ #[.agg (celB x).toArray] rfl (by kernel_rfl) rfl (by kernel_rfl) (by kernel_rfl) ?_
    refine (rbytes_any x V1 HXL.out HXB.out).mono ?_
    rintro e V' ⟨C3, f3, rfl, hs, hb⟩
    have HO := Lib.hid (HO1.out.keep hb)
    have HX := Lib.hid hs
    have H2 := Lib.hid (H21.out.keep hb)
    have HB := Lib.hid (bel_step HB1.out hb)
    have HS := Lib.hid (HS1.out.trans (hb.mono (by omega)))
    have hzz : w1.heap.size ≤ V'.heap.size := by have := hb.size; omega
    clear hb hs HO1 H21 HB1 HS1
    refine ⟨_, rfl, HS.out, ?_⟩
    simp only [Act.put, List.setIfInBounds_toArray, List.set_cons_zero, List.set_cons_succ]
  case' inr =>
    refine wpOp_call (some 7) 56 Tryd.func56 (by kernel_rfl) (by kernel_rfl) _ _ #[.agg (celB x).toArray] rfl (by kernel_rfl) rfl (by kernel_rfl) (by kernel_rfl) ?_
    refine (rbytes_any x V HXL.out HXB.out).mono ?_
    rintro e V1 ⟨C3, f3, rfl, hs, hb⟩
    have HX1 := Lib.hid hs
    have H21 := Lib.hid (H20.out.keep hb)
    have HB1 := Lib.hid (bel_step HB.out hb)
    have HS1 := Lib.hid (HS0.out.trans (hb.mono (by omega)))
    have hz1 : w1.heap.size ≤ V1.heap.size := by have := hb.size; omega
    clear hb hs H20 HB HS0
    refine ⟨_, rfl, HS1.out, ?_⟩
    simp only [Act.put, List.setIfInBounds_toArray, List.set_cons_zero, List.set_cons_succ]
    refine wpAnyH_all (rs := [0]) (by kernel_rfl) (by simp) (fun j hj => ?_)
    obtain rfl : j = 0 := by simpa using hj
    clear hj
    have hb1 : Below V1.heap.size V1 (V1.alloc (.cells #[.int .u8 ((1 : Nat) : Int)] 5)) := (Below.refl _ _).alloc (Nat.le_refl _) _
    refine wpOp_val (some 5) rfl (by kernel_rfl) (by kernel_rfl) _ _ (run_buildB1 1 rfl rfl _) ⟨HS1.out.trans (hb1.mono (by omega)), ?_⟩
    simp only [Act.put, List.setIfInBounds_toArray, List.set_cons_zero, List.set_cons_succ]
    have HO := Lib.hid (show RowB (V1.alloc (.cells #[.int .u8 ((1 : Nat) : Int)] 5)) 5 V1.heap.size [1] from heap_new V1 _)
    have HX := Lib.hid (HX1.out.keep hb1)
    have H2 := Lib.hid (H21.out.keep hb1)
    have HB := Lib.hid (bel_step HB1.out hb1)
    have HS := Lib.hid (HS1.out.trans (hb1.mono (by omega)))
    have hzz : w1.heap.size ≤ (V1.alloc (.cells #[.int .u8 ((1 : Nat) : Int)] 5)).heap.size := by have := hb1.size; omega
    clear hb1 HX1 H21 HB1 HS1
    generalize V1.alloc (.cells #[.int .u8 ((1 : Nat) : Int)] 5) = V' at *
    generalize V1.heap.size = b5 at *
  all_goals
    refine wpAnyH_all (rs := [3]) (by kernel_rfl) (by simp) (fun j hj => ?_)
    obtain rfl : j = 3 := by simpa using hj
    clear hj
    refine wpOp_call (some 8) 55 Tryd.func55 (by kernel_rfl) (by kernel_rfl) _ _ #[.slice (some ⟨b5, 0, none⟩) 1 1, .slice C3 32 f3] rfl (by kernel_rfl) rfl (by kernel_rfl) (by kernel_rfl) ?_
    refine (rjoin_any _ 1 1 [1] C3 32 f3 x V' (HO.out.all (by decide) rfl (Nat.le_refl _) (by omega)) HX.out (by omega)).mono ?_
    rintro e V4 ⟨C4, f4, rfl, hs, hb⟩
    have H2' := Lib.hid (H2.out.keep hb)
    have HB' := Lib.hid (bel_step HB.out hb)
    have HS' := Lib.hid (HS.out.trans (hb.mono (by omega)))
    have hzz' : w1.heap.size ≤ V4.heap.size := by have := hb.size; omega
    have HX4 := Lib.hid hs
    clear hb H2 HB HS hzz hs HO HX
    rename Hid (RowB V4 31 (w.heap.size + 1 + 1) (List.replicate 32 0)) => H2
    rename Hid (Below w.heap.size w V4) => HB
    rename Hid (Below (w.heap.size + 1 + 1) w1 V4) => HS
    rename w1.heap.size ≤ V4.heap.size => hzz
    refine ⟨_, rfl, HS.out, ?_⟩
    simp only [Act.put, List.setIfInBounds_toArray, List.set_cons_zero, List.set_cons_succ]
    refine wpAnyH_all (rs := [5]) (by kernel_rfl) (by simp) (fun j hj => ?_)
    obtain rfl : j = 5 := by simpa using hj
    clear hj
    refine wpOp_call (some 10) 56 Tryd.func56 (by kernel_rfl) (by kernel_rfl) _ _ #[.agg (celB y).toArray] rfl (by kernel_rfl) rfl (by kernel_rfl) (by kernel_rfl) ?_
    refine (rbytes_any y V4 HYL.out HYB.out).mono ?_
    rintro e V5 ⟨C5, f5, rfl, hs, hb⟩
    have H2' := Lib.hid (H2.out.keep hb)
    have HB' := Lib.hid (bel_step HB.out hb)
    have HS' := Lib.hid (HS.out.trans (hb.mono (by omega)))
    have hzz' : w1.heap.size ≤ V5.heap.size := by have := hb.size; omega
    have HY5 := Lib.hid hs
    have HX5 := Lib.hid (HX4.out.keep hb)
    clear hb H2 HB HS hzz hs HX4
    rename Hid (RowB V5 31 (w.heap.size + 1 + 1) (List.replicate 32 0)) => H2
    rename Hid (Below w.heap.size w V5) => HB
    rename Hid (Below (w.heap.size + 1 + 1) w1 V5) => HS
    rename w1.heap.size ≤ V5.heap.size => hzz
    refine ⟨_, rfl, HS.out, ?_⟩
    simp only [Act.put, List.setIfInBounds_toArray, List.set_cons_zero, List.set_cons_succ]
    refine wpAnyH_all (rs := [6]) (by kernel_rfl) (by simp) (fun j hj => ?_)
    obtain rfl : j = 6 := by simpa using hj
    clear hj
    refine wpOp_call (some 11) 55 Tryd.func55 (by kernel_rfl) (by kernel_rfl) _ _ #[.slice C4 33 f4, .slice C5 32 f5] rfl (by kernel_rfl) rfl (by kernel_rfl) (by kernel_rfl) ?_
    refine (rjoin_any C4 33 f4 ([1] ++ x) C5 32 f5 y V5 HX5.out HY5.out (by omega)).mono ?_
    rintro e V6 ⟨C6, f6, rfl, hs, hb⟩
    have H2' := Lib.hid (H2.out.keep hb)
    have HB' := Lib.hid (bel_step HB.out hb)
    have HS' := Lib.hid (HS.out.trans (hb.mono (by omega)))
    have hzz' : w1.heap.size ≤ V6.heap.size := by have := hb.size; omega
    have HX6 := Lib.hid hs
    clear hb H2 HB HS hzz hs HX5 HY5
    rename Hid (RowB V6 31 (w.heap.size + 1 + 1) (List.replicate 32 0)) => H2
    rename Hid (Below w.heap.size w V6) => HB
    rename Hid (Below (w.heap.size + 1 + 1) w1 V6) => HS
    rename w1.heap.size ≤ V6.heap.size => hzz
    refine ⟨_, rfl, HS.out, ?_⟩
    simp only [Act.put, List.setIfInBounds_toArray, List.set_cons_zero, List.set_cons_succ]
    refine wpAnyH_all (rs := [7]) (by kernel_rfl) (by simp) (fun j hj => ?_)
    obtain rfl : j = 7 := by simpa using hj
    clear hj
    refine wpOp_call (some 12) 54 Tryd.func54 (by kernel_rfl) (by kernel_rfl) _ _ #[.slice C6 65 f6] rfl (by kernel_rfl) rfl (by kernel_rfl) (by kernel_rfl) ?_
    refine (rsum_any C6 65 f6 _ V6 HX6.out (by omega) R (by rw [← HR.out]; simp)).mono ?_
    rintro e V7 ⟨rfl, hb⟩
    have H2' := Lib.hid (H2.out.keep hb)
    have HB' := Lib.hid (bel_step HB.out hb)
    have HS' := Lib.hid (HS.out.trans (hb.mono (by omega)))
    have hzz' : w1.heap.size ≤ V7.heap.size := by have := hb.size; omega
    clear hb H2 HB HS hzz HX6
    rename Hid (RowB V7 31 (w.heap.size + 1 + 1) (List.replicate 32 0)) => H2
    rename Hid (Below w.heap.size w V7) => HB
    rename Hid (Below (w.heap.size + 1 + 1) w1 V7) => HS
    rename w1.heap.size ≤ V7.heap.size => hzz
    refine ⟨_, rfl, HS.out, ?_⟩
    simp only [Act.put, List.setIfInBounds_toArray, List.set_cons_zero, List.set_cons_succ]
    refine wpAnyH_all (rs := [8]) (by kernel_rfl) (by simp) (fun j hj => ?_)
    obtain rfl : j = 8 := by simpa using hj
    clear hj
    have hsb := bel_setRow HS.out (Nat.le_refl _) (celB R).toArray
    refine wpOp_skip0 rfl (by kernel_rfl) (by kernel_rfl) (V7.setRow (w.heap.size + 1 + 1) (celB R).toArray) (exec_storeD (x := .tmp 4) (y := .tmp 12) hl List.length_replicate H2.out rfl (by kernel_rfl) (by kernel_rfl)) ⟨hsb, ?_⟩
    simp only [Act.put, List.setIfInBounds_toArray, List.set_cons_zero, List.set_cons_succ]
    refine wpAnyH_done (by kernel_rfl) ?_ _
    have hrow := H2.out.row R
    have hbl := bel_setRow HB.out (show w.heap.size ≤ w.heap.size + 1 + 1 by omega) (celB R).toArray
    go_wp2_with fail
    refine bodyPost_ret (v := .agg (celB R).toArray) ?_ rfl ⟨rfl, hbl⟩
    exact results_cell_row rfl _ _ (w.heap.size + 1 + 1) 31 _ (0, 0) _ rfl hrow Tryd.underlying31 rfl (dig_size hl)
end Go.Proofs.YtcephdkcjcbanaaDoor

/- The reference's Keyed. -/
namespace Go.Proofs.YtcephdkcjcbanaaDoor
set_option linter.unusedVariables false
set_option linter.unusedSimpArgs false
set_option maxRecDepth 8000
open Go.RowKit
attribute [local simp] z32_ne z32_run
attribute [-simp] Tryd.zeroValue31 Tryd.isAgg31 Tryd.sizeOf31
end Go.Proofs.YtcephdkcjcbanaaDoor

/- The reference's Made, SameBytes. -/
namespace Go.Proofs.YtcephdkcjcbanaaDoor
set_option linter.unusedVariables false
set_option linter.unusedSimpArgs false
set_option maxRecDepth 8000
open Go.RowKit
attribute [local simp] z32_ne z32_run
attribute [-simp] Tryd.zeroValue31 Tryd.isAgg31 Tryd.sizeOf31
def madeN (bs : List Nat) : List Nat := bs.take 32 ++ List.replicate (32 - min 32 bs.length) 0
theorem madeN_length (bs : List Nat) : (madeN bs).length = 32 := by unfold madeN; simp; omega
theorem madeN_lt {bs : List Nat} (h : ∀ x ∈ bs, x < 256) : ∀ x ∈ madeN bs, x < 256 := by
  intro x hx
  unfold madeN at hx
  rcases List.mem_append.1 hx with hx | hx
  · exact h x (List.mem_of_mem_take hx)
  · rw [(List.mem_replicate.1 hx).2]; decide
end Go.Proofs.YtcephdkcjcbanaaDoor
