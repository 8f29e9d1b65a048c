/- Several texts in one: Shv, Shw, Shx. -/
import Derived.Test.YtgkojdbepgonkaaDoorH10
import Derived.Test.YtgkojdbepgonkaaDoorH08
import Derived.OrdersHeld
/- The reference's Pair and Keyed. -/
namespace Go.Proofs.YtgkojdbepgonkaaDoor
set_option maxRecDepth 8000
set_option linter.unusedVariables false
set_option linter.unusedSimpArgs false
open Go.RowKit
attribute [local simp] z32_ne z32_run
attribute [-simp] Tryd.zeroValue34 Tryd.isAgg34 Tryd.sizeOf34
section
variable {P : Program} {ops : Array Oper} {Q : Exit → Act → World → Prop} {K : Act → World → Prop} {a : Act} {w : World} {o : Oper} {i : Nat}
theorem wpOp_val (d : Option Tmp) (ho : ops[i]? = some o) (hd : o.dst = d) (hw : Region.wanted o (yielded ops a.tmps) = true) (v : Value) (w' : World) (hr : (execOp a.eval o).run P w = .ok (.value v) w') (h : K (a.put d v) w') : wpOp P ops Q i K a w := by
  subst hd
  unfold wpOp
  simp only [ho, hw, if_true]
  refine .inl ?_
  unfold Oper.wp
  rw [hr]
  exact h
theorem wpOp_skip0 (ho : ops[i]? = some o) (hd : o.dst = none) (hw : Region.wanted o (yielded ops a.tmps) = true) (w' : World) (hr : (execOp a.eval o).run P w = .ok .skip w') (h : K (a.put none undef) w') : wpOp P ops Q i K a w := by
  rw [← hd] at h
  unfold wpOp
  simp only [ho, hw, if_true]
  refine .inl ?_
  unfold Oper.wp
  rw [hr]
  exact h
theorem wpOp_call {fn : Func} (d : Option Tmp) (f : FuncId) (hf : P.funcs[f]? = some fn) (hname : (fn.name == "runtime.NumGoroutine") = false) (hb : fn.body.isNone = false) (args : Array Operand) (ts : Array TypeId) (vs : Array Value) (ho : ops[i]? = some o) (hd : o.dst = d) (hop : o.op = .call { callee := .value (.func f), args := args, argTypes := ts })
    (hw : Region.wanted o (yielded ops a.tmps) = true) (hv : args.map a.eval = vs) (h : Calls P f vs w fun e w' => ∃ v, e = .returned v ∧ K (a.put d v) w') : wpOp P ops Q i K a w := by
  subst hd
  have e : (execOp a.eval o).run P w = .ok (.enter f vs) w := by
    subst hv
    have h1 : fn.name ≠ "runtime.NumGoroutine" := by simpa using hname
    have h2 : fn.body ≠ none := by
      intro e
      rw [e] at hb
      cases hb
    unfold execOp
    simp only [hop]
    simp [resolve, Deferred.ofValue, invoke, go_sem, Act.eval, callFunc, hf, h1, h2]
  unfold wpOp
  simp only [ho, hw, if_true]
  refine .inl ?_
  unfold Oper.wp
  rw [e]
  exact h.mono fun _ _ ⟨v, he, h2⟩ => by subst he; exact h2
end
theorem wpAnyH_takeD {P : Program} {ops : Array Oper} {Q : Exit → Act → World → Prop} {md : Region.Mode} {S : World → Prop} (d : Option Tmp) {i : Nat} {oi : Oper} {v : Value} {fuel : Nat} {listed : Array Bool} {a : Act} {w : World} (hi : ops[i]? = some oi) (hd : oi.dst = d)
    (hs : Region.noSelect ops = true) (hf : Region.free md ops listed i = true) (hr : (Region.ready md ops listed).contains i = true)
    (hQ : ∀ c a w, Q (.panic c) (a.put oi.dst v) w → Q (.panic c) a w) (hy : YieldsIf P ops S oi v a) (hS : S w)
    (h : wpAnyH P md ops Q S fuel (listed.setIfInBounds i true) (a.put d v) w) : wpAnyH P md ops Q S (fuel + 1) listed a w := by
  subst hd
  exact wpAnyH_take hi hs hf hr hQ hy hS h
set_option maxHeartbeats 2000000 in
theorem rpair_any (x y : List Nat) (w : World) (hx : x.length = 32) (hy : y.length = 32) (hxb : ∀ z ∈ x, z < 256) (hyb : ∀ z ∈ y, z < 256) (R : List Nat) (hR : shaN (1 :: (x ++ y)) = R) :
    Calls Tryd.prog 44 #[.agg (celB x).toArray, .agg (celB y).toArray] w fun e w' => e = .returned (.agg (celB R).toArray) ∧ Below w.heap.size w w' := by
  have hl : R.length = 32 := by rw [← hR]; exact shaN_length _
  have HR := Lib.hid hR
  have HXL := Lib.hid hx
  have HYL := Lib.hid hy
  have HXB := Lib.hid hxb
  have HYB := Lib.hid hyb
  clear hR hx hy hxb hyb
  go_enter Tryd.func44, Tryd.ntmps44
  go_upto_region 1 with fail
  refine wp_named3 (fun w1 hb1 g0 g1 g2 hlt1 => ?_)
  have H0 : Hid (RowB w1 34 w.heap.size x) := Lib.hid g0
  have H1 : Hid (RowB w1 34 (w.heap.size + 1) y) := Lib.hid g1
  have H2 : Hid (RowB w1 34 (w.heap.size + 1 + 1) (List.replicate 32 0)) := Lib.hid g2
  have HB1 := Lib.hid hb1
  clear g0 g1 g2 hb1
  refine wp_region_held (S := fun v => Below (w.heap.size + 1 + 1) w1 v) (by kernel_rfl) ?_
  change wpAnyH _ _ _ _ _ _ _ _ w1.drew
  have hd : Below w1.heap.size w1 w1.drew := (Below.refl _ _).drew
  refine wpAnyH_takeD (some 6) (i := 1) (v := .agg (celB x).toArray) rfl (by kernel_rfl) (by kernel_rfl) (by kernel_rfl) (by kernel_rfl) (fun _ _ _ h => h) (Or.inl ⟨by kernel_rfl, fun v hv => exec_loadD HXL.out (H0.out.same (hv.block _ (by omega))) rfl rfl⟩) (hd.mono (by omega)) ?_
  simp only [Act.put, List.setIfInBounds_toArray, List.set_cons_zero, List.set_cons_succ]
  refine wpAnyH_takeD (some 9) (i := 4) (v := .agg (celB y).toArray) rfl (by kernel_rfl) (by kernel_rfl) (by kernel_rfl) (by kernel_rfl) (fun _ _ _ h => h) (Or.inl ⟨by kernel_rfl, fun v hv => exec_loadD HYL.out (H1.out.same (hv.block _ (by omega))) rfl rfl⟩) (hd.mono (by omega)) ?_
  simp only [Act.put, List.setIfInBounds_toArray, List.set_cons_zero, List.set_cons_succ]
  have H20 := Lib.hid (H2.out.keep hd)
  have HB := Lib.hid (bel_step HB1.out hd)
  have HS0 := Lib.hid (hd.mono (show w.heap.size + 1 + 1 ≤ w1.heap.size by omega))
  have hz := hd.size
  clear hd H0 H1 H2 HB1
  generalize w1.drew = V at *
  refine wpAnyH_all (rs := [0, 2]) (by kernel_rfl) (by simp) (fun i hi => ?_)
  have hi2 : i = 0 ∨ i = 2 := by simpa using hi
  clear hi
  rcases hi2 with rfl | rfl
  case' inl =>
    have hb1 : Below V.heap.size V (V.alloc (.cells #[.int .u8 ((1 : Nat) : Int)] 5)) := (Below.refl _ _).alloc (Nat.le_refl _) _
    refine wpOp_val (some 5) rfl (by kernel_rfl) (by kernel_rfl) _ _ (run_buildB1 1 rfl rfl _) ⟨HS0.out.trans (hb1.mono (by omega)), ?_⟩
    simp only [Act.put, List.setIfInBounds_toArray, List.set_cons_zero, List.set_cons_succ]
    have HO1 := Lib.hid (show RowB (V.alloc (.cells #[.int .u8 ((1 : Nat) : Int)] 5)) 5 V.heap.size [1] from heap_new V _)
    have H21 := Lib.hid (H20.out.keep hb1)
    have HB1 := Lib.hid (bel_step HB.out hb1)
    have HS1 := Lib.hid (HS0.out.trans (hb1.mono (by omega)))
    have hz1 := hb1.size
    clear hb1 H20 HB HS0
    generalize V.alloc (.cells #[.int .u8 ((1 : Nat) : Int)] 5) = V1 at *
    generalize V.heap.size = b5 at *
    refine wpAnyH_all (rs := [2]) (by kernel_rfl) (by simp) (fun j hj => ?_)
    obtain rfl : j = 2 := by simpa using hj
    clear hj
    refine wpOp_call (some 7) 40 Tryd.func40 (by kernel_rfl) (by kernel_rfl) _ _ #[.agg (celB x).toArray] rfl (by kernel_rfl) rfl (by kernel_rfl) (by kernel_rfl) ?_
    refine (rbytes_any x V1 HXL.out HXB.out).mono ?_
    rintro e V' ⟨C3, f3, rfl, hs, hb⟩
    have HO := Lib.hid (HO1.out.keep hb)
    have HX := Lib.hid hs
    have H2 := Lib.hid (H21.out.keep hb)
    have HB := Lib.hid (bel_step HB1.out hb)
    have HS := Lib.hid (HS1.out.trans (hb.mono (by omega)))
    have hzz : w1.heap.size ≤ V'.heap.size := by have := hb.size; omega
    clear hb hs HO1 H21 HB1 HS1
    refine ⟨_, rfl, HS.out, ?_⟩
    simp only [Act.put, List.setIfInBounds_toArray, List.set_cons_zero, List.set_cons_succ]
  case' inr =>
    refine wpOp_call (some 7) 40 Tryd.func40 (by kernel_rfl) (by kernel_rfl) _ _ #[.agg (celB x).toArray] rfl (by kernel_rfl) rfl (by kernel_rfl) (by kernel_rfl) ?_
    refine (rbytes_any x V HXL.out HXB.out).mono ?_
    rintro e V1 ⟨C3, f3, rfl, hs, hb⟩
    have HX1 := Lib.hid hs
    have H21 := Lib.hid (H20.out.keep hb)
    have HB1 := Lib.hid (bel_step HB.out hb)
    have HS1 := Lib.hid (HS0.out.trans (hb.mono (by omega)))
    have hz1 : w1.heap.size ≤ V1.heap.size := by have := hb.size; omega
    clear hb hs H20 HB HS0
    refine ⟨_, rfl, HS1.out, ?_⟩
    simp only [Act.put, List.setIfInBounds_toArray, List.set_cons_zero, List.set_cons_succ]
    refine wpAnyH_all (rs := [0]) (by kernel_rfl) (by simp) (fun j hj => ?_)
    obtain rfl : j = 0 := by simpa using hj
    clear hj
    have hb1 : Below V1.heap.size V1 (V1.alloc (.cells #[.int .u8 ((1 : Nat) : Int)] 5)) := (Below.refl _ _).alloc (Nat.le_refl _) _
    refine wpOp_val (some 5) rfl (by kernel_rfl) (by kernel_rfl) _ _ (run_buildB1 1 rfl rfl _) ⟨HS1.out.trans (hb1.mono (by omega)), ?_⟩
    simp only [Act.put, List.setIfInBounds_toArray, List.set_cons_zero, List.set_cons_succ]
    have HO := Lib.hid (show RowB (V1.alloc (.cells #[.int .u8 ((1 : Nat) : Int)] 5)) 5 V1.heap.size [1] from heap_new V1 _)
    have HX := Lib.hid (HX1.out.keep hb1)
    have H2 := Lib.hid (H21.out.keep hb1)
    have HB := Lib.hid (bel_step HB1.out hb1)
    have HS := Lib.hid (HS1.out.trans (hb1.mono (by omega)))
    have hzz : w1.heap.size ≤ (V1.alloc (.cells #[.int .u8 ((1 : Nat) : Int)] 5)).heap.size := by have := hb1.size; omega
    clear hb1 HX1 H21 HB1 HS1
    generalize V1.alloc (.cells #[.int .u8 ((1 : Nat) : Int)] 5) = V' at *
    generalize V1.heap.size = b5 at *
  all_goals
    refine wpAnyH_all (rs := [3]) (by kernel_rfl) (by simp) (fun j hj => ?_)
    obtain rfl : j = 3 := by simpa using hj
    clear hj
    refine wpOp_call (some 8) 38 Tryd.func38 (by kernel_rfl) (by kernel_rfl) _ _ #[.slice (some ⟨b5, 0, none⟩) 1 1, .slice C3 32 f3] rfl (by kernel_rfl) rfl (by kernel_rfl) (by kernel_rfl) ?_
    refine (rjoin_any _ 1 1 [1] C3 32 f3 x V' (HO.out.all (by decide) rfl (Nat.le_refl _) (by omega)) HX.out (by omega)).mono ?_
    rintro e V4 ⟨C4, f4, rfl, hs, hb⟩
    have H2' := Lib.hid (H2.out.keep hb)
    have HB' := Lib.hid (bel_step HB.out hb)
    have HS' := Lib.hid (HS.out.trans (hb.mono (by omega)))
    have hzz' : w1.heap.size ≤ V4.heap.size := by have := hb.size; omega
    have HX4 := Lib.hid hs
    clear hb H2 HB HS hzz hs HO HX
    rename Hid (RowB V4 34 (w.heap.size + 1 + 1) (List.replicate 32 0)) => H2
    rename Hid (Below w.heap.size w V4) => HB
    rename Hid (Below (w.heap.size + 1 + 1) w1 V4) => HS
    rename w1.heap.size ≤ V4.heap.size => hzz
    refine ⟨_, rfl, HS.out, ?_⟩
    simp only [Act.put, List.setIfInBounds_toArray, List.set_cons_zero, List.set_cons_succ]
    refine wpAnyH_all (rs := [5]) (by kernel_rfl) (by simp) (fun j hj => ?_)
    obtain rfl : j = 5 := by simpa using hj
    clear hj
    refine wpOp_call (some 10) 40 Tryd.func40 (by kernel_rfl) (by kernel_rfl) _ _ #[.agg (celB y).toArray] rfl (by kernel_rfl) rfl (by kernel_rfl) (by kernel_rfl) ?_
    refine (rbytes_any y V4 HYL.out HYB.out).mono ?_
    rintro e V5 ⟨C5, f5, rfl, hs, hb⟩
    have H2' := Lib.hid (H2.out.keep hb)
    have HB' := Lib.hid (bel_step HB.out hb)
    have HS' := Lib.hid (HS.out.trans (hb.mono (by omega)))
    have hzz' : w1.heap.size ≤ V5.heap.size := by have := hb.size; omega
    have HY5 := Lib.hid hs
    have HX5 := Lib.hid (HX4.out.keep hb)
    clear hb H2 HB HS hzz hs HX4
    rename Hid (RowB V5 34 (w.heap.size + 1 + 1) (List.replicate 32 0)) => H2
    rename Hid (Below w.heap.size w V5) => HB
    rename Hid (Below (w.heap.size + 1 + 1) w1 V5) => HS
    rename w1.heap.size ≤ V5.heap.size => hzz
    refine ⟨_, rfl, HS.out, ?_⟩
    simp only [Act.put, List.setIfInBounds_toArray, List.set_cons_zero, List.set_cons_succ]
    refine wpAnyH_all (rs := [6]) (by kernel_rfl) (by simp) (fun j hj => ?_)
    obtain rfl : j = 6 := by simpa using hj
    clear hj
    refine wpOp_call (some 11) 38 Tryd.func38 (by kernel_rfl) (by kernel_rfl) _ _ #[.slice C4 33 f4, .slice C5 32 f5] rfl (by kernel_rfl) rfl (by kernel_rfl) (by kernel_rfl) ?_
    refine (rjoin_any C4 33 f4 ([1] ++ x) C5 32 f5 y V5 HX5.out HY5.out (by omega)).mono ?_
    rintro e V6 ⟨C6, f6, rfl, hs, hb⟩
    have H2' := Lib.hid (H2.out.keep hb)
    have HB' := Lib.hid (bel_step HB.out hb)
    have HS' := Lib.hid (HS.out.trans (hb.mono (by omega)))
    have hzz' : w1.heap.size ≤ V6.heap.size := by have := hb.size; omega
    have HX6 := Lib.hid hs
    clear hb H2 HB HS hzz hs HX5 HY5
    rename Hid (RowB V6 34 (w.heap.size + 1 + 1) (List.replicate 32 0)) => H2
    rename Hid (Below w.heap.size w V6) => HB
    rename Hid (Below (w.heap.size + 1 + 1) w1 V6) => HS
    rename w1.heap.size ≤ V6.heap.size => hzz
    refine ⟨_, rfl, HS.out, ?_⟩
    simp only [Act.put, List.setIfInBounds_toArray, List.set_cons_zero, List.set_cons_succ]
    refine wpAnyH_all (rs := [7]) (by kernel_rfl) (by simp) (fun j hj => ?_)
    obtain rfl : j = 7 := by simpa using hj
    clear hj
    refine wpOp_call (some 12) 41 Tryd.func41 (by kernel_rfl) (by kernel_rfl) _ _ #[.slice C6 65 f6] rfl (by kernel_rfl) rfl (by kernel_rfl) (by kernel_rfl) ?_
    refine (rsum_any C6 65 f6 _ V6 HX6.out (by omega) R (by rw [← HR.out]; simp)).mono ?_
    rintro e V7 ⟨rfl, hb⟩
    have H2' := Lib.hid (H2.out.keep hb)
    have HB' := Lib.hid (bel_step HB.out hb)
    have HS' := Lib.hid (HS.out.trans (hb.mono (by omega)))
    have hzz' : w1.heap.size ≤ V7.heap.size := by have := hb.size; omega
    clear hb H2 HB HS hzz HX6
    rename Hid (RowB V7 34 (w.heap.size + 1 + 1) (List.replicate 32 0)) => H2
    rename Hid (Below w.heap.size w V7) => HB
    rename Hid (Below (w.heap.size + 1 + 1) w1 V7) => HS
    rename w1.heap.size ≤ V7.heap.size => hzz
    refine ⟨_, rfl, HS.out, ?_⟩
    simp only [Act.put, List.setIfInBounds_toArray, List.set_cons_zero, List.set_cons_succ]
    refine wpAnyH_all (rs := [8]) (by kernel_rfl) (by simp) (fun j hj => ?_)
    obtain rfl : j = 8 := by simpa using hj
    clear hj
    have hsb := bel_setRow HS.out (Nat.le_refl _) (celB R).toArray
    refine wpOp_skip0 rfl (by kernel_rfl) (by kernel_rfl) (V7.setRow (w.heap.size + 1 + 1) (celB R).toArray) (exec_storeD (x := .tmp 4) (y := .tmp 12) hl List.length_replicate H2.out rfl (by kernel_rfl) (by kernel_rfl)) ⟨hsb, ?_⟩
    simp only [Act.put, List.setIfInBounds_toArray, List.set_cons_zero, List.set_cons_succ]
    refine wpAnyH_done (by kernel_rfl) ?_ _
    have hrow := H2.out.row R
    have hbl := bel_setRow HB.out (show w.heap.size ≤ w.heap.size + 1 + 1 by omega) (celB R).toArray
    go_wp2_with fail
    refine bodyPost_ret (v := .agg (celB R).toArray) ?_ rfl ⟨rfl, hbl⟩
    exact results_cell_row rfl _ _ (w.heap.size + 1 + 1) 34 _ (0, 0) _ rfl hrow Tryd.underlying34 rfl (dig_size hl)
end Go.Proofs.YtgkojdbepgonkaaDoor

/- The reference's Keyed. -/
namespace Go.Proofs.YtgkojdbepgonkaaDoor
set_option linter.unusedVariables false
set_option linter.unusedSimpArgs false
set_option maxRecDepth 8000
open Go.RowKit
attribute [local simp] z32_ne z32_run
attribute [-simp] Tryd.zeroValue34 Tryd.isAgg34 Tryd.sizeOf34
end Go.Proofs.YtgkojdbepgonkaaDoor

/- The reference's Made, SameBytes. -/
namespace Go.Proofs.YtgkojdbepgonkaaDoor
set_option linter.unusedVariables false
set_option linter.unusedSimpArgs false
set_option maxRecDepth 8000
open Go.RowKit
attribute [local simp] z32_ne z32_run
attribute [-simp] Tryd.zeroValue34 Tryd.isAgg34 Tryd.sizeOf34
def madeN (bs : List Nat) : List Nat := bs.take 32 ++ List.replicate (32 - min 32 bs.length) 0
theorem madeN_length (bs : List Nat) : (madeN bs).length = 32 := by unfold madeN; simp; omega
theorem madeN_lt {bs : List Nat} (h : ∀ x ∈ bs, x < 256) : ∀ x ∈ madeN bs, x < 256 := by
  intro x hx
  unfold madeN at hx
  rcases List.mem_append.1 hx with hx | hx
  · exact h x (List.mem_of_mem_take hx)
  · rw [(List.mem_replicate.1 hx).2]; decide
set_option maxHeartbeats 2000000 in
theorem rmade_any (A : Option Addr) (n c : Nat) (bs : List Nat) (w : World) (h : Sb w A n c bs) :
    Calls Tryd.prog 68 #[.slice A n c] w fun e w' => e = .returned (.agg (celB (madeN bs)).toArray) ∧ Below w.heap.size w w' := by
  have HLN := Lib.hid h.len
  have hcap := h.cap
  have htop := h.top
  have HS := Lib.hid h
  have HM := Lib.hid (show madeN bs = bs.take (min 32 n) ++ List.replicate (32 - min 32 n) 0 by
    unfold madeN
    rw [← HLN.out]
    congr 1
    by_cases hh : n ≤ 32
    · rw [List.take_of_length_le (by have := HLN.out; omega), List.take_of_length_le (by have := HLN.out; omega)]
    · rw [Nat.min_eq_left (by omega)])
  have HML := Lib.hid (madeN_length bs)
  clear h
  go_enter Tryd.func68, Tryd.ntmps68
  have hsc := run_storeCells_new (P := Tryd.prog) (w.alloc (.cells z32 34)) 34 z32 z32 (by rw [z32_size]; kernel_rfl) rfl celB_one
  rw [alloc_sz] at hsc
  go_wp2_with fail
  simp only [Tryd.sizeOf34, Result.andThen, ↓reduceIte, hsc, z32_size]
  rw [Oper.upon_skip]
  clear hsc
  go_wp2_with fail
  refine wp_named2 (fun w1 hb1 g0 g1 hlt1 => ?_)
  have H0 : Hid (RowB w1 34 w.heap.size (List.replicate 32 0)) := Lib.hid g0
  have H1 : Hid (RowB w1 34 (w.heap.size + 1) (List.replicate 32 0)) := Lib.hid g1
  have HB1 := Lib.hid hb1
  clear g0 g1 hb1
  go_loopw [4] (fun s wr => ∃ k : Nat, k ≤ 32 ∧ k ≤ n ∧ s = .int .i64 k ∧ RowB wr 34 w.heap.size (List.replicate 32 0) ∧ RowB wr 34 (w.heap.size + 1) (bs.take k ++ List.replicate (32 - k) 0) ∧ Below w.heap.size w wr) (fun s _ => 32 - (intOf s).toNat)
  case atStart => exact ⟨0, by omega, by omega, rfl, H0.out, H1.out, HB1.out⟩
  case round =>
    clear H0 H1 HB1
    obtain ⟨k, hk, hkn, rfl, h0, h1, hb⟩ := hrel
    have H0 := Lib.hid h0
    have H1 := Lib.hid h1
    have HB := Lib.hid hb
    clear h0 h1 hb
    have hk0 : (0 : Int) ≤ (k : Int) := by omega
    by_cases hlt : k < min 32 n
    · have hk1 : (k : Int) < 32 := by omega
      have hk2 : (k : Int) < (n : Int) := by omega
      have hkl : k < n := by omega
      have htl : (bs.take k).length = k := by rw [List.length_take]; have := HLN.out; omega
      obtain ⟨ad, rfl⟩ := HS.out.some_ (by omega)
      have c0 := (HS.out.keep HB.out).at_ hkl
      have HTS := Lib.hid (take_snoc (bs := bs) (k := k) (by rw [← HLN.out]; exact hkl))
      have d0 := H1.out.at_ (i := k) (x := 0) (get_zero htl (by omega))
      have d1 := H1.out.free k
      have HTL := Lib.hid htl
      generalize bs.getD k 0 = x at *
      clear htl hlt
      go_wp2_with fail
      go_roundw
      case rel =>
        refine ⟨k + 1, by omega, by omega, by go_num, H0.out.far _ (by simp), ?_, HB.out.setCell (by simp) _⟩
        rw [← HTS.out, ← set_midB _ HTL.out (by omega)]
        exact H1.out.put k _ _ rfl
      case measure => simp [intOf]; omega
    · have HKM := Lib.hid (show k = min 32 n by omega)
      clear hlt
      by_cases h32 : k = 32
      · have hk1 : ¬ (k : Int) < 32 := by omega
        have hld := run_loadB (P := Tryd.prog) H1.out 32 (by rw [List.length_append, List.length_take, List.length_replicate]; have := HLN.out; omega)
        have hbs : bs.take k ++ List.replicate (32 - k) 0 = madeN bs := by rw [HM.out, HKM.out]
        rw [hbs] at hld H1
        have hsc := run_storeB (P := Tryd.prog) (ws := madeN bs) H0.out (by rw [HML.out, List.length_replicate])
        have hsz : (celB (madeN bs)).length = 32 := by rw [celB_length, HML.out]
        generalize hRR : madeN bs = R at *
        have HRR := Lib.hid hRR
        clear hRR
        go_wp2_with fail
        simp only [Tryd.isAgg34, Tryd.sizeOf34, Result.andThen, ↓reduceIte, hld]
        rw [Oper.upon_value]
        clear hld
        go_wp2_with fail
        simp only [Tryd.sizeOf34, Result.andThen, ↓reduceIte, hsc]
        rw [Oper.upon_skip]
        clear hsc
        go_wp2_with fail
        refine bodyPost_ret (v := .agg (celB R).toArray) ?_ rfl ⟨by rw [HRR.out], bel_setRow HB.out (Nat.le_refl _) _⟩
        exact results_cell_row rfl _ _ w.heap.size 34 _ (0, 0) _ rfl (H0.out.row R) Tryd.underlying34 rfl (dig_size HML.out)
      · have hk1 : (k : Int) < 32 := by omega
        have hk2 : ¬ (k : Int) < (n : Int) := by have := HKM.out; omega
        have hld := run_loadB (P := Tryd.prog) H1.out 32 (by rw [List.length_append, List.length_take, List.length_replicate]; have := HLN.out; omega)
        have hbs : bs.take k ++ List.replicate (32 - k) 0 = madeN bs := by rw [HM.out, HKM.out]
        rw [hbs] at hld H1
        have hsc := run_storeB (P := Tryd.prog) (ws := madeN bs) H0.out (by rw [HML.out, List.length_replicate])
        have hsz : (celB (madeN bs)).length = 32 := by rw [celB_length, HML.out]
        generalize hRR : madeN bs = R at *
        have HRR := Lib.hid hRR
        clear hRR
        go_wp2_with fail
        simp only [Tryd.isAgg34, Tryd.sizeOf34, Result.andThen, ↓reduceIte, hld]
        rw [Oper.upon_value]
        clear hld
        go_wp2_with fail
        simp only [Tryd.sizeOf34, Result.andThen, ↓reduceIte, hsc]
        rw [Oper.upon_skip]
        clear hsc
        go_wp2_with fail
        refine bodyPost_ret (v := .agg (celB R).toArray) ?_ rfl ⟨by rw [HRR.out], bel_setRow HB.out (Nat.le_refl _) _⟩
        exact results_cell_row rfl _ _ w.heap.size 34 _ (0, 0) _ rfl (H0.out.row R) Tryd.underlying34 rfl (dig_size HML.out)
set_option maxHeartbeats 2000000 in
theorem rsame_yes (A : Option Addr) (n c : Nat) (B : Option Addr) (m d : Nat) (bs : List Nat) (w : World) (ha : Sb w A n c bs) (hb : Sb w B m d bs) :
    Calls Tryd.prog 29 #[.slice A n c, .slice B m d] w fun e w' => e = .returned (.bool true) ∧ Below w.heap.size w w' := by
  obtain rfl : n = m := by rw [ha.len, hb.len]
  have hcap := ha.cap
  have htop := ha.top
  have HA := Lib.hid ha
  have HC := Lib.hid hb
  clear ha hb
  go_enter Tryd.func29, Tryd.ntmps29
  go_wp2_with fail
  go_loopw [5] (fun s wr => ∃ k : Nat, k ≤ n ∧ s = .int .i64 k ∧ Below w.heap.size w wr) (fun s _ => n - (intOf s).toNat)
  case atStart => exact ⟨0, Nat.zero_le _, rfl, Below.refl _ _⟩
  case round =>
    obtain ⟨k, hk, rfl, hbw⟩ := hrel
    by_cases hlt : k < n
    · have hk1 : (k : Int) < (n : Int) := by omega
      have hk0 : (0 : Int) ≤ (k : Int) := by omega
      obtain ⟨ad, rfl⟩ := HA.out.some_ (by omega)
      obtain ⟨ad2, rfl⟩ := HC.out.some_ (by omega)
      have c0 := Later.cell ((HA.out.keep hbw).at_ hlt)
      have c1 := Later.cell ((HC.out.keep hbw).at_ hlt)
      generalize bs.getD k 0 = x at *
      go_wp2_with fail
      refine wp_later_lex (by kernel_rfl) (lexOK_of (by kernel_rfl) (by kernel_rfl)) ?_
      repeat (go_big_quiet_step (fail))
      refine wpQuiet_nil ?_
      intro X
      have hb2 := bel_step hbw X.below
      go_wp2_with fail
      go_roundw
      case rel => exact ⟨k + 1, hlt, by go_num, hb2⟩
      case measure => simp [intOf]; omega
    · obtain rfl : k = n := by omega
      go_wp2_with fail
      go_ret
      exact ⟨rfl, hbw⟩
end Go.Proofs.YtgkojdbepgonkaaDoor
