/- Several texts in one: Mvw, Mvn, Mvg, Mvr. -/
import Derived.Test.YtgkojdbepgonkaaDoorH25
import Derived.Test.YtgkojdbepgonkaaDoorH13
import Derived.Test.YtgkojdbepgonkaaDoorH14
import Derived.Deep.Slices
import Derived.Laws.IdiomArrays
/- The reference's Verify. -/
namespace Go.Proofs.YtgkojdbepgonkaaDoor
set_option maxRecDepth 8000
set_option linter.unusedVariables false
set_option linter.unusedSimpArgs false
open Go.RowKit
attribute [local simp] z32_ne z32_run
attribute [-simp] Tryd.zeroValue34 Tryd.isAgg34 Tryd.sizeOf34
theorem reb_all {ns bs : List (List Nat)} {is : List Int} {N : Nat} (hinc : incF 0 (N : Int) is = true) (hN1 : 1 ≤ N) (hbl : bs.length = is.length) : rebR (closedN 0 N is) ns bs is N 0 N = (rebN 0 N is bs ns).1 := by
  have hpw := (incF_pw hinc).1
  have hsl : slN is ((0 : Nat) : Int) ((0 + N : Nat) : Int) = is := by rw [Nat.zero_add]; exact slN_all (InS.of_inc hinc)
  have h := rebR_rebN (ns := ns) (bs := bs) hpw N hN1 (closedN 0 N is) [] [] N 0 (Nat.le_refl _) (by rw [hsl]; simp) (fun x hx => by cases hx) (fun x hx => by cases hx)
  have w0 : withinN is 0 ((0 : Nat) : Int) = 0 := by
    unfold withinN
    rw [List.length_eq_zero_iff, List.filter_eq_nil_iff]
    intro x _ hx
    have := of_decide_eq_true hx
    omega
  have wn : withinN is ((0 : Nat) : Int) ((0 + N : Nat) : Int) = bs.length := by rw [withinN_sl, hsl, hbl]
  rw [hsl, w0, wn, List.drop_zero, List.take_of_length_le (Nat.le_refl _)] at h
  simpa using h
section
variable {ev : Operand → Value} {o : Oper}
theorem exec_neT {x y : Operand} {t : TypeId} (a b : Int) (h : ¬ a = b) (ho : o.op = .binOp .neq 3 x y t) (hx : ev x = .int .i64 a) (hy : ev y = .int .i64 b) (w : World) : (execOp ev o).run Tryd.prog w = .ok (.value (.bool true)) w := by
  unfold execOp
  simp only [ho, hx, hy]
  go_simp
theorem exec_neF {x y : Operand} {t : TypeId} (a b : Int) (h : a = b) (ho : o.op = .binOp .neq 3 x y t) (hx : ev x = .int .i64 a) (hy : ev y = .int .i64 b) (w : World) : (execOp ev o).run Tryd.prog w = .ok (.value (.bool false)) w := by
  subst h
  unfold execOp
  simp only [ho, hx, hy]
  go_simp
theorem exec_lenX {x : Operand} (A : Option Addr) (n c : Nat) (ho : o.op = .call { callee := .builtin .len, args := #[x], argTypes := #[100] }) (hx : ev x = .slice A n c) (w : World) :
    (execOp ev o).run Tryd.prog w = .ok (.value (.int .i64 (n : Int))) w := by
  unfold execOp
  simp only [ho]
  go_simp
end
attribute [local irreducible] wpList
set_option maxHeartbeats 4000000 in
theorem rverify_any (root : List Nat) (n : Int) (I : Option Addr) (k d : Nat) (is : List Int) (B : Option Addr) (k2 d2 : Nat) (bs : List (List Nat)) (R : Option Addr) (r e : Nat) (ns : List (List Nat)) (w : World) (hr : root.length = 32) (hrb : ∀ x ∈ root, x < 256) (hi : Ib w I k d is) (hB : Pb w B k2 d2 bs) (hD : Db w R r e ns)
    (hL : ∀ b ∈ bs, b.length ≤ 140737488351232) (hn : -9223372036854775808 ≤ n ∧ n ≤ 9223372036854775807) (V : Nat) (hV : verN root n is bs ns = V) :
    Calls Tryd.prog 14 #[.agg (celB root).toArray, .int .i64 n, .agg #[.slice I k d, .slice B k2 d2], .agg #[.slice R r e]] w fun e2 w' => e2 = .returned (.int .i64 (V : Int)) ∧ Below w.heap.size w w' := by
  have HI := Lib.hid hi
  have HP := Lib.hid hB
  have HD := Lib.hid hD
  have HL := Lib.hid hL
  have HV := Lib.hid hV
  have HK := Lib.hid (show k = is.length ∧ k2 = bs.length ∧ r = ns.length from ⟨hi.len, hB.len, hD.len⟩)
  clear hi hB hD hL hV
  go_enter Tryd.func14, Tryd.ntmps14
  go_upto_region 1 with fail
  refine wp_named3 (fun w1 hb1 g0 g1 g2 hlt1 => ?_)
  have HB1 := Lib.hid hb1
  have G0 : Hid (RowB w1 34 w.heap.size root) := Lib.hid g0
  have G1 := Lib.hid g1
  have G2 := Lib.hid g2
  have HI1 := Lib.hid (HI.out.keep hb1)
  have c0 := cells_at g1 0 (v := .slice I k d) rfl
  have c1 := cells_at g1 1 (v := .slice B k2 d2) rfl
  clear hb1 g0 g1 g2
  by_cases h1 : n < 1
  · obtain rfl : V = 1 := by rw [← HV.out]; unfold verN; rw [if_pos h1]
    go_wp2_with fail
    go_ret
    exact ⟨rfl, HB1.out⟩
  · go_wp2_with fail
    refine (rincreasing_any I k d is n w1 HI1.out).mono ?_
    rintro e2 W2 ⟨rfl, hb⟩
    have HB2 := Lib.hid (bel_step HB1.out hb)
    have HI2 := Lib.hid (HI1.out.keep hb)
    have G02 := Lib.hid (G0.out.keep hb)
    have G12 := Lib.hid (heap_keep G1.out hb)
    have G22 := Lib.hid (heap_keep G2.out hb)
    have d0 := cell_keep c0 hb
    have d1 := cell_keep c1 hb
    clear hb c0 c1 G0 G1 G2 HI1 HB1
    by_cases hinc : incF 0 n is = true
    · rw [hinc]
      by_cases hk : k2 = k
      · subst hk
        have hlen : bs.length = is.length := by have := HK.out; omega
        by_cases hbig : 65536 < n
        · obtain rfl : V = 2 := by rw [← HV.out]; unfold verN; rw [if_neg (by omega), hinc, if_neg (by simp), if_neg (by omega), if_pos hbig]
          go_wp2_with fail
          refine (size8_big n W2 hbig).mono ?_
          rintro e2 W3 ⟨rfl, rfl⟩
          go_wp2_with fail
          go_ret
          exact ⟨rfl, HB2.out⟩
        · obtain ⟨N, rfl⟩ : ∃ N : Nat, n = (N : Int) := ⟨n.toNat, by omega⟩
          have hN1 : 1 ≤ N := by omega
          have hN : N ≤ 65536 := by omega
          have hV2 := HV.out
          unfold verN at hV2
          rw [if_neg (by omega), hinc, if_neg (by simp), if_neg (by omega), if_neg hbig, Int.toNat_natCast] at hV2
          have HLE := Lib.hid hlen
          have hpw := (incF_pw hinc).1
          have HSL := Lib.hid (show slN is ((0 : Nat) : Int) ((0 + N : Nat) : Int) = is by rw [Nat.zero_add]; exact slN_all (InS.of_inc hinc))
          have HRA := Lib.hid (reb_all (ns := ns) hinc hN1 hlen)
          have HQS := Lib.hid (rebN_size N hN1 0 is bs ns HD.out.dig)
          obtain ⟨xs, hxs⟩ : ∃ xs, closedN 0 N is = xs := ⟨_, rfl⟩
          have hxl := closedN_len N hN1 0 is
          rw [hxs] at hxl hV2 HRA HQS
          have HXS := Lib.hid hxs
          have HV2 := Lib.hid hV2
          clear hxs hV2 hlen HV
          go_wp2_with fail
          refine (size8_ok N W2 hN1 hN).mono ?_
          rintro e2 W3 ⟨rfl, rfl⟩
          go_wp2_with fail
          refine (rclosed_any N 0 N I k2 d is W3 HI2.out hpw (Nat.le_refl _) hN1 (by omega) N (by omega)).mono ?_
          rintro e2 W4 ⟨v9, rfl, ho, hb⟩
          rw [HSL.out, HXS.out] at ho
          obtain ⟨C, c7, rfl, hxb⟩ := ho.xb
          have HX := Lib.hid hxb
          have HB4 := Lib.hid (bel_step HB2.out hb)
          have G04 := Lib.hid (G02.out.keep hb)
          have G14 := Lib.hid (heap_keep G12.out hb)
          have G24 := Lib.hid (heap_keep G22.out hb)
          clear ho hxb hb d0 d1 G02 G12 G22 HB2 HI2
          obtain ⟨M, hM⟩ : ∃ M, xs.length = M := ⟨_, rfl⟩
          have HM := Lib.hid hM
          rw [hM] at hxl HX ⊢
          clear hM
          go_upto_region 6 with fail
          refine Tl.wp_held_tailB 15 W4.heap.size (by kernel_rfl) (lexOK_of (by kernel_rfl) (by kernel_rfl)) (Tl.chainW_of (by kernel_rfl)) rfl (by kernel_rfl) (by kernel_rfl) (fun V5 hb hSW => ?_)
          simp only [List.take_succ_cons, List.take_zero]
          have HS5 := Lib.hid hSW
          have HB5 := Lib.hid (bel_step HB4.out hb)
          have HX5 := Lib.hid hb
          clear hb hSW
          by_cases hcnt : r = M
          · subst hcnt
            refine wpHeld_seg 12 HS5.out (by kernel_rfl) ?_
            simp only [List.take_succ_cons, List.take_zero, List.drop_succ_cons, List.drop_zero]
            refine wpQuiet_val (by kernel_rfl) (.pointer (some ⟨w.heap.size + 1 + 1, 0, none⟩)) (fun v hv => exec_fOp0 _ _ rfl rfl _) ?_
            simp only [Act.put, List.setIfInBounds_toArray, List.set_cons_zero, List.set_cons_succ]
            refine wpQuiet_val (by kernel_rfl) (.slice R r e) (fun v hv => exec_loadSD _ _ _ _ (cells_at (heap_keep G24.out (LaterB.of hv)) 0 rfl) rfl rfl) ?_
            simp only [Act.put, List.setIfInBounds_toArray, List.set_cons_zero, List.set_cons_succ]
            refine wpQuiet_val (by kernel_rfl) (.int .i64 (r : Int)) (fun v hv => exec_lenD R r e rfl rfl _) ?_
            simp only [Act.put, List.setIfInBounds_toArray, List.set_cons_zero, List.set_cons_succ]
            refine wpQuiet_val (by kernel_rfl) (.slice C r c7) (fun v hv => rfl) ?_
            simp only [Act.put, List.setIfInBounds_toArray, List.set_cons_zero, List.set_cons_succ]
            refine wpQuiet_val (by kernel_rfl) (.int .i64 (r : Int)) (fun v hv => exec_lenX C r c7 rfl rfl _) ?_
            simp only [Act.put, List.setIfInBounds_toArray, List.set_cons_zero, List.set_cons_succ]
            refine wpQuiet_val (by kernel_rfl) (.bool false) (fun v hv => exec_neF _ _ rfl rfl rfl rfl _) ?_
            simp only [Act.put, List.setIfInBounds_toArray, List.set_cons_zero, List.set_cons_succ]
            refine wpQuiet_val (by kernel_rfl) (.bool false) (fun v hv => rfl) ?_
            simp only [Act.put, List.setIfInBounds_toArray, List.set_cons_zero, List.set_cons_succ]
            refine wpQuiet_val (by kernel_rfl) (.agg #[.slice I k2 d, .slice B k2 d2]) (fun v hv => exec_loadLv _ _ _ rfl rfl (heap_keep G14.out (LaterB.of hv))) ?_
            simp only [Act.put, List.setIfInBounds_toArray, List.set_cons_zero, List.set_cons_succ]
            refine wpQuiet_val (by kernel_rfl) (.agg #[.slice R r e]) (fun v hv => exec_loadOp _ _ rfl rfl (heap_keep G24.out (LaterB.of hv))) ?_
            simp only [Act.put, List.setIfInBounds_toArray, List.set_cons_zero, List.set_cons_succ]
            refine wpQuiet_val (by kernel_rfl) (.slice C r c7) (fun v hv => rfl) ?_
            simp only [Act.put, List.setIfInBounds_toArray, List.set_cons_zero, List.set_cons_succ]
            refine wpQuiet_val (by kernel_rfl) (.agg #[.slice I k2 d, .slice B k2 d2, .slice R r e, .slice C r c7]) (fun v hv => by unfold execOp; go_simp) ?_
            simp only [Act.put, List.setIfInBounds_toArray, List.set_cons_zero, List.set_cons_succ]
            refine wpQuiet_val (by kernel_rfl) (.int .i64 (N : Int)) (fun v hv => rfl) ?_
            simp only [Act.put, List.setIfInBounds_toArray, List.set_cons_zero, List.set_cons_succ]
            refine wpQuiet_nil ?_
            refine wpHeld_call 60 Tryd.func60 (by kernel_rfl) (by kernel_rfl) _ _ #[.agg #[.slice I k2 d, .slice B k2 d2, .slice R r e, .slice C r c7], .int .i64 ((0 : Nat) : Int), .int .i64 (N : Int)] rfl (by kernel_rfl) (by kernel_rfl) ?_
            refine (rrebuild_any N 0 N I k2 d is B k2 d2 bs R r e ns C r c7 xs V5 (HI.out.keep HB5.out) hpw (HP.out.keep HB5.out) HLE.out (HD.out.keep HB5.out) (HX.out.keep HX5.out) (by have := HK.out; have := HM.out; omega) HL.out (by omega) (Nat.le_refl _) hN1 (by omega) (fun x hx => by rw [HSL.out, HXS.out] at hx; exact hx) N (by omega)).mono ?_
            rintro e2 V6 ⟨q, rfl, hq, hsz, hb⟩
            rw [HRA.out] at hq
            have hV5 := HV2.out
            rw [if_neg (by have := HK.out; have := HM.out; omega), hq] at hV5
            have HV5 := Lib.hid hV5
            have HB6 := Lib.hid (bel_step HB5.out hb)
            have HS6 := Lib.hid (LaterB.step HS5.out (hb.mono HX5.out.size))
            clear hq hb hV5
            refine ⟨_, rfl, HS6.out, ?_⟩
            simp only [Act.put, List.setIfInBounds_toArray, List.set_cons_zero, List.set_cons_succ]
            obtain ⟨t, ht⟩ : ∃ t, (!decide (q = root)) = t := ⟨_, rfl⟩
            have HT := Lib.hid ht
            clear ht
            refine wpHeld_seg 2 HS6.out (by kernel_rfl) ?_
            simp only [List.take_succ_cons, List.take_zero, List.drop_succ_cons, List.drop_zero]
            refine wpQuiet_val (by kernel_rfl) (.agg (celB root).toArray) (fun v hv => exec_loadD hr (G04.out.keep (LaterB.of hv)) rfl rfl) ?_
            simp only [Act.put, List.setIfInBounds_toArray, List.set_cons_zero, List.set_cons_succ]
            refine wpQuiet_val (by kernel_rfl) (.bool t) (fun v hv => exec_cmpD rfl rfl rfl (by rw [run_neD v q root hsz.1 hr hsz.2 hrb, HT.out])) ?_
            simp only [Act.put, List.setIfInBounds_toArray, List.set_cons_zero, List.set_cons_succ]
            refine wpQuiet_nil ?_
            refine wpHeld_nil ?_
            refine mOp_val (.bool t) rfl rfl rfl ?_
            by_cases hqr : q = root
            · obtain rfl : t = false := by rw [← HT.out, decide_eq_true hqr]; rfl
              obtain rfl : V = 0 := by rw [← HV5.out, if_neg (by simpa using hqr)]
              go_wp2_with fail
              go_ret
              exact ⟨rfl, HB6.out⟩
            · obtain rfl : t = true := by rw [← HT.out, decide_eq_false hqr]; rfl
              obtain rfl : V = 80 := by rw [← HV5.out, if_pos hqr]
              go_wp2_with fail
              go_ret
              exact ⟨rfl, HB6.out⟩
          · have hne : ¬ (r : Int) = (M : Int) := by omega
            obtain rfl : V = 80 := by rw [← HV2.out, if_pos (by have := HK.out; have := HM.out; omega)]
            refine wpHeld_seg 12 HS5.out (by kernel_rfl) ?_
            simp only [List.take_succ_cons, List.take_zero, List.drop_succ_cons, List.drop_zero]
            refine wpQuiet_val (by kernel_rfl) (.pointer (some ⟨w.heap.size + 1 + 1, 0, none⟩)) (fun v hv => exec_fOp0 _ _ rfl rfl _) ?_
            simp only [Act.put, List.setIfInBounds_toArray, List.set_cons_zero, List.set_cons_succ]
            refine wpQuiet_val (by kernel_rfl) (.slice R r e) (fun v hv => exec_loadSD _ _ _ _ (cells_at (heap_keep G24.out (LaterB.of hv)) 0 rfl) rfl rfl) ?_
            simp only [Act.put, List.setIfInBounds_toArray, List.set_cons_zero, List.set_cons_succ]
            refine wpQuiet_val (by kernel_rfl) (.int .i64 (r : Int)) (fun v hv => exec_lenD R r e rfl rfl _) ?_
            simp only [Act.put, List.setIfInBounds_toArray, List.set_cons_zero, List.set_cons_succ]
            refine wpQuiet_val (by kernel_rfl) (.slice C M c7) (fun v hv => rfl) ?_
            simp only [Act.put, List.setIfInBounds_toArray, List.set_cons_zero, List.set_cons_succ]
            refine wpQuiet_val (by kernel_rfl) (.int .i64 (M : Int)) (fun v hv => exec_lenX C M c7 rfl rfl _) ?_
            simp only [Act.put, List.setIfInBounds_toArray, List.set_cons_zero, List.set_cons_succ]
            refine wpQuiet_val (by kernel_rfl) (.bool true) (fun v hv => exec_neT _ _ hne rfl rfl rfl _) ?_
            simp only [Act.put, List.setIfInBounds_toArray, List.set_cons_zero, List.set_cons_succ]
            refine wpQuiet_val (by kernel_rfl) (.bool true) (fun v hv => rfl) ?_
            simp only [Act.put, List.setIfInBounds_toArray, List.set_cons_zero, List.set_cons_succ]
            refine BigFrame.wpQuiet_skip (by kernel_rfl) ?_
            try simp only [Act.put, List.setIfInBounds_toArray, List.set_cons_zero, List.set_cons_succ]
            refine BigFrame.wpQuiet_skip (by kernel_rfl) ?_
            try simp only [Act.put, List.setIfInBounds_toArray, List.set_cons_zero, List.set_cons_succ]
            refine BigFrame.wpQuiet_skip (by kernel_rfl) ?_
            try simp only [Act.put, List.setIfInBounds_toArray, List.set_cons_zero, List.set_cons_succ]
            refine BigFrame.wpQuiet_skip (by kernel_rfl) ?_
            try simp only [Act.put, List.setIfInBounds_toArray, List.set_cons_zero, List.set_cons_succ]
            refine BigFrame.wpQuiet_skip (by kernel_rfl) ?_
            try simp only [Act.put, List.setIfInBounds_toArray, List.set_cons_zero, List.set_cons_succ]
            refine wpQuiet_nil ?_
            refine wpHeld_skip (by kernel_rfl) ?_
            try simp only [Act.put, List.setIfInBounds_toArray, List.set_cons_zero, List.set_cons_succ]
            refine wpHeld_seg 2 HS5.out (by kernel_rfl) ?_
            simp only [List.take_succ_cons, List.take_zero, List.drop_succ_cons, List.drop_zero]
            refine BigFrame.wpQuiet_skip (by kernel_rfl) ?_
            try simp only [Act.put, List.setIfInBounds_toArray, List.set_cons_zero, List.set_cons_succ]
            refine BigFrame.wpQuiet_skip (by kernel_rfl) ?_
            try simp only [Act.put, List.setIfInBounds_toArray, List.set_cons_zero, List.set_cons_succ]
            refine wpQuiet_nil ?_
            refine wpHeld_nil ?_
            refine mOp_val (.bool true) rfl rfl rfl ?_
            go_wp2_with fail
            go_ret
            exact ⟨rfl, HB5.out⟩
      · have hk3 : ¬ ((k2 : Int) = (k : Int)) := by omega
        obtain rfl : V = 1 := by rw [← HV.out]; unfold verN; rw [if_neg (by omega), hinc, if_neg (by simp), if_pos (by have := HK.out; omega)]
        go_wp2_with fail
        go_ret
        exact ⟨rfl, HB2.out⟩
    · have hinf : incF 0 n is = false := by simpa using hinc
      rw [hinf]
      obtain rfl : V = 1 := by rw [← HV.out]; unfold verN; rw [if_neg (by omega), if_pos hinf]
      go_wp2_with fail
      go_ret
      exact ⟨rfl, HB2.out⟩
end Go.Proofs.YtgkojdbepgonkaaDoor

/- The walk of MerkleChecksMatchReference, for leaves of at most 2^47 - 4096 bytes. -/
namespace Go.Proofs.YtgkojdbepgonkaaDoor
set_option linter.unusedVariables false
set_option linter.unusedSimpArgs false
set_option maxRecDepth 8000
open Go.RowKit
attribute [local simp] z32_ne z32_run
attribute [-simp] Tryd.zeroValue34 Tryd.isAgg34 Tryd.sizeOf34
section
variable {ev : Operand → Value} {o : Oper}
theorem exec_eqBo {x y : Operand} {t : TypeId} (a : Bool) (ho : o.op = .binOp .eql 4 x y t) (hx : ev x = .bool a) (hy : ev y = .bool a) (w : World) : (execOp ev o).run Tryd.prog w = .ok (.value (.bool true)) w := by
  unfold execOp
  simp only [ho, hx, hy]
  cases a <;> go_simp
end
attribute [local irreducible] wpList
set_option maxHeartbeats 8000000 in
theorem merkleChecks_any (I : Option Addr) (k d : Nat) (is : List Int) (B : Option Addr) (k2 d2 : Nat) (bs : List (List Nat)) (R : Option Addr) (r e : Nat) (ns : List (List Nat)) (cnt ix : Int) (Bp : Option Addr) (nb cb : Nat) (bp : List Nat) (Rp : Option Addr) (rp ep : Nat) (ps : List (List Nat)) (w : World) (hI : Ib w I k d is) (hB : Pb w B k2 d2 bs) (hD : Db w R r e ns) (hBp : Sb w Bp nb cb bp) (hDp : Db w Rp rp ep ps) (hcnt : -9223372036854775808 ≤ cnt ∧ cnt ≤ 9223372036854775807) (hL : ∀ b ∈ bs, b.length ≤ 140737488351232) (hG : Gl w) :
    Calls Tryd.prog 3 #[.agg #[.slice I k d, .slice B k2 d2], .agg #[.slice R r e], .agg #[.int .i64 cnt, .int .i64 ix, .slice Bp nb cb, .slice Rp rp ep]] w fun e w' => e = .returned (.bool true) ∧ Below w.heap.size w w' := by
  have HG := Lib.hid hG
  have HI := Lib.hid hI
  have HP := Lib.hid hB
  have HD := Lib.hid hD
  have HBp := Lib.hid hBp
  have HDp := Lib.hid hDp
  have HL := Lib.hid hL
  clear hI hB hD hBp hDp hL hG
  go_enter Tryd.func3, Tryd.ntmps3
  go_upto_region 1 with fail
  refine wp_named3 (fun V1 hb g3 g4 g5 hlt => ?_)
  have B0 := Lib.hid hb
  have F3 := Lib.hid g3
  have F4 := Lib.hid g4
  have F5 := Lib.hid g5
  clear hb g3 g4 g5
  refine wp_region_lit ?_
  refine wpList_call (by kernel_rfl) 12 Tryd.func12 (by kernel_rfl) (by kernel_rfl) _ _ #[] rfl (by kernel_rfl) ?_
  refine (sanity8_any V1 (HG.out.keep B0.out)).mono ?_
  rintro e V2 ⟨rfl, hb⟩
  have B1 := Lib.hid hb
  clear hb 
  refine ⟨_, rfl, ?_⟩
  simp only [Act.put, List.setIfInBounds_toArray, List.set_cons_zero, List.set_cons_succ]
  refine wpList_run (by kernel_rfl) (.bool true) V2 rfl ?_
  simp only [Act.put, List.setIfInBounds_toArray, List.set_cons_zero, List.set_cons_succ]
  refine wpList_nil ?_
  have l0 := cells_at (heap_keep F3.out B1.out) 0 (v := .slice I k d) rfl
  have l1 := cells_at (heap_keep F3.out B1.out) 1 (v := .slice B k2 d2) rfl
  have o0 := cells_at (heap_keep F4.out B1.out) 0 (v := .slice R r e) rfl
  have m0 := cells_at (heap_keep F5.out B1.out) 0 (v := .int .i64 cnt) rfl
  have m2 := cells_at (heap_keep F5.out B1.out) 2 (v := .slice Bp nb cb) rfl
  have m3 := cells_at (heap_keep F5.out B1.out) 3 (v := .slice Rp rp ep) rfl
  have C0_2 := Lib.hid (bel_step B0.out B1.out)
  by_cases h_k : ((60 : Nat) : Int) < (k : Int)
  · have h_k' : (60 : Int) < (k : Int) := h_k
    go_wp2_with fail
    go_ret
    exact ⟨rfl, C0_2.out⟩
  · have h_k' : ¬ (60 : Int) < (k : Int) := h_k
    by_cases h_k2 : ((60 : Nat) : Int) < (k2 : Int)
    · have h_k2' : (60 : Int) < (k2 : Int) := h_k2
      go_wp2_with fail
      go_ret
      exact ⟨rfl, C0_2.out⟩
    · have h_k2' : ¬ (60 : Int) < (k2 : Int) := h_k2
      by_cases h_r : ((60 : Nat) : Int) < (r : Int)
      · have h_r' : (60 : Int) < (r : Int) := h_r
        go_wp2_with fail
        go_ret
        exact ⟨rfl, C0_2.out⟩
      · have h_r' : ¬ (60 : Int) < (r : Int) := h_r
        by_cases h_rp : ((60 : Nat) : Int) < (rp : Int)
        · have h_rp' : (60 : Int) < (rp : Int) := h_rp
          go_wp2_with fail
          go_ret
          exact ⟨rfl, C0_2.out⟩
        · have h_rp' : ¬ (60 : Int) < (rp : Int) := h_rp
          by_cases h_nb : ((300 : Nat) : Int) < (nb : Int)
          · have h_nb' : (300 : Int) < (nb : Int) := h_nb
            go_wp2_with fail
            go_ret
            exact ⟨rfl, C0_2.out⟩
          · have h_nb' : ¬ (300 : Int) < (nb : Int) := h_nb
            have hr60 : r ≤ 60 := by omega
            have hrp60 : rp ≤ 60 := by omega
            have hnb300 : nb ≤ 300 := by omega
            go_upto_region 4 with fail
            refine wp_region_lit ?_
            refine wpList_run (by kernel_rfl) (.agg (celB (List.replicate 32 0)).toArray) V2 (exec_buildZ _ rfl) ?_
            simp only [Act.put, List.setIfInBounds_toArray, List.set_cons_zero, List.set_cons_succ]
            refine wpList_decl z32 (celB (List.replicate 32 0)).toArray 34 (by kernel_rfl) (run_allocD _ _ _ rfl) (fun _ => by kernel_rfl) (fun b W h0 => exec_storeD List.length_replicate List.length_replicate (show RowB W 34 b (List.replicate 32 0) from h0) rfl rfl rfl) ?_
            intro b8 V3 hge h0 hb
            have B2 := Lib.hid hb
            have F8 := Lib.hid h0
            have HGE8 := Lib.hid hge
            clear hge h0 hb
            simp only [ptr, Act.put, List.setIfInBounds_toArray, List.set_cons_zero, List.set_cons_succ]
            refine wpList_nil ?_
            clear l0 l1 m0 m2 m3 o0
            have C1_3 := Lib.hid (bel_step B1.out B2.out)
            have o1 := cells_at (heap_keep F4.out C1_3.out) 0 (v := .slice R r e) rfl
            by_cases hr0 : r = 0
            · have hr0' : ¬ ((0 : Int) < (r : Int)) := by omega
              obtain ⟨vv, h_vv⟩ : ∃ x, verN (List.replicate 32 0) cnt is bs ns = x := ⟨_, rfl⟩
              have HVV := Lib.hid h_vv
              clear h_vv
              obtain ⟨cc, h_cc⟩ : ∃ x, containsN ns cnt ix bp ps = x := ⟨_, rfl⟩
              have HCC := Lib.hid h_cc
              clear h_cc
              go_upto_region 7 with fail
              try simp only [List.append_eq, List.cons_append, List.nil_append]
              refine Tl.wp_held_tailB 27 V3.heap.size (by kernel_rfl) (lexOK_of (by kernel_rfl) (by kernel_rfl)) (Tl.chainW_of (by kernel_rfl)) rfl (by kernel_rfl) (by kernel_rfl) (fun V4 hb hSW => ?_)
              simp only [List.take_succ_cons, List.take_zero]
              have HS4 := Lib.hid hSW
              have B3 := Lib.hid hb
              clear hb hSW
              refine wpHeld_seg 5 HS4.out (by kernel_rfl) ?_
              simp only [List.take_succ_cons, List.take_zero, List.drop_succ_cons, List.drop_zero]
              refine wpQuiet_val (by kernel_rfl) (.agg (celB (List.replicate 32 0)).toArray) (fun v hv => (exec_loadD List.length_replicate (show RowB v 34 b8 (List.replicate 32 0) from (heap_keep F8.out (LaterB.of hv))) rfl rfl)) ?_
              simp only [Act.put, List.setIfInBounds_toArray, List.set_cons_zero, List.set_cons_succ]
              refine wpQuiet_val (by kernel_rfl) (.pointer (some ⟨(w.heap.size + 1 + 1), 0, none⟩)) (fun v hv => exec_fMb 0 _ 0 0 (by omega) rfl rfl rfl _) ?_
              simp only [Act.put, List.setIfInBounds_toArray, List.set_cons_zero, List.set_cons_succ]
              refine wpQuiet_val (by kernel_rfl) (.int .i64 cnt) (fun v hv => exec_loadI8 _ _ (cells_at (heap_keep (heap_keep F5.out C1_3.out) (LaterB.of hv)) 0 rfl) rfl rfl) ?_
              simp only [Act.put, List.setIfInBounds_toArray, List.set_cons_zero, List.set_cons_succ]
              refine wpQuiet_val (by kernel_rfl) (.agg #[.slice I k d, .slice B k2 d2]) (fun v hv => (exec_loadLv _ _ _ rfl rfl (heap_keep (heap_keep F3.out C1_3.out) (LaterB.of hv)))) ?_
              simp only [Act.put, List.setIfInBounds_toArray, List.set_cons_zero, List.set_cons_succ]
              refine wpQuiet_val (by kernel_rfl) (.agg #[.slice R r e]) (fun v hv => (exec_loadOp _ _ rfl rfl (heap_keep (heap_keep F4.out C1_3.out) (LaterB.of hv)))) ?_
              simp only [Act.put, List.setIfInBounds_toArray, List.set_cons_zero, List.set_cons_succ]
              refine wpQuiet_nil ?_
              have C0_3 := Lib.hid (bel_step C0_2.out B2.out)
              have C0_4 := Lib.hid (bel_step C0_3.out B3.out)
              refine wpHeld_call 13 Tryd.func13 (by kernel_rfl) (by kernel_rfl) _ _ #[.agg (celB (List.replicate 32 0)).toArray, .int .i64 cnt, .agg #[.slice I k d, .slice B k2 d2], .agg #[.slice R r e]] rfl (by kernel_rfl) (by kernel_rfl) ?_
              refine (verify_any (List.replicate 32 0) cnt I k d is B k2 d2 bs R r e ns V4 List.length_replicate rep_lt8 (HI.out.keep C0_4.out) (HP.out.keep C0_4.out) (HD.out.keep C0_4.out) HL.out (HG.out.keep C0_4.out) hcnt vv HVV.out).mono ?_
              rintro e V5 ⟨rfl, hb⟩
              have B4 := Lib.hid hb
              have HS5 := Lib.hid (LaterB.step HS4.out (hb.mono B3.out.size))
              clear hb 
              refine ⟨_, rfl, HS5.out, ?_⟩
              simp only [Act.put, List.setIfInBounds_toArray, List.set_cons_zero, List.set_cons_succ]
              refine wpHeld_seg 5 HS5.out (by kernel_rfl) ?_
              simp only [List.take_succ_cons, List.take_zero, List.drop_succ_cons, List.drop_zero]
              refine wpQuiet_val (by kernel_rfl) (.agg (celB (List.replicate 32 0)).toArray) (fun v hv => (exec_loadD List.length_replicate (show RowB v 34 b8 (List.replicate 32 0) from (heap_keep F8.out (LaterB.of hv))) rfl rfl)) ?_
              simp only [Act.put, List.setIfInBounds_toArray, List.set_cons_zero, List.set_cons_succ]
              refine wpQuiet_val (by kernel_rfl) (.pointer (some ⟨(w.heap.size + 1 + 1), 0, none⟩)) (fun v hv => exec_fMb 0 _ 0 0 (by omega) rfl rfl rfl _) ?_
              simp only [Act.put, List.setIfInBounds_toArray, List.set_cons_zero, List.set_cons_succ]
              refine wpQuiet_val (by kernel_rfl) (.int .i64 cnt) (fun v hv => exec_loadI8 _ _ (cells_at (heap_keep (heap_keep F5.out C1_3.out) (LaterB.of hv)) 0 rfl) rfl rfl) ?_
              simp only [Act.put, List.setIfInBounds_toArray, List.set_cons_zero, List.set_cons_succ]
              refine wpQuiet_val (by kernel_rfl) (.agg #[.slice I k d, .slice B k2 d2]) (fun v hv => (exec_loadLv _ _ _ rfl rfl (heap_keep (heap_keep F3.out C1_3.out) (LaterB.of hv)))) ?_
              simp only [Act.put, List.setIfInBounds_toArray, List.set_cons_zero, List.set_cons_succ]
              refine wpQuiet_val (by kernel_rfl) (.agg #[.slice R r e]) (fun v hv => (exec_loadOp _ _ rfl rfl (heap_keep (heap_keep F4.out C1_3.out) (LaterB.of hv)))) ?_
              simp only [Act.put, List.setIfInBounds_toArray, List.set_cons_zero, List.set_cons_succ]
              refine wpQuiet_nil ?_
              have C0_5 := Lib.hid (bel_step C0_4.out B4.out)
              refine wpHeld_call 14 Tryd.func14 (by kernel_rfl) (by kernel_rfl) _ _ #[.agg (celB (List.replicate 32 0)).toArray, .int .i64 cnt, .agg #[.slice I k d, .slice B k2 d2], .agg #[.slice R r e]] rfl (by kernel_rfl) (by kernel_rfl) ?_
              refine (rverify_any (List.replicate 32 0) cnt I k d is B k2 d2 bs R r e ns V5 List.length_replicate rep_lt8 (HI.out.keep C0_5.out) (HP.out.keep C0_5.out) (HD.out.keep C0_5.out) HL.out hcnt vv HVV.out).mono ?_
              rintro e V6 ⟨rfl, hb⟩
              have B5 := Lib.hid hb
              have C3_5 := Lib.hid (bel_step B3.out B4.out)
              have HS6 := Lib.hid (LaterB.step HS5.out (hb.mono C3_5.out.size))
              clear hb 
              refine ⟨_, rfl, HS6.out, ?_⟩
              simp only [Act.put, List.setIfInBounds_toArray, List.set_cons_zero, List.set_cons_succ]
              refine wpHeld_seg 5 HS6.out (by kernel_rfl) ?_
              simp only [List.take_succ_cons, List.take_zero, List.drop_succ_cons, List.drop_zero]
              refine wpQuiet_val (by kernel_rfl) (.bool true) (fun v hv => (by first | rfl | (unfold execOp; go_simp))) ?_
              simp only [Act.put, List.setIfInBounds_toArray, List.set_cons_zero, List.set_cons_succ]
              refine wpQuiet_val (by kernel_rfl) (.bool true) (fun v hv => rfl) ?_
              simp only [Act.put, List.setIfInBounds_toArray, List.set_cons_zero, List.set_cons_succ]
              refine wpQuiet_val (by kernel_rfl) (.pointer (some ⟨(w.heap.size + 1), 0, none⟩)) (fun v hv => exec_fOp0 _ _ rfl rfl _) ?_
              simp only [Act.put, List.setIfInBounds_toArray, List.set_cons_zero, List.set_cons_succ]
              refine wpQuiet_val (by kernel_rfl) (.slice R r e) (fun v hv => (exec_loadSD _ _ _ _ (cells_at (heap_keep (heap_keep F4.out C1_3.out) (LaterB.of hv)) 0 rfl) rfl rfl)) ?_
              simp only [Act.put, List.setIfInBounds_toArray, List.set_cons_zero, List.set_cons_succ]
              refine wpQuiet_val (by kernel_rfl) (.agg #[.int .i64 cnt, .int .i64 ix, .slice Bp nb cb, .slice Rp rp ep]) (fun v hv => (exec_loadMb _ _ _ _ _ rfl rfl (heap_keep (heap_keep F5.out C1_3.out) (LaterB.of hv)))) ?_
              simp only [Act.put, List.setIfInBounds_toArray, List.set_cons_zero, List.set_cons_succ]
              refine wpQuiet_nil ?_
              have C0_6 := Lib.hid (bel_step C0_5.out B5.out)
              refine wpHeld_call 15 Tryd.func15 (by kernel_rfl) (by kernel_rfl) _ _ #[.slice R r e, .agg #[.int .i64 cnt, .int .i64 ix, .slice Bp nb cb, .slice Rp rp ep]] rfl (by kernel_rfl) (by kernel_rfl) ?_
              refine (contains_any R r e ns cnt ix Bp nb cb bp Rp rp ep ps V6 (HD.out.keep C0_6.out) (HBp.out.keep C0_6.out) (HDp.out.keep C0_6.out) (by omega) (by omega) (HG.out.keep C0_6.out) cc HCC.out).mono ?_
              rintro e V7 ⟨rfl, hb⟩
              have B6 := Lib.hid hb
              have C3_6 := Lib.hid (bel_step C3_5.out B5.out)
              have HS7 := Lib.hid (LaterB.step HS6.out (hb.mono C3_6.out.size))
              clear hb 
              refine ⟨_, rfl, HS7.out, ?_⟩
              simp only [Act.put, List.setIfInBounds_toArray, List.set_cons_zero, List.set_cons_succ]
              refine wpHeld_seg 3 HS7.out (by kernel_rfl) ?_
              simp only [List.take_succ_cons, List.take_zero, List.drop_succ_cons, List.drop_zero]
              refine wpQuiet_val (by kernel_rfl) (.pointer (some ⟨(w.heap.size + 1), 0, none⟩)) (fun v hv => exec_fOp0 _ _ rfl rfl _) ?_
              simp only [Act.put, List.setIfInBounds_toArray, List.set_cons_zero, List.set_cons_succ]
              refine wpQuiet_val (by kernel_rfl) (.slice R r e) (fun v hv => (exec_loadSD _ _ _ _ (cells_at (heap_keep (heap_keep F4.out C1_3.out) (LaterB.of hv)) 0 rfl) rfl rfl)) ?_
              simp only [Act.put, List.setIfInBounds_toArray, List.set_cons_zero, List.set_cons_succ]
              refine wpQuiet_val (by kernel_rfl) (.agg #[.int .i64 cnt, .int .i64 ix, .slice Bp nb cb, .slice Rp rp ep]) (fun v hv => (exec_loadMb _ _ _ _ _ rfl rfl (heap_keep (heap_keep F5.out C1_3.out) (LaterB.of hv)))) ?_
              simp only [Act.put, List.setIfInBounds_toArray, List.set_cons_zero, List.set_cons_succ]
              refine wpQuiet_nil ?_
              have C0_7 := Lib.hid (bel_step C0_6.out B6.out)
              refine wpHeld_call 16 Tryd.func16 (by kernel_rfl) (by kernel_rfl) _ _ #[.slice R r e, .agg #[.int .i64 cnt, .int .i64 ix, .slice Bp nb cb, .slice Rp rp ep]] rfl (by kernel_rfl) (by kernel_rfl) ?_
              refine (rcontains_any R r e ns cnt ix Bp nb cb bp Rp rp ep ps V7 (HD.out.keep C0_7.out) (HBp.out.keep C0_7.out) (HDp.out.keep C0_7.out) (by omega) (by omega) (by omega) cc HCC.out).mono ?_
              rintro e V8 ⟨rfl, hb⟩
              have B7 := Lib.hid hb
              have C3_7 := Lib.hid (bel_step C3_6.out B6.out)
              have HS8 := Lib.hid (LaterB.step HS7.out (hb.mono C3_7.out.size))
              clear hb 
              refine ⟨_, rfl, HS8.out, ?_⟩
              simp only [Act.put, List.setIfInBounds_toArray, List.set_cons_zero, List.set_cons_succ]
              refine wpHeld_seg 5 HS8.out (by kernel_rfl) ?_
              simp only [List.take_succ_cons, List.take_zero, List.drop_succ_cons, List.drop_zero]
              refine wpQuiet_val (by kernel_rfl) (.bool true) (fun v hv => exec_eqBo cc rfl rfl rfl _) ?_
              simp only [Act.put, List.setIfInBounds_toArray, List.set_cons_zero, List.set_cons_succ]
              refine wpQuiet_val (by kernel_rfl) (.bool true) (fun v hv => rfl) ?_
              simp only [Act.put, List.setIfInBounds_toArray, List.set_cons_zero, List.set_cons_succ]
              refine wpQuiet_val (by kernel_rfl) (.bool true) (fun v hv => rfl) ?_
              simp only [Act.put, List.setIfInBounds_toArray, List.set_cons_zero, List.set_cons_succ]
              refine wpQuiet_val (by kernel_rfl) (.bool true) (fun v hv => rfl) ?_
              simp only [Act.put, List.setIfInBounds_toArray, List.set_cons_zero, List.set_cons_succ]
              refine wpQuiet_val (by kernel_rfl) (.bool true) (fun v hv => rfl) ?_
              simp only [Act.put, List.setIfInBounds_toArray, List.set_cons_zero, List.set_cons_succ]
              refine wpQuiet_nil ?_
              refine wpHeld_nil ?_
              refine mOp_val (.bool true) rfl rfl rfl ?_
              go_wp2_with fail
              go_ret
              have C0_8 := Lib.hid (bel_step C0_7.out B7.out)
              exact ⟨rfl, C0_8.out⟩
            · have hr0' : (0 : Int) < (r : Int) := by omega
              obtain ⟨gR, oR, rfl⟩ := HD.out.some_ (by omega)
              obtain ⟨rt, hrt⟩ : ∃ x, ns[0]? = some x := ⟨_, List.getElem?_eq_getElem (by have := HD.out.len; omega)⟩
              have C0_3 := Lib.hid (bel_step C0_2.out B2.out)
              have HED := Lib.hid ((HD.out.keep C0_3.out).ed hrt)
              have Dg_rt := Lib.hid HED.out.dig
              go_upto_region 6 with fail
              refine wp_region_lit ?_
              refine wpList_run (by kernel_rfl) (.pointer (some ⟨(w.heap.size + 1), 0, none⟩)) V3 (exec_fOp0 _ _ rfl rfl _) ?_
              simp only [Act.put, List.setIfInBounds_toArray, List.set_cons_zero, List.set_cons_succ]
              refine wpList_run (by kernel_rfl) (.slice (some ⟨gR, oR, none⟩) r e) V3 (exec_loadSD _ _ _ _ (cells_at (heap_keep F4.out C1_3.out) 0 rfl) rfl rfl) ?_
              simp only [Act.put, List.setIfInBounds_toArray, List.set_cons_zero, List.set_cons_succ]
              refine wpList_run (by kernel_rfl) (.pointer (some ⟨gR, oR + 32 * 0, none⟩)) V3 (exec_idxM _ gR oR r e 0 (by omega) rfl rfl rfl) ?_
              simp only [Act.put, List.setIfInBounds_toArray, List.set_cons_zero, List.set_cons_succ]
              refine wpList_run (by kernel_rfl) (.agg (celB rt).toArray) V3 (exec_loadM gR (oR + 32 * 0) Dg_rt.out.1 HED.out.at_ rfl rfl) ?_
              simp only [Act.put, List.setIfInBounds_toArray, List.set_cons_zero, List.set_cons_succ]
              refine wpList_skip0 rfl _ (exec_storeD Dg_rt.out.1 List.length_replicate (show RowB V3 34 b8 (List.replicate 32 0) from F8.out) rfl rfl rfl) ?_
              refine wpList_nil ?_
              have F8' := Lib.hid ((show RowB V3 34 b8 (List.replicate 32 0) from F8.out).row rt)
              have hbx := bel_setRow B2.out HGE8.out (celB rt).toArray
              generalize V3.setRow b8 (celB rt).toArray = X8 at *
              clear B2 F8
              have B2 := Lib.hid hbx
              clear hbx
              have F8 := F8'
              try simp only [Act.put]
              obtain ⟨vv, h_vv⟩ : ∃ x, verN rt cnt is bs ns = x := ⟨_, rfl⟩
              have HVV := Lib.hid h_vv
              clear h_vv
              obtain ⟨cc, h_cc⟩ : ∃ x, containsN ns cnt ix bp ps = x := ⟨_, rfl⟩
              have HCC := Lib.hid h_cc
              clear h_cc
              go_upto_region 7 with fail
              try simp only [List.append_eq, List.cons_append, List.nil_append]
              refine Tl.wp_held_tailB 27 X8.heap.size (by kernel_rfl) (lexOK_of (by kernel_rfl) (by kernel_rfl)) (Tl.chainW_of (by kernel_rfl)) rfl (by kernel_rfl) (by kernel_rfl) (fun V4 hb hSW => ?_)
              simp only [List.take_succ_cons, List.take_zero]
              have HS4 := Lib.hid hSW
              have B3 := Lib.hid hb
              clear hb hSW
              refine wpHeld_seg 5 HS4.out (by kernel_rfl) ?_
              simp only [List.take_succ_cons, List.take_zero, List.drop_succ_cons, List.drop_zero]
              refine wpQuiet_val (by kernel_rfl) (.agg (celB rt).toArray) (fun v hv => (exec_loadD Dg_rt.out.1 (show RowB v 34 b8 rt from (heap_keep F8.out (LaterB.of hv))) rfl rfl)) ?_
              simp only [Act.put, List.setIfInBounds_toArray, List.set_cons_zero, List.set_cons_succ]
              refine wpQuiet_val (by kernel_rfl) (.pointer (some ⟨(w.heap.size + 1 + 1), 0, none⟩)) (fun v hv => exec_fMb 0 _ 0 0 (by omega) rfl rfl rfl _) ?_
              simp only [Act.put, List.setIfInBounds_toArray, List.set_cons_zero, List.set_cons_succ]
              have C1_3 := Lib.hid (bel_step B1.out B2.out)
              refine wpQuiet_val (by kernel_rfl) (.int .i64 cnt) (fun v hv => exec_loadI8 _ _ (cells_at (heap_keep (heap_keep F5.out C1_3.out) (LaterB.of hv)) 0 rfl) rfl rfl) ?_
              simp only [Act.put, List.setIfInBounds_toArray, List.set_cons_zero, List.set_cons_succ]
              refine wpQuiet_val (by kernel_rfl) (.agg #[.slice I k d, .slice B k2 d2]) (fun v hv => (exec_loadLv _ _ _ rfl rfl (heap_keep (heap_keep F3.out C1_3.out) (LaterB.of hv)))) ?_
              simp only [Act.put, List.setIfInBounds_toArray, List.set_cons_zero, List.set_cons_succ]
              refine wpQuiet_val (by kernel_rfl) (.agg #[.slice (some ⟨gR, oR, none⟩) r e]) (fun v hv => (exec_loadOp _ _ rfl rfl (heap_keep (heap_keep F4.out C1_3.out) (LaterB.of hv)))) ?_
              simp only [Act.put, List.setIfInBounds_toArray, List.set_cons_zero, List.set_cons_succ]
              refine wpQuiet_nil ?_
              have C0_3 := Lib.hid (bel_step C0_2.out B2.out)
              have C0_4 := Lib.hid (bel_step C0_3.out B3.out)
              refine wpHeld_call 13 Tryd.func13 (by kernel_rfl) (by kernel_rfl) _ _ #[.agg (celB rt).toArray, .int .i64 cnt, .agg #[.slice I k d, .slice B k2 d2], .agg #[.slice (some ⟨gR, oR, none⟩) r e]] rfl (by kernel_rfl) (by kernel_rfl) ?_
              refine (verify_any rt cnt I k d is B k2 d2 bs (some ⟨gR, oR, none⟩) r e ns V4 Dg_rt.out.1 Dg_rt.out.2 (HI.out.keep C0_4.out) (HP.out.keep C0_4.out) (HD.out.keep C0_4.out) HL.out (HG.out.keep C0_4.out) hcnt vv HVV.out).mono ?_
              rintro e V5 ⟨rfl, hb⟩
              have B4 := Lib.hid hb
              have HS5 := Lib.hid (LaterB.step HS4.out (hb.mono B3.out.size))
              clear hb 
              refine ⟨_, rfl, HS5.out, ?_⟩
              simp only [Act.put, List.setIfInBounds_toArray, List.set_cons_zero, List.set_cons_succ]
              refine wpHeld_seg 5 HS5.out (by kernel_rfl) ?_
              simp only [List.take_succ_cons, List.take_zero, List.drop_succ_cons, List.drop_zero]
              refine wpQuiet_val (by kernel_rfl) (.agg (celB rt).toArray) (fun v hv => (exec_loadD Dg_rt.out.1 (show RowB v 34 b8 rt from (heap_keep F8.out (LaterB.of hv))) rfl rfl)) ?_
              simp only [Act.put, List.setIfInBounds_toArray, List.set_cons_zero, List.set_cons_succ]
              refine wpQuiet_val (by kernel_rfl) (.pointer (some ⟨(w.heap.size + 1 + 1), 0, none⟩)) (fun v hv => exec_fMb 0 _ 0 0 (by omega) rfl rfl rfl _) ?_
              simp only [Act.put, List.setIfInBounds_toArray, List.set_cons_zero, List.set_cons_succ]
              refine wpQuiet_val (by kernel_rfl) (.int .i64 cnt) (fun v hv => exec_loadI8 _ _ (cells_at (heap_keep (heap_keep F5.out C1_3.out) (LaterB.of hv)) 0 rfl) rfl rfl) ?_
              simp only [Act.put, List.setIfInBounds_toArray, List.set_cons_zero, List.set_cons_succ]
              refine wpQuiet_val (by kernel_rfl) (.agg #[.slice I k d, .slice B k2 d2]) (fun v hv => (exec_loadLv _ _ _ rfl rfl (heap_keep (heap_keep F3.out C1_3.out) (LaterB.of hv)))) ?_
              simp only [Act.put, List.setIfInBounds_toArray, List.set_cons_zero, List.set_cons_succ]
              refine wpQuiet_val (by kernel_rfl) (.agg #[.slice (some ⟨gR, oR, none⟩) r e]) (fun v hv => (exec_loadOp _ _ rfl rfl (heap_keep (heap_keep F4.out C1_3.out) (LaterB.of hv)))) ?_
              simp only [Act.put, List.setIfInBounds_toArray, List.set_cons_zero, List.set_cons_succ]
              refine wpQuiet_nil ?_
              have C0_5 := Lib.hid (bel_step C0_4.out B4.out)
              refine wpHeld_call 14 Tryd.func14 (by kernel_rfl) (by kernel_rfl) _ _ #[.agg (celB rt).toArray, .int .i64 cnt, .agg #[.slice I k d, .slice B k2 d2], .agg #[.slice (some ⟨gR, oR, none⟩) r e]] rfl (by kernel_rfl) (by kernel_rfl) ?_
              refine (rverify_any rt cnt I k d is B k2 d2 bs (some ⟨gR, oR, none⟩) r e ns V5 Dg_rt.out.1 Dg_rt.out.2 (HI.out.keep C0_5.out) (HP.out.keep C0_5.out) (HD.out.keep C0_5.out) HL.out hcnt vv HVV.out).mono ?_
              rintro e V6 ⟨rfl, hb⟩
              have B5 := Lib.hid hb
              have C3_5 := Lib.hid (bel_step B3.out B4.out)
              have HS6 := Lib.hid (LaterB.step HS5.out (hb.mono C3_5.out.size))
              clear hb 
              refine ⟨_, rfl, HS6.out, ?_⟩
              simp only [Act.put, List.setIfInBounds_toArray, List.set_cons_zero, List.set_cons_succ]
              refine wpHeld_seg 5 HS6.out (by kernel_rfl) ?_
              simp only [List.take_succ_cons, List.take_zero, List.drop_succ_cons, List.drop_zero]
              refine wpQuiet_val (by kernel_rfl) (.bool true) (fun v hv => (by first | rfl | (unfold execOp; go_simp))) ?_
              simp only [Act.put, List.setIfInBounds_toArray, List.set_cons_zero, List.set_cons_succ]
              refine wpQuiet_val (by kernel_rfl) (.bool true) (fun v hv => rfl) ?_
              simp only [Act.put, List.setIfInBounds_toArray, List.set_cons_zero, List.set_cons_succ]
              refine wpQuiet_val (by kernel_rfl) (.pointer (some ⟨(w.heap.size + 1), 0, none⟩)) (fun v hv => exec_fOp0 _ _ rfl rfl _) ?_
              simp only [Act.put, List.setIfInBounds_toArray, List.set_cons_zero, List.set_cons_succ]
              refine wpQuiet_val (by kernel_rfl) (.slice (some ⟨gR, oR, none⟩) r e) (fun v hv => (exec_loadSD _ _ _ _ (cells_at (heap_keep (heap_keep F4.out C1_3.out) (LaterB.of hv)) 0 rfl) rfl rfl)) ?_
              simp only [Act.put, List.setIfInBounds_toArray, List.set_cons_zero, List.set_cons_succ]
              refine wpQuiet_val (by kernel_rfl) (.agg #[.int .i64 cnt, .int .i64 ix, .slice Bp nb cb, .slice Rp rp ep]) (fun v hv => (exec_loadMb _ _ _ _ _ rfl rfl (heap_keep (heap_keep F5.out C1_3.out) (LaterB.of hv)))) ?_
              simp only [Act.put, List.setIfInBounds_toArray, List.set_cons_zero, List.set_cons_succ]
              refine wpQuiet_nil ?_
              have C0_6 := Lib.hid (bel_step C0_5.out B5.out)
              refine wpHeld_call 15 Tryd.func15 (by kernel_rfl) (by kernel_rfl) _ _ #[.slice (some ⟨gR, oR, none⟩) r e, .agg #[.int .i64 cnt, .int .i64 ix, .slice Bp nb cb, .slice Rp rp ep]] rfl (by kernel_rfl) (by kernel_rfl) ?_
              refine (contains_any (some ⟨gR, oR, none⟩) r e ns cnt ix Bp nb cb bp Rp rp ep ps V6 (HD.out.keep C0_6.out) (HBp.out.keep C0_6.out) (HDp.out.keep C0_6.out) (by omega) (by omega) (HG.out.keep C0_6.out) cc HCC.out).mono ?_
              rintro e V7 ⟨rfl, hb⟩
              have B6 := Lib.hid hb
              have C3_6 := Lib.hid (bel_step C3_5.out B5.out)
              have HS7 := Lib.hid (LaterB.step HS6.out (hb.mono C3_6.out.size))
              clear hb 
              refine ⟨_, rfl, HS7.out, ?_⟩
              simp only [Act.put, List.setIfInBounds_toArray, List.set_cons_zero, List.set_cons_succ]
              refine wpHeld_seg 3 HS7.out (by kernel_rfl) ?_
              simp only [List.take_succ_cons, List.take_zero, List.drop_succ_cons, List.drop_zero]
              refine wpQuiet_val (by kernel_rfl) (.pointer (some ⟨(w.heap.size + 1), 0, none⟩)) (fun v hv => exec_fOp0 _ _ rfl rfl _) ?_
              simp only [Act.put, List.setIfInBounds_toArray, List.set_cons_zero, List.set_cons_succ]
              refine wpQuiet_val (by kernel_rfl) (.slice (some ⟨gR, oR, none⟩) r e) (fun v hv => (exec_loadSD _ _ _ _ (cells_at (heap_keep (heap_keep F4.out C1_3.out) (LaterB.of hv)) 0 rfl) rfl rfl)) ?_
              simp only [Act.put, List.setIfInBounds_toArray, List.set_cons_zero, List.set_cons_succ]
              refine wpQuiet_val (by kernel_rfl) (.agg #[.int .i64 cnt, .int .i64 ix, .slice Bp nb cb, .slice Rp rp ep]) (fun v hv => (exec_loadMb _ _ _ _ _ rfl rfl (heap_keep (heap_keep F5.out C1_3.out) (LaterB.of hv)))) ?_
              simp only [Act.put, List.setIfInBounds_toArray, List.set_cons_zero, List.set_cons_succ]
              refine wpQuiet_nil ?_
              have C0_7 := Lib.hid (bel_step C0_6.out B6.out)
              refine wpHeld_call 16 Tryd.func16 (by kernel_rfl) (by kernel_rfl) _ _ #[.slice (some ⟨gR, oR, none⟩) r e, .agg #[.int .i64 cnt, .int .i64 ix, .slice Bp nb cb, .slice Rp rp ep]] rfl (by kernel_rfl) (by kernel_rfl) ?_
              refine (rcontains_any (some ⟨gR, oR, none⟩) r e ns cnt ix Bp nb cb bp Rp rp ep ps V7 (HD.out.keep C0_7.out) (HBp.out.keep C0_7.out) (HDp.out.keep C0_7.out) (by omega) (by omega) (by omega) cc HCC.out).mono ?_
              rintro e V8 ⟨rfl, hb⟩
              have B7 := Lib.hid hb
              have C3_7 := Lib.hid (bel_step C3_6.out B6.out)
              have HS8 := Lib.hid (LaterB.step HS7.out (hb.mono C3_7.out.size))
              clear hb 
              refine ⟨_, rfl, HS8.out, ?_⟩
              simp only [Act.put, List.setIfInBounds_toArray, List.set_cons_zero, List.set_cons_succ]
              refine wpHeld_seg 5 HS8.out (by kernel_rfl) ?_
              simp only [List.take_succ_cons, List.take_zero, List.drop_succ_cons, List.drop_zero]
              refine wpQuiet_val (by kernel_rfl) (.bool true) (fun v hv => exec_eqBo cc rfl rfl rfl _) ?_
              simp only [Act.put, List.setIfInBounds_toArray, List.set_cons_zero, List.set_cons_succ]
              refine wpQuiet_val (by kernel_rfl) (.bool true) (fun v hv => rfl) ?_
              simp only [Act.put, List.setIfInBounds_toArray, List.set_cons_zero, List.set_cons_succ]
              refine wpQuiet_val (by kernel_rfl) (.bool true) (fun v hv => rfl) ?_
              simp only [Act.put, List.setIfInBounds_toArray, List.set_cons_zero, List.set_cons_succ]
              refine wpQuiet_val (by kernel_rfl) (.bool true) (fun v hv => rfl) ?_
              simp only [Act.put, List.setIfInBounds_toArray, List.set_cons_zero, List.set_cons_succ]
              refine wpQuiet_val (by kernel_rfl) (.bool true) (fun v hv => rfl) ?_
              simp only [Act.put, List.setIfInBounds_toArray, List.set_cons_zero, List.set_cons_succ]
              refine wpQuiet_nil ?_
              refine wpHeld_nil ?_
              refine mOp_val (.bool true) rfl rfl rfl ?_
              go_wp2_with fail
              go_ret
              have C0_8 := Lib.hid (bel_step C0_7.out B7.out)
              exact ⟨rfl, C0_8.out⟩
end Go.Proofs.YtgkojdbepgonkaaDoor

/- The frames of the laws of stage 8: queries, indices, leaves, openings and memberships that come in are opened. -/
namespace Go.Proofs.YtgkojdbepgonkaaDoor
set_option linter.unusedVariables false
set_option linter.unusedSimpArgs false
set_option maxRecDepth 8000
open Go.ChangeShapes Go.WideShapes Go.ChangeAt Go.RowKit Go.Joins Go.Deep
theorem list_of8 {α : Type} (n : Nat) (P : Nat → α → Prop) (h : ∀ i, i < n → ∃ x, P i x) : ∃ l : List α, l.length = n ∧ ∀ i x, l[i]? = some x → P i x := by
  induction n with
  | zero => exact ⟨[], rfl, fun i x hx => by simp at hx⟩
  | succ n ih =>
    obtain ⟨l, hl, hp⟩ := ih fun i hi => h i (by omega)
    obtain ⟨x, hx⟩ := h n (Nat.lt_succ_self n)
    refine ⟨l ++ [x], by simp [hl], fun i y hy => ?_⟩
    by_cases hi : i < l.length
    · rw [List.getElem?_append_left hi] at hy
      exact hp i y hy
    · rw [List.getElem?_append_right (by omega)] at hy
      have e : i = n := by
        have := (List.getElem?_eq_some_iff.1 hy).1
        simp at this
        omega
      subst e
      rw [show i - l.length = 0 by omega] at hy
      injection hy with hy
      subst hy
      exact hx
section
variable {H : Type} {enc : TypeId × Value → H} {W : World} {base : Nat} {sp : Nat → Bool} {b1 : Nat} {hd : Bool} {v : Value} {d : DataW H} {p : List MemPlace}
theorem cellsP1 : Tryd.prog.cellsOf 29 = 1 := by kernel_rfl
theorem trod_bytess {m : Nat} {c0 : Value} {y : DataW H × List MemPlace} (h : DataW.trod enc Tryd.prog W b1 sp hd m 23 [c0] = some y) : ∃ (A : Option Addr) (n c : Nat) (Ps : List (List Nat)), c0 = .slice A n c ∧ Pb W A n c Ps := by
  obtain ⟨d, p⟩ := y
  rcases open_slice Tryd.underlying23 h with ⟨hcs, _⟩ | ⟨a, len, cap, m', n', D, Pl, hcs, _, hl, hm, hmm, _, hi⟩
  · injection hcs with hcs
    subst hcs
    exact ⟨none, 0, 0, [], rfl, rfl, Nat.le_refl _, Nat.zero_le _, fun _ => rfl, fun i p hp => by simp at hp⟩
  · injection hcs with hcs
    subst hcs
    unfold maxLen at hm
    have hC : ∀ i, i < len → ∃ q : List Nat, ∃ B m d, W.cell? (a.add i) = some (.slice B m d) ∧ Sb W B m d q := fun i hin => by
      obtain ⟨cs', hc, ht⟩ := hi i (by rw [hmm]; split <;> omega)
      rw [cellsP1] at hc
      obtain ⟨_, hcl, hat⟩ := World.cells?_some hc
      match cs', hcl with
      | [c0], _ =>
        obtain ⟨B, m, d, ps, e, hs⟩ := bytes_of_trod ht
        injection e with e
        subst e
        have h0 := hat 0 (by omega)
        simp only [Nat.mul_one] at h0
        exact ⟨ps, B, m, d, h0, hs⟩
    obtain ⟨Qs, hpl, hpp⟩ := list_of8 len _ hC
    refine ⟨some a, len, cap, Qs, rfl, hpl.symm, hl, by omega, (fun e => by cases e), fun i q hq => ?_⟩
    obtain ⟨B, m, d, k1, k2⟩ := hpp i q hq
    exact ⟨a, B, m, d, rfl, k1, k2⟩
end
end Go.Proofs.YtgkojdbepgonkaaDoor

/- Frames of the two laws that compare with the reference: indices, leaves, openings and memberships that come in are opened. -/
namespace Go.Proofs.YtgkojdbepgonkaaDoor
set_option linter.unusedVariables false
set_option linter.unusedSimpArgs false
set_option maxRecDepth 8000
open Go.ChangeShapes Go.WideShapes Go.ChangeAt Go.RowKit Go.Joins Go.Deep
section
variable {H : Type} {enc : TypeId × Value → H} {W : World} {base : Nat} {sp : Nat → Bool} {b1 : Nat} {hd : Bool} {v : Value} {d : DataW H} {p : List MemPlace}
theorem cellsIn8 : Tryd.prog.cellsOf 3 = 1 := by kernel_rfl
theorem trod_idx8 {m : Nat} {c0 : Value} {y : DataW H × List MemPlace} (h : DataW.trod enc Tryd.prog W b1 sp hd m 22 [c0] = some y) : ∃ (A : Option Addr) (n c : Nat) (zs : List Int), c0 = .slice A n c ∧ Ib W A n c zs := by
  obtain ⟨d, p⟩ := y
  rcases open_slice Tryd.underlying22 h with ⟨hcs, _⟩ | ⟨a, len, cap, m', n', D, Pl, hcs, _, hl, hm, hmm, _, hi⟩
  · injection hcs with hcs
    subst hcs
    exact ⟨none, 0, 0, [], rfl, Ib.nil_ _⟩
  · injection hcs with hcs
    subst hcs
    unfold maxLen at hm
    have hC : ∀ i, i < len → ∃ z : Int, W.cell? (a.add i) = some (.int .i64 z) := fun i hin => by
      obtain ⟨cs', hc, ht⟩ := hi i (by rw [hmm]; split <;> omega)
      rw [cellsIn8] at hc
      obtain ⟨_, hcl, hat⟩ := World.cells?_some hc
      match cs', hcl with
      | [c0], _ =>
        obtain ⟨z, e, _, _⟩ := DataW.trod_int Tryd.underlying3 ht
        simp at e
        subst e
        have h0 := hat 0 (by omega)
        simp only [Nat.mul_one] at h0
        exact ⟨z, h0⟩
    obtain ⟨zs, hpl, hpp⟩ := list_of8 len _ hC
    exact ⟨some a, len, cap, zs, rfl, hpl.symm, hl, by omega, (fun e => by cases e), fun i z hz => ⟨a, rfl, hpp i z hz⟩⟩
theorem open_idx8 (hv : Value.okWide Tryd.prog W .any base 22 v) (h : DataW.Trod enc Tryd.prog W b1 sp hd 22 v d p) : ∃ (A : Option Addr) (n c : Nat) (zs : List Int), v = .slice A n c ∧ Ib W A n c zs := by
  obtain ⟨A, n, c, rfl⟩ : ∃ A n c, v = .slice A n c := okWide_slice Tryd.underlying22 hv
  obtain ⟨fuel, hf⟩ := h
  exact (trod_idx8 (y := (d, p)) (show DataW.trod enc Tryd.prog W b1 sp hd fuel 22 [.slice A n c] = some (d, p) from by simpa [Value.cells] using hf))
end
end Go.Proofs.YtgkojdbepgonkaaDoor
