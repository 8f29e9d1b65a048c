/- Several texts in one: Mkx, Mky, Mkz, Mna. -/
import Derived.Test.YtgkojdbepgonkaaDoorH17
import Derived.Deep.AppendLies
/- Verify. -/
namespace Go.Proofs.YtgkojdbepgonkaaDoor
set_option maxRecDepth 8000
set_option linter.unusedVariables false
set_option linter.unusedSimpArgs false
open Go.RowKit
attribute [local simp] z32_ne z32_run
attribute [-simp] Tryd.zeroValue34 Tryd.isAgg34 Tryd.sizeOf34
/-- the check of an opening -/
def verN (root : List Nat) (n : Int) (is : List Int) (bs ns : List (List Nat)) : Nat :=
  if n < 1 then 1 else if incF 0 n is = false then 1 else if bs.length ≠ is.length then 1 else if 65536 < n then 2 else
    if ns.length ≠ (closedN 0 n.toNat is).length then 80 else if (rebN 0 n.toNat is bs ns).1 ≠ root then 80 else 0
theorem run_neD (w : World) (xs ys : List Nat) (hx : xs.length = 32) (hy : ys.length = 32) (bx : ∀ x ∈ xs, x < 256) (b2 : ∀ y ∈ ys, y < 256) :
    (binOp .neq 34 (.agg (celB xs).toArray) (.agg (celB ys).toArray)).run Tryd.prog w = .ok (.bool (!decide (xs = ys))) w := by
  have h := run_eqD w xs ys hx hy bx b2
  unfold binOp at h ⊢
  simp only [Sem.run_bind, Sem.run_pure] at h ⊢
  cases hr : (Op.equal 34 (Value.agg (celB xs).toArray) (Value.agg (celB ys).toArray)).run Tryd.prog w with
  | ok a w' =>
    rw [hr] at h
    simp only [Result.andThen_ok] at h ⊢
    injection h with h1 h2
    injection h1 with h1
    rw [h1, h2]
  | halt x w' => rw [hr] at h; cases h
theorem exec_cmpD {ev : Operand → Value} {o : Oper} {w : World} {b : BinOp} {t2 : TypeId} {x y : Operand} {us vs : Array Value} {r : Value} (ho : o.op = .binOp b 34 x y t2) (hx : ev x = .agg us) (hy : ev y = .agg vs) (h : (binOp b 34 (.agg us) (.agg vs)).run Tryd.prog w = .ok r w) : (execOp ev o).run Tryd.prog w = .ok (.value r) w := by
  unfold execOp
  simp only [ho, hx, hy, Sem.run_bind, run_eqGuard_agg _ _ _ _ _ _ _ Tryd.eqGuardType34, Result.andThen_ok, h, Sem.run_pure]
set_option maxHeartbeats 4000000 in
theorem verify_any (root : List Nat) (n : Int) (I : Option Addr) (k d : Nat) (is : List Int) (B : Option Addr) (k2 d2 : Nat) (bs : List (List Nat)) (R : Option Addr) (r e : Nat) (ns : List (List Nat)) (w : World) (hr : root.length = 32) (hrb : ∀ x ∈ root, x < 256) (hi : Ib w I k d is) (hB : Pb w B k2 d2 bs) (hD : Db w R r e ns)
    (hL : ∀ b ∈ bs, b.length ≤ 140737488351232) (hG : Gl w) (hn : -9223372036854775808 ≤ n ∧ n ≤ 9223372036854775807) (V : Nat) (hV : verN root n is bs ns = V) :
    Calls Tryd.prog 13 #[.agg (celB root).toArray, .int .i64 n, .agg #[.slice I k d, .slice B k2 d2], .agg #[.slice R r e]] w fun e2 w' => e2 = .returned (.int .i64 (V : Int)) ∧ Below w.heap.size w w' := by
  have hik := hi.len
  have hbk := hB.len
  have hnk := hD.len
  have HI := Lib.hid hi
  have HP := Lib.hid hB
  have HD := Lib.hid hD
  have HL := Lib.hid hL
  have HG := Lib.hid hG
  have HV := Lib.hid hV
  have HK := Lib.hid (show k = is.length ∧ k2 = bs.length ∧ r = ns.length from ⟨hik, hbk, hnk⟩)
  clear hi hB hD hL hG hV hik hbk hnk
  go_enter Tryd.func13, Tryd.ntmps13
  go_upto_region 1 with fail
  refine wp_named3 (fun w1 hb1 g0 g1 g2 hlt1 => ?_)
  have HB1 := Lib.hid hb1
  have G0 : Hid (RowB w1 34 w.heap.size root) := Lib.hid g0
  have HI1 := Lib.hid (HI.out.keep hb1)
  have HP1 := Lib.hid (HP.out.keep hb1)
  have HD1 := Lib.hid (HD.out.keep hb1)
  have HG1 := Lib.hid (HG.out.keep hb1)
  have c0 := cells_at g1 0 (v := .slice I k d) rfl
  have c1 := cells_at g1 1 (v := .slice B k2 d2) rfl
  have c2 := cells_at g2 0 (v := .slice R r e) rfl
  clear hb1 g0 g1 g2 HI HP HD HG
  by_cases h1 : n < 1
  · obtain rfl : V = 1 := by rw [← HV.out]; unfold verN; rw [if_pos h1]
    go_wp2_with fail
    go_ret
    exact ⟨rfl, HB1.out⟩
  · by_cases hinc : incF 0 n is = true
    · by_cases hk : k2 = k
      · subst hk
        have hlen : bs.length = is.length := by have := HK.out; omega
        by_cases hbig : 65536 < n
        · obtain rfl : V = 2 := by rw [← HV.out]; unfold verN; rw [if_neg h1, hinc, if_neg (by simp), if_neg (by omega), if_pos hbig]
          go_wp2_with fail
          refine (increasing_any I k2 d is n w1 HI1.out hn.2).mono ?_
          rintro e2 W1 ⟨rfl, rfl⟩
          rw [hinc]
          go_wp2_with fail
          go_ret
          exact ⟨rfl, HB1.out⟩
        · obtain ⟨N, rfl⟩ : ∃ N : Nat, n = (N : Int) := ⟨n.toNat, by omega⟩
          have hN1 : 1 ≤ N := by omega
          have hN : N ≤ 65536 := by omega
          have hV2 := HV.out
          unfold verN at hV2
          rw [if_neg h1, hinc, if_neg (by simp), if_neg (by omega), if_neg hbig, Int.toNat_natCast] at hV2
          go_wp2_with fail
          refine (increasing_any I k2 d is (N : Int) w1 HI1.out hn.2).mono ?_
          rintro e2 W1 ⟨rfl, rfl⟩
          rw [hinc]
          go_upto_region 5 with fail
          have l0 := LaterS.get (S := Below W1.heap.size W1) (fun W hS => cell_keep c0 hS)
          have l2 := LaterS.get (S := Below W1.heap.size W1) (fun W hS => cell_keep c2 hS)
          have hS0 : Below W1.heap.size W1 W1.drew := (Below.refl _ _).drew
          haveI := LaterS.inh hS0
          refine wp_ordA (Below W1.heap.size W1) [(0, true), (1, true), (2, true), (3, true), (5, true), (6, true), (4, false), (7, false), (8, false), (9, true)] (by kernel_rfl) (by kernel_rfl) (fun _ _ dt _ _ h => by cases dt <;> exact h) rfl (by kernel_rfl) hS0 ?_
          refine wpO_q rfl (by kernel_rfl) ?_
          go_big_quiet_step (fail)
          refine wpQuiet_nil ?_
          refine wpO_q rfl (by kernel_rfl) ?_
          go_big_quiet_step (fail)
          refine wpQuiet_nil ?_
          refine wpO_q rfl (by kernel_rfl) ?_
          go_big_quiet_step (fail)
          refine wpQuiet_nil ?_
          refine wpO_q rfl (by kernel_rfl) ?_
          go_big_quiet_step (fail)
          refine wpQuiet_nil ?_
          refine wpO_q rfl (by kernel_rfl) ?_
          go_big_quiet_step (fail)
          refine wpQuiet_nil ?_
          refine wpO_q rfl (by kernel_rfl) ?_
          go_big_quiet_step (fail)
          refine wpQuiet_nil ?_
          clear l0 l2
          refine wpO_op rfl (by kernel_rfl) ?_
          refine hOp_call 54 Tryd.func54 (by kernel_rfl) (by kernel_rfl) _ _ #[.int .i64 (N : Int)] rfl (by kernel_rfl) ?_
          refine (whole_any N _).mono ?_
          rintro e3 W4 ⟨rfl, hb4⟩
          have hb34 : Below W1.heap.size W1 W4 := hS0.trans (hb4.mono (Nat.le_refl _))
          refine ⟨_, rfl, hb34, ?_⟩
          simp only [Act.put, List.setIfInBounds_toArray, List.set_cons_zero, List.set_cons_succ]
          refine wpO_op rfl (by kernel_rfl) ?_
          refine hOp_call 53 Tryd.func53 (by kernel_rfl) (by kernel_rfl) _ _ #[subV 0 N, .slice I k2 d] rfl (by kernel_rfl) ?_
          refine (closed_any 0 N I k2 d W4).mono ?_
          rintro e3 W5 ⟨b3, b4, rfl, hcl, hge1, hge2, hb5⟩
          have hb35 : Below W1.heap.size W1 W5 := bel_step hb34 hb5
          refine ⟨_, rfl, hb35, ?_⟩
          simp only [Act.put, List.setIfInBounds_toArray, List.set_cons_zero, List.set_cons_succ]
          have HI5 := Lib.hid (HI1.out.keep hb35)
          refine wpO_op rfl (by kernel_rfl) ?_
          refine hOp_call 52 Tryd.func52 (by kernel_rfl) (by kernel_rfl) _ _ #[.func (.func 93) #[] #[.pointer (some ⟨b3, 0, none⟩), .pointer (some ⟨b4, 0, none⟩)]] rfl (by kernel_rfl) ?_
          refine (number_any 93 (enters_of Tryd.func93 (by kernel_rfl) rfl) #[.pointer (some ⟨b3, 0, none⟩), .pointer (some ⟨b4, 0, none⟩)] (closedN 0 N is) (ClG b3 b4 0 N I k2 d is) (closed_iter N 0 N I k2 d is b3 b4 (Nat.le_refl _) hN1 (by omega)) W5
            (fun B hB => ⟨⟨heap_keep hcl.1 hB, heap_keep hcl.2 hB⟩, HI5.out.keep hB⟩) (by have := closedN_len N hN1 0 is; omega)).mono ?_
          rintro e3 W6 ⟨rfl, hb6⟩
          have hb36 : Below W1.heap.size W1 W6 := bel_step hb35 hb6
          refine ⟨_, rfl, hb36, ?_⟩
          simp only [Act.put, List.setIfInBounds_toArray, List.set_cons_zero, List.set_cons_succ]
          refine wpO_q rfl (by kernel_rfl) ?_
          go_big_quiet_step (fail)
          refine wpQuiet_nil ?_
          refine wpO_nil ?_
          have d0 := cell_keep c0 hb36
          have d1 := cell_keep c1 hb36
          have d2 := cell_keep c2 hb36
          have G06 := Lib.hid (G0.out.keep hb36)
          have HI6 := Lib.hid (HI1.out.keep hb36)
          have HP6 := Lib.hid (HP1.out.keep hb36)
          have HD6 := Lib.hid (HD1.out.keep hb36)
          have HG6 := Lib.hid (HG1.out.keep hb36)
          have HB6 := Lib.hid (bel_step HB1.out hb36)
          have hs6 := hb36.size
          clear hb4 hb34 hcl hge1 hge2 hb5 hb35 hb6 hb36 c0 c1 c2 G0 HI1 HP1 HD1 HG1 HB1 HI5 hS0
          have hrl : r = ns.length := HK.out.2.2
          have HNL := Lib.hid hrl
          obtain ⟨M, hM⟩ : ∃ M, (closedN 0 N is).length = M := ⟨_, rfl⟩
          rw [hM] at hV2 ⊢
          have HM := Lib.hid hM
          rw [← hrl] at hV2
          have HV2 := Lib.hid hV2
          clear hrl hM hV2
          by_cases hcnt : r = M
          · subst hcnt
            have hV3 := HV2.out
            rw [if_neg (by simp)] at hV3
            obtain ⟨q1, ns1, hq1⟩ : ∃ q1 ns1, rebN 0 N is bs ns = (q1, ns1) := ⟨_, _, (Prod.eta _).symm⟩
            have hqs := rebN_size N hN1 0 is bs ns HD6.out.dig (by rw [HM.out]; exact Nat.le_of_eq HNL.out)
            rw [hq1] at hV3 hqs
            simp only [] at hV3 hqs
            have HQ1 := Lib.hid hq1
            have HV3 := Lib.hid hV3
            obtain ⟨hq32, hqb⟩ := hqs
            clear hq1 hV3
            go_upto_region 7 with fail
            have l1 := LaterS.get (S := Below W6.heap.size W6) (fun W hS => cell_keep d0 hS)
            have l2 := LaterS.get (S := Below W6.heap.size W6) (fun W hS => cell_keep d1 hS)
            have l3 := LaterS.get (S := Below W6.heap.size W6) (fun W hS => cell_keep d2 hS)
            have hS0 : Below W6.heap.size W6 W6.drew := (Below.refl _ _).drew
            haveI := LaterS.inh hS0
            refine wp_ordA (Below W6.heap.size W6) [(0, true), (2, true), (3, true), (4, true), (7, true), (1, false), (5, false), (6, false), (8, true)] (by kernel_rfl) (by kernel_rfl) (fun _ _ dt _ _ h => by cases dt <;> exact h) rfl (by kernel_rfl) hS0 ?_
            refine wpO_q rfl (by kernel_rfl) ?_
            go_big_quiet_step (fail)
            refine wpQuiet_nil ?_
            refine wpO_q rfl (by kernel_rfl) ?_
            go_big_quiet_step (fail)
            refine wpQuiet_nil ?_
            refine wpO_q rfl (by kernel_rfl) ?_
            go_big_quiet_step (fail)
            refine wpQuiet_nil ?_
            refine wpO_q rfl (by kernel_rfl) ?_
            go_big_quiet_step (fail)
            refine wpQuiet_nil ?_
            refine wpO_val (.agg (celB root).toArray) rfl rfl (fun W hW => exec_loadD hr (G06.out.keep hW) rfl rfl) ?_
            simp only [Act.put, List.setIfInBounds_toArray, List.set_cons_zero, List.set_cons_succ]
            clear l1 l2 l3 d0 d1 d2
            refine wpO_op rfl (by kernel_rfl) ?_
            refine hOp_call 54 Tryd.func54 (by kernel_rfl) (by kernel_rfl) _ _ #[.int .i64 (N : Int)] rfl (by kernel_rfl) ?_
            refine (whole_any N _).mono ?_
            rintro e3 W7 ⟨rfl, hb7⟩
            have hb67 : Below W6.heap.size W6 W7 := hS0.trans (hb7.mono (Nat.le_refl _))
            refine ⟨_, rfl, hb67, ?_⟩
            simp only [Act.put, List.setIfInBounds_toArray, List.set_cons_zero, List.set_cons_succ]
            refine wpO_op rfl (by kernel_rfl) ?_
            refine hOp_call 56 Tryd.func56 (by kernel_rfl) (by kernel_rfl) _ _ #[.slice R r e] rfl (by kernel_rfl) ?_
            refine (consumer_any R r e W7).mono ?_
            rintro e3 W8 ⟨rfl, rfl⟩
            have hb8 : Below W7.heap.size W7 (W7.alloc (.cells #[.slice R r e] 26)) := (Below.refl _ _).alloc (Nat.le_refl _) _
            have hx8 := One.new W7 26 (.slice R r e)
            refine ⟨_, rfl, bel_step hb67 hb8, ?_⟩
            simp only [Act.put, List.setIfInBounds_toArray, List.set_cons_zero, List.set_cons_succ]
            have HI7 := Lib.hid (HI6.out.keep hb67)
            have HP7 := Lib.hid (HP6.out.keep hb67)
            have HD8 := Lib.hid ((HD6.out.keep hb67).keep hb8)
            have HG7 := Lib.hid (HG6.out.keep hb67)
            refine wpO_op rfl (by kernel_rfl) ?_
            refine hOp_call 55 Tryd.func55 (by kernel_rfl) (by kernel_rfl) _ _ #[subV 0 N, .agg #[.slice I k2 d, .slice B k2 d2], .func (.func 96) #[] #[.pointer (some ⟨W7.heap.size, 0, none⟩)]] rfl (by kernel_rfl) ?_
            refine (rebuilt_any N 0 N is bs ns I k2 d B d2 W7.heap.size R r e W7 _ (Nat.le_refl _) hN1 (by omega) HI7.out HP7.out HL.out HG7.out hb8 (Nat.le_refl _) hx8 HD8.out (by rw [HM.out]; exact Nat.le_of_eq HNL.out)).mono ?_
            rintro e3 W9 ⟨rfl, hb9, _, _⟩
            rw [HQ1.out]
            have hb69 : Below W6.heap.size W6 W9 := bel_step hb67 hb9
            refine ⟨_, rfl, hb69, ?_⟩
            simp only [Act.put, List.setIfInBounds_toArray, List.set_cons_zero, List.set_cons_succ]
            refine wpO_val (.bool (!decide (q1 = root))) rfl rfl (fun W hW => exec_cmpD rfl rfl rfl (run_neD W q1 root hq32 hr hqb hrb)) ?_
            simp only [Act.put, List.setIfInBounds_toArray, List.set_cons_zero, List.set_cons_succ]
            refine wpO_nil ?_
            have HB9 := Lib.hid (bel_step HB6.out hb69)
            clear hb7 hb67 hb8 hx8 hb9 hb69 hS0
            by_cases hqr : q1 = root
            · obtain rfl : V = 0 := by rw [← HV3.out, if_neg (by simpa using hqr)]
              rw [decide_eq_true hqr]
              go_wp2_with fail
              go_ret
              exact ⟨rfl, HB9.out⟩
            · obtain rfl : V = 80 := by rw [← HV3.out, if_pos hqr]
              rw [decide_eq_false hqr]
              go_wp2_with fail
              go_ret
              exact ⟨rfl, HB9.out⟩
          · obtain rfl : V = 80 := by rw [← HV2.out, if_pos hcnt]
            have hri : ¬ ((r : Int) = (M : Int)) := by omega
            go_wp2_with fail
            go_ret
            exact ⟨rfl, HB6.out⟩
      · have hlen : bs.length ≠ is.length := by have := HK.out; omega
        obtain rfl : V = 1 := by rw [← HV.out]; unfold verN; rw [if_neg h1, hinc, if_neg (by simp), if_pos hlen]
        have hkk : ¬ ((k2 : Int) = (k : Int)) := by omega
        go_wp2_with fail
        refine (increasing_any I k d is n w1 HI1.out hn.2).mono ?_
        rintro e2 W1 ⟨rfl, rfl⟩
        rw [hinc]
        go_wp2_with fail
        go_ret
        exact ⟨rfl, HB1.out⟩
    · have hinf : incF 0 n is = false := by simpa using hinc
      obtain rfl : V = 1 := by rw [← HV.out]; unfold verN; rw [if_neg h1, if_pos hinf]
      go_wp2_with fail
      refine (increasing_any I k d is n w1 HI1.out hn.2).mono ?_
      rintro e2 W1 ⟨rfl, rfl⟩
      rw [hinf]
      go_wp2_with fail
      go_ret
      exact ⟨rfl, HB1.out⟩
end Go.Proofs.YtgkojdbepgonkaaDoor

/- Contains. -/
namespace Go.Proofs.YtgkojdbepgonkaaDoor
set_option linter.unusedVariables false
set_option linter.unusedSimpArgs false
set_option maxRecDepth 8000
open Go.RowKit
attribute [local simp] z32_ne z32_run
attribute [-simp] Tryd.zeroValue34 Tryd.isAgg34 Tryd.sizeOf34
/-- the check of a membership -/
def containsN (Ds : List (List Nat)) (cnt i : Int) (b : List Nat) (ns : List (List Nat)) : Bool :=
  if cnt < 1 then false else if 65536 < cnt then false else if i < 0 then false else if cnt ≤ i then false else if onesN cnt.toNat ≠ Ds.length then false else
    if ns.length ≠ (sibN 0 cnt.toNat i).length then false else decide (climbN i (sibN 0 cnt.toNat i) ns (lfN b) = bagN Ds)
theorem climbN_size (i : Int) (q : List Nat) (hq : q.length = 32 ∧ ∀ z ∈ q, z < 256) (xs : List (Nat × Nat)) (ns : List (List Nat)) : (climbN i xs ns q).length = 32 ∧ ∀ z ∈ climbN i xs ns q, z < 256 := by
  rcases List.eq_nil_or_concat xs with h | ⟨us, u, h⟩
  · rw [h]; exact hq
  · rw [h, List.concat_eq_append, climbN_append]
    split
    · exact ⟨prN_length _ _, prN_lt _ _⟩
    · exact ⟨prN_length _ _, prN_lt _ _⟩
set_option maxHeartbeats 4000000 in
theorem contains_any (A : Option Addr) (n c : Nat) (Ds : List (List Nat)) (cnt i : Int) (B : Option Addr) (nb cb : Nat) (b : List Nat) (R : Option Addr) (r e : Nat) (ns : List (List Nat)) (w : World) (hP : Db w A n c Ds) (hB : Sb w B nb cb b) (hD : Db w R r e ns) (hnb : nb ≤ 140737488351232) (hn : n ≤ 100000) (hG : Gl w) (V : Bool) (hV : containsN Ds cnt i b ns = V) :
    Calls Tryd.prog 15 #[.slice A n c, .agg #[.int .i64 cnt, .int .i64 i, .slice B nb cb, .slice R r e]] w fun e2 w' => e2 = .returned (.bool V) ∧ Below w.heap.size w w' := by
  have HP := Lib.hid hP
  have HB := Lib.hid hB
  have HD := Lib.hid hD
  have HG := Lib.hid hG
  have HV := Lib.hid hV
  have HK := Lib.hid (show n = Ds.length ∧ r = ns.length from ⟨hP.len, hD.len⟩)
  clear hP hB hD hG hV
  go_enter Tryd.func15, Tryd.ntmps15
  go_upto_region 1 with fail
  refine wp_named1 (fun w1 hb1 g0 hlt1 => ?_)
  have HB1 := Lib.hid hb1
  have HP1 := Lib.hid (HP.out.keep hb1)
  have HBs1 := Lib.hid (HB.out.keep hb1)
  have HD1 := Lib.hid (HD.out.keep hb1)
  have HG1 := Lib.hid (HG.out.keep hb1)
  have c0 := cells_at g0 0 (v := .int .i64 cnt) rfl
  have c1 := cells_at g0 1 (v := .int .i64 i) rfl
  have c2 := cells_at g0 2 (v := .slice B nb cb) rfl
  have c3 := cells_at g0 3 (v := .slice R r e) rfl
  clear hb1 g0 HP HB HD HG
  by_cases h1 : cnt < 1
  · obtain rfl : V = false := by rw [← HV.out]; unfold containsN; rw [if_pos h1]
    go_wp2_with fail
    go_ret
    exact ⟨rfl, HB1.out⟩
  · by_cases h2 : 65536 < cnt
    · obtain rfl : V = false := by rw [← HV.out]; unfold containsN; rw [if_neg h1, if_pos h2]
      go_wp2_with fail
      go_ret
      exact ⟨rfl, HB1.out⟩
    · by_cases h3 : i < 0
      · obtain rfl : V = false := by rw [← HV.out]; unfold containsN; rw [if_neg h1, if_neg h2, if_pos h3]
        go_wp2_with fail
        go_ret
        exact ⟨rfl, HB1.out⟩
      · by_cases h4 : cnt ≤ i
        · obtain rfl : V = false := by rw [← HV.out]; unfold containsN; rw [if_neg h1, if_neg h2, if_neg h3, if_pos h4]
          go_wp2_with fail
          go_ret
          exact ⟨rfl, HB1.out⟩
        · obtain ⟨N, rfl⟩ : ∃ N : Nat, cnt = (N : Int) := ⟨cnt.toNat, by omega⟩
          have hN1 : 1 ≤ N := by omega
          have hN : N ≤ 65536 := by omega
          have hV2 := HV.out
          unfold containsN at hV2
          rw [if_neg h1, if_neg h2, if_neg h3, if_neg h4, Int.toNat_natCast] at hV2
          obtain ⟨O, hO⟩ : ∃ O, onesN N = O := ⟨_, rfl⟩
          rw [hO, ← HK.out.1] at hV2
          have HO := Lib.hid hO
          have HV2 := Lib.hid hV2
          clear hO hV2
          go_upto_region 3 with fail
          have l0 := LaterS.get (S := Below w1.heap.size w1) (fun W hS => cell_keep c0 hS)
          have l1 := LaterS.get (S := Below w1.heap.size w1) (fun W hS => cell_keep c1 hS)
          have l3 := LaterS.get (S := Below w1.heap.size w1) (fun W hS => cell_keep c3 hS)
          have hS0 : Below w1.heap.size w1 w1.drew := (Below.refl _ _).drew
          haveI := LaterS.inh hS0
          by_cases hon : O = n
          · subst hon
            have HV3 := HV2.out
            rw [if_neg (by simp)] at HV3
            have HV4 := Lib.hid HV3
            clear HV3
            refine wp_ordA (Below w1.heap.size w1) [(0, true), (1, true), (3, true), (4, true), (2, false), (5, true), (6, true), (7, true), (8, true), (9, true), (10, true), (11, true), (13, true), (14, true), (12, false), (15, false), (16, false), (17, true), (18, true)] (by kernel_rfl) (by kernel_rfl) (fun _ _ dt _ _ h => by cases dt <;> exact h) rfl (by kernel_rfl) hS0 ?_
            refine wpO_q rfl (by kernel_rfl) ?_
            go_big_quiet_step (fail)
            refine wpQuiet_nil ?_
            refine wpO_q rfl (by kernel_rfl) ?_
            go_big_quiet_step (fail)
            refine wpQuiet_nil ?_
            refine wpO_q rfl (by kernel_rfl) ?_
            go_big_quiet_step (fail)
            refine wpQuiet_nil ?_
            refine wpO_q rfl (by kernel_rfl) ?_
            go_big_quiet_step (fail)
            refine wpQuiet_nil ?_
            refine wpO_op rfl (by kernel_rfl) ?_
            refine hOp_call 61 Tryd.func61 (by kernel_rfl) (by kernel_rfl) _ _ #[.int .i64 (N : Int)] rfl (by kernel_rfl) ?_
            refine (setBits_any N _ (by omega)).mono ?_
            rintro e3 W2 ⟨rfl, rfl⟩
            rw [HO.out]
            refine ⟨_, rfl, hS0, ?_⟩
            simp only [Act.put, List.setIfInBounds_toArray, List.set_cons_zero, List.set_cons_succ]
            refine wpO_q rfl (by kernel_rfl) ?_
            go_big_quiet_step (fail)
            refine wpQuiet_nil ?_
            refine wpO_q rfl (by kernel_rfl) ?_
            go_big_quiet_step (fail)
            refine wpQuiet_nil ?_
            refine wpO_q rfl (by kernel_rfl) ?_
            go_big_quiet_step (fail)
            refine wpQuiet_nil ?_
            refine wpO_q rfl (by kernel_rfl) ?_
            go_big_quiet_step (fail)
            refine wpQuiet_nil ?_
            refine wpO_q rfl (by kernel_rfl) ?_
            go_big_quiet_step (fail)
            refine wpQuiet_nil ?_
            refine wpO_q rfl (by kernel_rfl) ?_
            go_big_quiet_step (fail)
            refine wpQuiet_nil ?_
            refine wpO_q rfl (by kernel_rfl) ?_
            go_big_quiet_step (fail)
            refine wpQuiet_nil ?_
            refine wpO_q rfl (by kernel_rfl) ?_
            go_big_quiet_step (fail)
            refine wpQuiet_nil ?_
            refine wpO_q rfl (by kernel_rfl) ?_
            go_big_quiet_step (fail)
            refine wpQuiet_nil ?_
            refine wpO_op rfl (by kernel_rfl) ?_
            refine hOp_call 54 Tryd.func54 (by kernel_rfl) (by kernel_rfl) _ _ #[.int .i64 (N : Int)] rfl (by kernel_rfl) ?_
            refine (whole_any N _).mono ?_
            rintro e3 W4 ⟨rfl, hb4⟩
            have hb34 : Below w1.heap.size w1 W4 := hS0.trans (hb4.mono (Nat.le_refl _))
            refine ⟨_, rfl, hb34, ?_⟩
            simp only [Act.put, List.setIfInBounds_toArray, List.set_cons_zero, List.set_cons_succ]
            refine wpO_op rfl (by kernel_rfl) ?_
            refine hOp_call 62 Tryd.func62 (by kernel_rfl) (by kernel_rfl) _ _ #[.agg #[.int .i64 ((0 : Nat) : Int), .int .i64 (N : Int)], .int .i64 i] rfl (by kernel_rfl) ?_
            refine (siblings_any 0 N i W4).mono ?_
            rintro e3 W5 ⟨b3, b4, rfl, hcl, hge1, hge2, hb5⟩
            have hb35 : Below w1.heap.size w1 W5 := bel_step hb34 hb5
            refine ⟨_, rfl, hb35, ?_⟩
            simp only [Act.put, List.setIfInBounds_toArray, List.set_cons_zero, List.set_cons_succ]
            obtain ⟨M, hM⟩ : ∃ M, (sibN 0 N i).length = M := ⟨_, rfl⟩
            have hMN := sibN_len N hN1 0 i
            have hnum := number_any 99 (enters_of Tryd.func99 (by kernel_rfl) rfl) #[.pointer (some ⟨b3, 0, none⟩), .pointer (some ⟨b4, 0, none⟩)] (sibN 0 N i) (SbB b3 b4 0 N i) (siblings_iter N 0 N i b3 b4 (Nat.le_refl _) hN1 (by omega)) W5 (fun B hB => ⟨heap_keep hcl.1 hB, heap_keep hcl.2 hB⟩) (by omega)
            have hV5 := HV4.out
            rw [hM, ← HK.out.2] at hV5
            rw [hM] at hnum hMN
            have HV5 := Lib.hid hV5
            have HM := Lib.hid hM
            clear hV5 hM
            refine wpO_op rfl (by kernel_rfl) ?_
            refine hOp_call 52 Tryd.func52 (by kernel_rfl) (by kernel_rfl) _ _ #[.func (.func 99) #[] #[.pointer (some ⟨b3, 0, none⟩), .pointer (some ⟨b4, 0, none⟩)]] rfl (by kernel_rfl) ?_
            refine hnum.mono ?_
            rintro e3 W6 ⟨rfl, hb6⟩
            have hb36 : Below w1.heap.size w1 W6 := bel_step hb35 hb6
            refine ⟨_, rfl, hb36, ?_⟩
            simp only [Act.put, List.setIfInBounds_toArray, List.set_cons_zero, List.set_cons_succ]
            refine wpO_q rfl (by kernel_rfl) ?_
            go_big_quiet_step (fail)
            refine wpQuiet_nil ?_
            refine wpO_q rfl (by kernel_rfl) ?_
            go_big_quiet_step (fail)
            refine wpQuiet_nil ?_
            refine wpO_nil ?_
            have d0 := cell_keep c0 hb36
            have d1 := cell_keep c1 hb36
            have d2 := cell_keep c2 hb36
            have d3 := cell_keep c3 hb36
            have HP6 := Lib.hid (HP1.out.keep hb36)
            have HBs6 := Lib.hid (HBs1.out.keep hb36)
            have HD6 := Lib.hid (HD1.out.keep hb36)
            have HG6 := Lib.hid (HG1.out.keep hb36)
            have HB6 := Lib.hid (bel_step HB1.out hb36)
            clear hb4 hb34 hcl hge1 hge2 hb5 hb35 hb6 hb36 hnum c0 c1 c2 c3 l0 l1 l3 hS0 HP1 HBs1 HD1 HG1 HB1
            by_cases hcnt : r = M
            · subst hcnt
              have hV6 := HV5.out
              rw [if_neg (by simp)] at hV6
              obtain ⟨q1, hq1⟩ : ∃ q1, climbN i (sibN 0 N i) ns (lfN b) = q1 := ⟨_, rfl⟩
              obtain ⟨q2, hq2⟩ : ∃ q2, bagN Ds = q2 := ⟨_, rfl⟩
              obtain ⟨h132, h1b⟩ := climbN_size i (lfN b) ⟨lfN_length b, lfN_lt b⟩ (sibN 0 N i) ns
              obtain ⟨h232, h2b⟩ := bagN_size Ds HP6.out.dig
              rw [hq1] at h132 h1b hV6
              rw [hq2] at h232 h2b hV6
              have HQ1 := Lib.hid hq1
              have HQ2 := Lib.hid hq2
              have HV6 := Lib.hid hV6
              clear hq1 hq2 hV6
              go_upto_region 5 with fail
              have l0 := LaterS.get (S := Below W6.heap.size W6) (fun W hS => cell_keep d0 hS)
              have l1 := LaterS.get (S := Below W6.heap.size W6) (fun W hS => cell_keep d1 hS)
              have l2 := LaterS.get (S := Below W6.heap.size W6) (fun W hS => cell_keep d2 hS)
              have l3 := LaterS.get (S := Below W6.heap.size W6) (fun W hS => cell_keep d3 hS)
              have hS0 : Below W6.heap.size W6 W6.drew := (Below.refl _ _).drew
              haveI := LaterS.inh hS0
              refine wp_ordA (Below W6.heap.size W6) [(0, true), (1, true), (2, true), (5, true), (3, false), (4, false), (6, false), (7, true), (8, true)] (by kernel_rfl) (by kernel_rfl) (fun _ _ dt _ _ h => by cases dt <;> exact h) rfl (by kernel_rfl) hS0 ?_
              refine wpO_q rfl (by kernel_rfl) ?_
              go_big_quiet_step (fail)
              refine wpQuiet_nil ?_
              refine wpO_q rfl (by kernel_rfl) ?_
              go_big_quiet_step (fail)
              refine wpQuiet_nil ?_
              refine wpO_q rfl (by kernel_rfl) ?_
              go_big_quiet_step (fail)
              refine wpQuiet_nil ?_
              refine wpO_q rfl (by kernel_rfl) ?_
              go_big_quiet_step (fail)
              refine wpQuiet_nil ?_
              clear l0 l1 l2 l3 d0 d1 d2 d3
              refine wpO_op rfl (by kernel_rfl) ?_
              refine hOp_call 56 Tryd.func56 (by kernel_rfl) (by kernel_rfl) _ _ #[.slice R r e] rfl (by kernel_rfl) ?_
              refine (consumer_any R r e W6.drew).mono ?_
              rintro e3 W8 ⟨rfl, rfl⟩
              have hb8 : Below W6.drew.heap.size W6.drew (W6.drew.alloc (.cells #[.slice R r e] 26)) := (Below.refl _ _).alloc (Nat.le_refl _) _
              have hx8 := One.new W6.drew 26 (.slice R r e)
              refine ⟨_, rfl, bel_step hS0 hb8, ?_⟩
              simp only [Act.put, List.setIfInBounds_toArray, List.set_cons_zero, List.set_cons_succ]
              refine wpO_op rfl (by kernel_rfl) ?_
              refine hOp_call 63 Tryd.func63 (by kernel_rfl) (by kernel_rfl) _ _ #[.agg #[.int .i64 (N : Int), .int .i64 i, .slice B nb cb, .slice R r e], .func (.func 96) #[] #[.pointer (some ⟨W6.drew.heap.size, 0, none⟩)]] rfl (by kernel_rfl) ?_
              refine (climbed_any N i B nb cb b R r e W6.drew.heap.size R r e ns W6.drew _ hN1 hN (HBs6.out.keep hS0) hnb (HG6.out.keep hS0) hb8 (Nat.le_refl _) hx8 ((HD6.out.keep hS0).keep hb8) (by rw [HM.out, ← HK.out.2]; exact Nat.le_refl _)).mono ?_
              rintro e3 W9 ⟨rfl, hb9⟩
              rw [HQ1.out]
              have hb69 : Below W6.heap.size W6 W9 := bel_step hS0 hb9
              refine ⟨_, rfl, hb69, ?_⟩
              simp only [Act.put, List.setIfInBounds_toArray, List.set_cons_zero, List.set_cons_succ]
              refine wpO_op rfl (by kernel_rfl) ?_
              refine hOp_call 50 Tryd.func50 (by kernel_rfl) (by kernel_rfl) _ _ #[.slice A O c] rfl (by kernel_rfl) ?_
              refine (bag_any A O c Ds W9 (HP6.out.keep hb69) hn (HG6.out.keep hb69) q2 HQ2.out).mono ?_
              rintro e3 W10 ⟨rfl, hb10⟩
              have hb610 : Below W6.heap.size W6 W10 := bel_step hb69 hb10
              refine ⟨_, rfl, hb610, ?_⟩
              simp only [Act.put, List.setIfInBounds_toArray, List.set_cons_zero, List.set_cons_succ]
              refine wpO_val (.bool (decide (q1 = q2))) rfl rfl (fun W hW => exec_cmpD rfl rfl rfl (run_eqD W q1 q2 h132 h232 h1b h2b)) ?_
              simp only [Act.put, List.setIfInBounds_toArray, List.set_cons_zero, List.set_cons_succ]
              refine wpO_q rfl (by kernel_rfl) ?_
              go_big_quiet_step (fail)
              refine wpQuiet_nil ?_
              refine wpO_nil ?_
              rw [HV6.out]
              have HB9 := Lib.hid (bel_step HB6.out hb610)
              go_wp2_with fail
              go_ret
              exact ⟨rfl, HB9.out⟩
            · obtain rfl : V = false := by rw [← HV5.out, if_pos hcnt]
              have hri : ¬ ((r : Int) = (M : Int)) := by omega
              go_wp2_with fail
              go_ret
              exact ⟨rfl, HB6.out⟩
          · obtain rfl : V = false := by rw [← HV2.out, if_pos hon]
            have hri : ¬ ((O : Int) = (n : Int)) := by omega
            refine wp_ordA (Below w1.heap.size w1) [(0, true), (1, true), (3, true), (4, true), (2, false), (5, true), (6, true), (7, true), (8, true), (9, true), (10, true), (11, true), (12, true), (13, true), (14, true), (15, true), (16, true), (17, true), (18, true)] (by kernel_rfl) (by kernel_rfl) (fun _ _ dt _ _ h => by cases dt <;> exact h) rfl (by kernel_rfl) hS0 ?_
            refine wpO_q rfl (by kernel_rfl) ?_
            go_big_quiet_step (fail)
            refine wpQuiet_nil ?_
            refine wpO_q rfl (by kernel_rfl) ?_
            go_big_quiet_step (fail)
            refine wpQuiet_nil ?_
            refine wpO_q rfl (by kernel_rfl) ?_
            go_big_quiet_step (fail)
            refine wpQuiet_nil ?_
            refine wpO_q rfl (by kernel_rfl) ?_
            go_big_quiet_step (fail)
            refine wpQuiet_nil ?_
            refine wpO_op rfl (by kernel_rfl) ?_
            refine hOp_call 61 Tryd.func61 (by kernel_rfl) (by kernel_rfl) _ _ #[.int .i64 (N : Int)] rfl (by kernel_rfl) ?_
            refine (setBits_any N _ (by omega)).mono ?_
            rintro e3 W2 ⟨rfl, rfl⟩
            rw [HO.out]
            refine ⟨_, rfl, hS0, ?_⟩
            simp only [Act.put, List.setIfInBounds_toArray, List.set_cons_zero, List.set_cons_succ]
            refine wpO_q rfl (by kernel_rfl) ?_
            go_big_quiet_step (fail)
            refine wpQuiet_nil ?_
            refine wpO_q rfl (by kernel_rfl) ?_
            go_big_quiet_step (fail)
            refine wpQuiet_nil ?_
            rw [show ((O : Int) != (n : Int)) = true from by simpa using hri]
            refine wpO_skip rfl (by kernel_rfl) ?_
            simp only [Act.put, List.setIfInBounds_toArray, List.set_cons_zero, List.set_cons_succ]
            refine wpO_skip rfl (by kernel_rfl) ?_
            simp only [Act.put, List.setIfInBounds_toArray, List.set_cons_zero, List.set_cons_succ]
            refine wpO_skip rfl (by kernel_rfl) ?_
            simp only [Act.put, List.setIfInBounds_toArray, List.set_cons_zero, List.set_cons_succ]
            refine wpO_skip rfl (by kernel_rfl) ?_
            simp only [Act.put, List.setIfInBounds_toArray, List.set_cons_zero, List.set_cons_succ]
            refine wpO_skip rfl (by kernel_rfl) ?_
            simp only [Act.put, List.setIfInBounds_toArray, List.set_cons_zero, List.set_cons_succ]
            refine wpO_skip rfl (by kernel_rfl) ?_
            simp only [Act.put, List.setIfInBounds_toArray, List.set_cons_zero, List.set_cons_succ]
            refine wpO_skip rfl (by kernel_rfl) ?_
            simp only [Act.put, List.setIfInBounds_toArray, List.set_cons_zero, List.set_cons_succ]
            refine wpO_skip rfl (by kernel_rfl) ?_
            simp only [Act.put, List.setIfInBounds_toArray, List.set_cons_zero, List.set_cons_succ]
            refine wpO_skip rfl (by kernel_rfl) ?_
            simp only [Act.put, List.setIfInBounds_toArray, List.set_cons_zero, List.set_cons_succ]
            refine wpO_skip rfl (by kernel_rfl) ?_
            simp only [Act.put, List.setIfInBounds_toArray, List.set_cons_zero, List.set_cons_succ]
            refine wpO_skip rfl (by kernel_rfl) ?_
            simp only [Act.put, List.setIfInBounds_toArray, List.set_cons_zero, List.set_cons_succ]
            refine wpO_q rfl (by kernel_rfl) ?_
            go_big_quiet_step (fail)
            refine wpQuiet_nil ?_
            refine wpO_nil ?_
            have HB9 := Lib.hid (bel_step HB1.out hS0)
            go_wp2_with fail
            go_ret
            exact ⟨rfl, HB9.out⟩
end Go.Proofs.YtgkojdbepgonkaaDoor

/- Helpers of the laws of stage 8: Same; Root of no leaves. -/
namespace Go.Proofs.YtgkojdbepgonkaaDoor
set_option linter.unusedVariables false
set_option linter.unusedSimpArgs false
set_option maxRecDepth 8000
open Go.RowKit
attribute [local simp] z32_ne z32_run
attribute [-simp] Tryd.zeroValue34 Tryd.isAgg34 Tryd.sizeOf34
set_option maxHeartbeats 2000000 in
theorem same8_any (A : Option Addr) (n c : Nat) (Ds : List (List Nat)) (B : Option Addr) (m d : Nat) (Es : List (List Nat)) (w : World) (hA : Db w A n c Ds) (hB : Db w B m d Es) (V : Bool) (hV : decide (Ds = Es) = V) :
    Calls Tryd.prog 49 #[.slice A n c, .slice B m d] w fun e w' => e = .returned (.bool V) ∧ Below w.heap.size w w' := by
  have hla := hA.len
  have hlb := hB.len
  have htop := hA.top
  have hcap := hA.cap
  have HA := Lib.hid hA
  have HB := Lib.hid hB
  have HV := Lib.hid hV
  have HK := Lib.hid (show n = Ds.length ∧ m = Es.length from ⟨hla, hlb⟩)
  clear hA hB hV hla hlb
  go_enter Tryd.func49, Tryd.ntmps49
  by_cases hnm : n = m
  · subst hnm
    go_wp2_with fail
    go_loopw [5] (fun s wr => ∃ j : Nat, j ≤ n ∧ s = .int .i64 j ∧ Ds.take j = Es.take j ∧ Below w.heap.size w wr) (fun s _ => n - (intOf s).toNat)
    case atStart => exact ⟨0, Nat.zero_le _, rfl, by rw [List.take_zero, List.take_zero], Below.refl _ _⟩
    case round =>
      obtain ⟨j, hj, rfl, htk, hb⟩ := hrel
      have HT := Lib.hid htk
      have HBw := Lib.hid hb
      clear htk hb
      have hk0 : (0 : Int) ≤ (j : Int) := by omega
      by_cases hlt : j < n
      · have hk1 : (j : Int) < (n : Int) := by omega
        have hjd : j < Ds.length := by have := HK.out; omega
        have hje : j < Es.length := by have := HK.out; omega
        obtain ⟨x, hx⟩ : ∃ x, Ds[j]? = some x := ⟨_, List.getElem?_eq_getElem hjd⟩
        obtain ⟨y, hy⟩ : ∃ y, Es[j]? = some y := ⟨_, List.getElem?_eq_getElem hje⟩
        obtain ⟨hx32, hxb⟩ := HA.out.dig x (List.mem_of_getElem? hx)
        obtain ⟨hy32, hyb⟩ := HB.out.dig y (List.mem_of_getElem? hy)
        obtain ⟨g, o, rfl, hr1⟩ := (HA.out.keep HBw.out).cells _ _ hx
        obtain ⟨g2, o2, rfl, hr2⟩ := (HB.out.keep HBw.out).cells _ _ hy
        have HX := Lib.hid hx
        have HY := Lib.hid hy
        have HR1 := Lib.hid hr1
        have HR2 := Lib.hid hr2
        clear hx hy hr1 hr2
        have hS0 : Below wr.heap.size wr wr.drew := (Below.refl _ _).drew
        haveI := LaterS.inh hS0
        go_upto_region 6 with fail
        refine wp_ordA (Below wr.heap.size wr) [(0, true), (1, true), (2, true), (3, true), (4, true), (5, true), (6, true), (7, true), (8, true)] (by kernel_rfl) (by kernel_rfl) (fun _ _ dt _ _ h => by cases dt <;> exact h) rfl (by kernel_rfl) hS0 ?_
        refine wpO_q rfl (by kernel_rfl) ?_
        go_big_quiet_step (fail)
        refine wpQuiet_nil ?_
        refine wpO_q rfl (by kernel_rfl) ?_
        go_big_quiet_step (fail)
        refine wpQuiet_nil ?_
        refine wpO_val (.pointer (some ⟨g, o + 32 * j, none⟩)) rfl rfl (fun W hW => exec_idxM W g o n c j hlt rfl rfl rfl) ?_
        simp only [Act.put, List.setIfInBounds_toArray, List.set_cons_zero, List.set_cons_succ]
        refine wpO_val (.agg (celB x).toArray) rfl rfl (fun W hW => exec_loadM g (o + 32 * j) hx32 (rangeAt_keep HR1.out hW) rfl rfl) ?_
        simp only [Act.put, List.setIfInBounds_toArray, List.set_cons_zero, List.set_cons_succ]
        refine wpO_q rfl (by kernel_rfl) ?_
        go_big_quiet_step (fail)
        refine wpQuiet_nil ?_
        refine wpO_q rfl (by kernel_rfl) ?_
        go_big_quiet_step (fail)
        refine wpQuiet_nil ?_
        refine wpO_val (.pointer (some ⟨g2, o2 + 32 * j, none⟩)) rfl rfl (fun W hW => exec_idxM W g2 o2 n d j hlt rfl rfl rfl) ?_
        simp only [Act.put, List.setIfInBounds_toArray, List.set_cons_zero, List.set_cons_succ]
        refine wpO_val (.agg (celB y).toArray) rfl rfl (fun W hW => exec_loadM g2 (o2 + 32 * j) hy32 (rangeAt_keep HR2.out hW) rfl rfl) ?_
        simp only [Act.put, List.setIfInBounds_toArray, List.set_cons_zero, List.set_cons_succ]
        refine wpO_val (.bool (!decide (x = y))) rfl rfl (fun W hW => exec_cmpD rfl rfl rfl (run_neD W x y hx32 hy32 hxb hyb)) ?_
        simp only [Act.put, List.setIfInBounds_toArray, List.set_cons_zero, List.set_cons_succ]
        refine wpO_nil ?_
        have HB2 := Lib.hid (bel_step HBw.out hS0)
        by_cases hxy : x = y
        · have HT2 := Lib.hid (show Ds.take (j + 1) = Es.take (j + 1) by rw [List.take_add_one, List.take_add_one, HX.out, HY.out, HT.out, hxy])
          rw [decide_eq_true hxy]
          go_wp2_with fail
          go_roundw
          case rel => exact ⟨j + 1, hlt, by go_num, HT2.out, HB2.out⟩
          case measure => simp [intOf]; omega
        · obtain rfl : V = false := by
            rw [← HV.out, decide_eq_false]
            intro e
            have h1 := HX.out
            rw [e, HY.out] at h1
            injection h1 with h1
            exact hxy h1.symm
          rw [decide_eq_false hxy]
          go_wp2_with fail
          go_ret
          exact ⟨rfl, HB2.out⟩
      · obtain rfl : V = true := by
          rw [← HV.out, decide_eq_true]
          have h1 := HT.out
          rwa [List.take_of_length_le (by have := HK.out; omega), List.take_of_length_le (by have := HK.out; omega)] at h1
        have hk1 : ¬ ((j : Int) < (n : Int)) := by omega
        go_wp2_with fail
        go_ret
        exact ⟨rfl, HBw.out⟩
  · obtain rfl : V = false := by
      rw [← HV.out, decide_eq_false]
      intro e
      have := HK.out
      rw [e] at this
      omega
    have hni : ¬ ((n : Int) = (m : Int)) := by omega
    go_wp2_with fail
    go_ret
    exact ⟨rfl, Below.refl _ _⟩
/-- the root of no leaves -/
theorem root_none (w : World) : Calls Tryd.prog 45 #[.slice none 0 0] w fun e w' => e = .returned (.tuple #[.agg (celB (List.replicate 32 0)).toArray, .int .i64 1]) ∧ Below w.heap.size w w' := by
  go_enter Tryd.func45, Tryd.ntmps45
  go_upto_region 1 with fail
  refine wp_named1 (fun w1 hb1 g0 hlt1 => ?_)
  have H0 : Hid (RowB w1 34 w.heap.size (List.replicate 32 0)) := Lib.hid g0
  have HB1 := Lib.hid hb1
  clear g0 hb1
  go_upto_region 2 with fail
  refine wp_region_lit ?_
  refine wpList_val rfl _ w1 (exec_buildZ w1 rfl) ?_
  simp only [Act.put, List.setIfInBounds_toArray, List.set_cons_zero, List.set_cons_succ]
  refine wpList_skip0 rfl _ (exec_storeD List.length_replicate List.length_replicate H0.out rfl rfl rfl) ?_
  have HB2 := Lib.hid (bel_setRow HB1.out (Nat.le_refl _) (celB (List.replicate 32 0)).toArray)
  have H02 := Lib.hid (H0.out.row (List.replicate 32 0))
  clear H0 HB1
  generalize w1.setRow w.heap.size (celB (List.replicate 32 0)).toArray = w2 at *
  simp only [Act.put]
  go_wp2_with fail
  refine bodyPost_ret (v := .tuple #[.agg (celB (List.replicate 32 0)).toArray, .int .i64 1]) ?_ rfl ⟨rfl, HB2.out⟩
  exact results_row_tmp rfl _ _ w.heap.size 34 _ (0, 0) _ _ rfl rfl H02.out Tryd.underlying34 rfl (dig_size List.length_replicate)
end Go.Proofs.YtgkojdbepgonkaaDoor

/- Own growing lists of byte lists; the examples' leaves. -/
namespace Go.Proofs.YtgkojdbepgonkaaDoor
set_option linter.unusedVariables false
set_option linter.unusedSimpArgs false
set_option maxRecDepth 8000
open Go.RowKit
theorem bs_info : (Tryd.prog.info? 29).map (fun i => (i.zero, i.size, i.bytes)) = some (some (.slice none 0 0), 1, 24) := by kernel_rfl
/-- a slice of byte slices of the call's own -/
def OwP (w : World) (base : Nat) (v : Value) (n : Nat) (Ps : List (List Nat)) : Prop :=
  ∃ vals : List Value, w.ownsRow base 29 1 v n vals ∧ Ps.length = n ∧
    ∀ (i : Nat) (L : List Nat), Ps[i]? = some L → ∃ B m d, vals[i]? = some (Value.slice B m d) ∧ Sb w B m d L ∧ ∀ ad, B = some ad → L ≠ [] → v.ownBlock ≠ some ad.block
theorem Sb.grown {w w' : World} {B : Option Addr} {m d : Nat} {L : List Nat} {row : Option Nat} (h : Sb w B m d L) (hg : w.grownBy w' row) (hne : ∀ ad, B = some ad → L ≠ [] → row ≠ some ad.block) : Sb w' B m d L :=
  ⟨h.len, h.cap, h.top, h.nil, h.byte, fun i z hz => by
    obtain ⟨ad, e, hc⟩ := h.cells i z hz
    have hL : L ≠ [] := fun e => by rw [e] at hz; simp at hz
    have hb : (ad.add i).block = ad.block := by unfold Addr.add; split <;> rfl
    exact ⟨ad, e, (World.cell?_of_block (hg.block _ (cell_lt' hc) (fun e2 => hne ad e hL (by rw [← hb]; exact e2.symm)))).trans hc⟩⟩
theorem OwP.keep {w w' : World} {base : Nat} {v : Value} {n : Nat} {Ps : List (List Nat)} (h : OwP w base v n Ps) (hb : Below w.heap.size w w') : OwP w' base v n Ps := by
  obtain ⟨vals, h1, h2, h3⟩ := h
  exact ⟨vals, ⟨h1.1, by
    rcases h1.2 with hn | ⟨g, cap, cur, rfl, hbs, hgg, rest⟩
    · exact .inl hn
    · exact .inr ⟨g, cap, cur, rfl, hbs, heap_keep hgg hb, rest⟩⟩, h2, fun i L hL => by obtain ⟨B, m, d, k1, k2, k3⟩ := h3 i L hL; exact ⟨B, m, d, k1, k2.keep hb, k3⟩⟩
theorem OwP.made (w : World) (base : Nat) (hb : base ≤ w.heap.size) : OwP (w.alloc (.cells #[] 29)) base (.slice (some ⟨w.heap.size, 0, none⟩) 0 0) 0 [] :=
  ⟨[], ⟨rfl, .inr ⟨w.heap.size, 0, #[], rfl, hb, heap_new w _, Nat.le_refl _, by unfold maxLen; omega, rfl, rfl⟩⟩, rfl, fun i L hL => by simp at hL⟩
theorem run_appendPs {w : World} (ty : TypeId) {base : Nat} {v : Value} {n : Nat} {Ps : List (List Nat)} (hown : OwP w base v n Ps) (g c : Nat) (B : Option Addr) (m d : Nat) (L : List Nat) (hy : One w g 29 (.slice B m d)) (hl : Sb w B m d L) (hne : ∀ ad, B = some ad → L ≠ [] → v.ownBlock ≠ some ad.block) (hn : n ≤ 65536) (hbase : base ≤ w.heap.size) :
    ∃ v' w', (Builtin.append_ #[23, 23] ty #[v, .slice (some ⟨g, 0, none⟩) 1 c]).run Tryd.prog w = .ok v' w' ∧ OwP w' base v' (n + 1) (Ps ++ [L]) ∧ w.grownBy w' v.ownBlock ∧ (∀ k, v'.ownBlock = some k → v.ownBlock = some k ∨ w.heap.size ≤ k) := by
  obtain ⟨i, hi, hz, hs2, hb⟩ := info_parts bs_info
  obtain ⟨vals, h1, h2, h3⟩ := hown
  have hvl : vals.length = n := by simpa using h1.1
  obtain ⟨g', cap, w', hrun, hown', hg, hat, hlt⟩ := run_append_lies (P := Tryd.prog) w 23 ty base 29 i (.slice none 0 0) 1 24 Tryd.underlying23 hi hz hs2 hb rfl (by omega) v n vals h1 ⟨g, 0, none⟩ 1 c [.slice B m d] rfl
    (by
      intro j u hj
      rw [ad_base]
      match j, hj with
      | 0, hj => injection hj with hj; subst hj; exact hy.c
      | j + 1, hj => simp at hj)
    (by
      intro u hu
      simp at hu
      subst hu
      rfl) (by omega) (by unfold maxLen; omega) (by omega) hbase w.heap.size rfl
  have hcell : ∀ (B : Option Addr) (m d : Nat) (L : List Nat), Sb w B m d L → ∀ ad, B = some ad → L ≠ [] → ad.block < w.heap.size := by
    intro B m d L hs ad e hL
    obtain ⟨z, hz⟩ : ∃ z, L[0]? = some z := ⟨L[0]'(List.length_pos_iff.2 hL), List.getElem?_eq_getElem _⟩
    obtain ⟨ad', e', hc⟩ := hs.cells 0 z hz
    rw [e] at e'
    injection e' with e'
    subst e'
    have := cell_lt' hc
    have hb : (ad.add 0).block = ad.block := by unfold Addr.add; split <;> rfl
    omega
  refine ⟨_, w', hrun, ⟨vals ++ [.slice B m d], hown', by simp [h2], fun k M hM => ?_⟩, hg, fun k hk => ?_⟩
  · by_cases hk : k < n
    · rw [List.getElem?_append_left (by omega)] at hM
      obtain ⟨B', m', d', k1, k2, k3⟩ := h3 k M hM
      refine ⟨B', m', d', by rw [List.getElem?_append_left (by omega)]; exact k1, k2.grown hg k3, fun ad e hL e2 => ?_⟩
      injection e2 with e2
      rcases hat with hat | hat
      · exact k3 ad e hL (by rw [hat, ← e2])
      · have := hcell B' m' d' M k2 ad e hL
        have e' : g' = ad.block := e2
        omega
    · rw [List.getElem?_append_right (by omega)] at hM
      have hk0 : k - Ps.length = 0 := by
        have := (List.getElem?_eq_some_iff.1 hM).1
        simp at this
        omega
      rw [hk0] at hM
      injection hM with hM
      subst hM
      refine ⟨B, m, d, by rw [List.getElem?_append_right (by omega), hvl, ← h2, hk0]; rfl, hl.grown hg hne, fun ad e hL e2 => ?_⟩
      injection e2 with e2
      rcases hat with hat | hat
      · exact hne ad e hL (by rw [hat, ← e2])
      · have := hcell B m d L hl ad e hL
        have e' : g' = ad.block := e2
        omega
  · have e : g' = k := by injection hk
    rcases hat with hat | hat
    · exact .inl (by rw [hat, e])
    · exact .inr (by omega)
theorem wpList_appendPs {ops : Array Oper} {rest : List Oper} {o : Oper} {a : Act} {Q : Exit → Act → World → Prop} {w : World} (hgd : o.guard = none) (s x : Operand)
    (ho : o.op = .call { callee := .builtin .append, args := #[s, x], argTypes := #[23, 23] }) (base : Nat) (v : Value) (n : Nat) (Ps : List (List Nat)) (hs : a.eval s = v) (hown : OwP w base v n Ps)
    (g c : Nat) (B : Option Addr) (m d : Nat) (L : List Nat) (hx : a.eval x = .slice (some ⟨g, 0, none⟩) 1 c) (hy : One w g 29 (.slice B m d)) (hl : Sb w B m d L) (hne : ∀ ad, B = some ad → L ≠ [] → v.ownBlock ≠ some ad.block) (hn : n ≤ 65536) (hbase : base ≤ w.heap.size)
    (h : ∀ v' w', OwP w' base v' (n + 1) (Ps ++ [L]) → w.grownBy w' v.ownBlock → (∀ k, v'.ownBlock = some k → v.ownBlock = some k ∨ w.heap.size ≤ k) → wpList Tryd.prog ops Q rest (a.put o.dst v') w') : wpList Tryd.prog ops Q (o :: rest) a w := by
  refine wpList_plain hgd fun K hK => ?_
  obtain ⟨v', w', hrun, h1, h2, h3⟩ := run_appendPs o.type hown g c B m d L hy hl hne hn hbase
  unfold Oper.wp
  simp [execOp, ho, resolve, invoke, builtin, hs, hx, hrun, Result.andThen]
  exact hK _ _ (h v' w' h1 h2 h3)
theorem hOp_appendPs {o : Oper} {a : Act} {w : World} {K : Value → World → Prop} (s x : Operand)
    (ho : o.op = .call { callee := .builtin .append, args := #[s, x], argTypes := #[23, 23] }) (base : Nat) (v : Value) (n : Nat) (Ps : List (List Nat)) (hs : a.eval s = v) (hown : OwP w base v n Ps)
    (g c : Nat) (B : Option Addr) (m d : Nat) (L : List Nat) (hx : a.eval x = .slice (some ⟨g, 0, none⟩) 1 c) (hy : One w g 29 (.slice B m d)) (hl : Sb w B m d L) (hne : ∀ ad, B = some ad → L ≠ [] → v.ownBlock ≠ some ad.block) (hn : n ≤ 65536) (hbase : base ≤ w.heap.size)
    (h : ∀ v' w', OwP w' base v' (n + 1) (Ps ++ [L]) → w.grownBy w' v.ownBlock → (∀ k, v'.ownBlock = some k → v.ownBlock = some k ∨ w.heap.size ≤ k) → K v' w') : hOp Tryd.prog o K a w := by
  obtain ⟨v', w', hrun, h1, h2, h3⟩ := run_appendPs o.type hown g c B m d L hy hl hne hn hbase
  unfold hOp
  simp [execOp, ho, resolve, invoke, builtin, hs, hx, hrun, Result.andThen]
  exact h v' w' h1 h2 h3
theorem OwP.below {w w' : World} {base : Nat} {v : Value} {n : Nat} {Ps : List (List Nat)} (h : OwP w base v n Ps) (hg : w.grownBy w' v.ownBlock) (hbase : base ≤ w.heap.size) : Below base w w' := by
  obtain ⟨vals, h1, _, _⟩ := h
  exact ⟨hg.os, hg.tape, hg.output, hg.size, fun k hk => hg.block k (by omega) (fun e => by have := (World.ownsRow.lt h1 k e.symm).1; omega)⟩
theorem OwP.lt {w : World} {base : Nat} {v : Value} {n : Nat} {Ps : List (List Nat)} (h : OwP w base v n Ps) {k : Nat} (hk : v.ownBlock = some k) : base ≤ k ∧ k < w.heap.size := by
  obtain ⟨vals, h1, _, _⟩ := h
  exact World.ownsRow.lt h1 k hk
/-- read as a list of byte lists -/
theorem OwP.pb {w : World} {base : Nat} {v : Value} {n : Nat} {Ps : List (List Nat)} (h : OwP w base v n Ps) : ∃ A c, v = .slice A n c ∧ Pb w A n c Ps := by
  obtain ⟨vals, h1, h2, h3⟩ := h
  have hvl : vals.length = n := by simpa using h1.1
  have hro := h1
  rcases h1.2 with ⟨rfl, rfl⟩ | ⟨g, cap, cur, rfl, hbs, hgg, k1, k2, _⟩
  · obtain rfl : Ps = [] := List.length_eq_zero_iff.1 h2
    exact ⟨none, 0, rfl, ⟨rfl, Nat.le_refl _, Nat.zero_le _, fun _ => rfl, fun i p hp => by simp at hp⟩⟩
  · unfold maxLen at k2
    refine ⟨_, cap, rfl, ⟨h2.symm, k1, by omega, (fun e => by cases e), fun i p hp => ?_⟩⟩
    obtain ⟨B, m, d, e1, e2, _⟩ := h3 i p hp
    refine ⟨⟨g, 0, none⟩, B, m, d, rfl, ?_, e2⟩
    rw [ad_base]
    have hl := (List.getElem?_eq_some_iff.1 e1).1
    rw [World.ownsRow.cellAt hro i (by omega), e1]
/-- the leaves a, b, c .. -/
def textsN (n : Nat) : List (List Nat) := (List.range n).map fun i => [97 + i % 26]
theorem textsN_succ (n : Nat) : textsN (n + 1) = textsN n ++ [[97 + n % 26]] := by unfold textsN; rw [List.range_succ, List.map_append]; rfl
set_option maxHeartbeats 1000000 in
theorem texts_any (n : Nat) (w : World) (hn : n ≤ 1000) :
    Calls Tryd.prog 42 #[.int .i64 (n : Int)] w fun e w' => ∃ v, e = .returned v ∧ OwP w' w.heap.size v n (textsN n) ∧ Below w.heap.size w w' := by
  go_enter Tryd.func42, Tryd.ntmps42
  have h0 := OwP.made w w.heap.size (Nat.le_refl _)
  have hb0 : Below w.heap.size w (w.alloc (.cells #[] 29)) := (Below.refl _ _).alloc (Nat.le_refl _) _
  go_wp2_with fail
  generalize w.alloc (.cells #[] 29) = w1 at *
  have H0 := Lib.hid h0
  have HB0 := Lib.hid hb0
  clear h0 hb0
  go_loopw [3, 4] (fun v s wr => ∃ j : Nat, j ≤ n ∧ s = .int .i64 j ∧ OwP wr w.heap.size v j (textsN j) ∧ Below w.heap.size w wr) (fun _ s _ => n - (intOf s).toNat)
  case atStart => exact ⟨0, Nat.zero_le _, rfl, H0.out, HB0.out⟩
  case round =>
    obtain ⟨j, hj, rfl, ho, hb⟩ := hrel
    have HO := Lib.hid ho
    have HB := Lib.hid hb
    clear ho hb H0 HB0
    by_cases hlt : j < n
    · have hk1 : (j : Int) < (n : Int) := by omega
      have hcast : (97 : Int) + (j : Int) % 26 = ((97 + j % 26 : Nat) : Int) := by omega
      have hb2 : Below wr.heap.size wr ((wr.alloc (.cells #[.int .u8 ((97 : Int) + (j : Int) % 26)] 5)).alloc (.cells #[.slice (some ⟨wr.heap.size, 0, none⟩) 1 1] 29)) := ((Below.refl _ _).alloc (Nat.le_refl _) _).alloc (by simp) _
      have hg1 : ((wr.alloc (.cells #[.int .u8 ((97 : Int) + (j : Int) % 26)] 5)).alloc (.cells #[.slice (some ⟨wr.heap.size, 0, none⟩) 1 1] 29)).heap[wr.heap.size]? = some (.cells #[.int .u8 ((97 : Int) + (j : Int) % 26)] 5 (0, 0)) := heap_old _ (heap_new wr _)
      have hg2 : One ((wr.alloc (.cells #[.int .u8 ((97 : Int) + (j : Int) % 26)] 5)).alloc (.cells #[.slice (some ⟨wr.heap.size, 0, none⟩) 1 1] 29)) (wr.heap.size + 1) 29 (.slice (some ⟨wr.heap.size, 0, none⟩) 1 1) := by
        have h := heap_new (wr.alloc (.cells #[.int .u8 ((97 : Int) + (j : Int) % 26)] 5)) (.cells #[.slice (some ⟨wr.heap.size, 0, none⟩) 1 1] 29)
        rwa [alloc_sz] at h
      have HB2 := Lib.hid hb2
      have HG1 := Lib.hid hg1
      have HG2 := Lib.hid hg2
      have HC := Lib.hid hcast
      clear hb2 hg1 hg2 hcast
      go_wp2_with (at_builtin; refine wpList_appendPs rfl (.tmp 11) (.tmp 17) rfl w.heap.size _ j (textsN j) rfl (HO.out.keep HB2.out) (wr.heap.size + 1) 1 (some ⟨wr.heap.size, 0, none⟩) 1 1 [97 + j % 26] rfl HG2.out ⟨rfl, Nat.le_refl _, by omega, (fun e => by cases e), (fun z hz => by rw [List.mem_singleton.1 hz]; omega), fun i z hz => ⟨⟨wr.heap.size, 0, none⟩, rfl, by
          match i, hz with
          | 0, hz =>
            injection hz with hz
            subst hz
            have := cells_at HG1.out 0 (v := .int .u8 ((97 : Int) + (j : Int) % 26)) rfl
            rw [HC.out] at this
            exact this
          | i + 1, hz => simp at hz⟩⟩ (fun ad e _ e2 => by
            injection e with e
            have := (HO.out.lt e2).2
            rw [← e] at this
            exact Nat.lt_irrefl _ this) (by omega) (by have := HB.out.size; have := HB2.out.size; omega) ?_; intro v' w' ho2 hg2 _; have HO2 := Lib.hid ho2; have HBB := Lib.hid ((HB.out.trans (HB2.out.mono HB.out.size)).trans ((HO.out.keep HB2.out).below hg2 (by have := HB.out.size; have := HB2.out.size; omega))); clear ho2 hg2)
      go_roundw
      case rel => exact ⟨j + 1, hlt, by go_num, by rw [textsN_succ]; exact HO2.out, HBB.out⟩
      case measure => simp [intOf]; omega
    · obtain rfl : j = n := by omega
      have hk1 : ¬ ((j : Int) < (j : Int)) := by omega
      go_wp2_with fail
      go_ret
      exact ⟨_, rfl, HO.out, HB.out⟩
end Go.Proofs.YtgkojdbepgonkaaDoor
