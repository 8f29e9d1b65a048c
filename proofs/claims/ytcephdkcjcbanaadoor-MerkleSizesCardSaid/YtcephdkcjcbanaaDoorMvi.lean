/- The walk of MerkleSizes. -/
import Derived.Test.YtcephdkcjcbanaaDoorMvl
namespace Go.Proofs.YtcephdkcjcbanaaDoor
set_option maxRecDepth 8000
set_option linter.unusedVariables false
set_option linter.unusedSimpArgs false
open Go.RowKit
attribute [local simp] z32_ne z32_run
attribute [-simp] Tryd.zeroValue31 Tryd.isAgg31 Tryd.sizeOf31
set_option maxHeartbeats 8000000 in
theorem merkleSizes_any (A : Option Addr) (n c : Nat) (Ls : List (List Nat)) (bt N : Nat) (w : World) (hP : Pb w A n c Ls) (hbt : bt < 2 ^ 64) (hN : N ≤ 255) (hG : Gl w) :
    Calls Tryd.prog 8 #[.agg #[.slice A n c, .int .u64 (bt : Int)], .int .u8 (N : Int)] w fun e w' => e = .returned (.bool true) ∧ Below w.heap.size w w' := by
  have HG := Lib.hid hG
  have HP0 := Lib.hid hP
  clear hP hG
  go_enter Tryd.func8, Tryd.ntmps8
  go_upto_region 1 with fail
  refine wp_named1 (fun V1 hb g0 hlt => ?_)
  have B0 := Lib.hid hb
  have FQ := Lib.hid g0
  clear hb g0 hlt
  refine wp_region_lit ?_
  refine wpList_call (by kernel_rfl) 9 Tryd.func9 (by kernel_rfl) (by kernel_rfl) _ _ #[] rfl (by kernel_rfl) ?_
  refine (sanity8_any V1 (HG.out.keep B0.out)).mono ?_
  rintro e V2 ⟨rfl, hb⟩
  have B1 := Lib.hid hb
  clear hb 
  refine ⟨_, rfl, ?_⟩
  simp only [Act.put, List.setIfInBounds_toArray, List.set_cons_zero, List.set_cons_succ]
  refine wpList_run (by kernel_rfl) (.bool true) V2 rfl ?_
  simp only [Act.put, List.setIfInBounds_toArray, List.set_cons_zero, List.set_cons_succ]
  refine wpList_nil ?_
  go_upto_region 2 with fail
  refine wp_region_lit ?_
  refine wpList_run (by kernel_rfl) (.agg #[.slice A n c, .int .u64 (bt : Int)]) V2 (exec_loadQ _ _ _ rfl rfl (heap_keep FQ.out B1.out)) ?_
  simp only [Act.put, List.setIfInBounds_toArray, List.set_cons_zero, List.set_cons_succ]
  have C0_2 := Lib.hid (bel_step B0.out B1.out)
  refine wpList_call (by kernel_rfl) 10 Tryd.func10 (by kernel_rfl) (by kernel_rfl) _ _ #[.agg #[.slice A n c, .int .u64 (bt : Int)]] rfl (by kernel_rfl) ?_
  refine (madeQ_as A n c Ls bt V2 (HP0.out.keep C0_2.out) hbt).mono ?_
  rintro e V3 ⟨ad, m, d, I, k, f, ml, is, rfl, hp, hi, hm, hs, hinc, hb⟩
  have B2 := Lib.hid hb
  obtain ⟨hm1, hm2, hkm, hmd⟩ := hm
  have HSM := Lib.hid hs
  have HINC := Lib.hid hinc
  have HML := Lib.hid hp.len
  have HKL := Lib.hid hi.len
  clear hs hinc
  have HP := Lib.hid hp
  have HI := Lib.hid hi
  clear hb hp hi
  refine ⟨_, rfl, ?_⟩
  simp only [Act.put, List.setIfInBounds_toArray, List.set_cons_zero, List.set_cons_succ]
  refine wpList_run (by kernel_rfl) (.tuple #[.slice (some ad) m d, .slice I k f]) V3 rfl ?_
  simp only [Act.put, List.setIfInBounds_toArray, List.set_cons_zero, List.set_cons_succ]
  refine wpList_run (by kernel_rfl) (.slice (some ad) m d) V3 rfl ?_
  simp only [Act.put, List.setIfInBounds_toArray, List.set_cons_zero, List.set_cons_succ]
  refine wpList_run (by kernel_rfl) (.slice I k f) V3 rfl ?_
  simp only [Act.put, List.setIfInBounds_toArray, List.set_cons_zero, List.set_cons_succ]
  refine wpList_run (by kernel_rfl) (.slice (some ad) m d) V3 rfl ?_
  simp only [Act.put, List.setIfInBounds_toArray, List.set_cons_zero, List.set_cons_succ]
  refine wpList_run (by kernel_rfl) (.slice I k f) V3 rfl ?_
  simp only [Act.put, List.setIfInBounds_toArray, List.set_cons_zero, List.set_cons_succ]
  refine wpList_nil ?_
  obtain ⟨at_, hat⟩ : ∃ a, N % m = a := ⟨_, rfl⟩
  have hatm : at_ < m := by rw [← hat]; exact Nat.mod_lt _ (by omega)
  have HAT := Lib.hid hat
  clear hat
  go_upto_region 3 with fail
  refine wp_region_lit ?_
  refine wpList_run (by kernel_rfl) (.int .u8 (N : Int)) V3 rfl ?_
  simp only [Act.put, List.setIfInBounds_toArray, List.set_cons_zero, List.set_cons_succ]
  refine wpList_run (by kernel_rfl) (.int .i64 ((N : Nat) : Int)) V3 (exec_cvt8 N (by omega) rfl rfl _) ?_
  simp only [Act.put, List.setIfInBounds_toArray, List.set_cons_zero, List.set_cons_succ]
  refine wpList_run (by kernel_rfl) (.slice (some ad) m d) V3 rfl ?_
  simp only [Act.put, List.setIfInBounds_toArray, List.set_cons_zero, List.set_cons_succ]
  refine wpList_run (by kernel_rfl) (.int .i64 ((m : Nat) : Int)) V3 (by first | rfl | (unfold execOp; go_simp)) ?_
  simp only [Act.put, List.setIfInBounds_toArray, List.set_cons_zero, List.set_cons_succ]
  refine wpList_run (by kernel_rfl) (.int .i64 ((at_ : Nat) : Int)) V3 (exec_remE N m at_ HAT.out (by omega) (by omega) (by omega) rfl rfl rfl _) ?_
  simp only [Act.put, List.setIfInBounds_toArray, List.set_cons_zero, List.set_cons_succ]
  refine wpList_mk (by kernel_rfl) #[] 3 0 0 (exec_boxI0 _ rfl) ?_
  intro g35 V4 hge h0 hb
  have B3 := Lib.hid hb
  have MZ := Lib.hid ((show OwZ V4 V3.heap.size (.slice (some ⟨g35, 0, none⟩) 0 0) 0 [] from OwZ.nil1 h0 hge))
  clear hge h0 hb
  simp only [Act.put, List.setIfInBounds_toArray, List.set_cons_zero, List.set_cons_succ]
  refine wpList_run (by kernel_rfl) (.int .i64 ((at_ : Nat) : Int)) V4 rfl ?_
  simp only [Act.put, List.setIfInBounds_toArray, List.set_cons_zero, List.set_cons_succ]
  refine wpList_run (by kernel_rfl) (.slice (some ⟨g35, 0, none⟩) 0 0) V4 rfl ?_
  simp only [Act.put, List.setIfInBounds_toArray, List.set_cons_zero, List.set_cons_succ]
  refine wpList_run (by kernel_rfl) (.int .i64 0) V4 rfl ?_
  simp only [Act.put, List.setIfInBounds_toArray, List.set_cons_zero, List.set_cons_succ]
  refine wpList_nil ?_
  go_wp2_with fail
  go_loopw [9, 11] (fun v s wr => ∃ j : Nat, j ≤ m ∧ s = .int .i64 j ∧ OwZ wr V3.heap.size v j ((List.range j).map fun i : Nat => (i : Int)) ∧ Below V3.heap.size V3 wr) (fun _ s _ => m - (intOf s).toNat)
  case atStart => exact ⟨0, Nat.zero_le _, rfl, MZ.out, B3.out⟩
  case round =>
    obtain ⟨wo, rfl⟩ : ∃ wo : World, wo = wr := ⟨_, rfl⟩
    obtain ⟨j, hj, rfl, hoz, hb⟩ := hrel
    have hbr := hb
    clear B3 MZ
    have B3 := Lib.hid hbr
    clear hbr
    have HOZ := Lib.hid hoz
    clear hb hoz
    by_cases hlt : j < m
    · have hlt2 : (j : Int) < (m : Int) := by omega
      have HRS := Lib.hid (rangeI_succ j)
      go_upto_region 7 with fail
      refine wp_region_lit ?_
      refine wpList_val rfl _ wo rfl ?_
      simp only [Act.put, List.setIfInBounds_toArray, List.set_cons_zero, List.set_cons_succ]
      refine wpList_val rfl (.int .i64 ((j : Nat) : Int)) wo rfl ?_
      simp only [Act.put, List.setIfInBounds_toArray, List.set_cons_zero, List.set_cons_succ]
      refine wpList_mk (by kernel_rfl) #[.int .i64 ((j : Nat) : Int)] 3 1 1 (run_buildI1 _ rfl rfl _) ?_
      intro g44 X7 hge h0 hb7
      simp only [Act.put, List.setIfInBounds_toArray, List.set_cons_zero, List.set_cons_succ]
      refine wpList_appendZ rfl (.tmp 42) (.tmp 44) rfl V3.heap.size _ j _ rfl (HOZ.out.keep hb7) g44 1 (j : Int) rfl h0 (by omega) (by have h1 := B3.out.size; have h2 := hb7.size; omega) ?_
      intro v' w' ho2 hg2
      have HBB := Lib.hid ((B3.out.trans (hb7.mono B3.out.size)).trans ((HOZ.out.keep hb7).below hg2 (by have h1 := B3.out.size; have h2 := hb7.size; omega)))
      have HO2 := Lib.hid ho2
      clear ho2 hg2 hge h0 hb7
      simp only [Act.put, List.setIfInBounds_toArray, List.set_cons_zero, List.set_cons_succ]
      refine wpList_val rfl v' w' rfl ?_
      simp only [Act.put, List.setIfInBounds_toArray, List.set_cons_zero, List.set_cons_succ]
      refine wpList_nil ?_
      have hwj : IntKind.i64.wrap ((j : Int) + 1) = ((j + 1 : Nat) : Int) := by rw [IntKind.wrap_i64]; omega
      go_wp2_with fail
      go_roundw
      case rel => exact ⟨j + 1, hlt, by first | rfl | go_num, by rw [HRS.out]; exact HO2.out, HBB.out⟩
      case measure => simp [intOf]; omega
    · have hlt2 : ¬ (j : Int) < (m : Int) := by omega
      obtain rfl : j = m := by omega
      obtain ⟨al, h_al⟩ : ∃ x, ((List.range j).map fun i : Nat => (i : Int)) = x := ⟨_, rfl⟩
      have HAL := Lib.hid h_al
      clear h_al
      have HOZ2 := Lib.hid (HAL.out ▸ HOZ.out)
      clear HOZ
      obtain ⟨aA, ac, rfl, hib⟩ := HOZ2.out.ib
      have HIA := Lib.hid hib
      clear hib HOZ2
      have HINA := Lib.hid (show incF 0 (j : Int) al = true by rw [← HAL.out]; exact rangeI_inc j)
      obtain ⟨pt, h_pt⟩ : ∃ x, digsN ml (sibN 0 j (at_ : Int)) = x := ⟨_, rfl⟩
      have HPT := Lib.hid h_pt
      clear h_pt
      obtain ⟨o1, h_o1⟩ : ∃ x, digsN ml (closedN 0 j [(at_ : Int)]) = x := ⟨_, rfl⟩
      have HO1 := Lib.hid h_o1
      clear h_o1
      have HPERM := Lib.hid (show o1.Perm pt by rw [← HO1.out, ← HPT.out]; exact open_one hatm)
      obtain ⟨pl, h_pl⟩ : ∃ x, pt.length = x := ⟨_, rfl⟩
      have HPL := Lib.hid h_pl
      clear h_pl
      have HPL2 := Lib.hid (show o1.length = pl by rw [HPERM.out.length_eq, HPL.out])
      have hpl : pl ≤ 40 := by have h1 := sibN_len j hm1 0 (at_ : Int); have h2 := HPL.out; rw [← HPT.out] at h2; unfold digsN at h2; rw [List.length_map] at h2; omega
      obtain ⟨os, h_os⟩ : ∃ x, digsN ml (closedN 0 j is) = x := ⟨_, rfl⟩
      have HOS := Lib.hid h_os
      clear h_os
      obtain ⟨sl, h_sl⟩ : ∃ x, os.length = x := ⟨_, rfl⟩
      have HSL := Lib.hid h_sl
      clear h_sl
      have hsl : sl ≤ 40 := by have h1 := closedN_len j hm1 0 is; have h2 := HSL.out; rw [← HOS.out] at h2; unfold digsN at h2; rw [List.length_map] at h2; omega
      go_upto_region 8 with fail
      refine wp_region_lit ?_
      refine wpList_run (by kernel_rfl) (.slice (some ad) j d) wo rfl ?_
      simp only [Act.put, List.setIfInBounds_toArray, List.set_cons_zero, List.set_cons_succ]
      refine wpList_run (by kernel_rfl) (.int .i64 ((at_ : Nat) : Int)) wo rfl ?_
      simp only [Act.put, List.setIfInBounds_toArray, List.set_cons_zero, List.set_cons_succ]
      have C0_3 := Lib.hid (bel_step C0_2.out B2.out)
      have C0_4 := Lib.hid (bel_step C0_3.out B3.out)
      refine wpList_call (by kernel_rfl) 16 Tryd.func16 (by kernel_rfl) (by kernel_rfl) _ _ #[.slice (some ad) j d, .int .i64 ((at_ : Nat) : Int)] rfl (by kernel_rfl) ?_
      refine (witness_n (some ad) j d ml (at_ : Int) wo (HP.out.keep B3.out) hm1 (by omega) HSM.out (HG.out.keep C0_4.out) (by omega) pt HPT.out pl HPL.out).mono ?_
      rintro e V5 ⟨wA, wc, rfl, hd, hb⟩
      have B4 := Lib.hid hb
      have HWT := Lib.hid hd
      clear hb hd
      refine ⟨_, rfl, ?_⟩
      simp only [Act.put, List.setIfInBounds_toArray, List.set_cons_zero, List.set_cons_succ]
      refine wpList_run (by kernel_rfl) (.tuple #[.slice wA pl wc, .int .i64 0]) V5 rfl ?_
      simp only [Act.put, List.setIfInBounds_toArray, List.set_cons_zero, List.set_cons_succ]
      refine wpList_run (by kernel_rfl) (.slice wA pl wc) V5 rfl ?_
      simp only [Act.put, List.setIfInBounds_toArray, List.set_cons_zero, List.set_cons_succ]
      refine wpList_run (by kernel_rfl) (.int .i64 0) V5 rfl ?_
      simp only [Act.put, List.setIfInBounds_toArray, List.set_cons_zero, List.set_cons_succ]
      refine wpList_run (by kernel_rfl) (.slice wA pl wc) V5 rfl ?_
      simp only [Act.put, List.setIfInBounds_toArray, List.set_cons_zero, List.set_cons_succ]
      refine wpList_run (by kernel_rfl) (.int .i64 0) V5 rfl ?_
      simp only [Act.put, List.setIfInBounds_toArray, List.set_cons_zero, List.set_cons_succ]
      refine wpList_nil ?_
      go_upto_region 9 with fail
      refine wp_region_lit ?_
      refine wpList_run (by kernel_rfl) (.slice (some ad) j d) V5 rfl ?_
      simp only [Act.put, List.setIfInBounds_toArray, List.set_cons_zero, List.set_cons_succ]
      refine wpList_run (by kernel_rfl) (.int .i64 ((at_ : Nat) : Int)) V5 rfl ?_
      simp only [Act.put, List.setIfInBounds_toArray, List.set_cons_zero, List.set_cons_succ]
      refine wpList_mk (by kernel_rfl) #[.int .i64 ((at_ : Nat) : Int)] 3 1 1 (run_buildI1 _ rfl rfl _) ?_
      intro g55 V6 hge h0 hb
      have B5 := Lib.hid hb
      have M55 := Lib.hid (ib_cells1 h0)
      clear hge h0 hb
      simp only [Act.put, List.setIfInBounds_toArray, List.set_cons_zero, List.set_cons_succ]
      have C3_5 := Lib.hid (bel_step B3.out B4.out)
      have C3_6 := Lib.hid (bel_step C3_5.out B5.out)
      have C0_5 := Lib.hid (bel_step C0_4.out B4.out)
      have C0_6 := Lib.hid (bel_step C0_5.out B5.out)
      refine wpList_call (by kernel_rfl) 13 Tryd.func13 (by kernel_rfl) (by kernel_rfl) _ _ #[.slice (some ad) j d, .slice (some ⟨g55, 0, none⟩) 1 1] rfl (by kernel_rfl) ?_
      refine (open_n (some ad) j d ml (some ⟨g55, 0, none⟩) 1 1 [(at_ : Int)] V6 (HP.out.keep C3_6.out) M55.out hm1 (by omega) HSM.out (HG.out.keep C0_6.out) (one_inc hatm) o1 HO1.out pl HPL2.out).mono ?_
      rintro e V7 ⟨hoo, hooc, rfl, hd, hb⟩
      have B6 := Lib.hid hb
      have HOO := Lib.hid hd
      clear hb hd
      refine ⟨_, rfl, ?_⟩
      simp only [Act.put, List.setIfInBounds_toArray, List.set_cons_zero, List.set_cons_succ]
      refine wpList_run (by kernel_rfl) (.tuple #[.agg #[.slice hoo pl hooc], .int .i64 0]) V7 rfl ?_
      simp only [Act.put, List.setIfInBounds_toArray, List.set_cons_zero, List.set_cons_succ]
      refine wpList_run (by kernel_rfl) (.agg #[.slice hoo pl hooc]) V7 rfl ?_
      simp only [Act.put, List.setIfInBounds_toArray, List.set_cons_zero, List.set_cons_succ]
      refine wpList_run (by kernel_rfl) (.int .i64 0) V7 rfl ?_
      simp only [Act.put, List.setIfInBounds_toArray, List.set_cons_zero, List.set_cons_succ]
      refine wpList_decl #[.slice none 0 0] #[.slice hoo pl hooc] 37 (by kernel_rfl) (exec_allocOp _ rfl) (fun _ => by kernel_rfl) (fun b W h0 => exec_storeOp b _ _ _ _ rfl rfl rfl h0) ?_
      intro b14 V8 hge h0 hb
      have B7 := Lib.hid hb
      have F14 := Lib.hid h0
      clear hge h0 hb
      simp only [ptr, Act.put, List.setIfInBounds_toArray, List.set_cons_zero, List.set_cons_succ]
      refine wpList_run (by kernel_rfl) (.int .i64 0) V8 rfl ?_
      simp only [Act.put, List.setIfInBounds_toArray, List.set_cons_zero, List.set_cons_succ]
      refine wpList_nil ?_
      go_upto_region 10 with fail
      refine wp_region_lit ?_
      refine wpList_run (by kernel_rfl) (.slice (some ad) j d) V8 rfl ?_
      simp only [Act.put, List.setIfInBounds_toArray, List.set_cons_zero, List.set_cons_succ]
      refine wpList_run (by kernel_rfl) (.slice aA j ac) V8 rfl ?_
      simp only [Act.put, List.setIfInBounds_toArray, List.set_cons_zero, List.set_cons_succ]
      have C3_7 := Lib.hid (bel_step C3_6.out B6.out)
      have C3_8 := Lib.hid (bel_step C3_7.out B7.out)
      have C4_6 := Lib.hid (bel_step B4.out B5.out)
      have C4_7 := Lib.hid (bel_step C4_6.out B6.out)
      have C4_8 := Lib.hid (bel_step C4_7.out B7.out)
      have C0_7 := Lib.hid (bel_step C0_6.out B6.out)
      have C0_8 := Lib.hid (bel_step C0_7.out B7.out)
      refine wpList_call (by kernel_rfl) 13 Tryd.func13 (by kernel_rfl) (by kernel_rfl) _ _ #[.slice (some ad) j d, .slice aA j ac] rfl (by kernel_rfl) ?_
      refine (open_n (some ad) j d ml aA j ac al V8 (HP.out.keep C3_8.out) (HIA.out.keep C4_8.out) hm1 (by omega) HSM.out (HG.out.keep C0_8.out) HINA.out [] (by rw [← HAL.out]; exact open_all hm1) 0 rfl).mono ?_
      rintro e V9 ⟨hoa, hoac, rfl, hd, hb⟩
      have B8 := Lib.hid hb
      have HOA := Lib.hid hd
      clear hb hd
      refine ⟨_, rfl, ?_⟩
      simp only [Act.put, List.setIfInBounds_toArray, List.set_cons_zero, List.set_cons_succ]
      refine wpList_run (by kernel_rfl) (.tuple #[.agg #[.slice hoa 0 hoac], .int .i64 0]) V9 rfl ?_
      simp only [Act.put, List.setIfInBounds_toArray, List.set_cons_zero, List.set_cons_succ]
      refine wpList_run (by kernel_rfl) (.agg #[.slice hoa 0 hoac]) V9 rfl ?_
      simp only [Act.put, List.setIfInBounds_toArray, List.set_cons_zero, List.set_cons_succ]
      refine wpList_run (by kernel_rfl) (.int .i64 0) V9 rfl ?_
      simp only [Act.put, List.setIfInBounds_toArray, List.set_cons_zero, List.set_cons_succ]
      refine wpList_decl #[.slice none 0 0] #[.slice hoa 0 hoac] 37 (by kernel_rfl) (exec_allocOp _ rfl) (fun _ => by kernel_rfl) (fun b W h0 => exec_storeOp b _ _ _ _ rfl rfl rfl h0) ?_
      intro b16 V10 hge h0 hb
      have B9 := Lib.hid hb
      have F16 := Lib.hid h0
      clear hge h0 hb
      simp only [ptr, Act.put, List.setIfInBounds_toArray, List.set_cons_zero, List.set_cons_succ]
      refine wpList_run (by kernel_rfl) (.int .i64 0) V10 rfl ?_
      simp only [Act.put, List.setIfInBounds_toArray, List.set_cons_zero, List.set_cons_succ]
      refine wpList_nil ?_
      go_upto_region 11 with fail
      refine wp_region_lit ?_
      refine wpList_run (by kernel_rfl) (.slice (some ad) j d) V10 rfl ?_
      simp only [Act.put, List.setIfInBounds_toArray, List.set_cons_zero, List.set_cons_succ]
      refine wpList_run (by kernel_rfl) (.slice I k f) V10 rfl ?_
      simp only [Act.put, List.setIfInBounds_toArray, List.set_cons_zero, List.set_cons_succ]
      have C3_9 := Lib.hid (bel_step C3_8.out B8.out)
      have C3_10 := Lib.hid (bel_step C3_9.out B9.out)
      have C0_9 := Lib.hid (bel_step C0_8.out B8.out)
      have C0_10 := Lib.hid (bel_step C0_9.out B9.out)
      refine wpList_call (by kernel_rfl) 13 Tryd.func13 (by kernel_rfl) (by kernel_rfl) _ _ #[.slice (some ad) j d, .slice I k f] rfl (by kernel_rfl) ?_
      refine (open_n (some ad) j d ml I k f is V10 (HP.out.keep C3_10.out) (HI.out.keep C3_10.out) hm1 (by omega) HSM.out (HG.out.keep C0_10.out) HINC.out os HOS.out sl HSL.out).mono ?_
      rintro e V11 ⟨hoi, hoic, rfl, hd, hb⟩
      have B10 := Lib.hid hb
      have HOI := Lib.hid hd
      clear hb hd
      refine ⟨_, rfl, ?_⟩
      simp only [Act.put, List.setIfInBounds_toArray, List.set_cons_zero, List.set_cons_succ]
      refine wpList_run (by kernel_rfl) (.tuple #[.agg #[.slice hoi sl hoic], .int .i64 0]) V11 rfl ?_
      simp only [Act.put, List.setIfInBounds_toArray, List.set_cons_zero, List.set_cons_succ]
      refine wpList_run (by kernel_rfl) (.agg #[.slice hoi sl hoic]) V11 rfl ?_
      simp only [Act.put, List.setIfInBounds_toArray, List.set_cons_zero, List.set_cons_succ]
      refine wpList_run (by kernel_rfl) (.int .i64 0) V11 rfl ?_
      simp only [Act.put, List.setIfInBounds_toArray, List.set_cons_zero, List.set_cons_succ]
      refine wpList_decl #[.slice none 0 0] #[.slice hoi sl hoic] 37 (by kernel_rfl) (exec_allocOp _ rfl) (fun _ => by kernel_rfl) (fun b W h0 => exec_storeOp b _ _ _ _ rfl rfl rfl h0) ?_
      intro b18 V12 hge h0 hb
      have B11 := Lib.hid hb
      have F18 := Lib.hid h0
      clear hge h0 hb
      simp only [ptr, Act.put, List.setIfInBounds_toArray, List.set_cons_zero, List.set_cons_succ]
      refine wpList_run (by kernel_rfl) (.int .i64 0) V12 rfl ?_
      simp only [Act.put, List.setIfInBounds_toArray, List.set_cons_zero, List.set_cons_succ]
      refine wpList_nil ?_
      go_upto_region 12 with fail
      refine wp_region_lit ?_
      refine wpList_run (by kernel_rfl) (.int .i64 0) V12 rfl ?_
      simp only [Act.put, List.setIfInBounds_toArray, List.set_cons_zero, List.set_cons_succ]
      refine wpList_run (by kernel_rfl) (.bool false) V12 (by first | rfl | (unfold execOp; go_simp)) ?_
      simp only [Act.put, List.setIfInBounds_toArray, List.set_cons_zero, List.set_cons_succ]
      refine wpList_run (by kernel_rfl) (.bool false) V12 rfl ?_
      simp only [Act.put, List.setIfInBounds_toArray, List.set_cons_zero, List.set_cons_succ]
      refine wpList_run (by kernel_rfl) (.int .i64 0) V12 rfl ?_
      simp only [Act.put, List.setIfInBounds_toArray, List.set_cons_zero, List.set_cons_succ]
      refine wpList_run (by kernel_rfl) (.bool false) V12 (by first | rfl | (unfold execOp; go_simp)) ?_
      simp only [Act.put, List.setIfInBounds_toArray, List.set_cons_zero, List.set_cons_succ]
      refine wpList_run (by kernel_rfl) (.bool false) V12 rfl ?_
      simp only [Act.put, List.setIfInBounds_toArray, List.set_cons_zero, List.set_cons_succ]
      refine wpList_run (by kernel_rfl) (.bool false) V12 rfl ?_
      simp only [Act.put, List.setIfInBounds_toArray, List.set_cons_zero, List.set_cons_succ]
      refine wpList_run (by kernel_rfl) (.int .i64 0) V12 rfl ?_
      simp only [Act.put, List.setIfInBounds_toArray, List.set_cons_zero, List.set_cons_succ]
      refine wpList_run (by kernel_rfl) (.bool false) V12 (by first | rfl | (unfold execOp; go_simp)) ?_
      simp only [Act.put, List.setIfInBounds_toArray, List.set_cons_zero, List.set_cons_succ]
      refine wpList_run (by kernel_rfl) (.bool false) V12 rfl ?_
      simp only [Act.put, List.setIfInBounds_toArray, List.set_cons_zero, List.set_cons_succ]
      refine wpList_run (by kernel_rfl) (.bool false) V12 rfl ?_
      simp only [Act.put, List.setIfInBounds_toArray, List.set_cons_zero, List.set_cons_succ]
      refine wpList_run (by kernel_rfl) (.int .i64 0) V12 rfl ?_
      simp only [Act.put, List.setIfInBounds_toArray, List.set_cons_zero, List.set_cons_succ]
      refine wpList_run (by kernel_rfl) (.bool false) V12 (by first | rfl | (unfold execOp; go_simp)) ?_
      simp only [Act.put, List.setIfInBounds_toArray, List.set_cons_zero, List.set_cons_succ]
      refine wpList_run (by kernel_rfl) (.bool false) V12 rfl ?_
      simp only [Act.put, List.setIfInBounds_toArray, List.set_cons_zero, List.set_cons_succ]
      refine wpList_run (by kernel_rfl) (.bool false) V12 rfl ?_
      simp only [Act.put, List.setIfInBounds_toArray, List.set_cons_zero, List.set_cons_succ]
      refine wpList_run (by kernel_rfl) (.pointer (some ⟨b14, 0, none⟩)) V12 (by unfold execOp; go_simp) ?_
      simp only [Act.put, List.setIfInBounds_toArray, List.set_cons_zero, List.set_cons_succ]
      have C8_10 := Lib.hid (bel_step B8.out B9.out)
      have C8_11 := Lib.hid (bel_step C8_10.out B10.out)
      have C8_12 := Lib.hid (bel_step C8_11.out B11.out)
      refine wpList_run (by kernel_rfl) (.slice hoo pl hooc) V12 (exec_loadSD _ _ _ _ (cells_at (heap_keep F14.out C8_12.out) 0 rfl) rfl rfl) ?_
      simp only [Act.put, List.setIfInBounds_toArray, List.set_cons_zero, List.set_cons_succ]
      refine wpList_run (by kernel_rfl) (.int .i64 ((pl : Nat) : Int)) V12 (by first | rfl | (unfold execOp; go_simp)) ?_
      simp only [Act.put, List.setIfInBounds_toArray, List.set_cons_zero, List.set_cons_succ]
      refine wpList_run (by kernel_rfl) (.slice wA pl wc) V12 rfl ?_
      simp only [Act.put, List.setIfInBounds_toArray, List.set_cons_zero, List.set_cons_succ]
      refine wpList_run (by kernel_rfl) (.int .i64 ((pl : Nat) : Int)) V12 (by first | rfl | (unfold execOp; go_simp)) ?_
      simp only [Act.put, List.setIfInBounds_toArray, List.set_cons_zero, List.set_cons_succ]
      refine wpList_run (by kernel_rfl) (.bool false) V12 (by first | rfl | (unfold execOp; go_simp)) ?_
      simp only [Act.put, List.setIfInBounds_toArray, List.set_cons_zero, List.set_cons_succ]
      refine wpList_run (by kernel_rfl) (.bool false) V12 rfl ?_
      simp only [Act.put, List.setIfInBounds_toArray, List.set_cons_zero, List.set_cons_succ]
      refine wpList_run (by kernel_rfl) (.bool false) V12 rfl ?_
      simp only [Act.put, List.setIfInBounds_toArray, List.set_cons_zero, List.set_cons_succ]
      refine wpList_run (by kernel_rfl) (.pointer (some ⟨b16, 0, none⟩)) V12 (by unfold execOp; go_simp) ?_
      simp only [Act.put, List.setIfInBounds_toArray, List.set_cons_zero, List.set_cons_succ]
      have C10_12 := Lib.hid (bel_step B10.out B11.out)
      refine wpList_run (by kernel_rfl) (.slice hoa 0 hoac) V12 (exec_loadSD _ _ _ _ (cells_at (heap_keep F16.out C10_12.out) 0 rfl) rfl rfl) ?_
      simp only [Act.put, List.setIfInBounds_toArray, List.set_cons_zero, List.set_cons_succ]
      refine wpList_run (by kernel_rfl) (.int .i64 0) V12 (by first | rfl | (unfold execOp; go_simp)) ?_
      simp only [Act.put, List.setIfInBounds_toArray, List.set_cons_zero, List.set_cons_succ]
      refine wpList_run (by kernel_rfl) (.bool false) V12 (by first | rfl | (unfold execOp; go_simp)) ?_
      simp only [Act.put, List.setIfInBounds_toArray, List.set_cons_zero, List.set_cons_succ]
      refine wpList_run (by kernel_rfl) (.bool false) V12 rfl ?_
      simp only [Act.put, List.setIfInBounds_toArray, List.set_cons_zero, List.set_cons_succ]
      refine wpList_nil ?_
      go_wp2_with fail
      go_loopw [20] (fun s wr => ∃ i : Nat, i ≤ pl ∧ s = .int .i64 i ∧ Below V12.heap.size V12 wr) (fun s _ => pl - (intOf s).toNat)
      case atStart => exact ⟨0, Nat.zero_le _, rfl, Below.refl _ _⟩
      case round =>
        obtain ⟨wo2, rfl⟩ : ∃ wo : World, wo = wr := ⟨_, rfl⟩
        obtain ⟨i, hi, rfl, hb⟩ := hrel
        have hbr := hb
        have B12 := Lib.hid hbr
        clear hbr
        clear hb
        by_cases hli : i < pl
        · have hli2 : (i : Int) < (pl : Int) := by omega
          obtain ⟨dk, hdk⟩ : ∃ x, pt[i]? = some x := ⟨_, List.getElem?_eq_getElem (by have := HPL.out; omega)⟩
          obtain ⟨wg, wof, rfl⟩ := HWT.out.some_ (by omega)
          have C5_7 := Lib.hid (bel_step B5.out B6.out)
          have C5_8 := Lib.hid (bel_step C5_7.out B7.out)
          have C5_9 := Lib.hid (bel_step C5_8.out B8.out)
          have C5_10 := Lib.hid (bel_step C5_9.out B9.out)
          have C5_11 := Lib.hid (bel_step C5_10.out B10.out)
          have C5_12 := Lib.hid (bel_step C5_11.out B11.out)
          have C5_13 := Lib.hid (bel_step C5_12.out B12.out)
          have HED := Lib.hid ((HWT.out.keep C5_13.out).ed hdk)
          have Dg_dk := Lib.hid HED.out.dig
          clear hdk
          obtain ⟨cn, h_cn⟩ : ∃ x, countN pt dk = x := ⟨_, rfl⟩
          have HCN := Lib.hid h_cn
          clear h_cn
          have HCN2 := Lib.hid (show countN o1 dk = cn by rw [← HCN.out]; exact countN_perm HPERM.out dk)
          go_upto_region 17 with fail
          try simp only [List.append_eq, List.cons_append, List.nil_append]
          refine Tl.wp_held_tailB 13 wo2.heap.size (by kernel_rfl) (lexOK_of (by kernel_rfl) (by kernel_rfl)) (Tl.chainW_of (by kernel_rfl)) rfl (by kernel_rfl) (by kernel_rfl) (fun V14 hb hSW => ?_)
          simp only [List.take_succ_cons, List.take_zero]
          have HS14 := Lib.hid hSW
          have B13 := Lib.hid hb
          clear hb hSW
          refine wpHeld_seg 5 HS14.out (by kernel_rfl) ?_
          simp only [List.take_succ_cons, List.take_zero, List.drop_succ_cons, List.drop_zero]
          refine wpQuiet_val (by kernel_rfl) (.slice (some ⟨wg, wof, none⟩) pl wc) (fun v hv => rfl) ?_
          simp only [Act.put, List.setIfInBounds_toArray, List.set_cons_zero, List.set_cons_succ]
          refine wpQuiet_val (by kernel_rfl) (.slice (some ⟨wg, wof, none⟩) pl wc) (fun v hv => rfl) ?_
          simp only [Act.put, List.setIfInBounds_toArray, List.set_cons_zero, List.set_cons_succ]
          refine wpQuiet_val (by kernel_rfl) (.int .i64 ((i : Nat) : Int)) (fun v hv => rfl) ?_
          simp only [Act.put, List.setIfInBounds_toArray, List.set_cons_zero, List.set_cons_succ]
          refine wpQuiet_val (by kernel_rfl) (.pointer (some ⟨wg, wof + 32 * i, none⟩)) (fun v hv => (exec_idxM _ wg wof pl wc i (by omega) rfl rfl rfl)) ?_
          simp only [Act.put, List.setIfInBounds_toArray, List.set_cons_zero, List.set_cons_succ]
          refine wpQuiet_val (by kernel_rfl) (.agg (celB dk).toArray) (fun v hv => (exec_loadM wg (wof + 32 * i) Dg_dk.out.1 (HED.out.keep (LaterB.of hv)).at_ rfl rfl)) ?_
          simp only [Act.put, List.setIfInBounds_toArray, List.set_cons_zero, List.set_cons_succ]
          refine wpQuiet_nil ?_
          have C5_14 := Lib.hid (bel_step C5_13.out B13.out)
          refine wpHeld_call 29 Tryd.func29 (by kernel_rfl) (by kernel_rfl) _ _ #[.slice (some ⟨wg, wof, none⟩) pl wc, .agg (celB dk).toArray] rfl (by kernel_rfl) (by kernel_rfl) ?_
          refine (count_as (some ⟨wg, wof, none⟩) pl wc pt dk V14 (HWT.out.keep C5_14.out) (by omega) Dg_dk.out cn HCN.out).mono ?_
          rintro e V15 ⟨rfl, hb⟩
          have B14 := Lib.hid hb
          have HS15 := Lib.hid (LaterB.step HS14.out (hb.mono B13.out.size))
          clear hb 
          refine ⟨_, rfl, HS15.out, ?_⟩
          simp only [Act.put, List.setIfInBounds_toArray, List.set_cons_zero, List.set_cons_succ]
          refine wpHeld_seg 6 HS15.out (by kernel_rfl) ?_
          simp only [List.take_succ_cons, List.take_zero, List.drop_succ_cons, List.drop_zero]
          refine wpQuiet_val (by kernel_rfl) (.pointer (some ⟨b14, 0, none⟩)) (fun v hv => (by unfold execOp; go_simp)) ?_
          simp only [Act.put, List.setIfInBounds_toArray, List.set_cons_zero, List.set_cons_succ]
          have C8_13 := Lib.hid (bel_step C8_12.out B12.out)
          refine wpQuiet_val (by kernel_rfl) (.slice hoo pl hooc) (fun v hv => (exec_loadSD _ _ _ _ (cells_at (heap_keep (heap_keep F14.out C8_13.out) (LaterB.of hv)) 0 rfl) rfl rfl)) ?_
          simp only [Act.put, List.setIfInBounds_toArray, List.set_cons_zero, List.set_cons_succ]
          refine wpQuiet_val (by kernel_rfl) (.slice (some ⟨wg, wof, none⟩) pl wc) (fun v hv => rfl) ?_
          simp only [Act.put, List.setIfInBounds_toArray, List.set_cons_zero, List.set_cons_succ]
          refine wpQuiet_val (by kernel_rfl) (.int .i64 ((i : Nat) : Int)) (fun v hv => rfl) ?_
          simp only [Act.put, List.setIfInBounds_toArray, List.set_cons_zero, List.set_cons_succ]
          refine wpQuiet_val (by kernel_rfl) (.pointer (some ⟨wg, wof + 32 * i, none⟩)) (fun v hv => (exec_idxM _ wg wof pl wc i (by omega) rfl rfl rfl)) ?_
          simp only [Act.put, List.setIfInBounds_toArray, List.set_cons_zero, List.set_cons_succ]
          refine wpQuiet_val (by kernel_rfl) (.agg (celB dk).toArray) (fun v hv => (exec_loadM wg (wof + 32 * i) Dg_dk.out.1 (HED.out.keep (LaterB.of hv)).at_ rfl rfl)) ?_
          simp only [Act.put, List.setIfInBounds_toArray, List.set_cons_zero, List.set_cons_succ]
          refine wpQuiet_nil ?_
          have C7_9 := Lib.hid (bel_step B7.out B8.out)
          have C7_10 := Lib.hid (bel_step C7_9.out B9.out)
          have C7_11 := Lib.hid (bel_step C7_10.out B10.out)
          have C7_12 := Lib.hid (bel_step C7_11.out B11.out)
          have C7_13 := Lib.hid (bel_step C7_12.out B12.out)
          have C7_14 := Lib.hid (bel_step C7_13.out B13.out)
          have C7_15 := Lib.hid (bel_step C7_14.out B14.out)
          refine wpHeld_call 29 Tryd.func29 (by kernel_rfl) (by kernel_rfl) _ _ #[.slice hoo pl hooc, .agg (celB dk).toArray] rfl (by kernel_rfl) (by kernel_rfl) ?_
          refine (count_as hoo pl hooc o1 dk V15 (HOO.out.keep C7_15.out) (by omega) Dg_dk.out cn HCN2.out).mono ?_
          rintro e V16 ⟨rfl, hb⟩
          have B15 := Lib.hid hb
          have C13_15 := Lib.hid (bel_step B13.out B14.out)
          have HS16 := Lib.hid (LaterB.step HS15.out (hb.mono C13_15.out.size))
          clear hb 
          refine ⟨_, rfl, HS16.out, ?_⟩
          simp only [Act.put, List.setIfInBounds_toArray, List.set_cons_zero, List.set_cons_succ]
          refine wpHeld_nil ?_
          refine mOp_val (.bool false) rfl rfl (by unfold execOp; go_simp) ?_
          have C12_14 := Lib.hid (bel_step B12.out B13.out)
          have C12_15 := Lib.hid (bel_step C12_14.out B14.out)
          have C12_16 := Lib.hid (bel_step C12_15.out B15.out)
          have hwj : IntKind.i64.wrap ((i : Int) + 1) = ((i + 1 : Nat) : Int) := by rw [IntKind.wrap_i64]; omega
          go_wp2_with fail
          go_roundw
          case rel => exact ⟨i + 1, by omega, by first | rfl | go_num, C12_16.out⟩
          case measure => simp [intOf]; omega
        · have hli2 : ¬ (i : Int) < (pl : Int) := by omega
          go_wp2_with fail
          go_loopw [10, 21] (fun t s wr => ∃ a q : Nat, a ≤ k ∧ q = pathsN 0 j (is.take a) ∧ q ≤ 40 * a ∧ s = .int .i64 a ∧ t = .int .i64 q ∧ Below wo2.heap.size wo2 wr) (fun _ s _ => k - (intOf s).toNat)
          case atStart => exact ⟨0, 0, Nat.zero_le _, rfl, Nat.zero_le _, rfl, rfl, Below.refl _ _⟩
          case round =>
            obtain ⟨wo3, rfl⟩ : ∃ wo : World, wo = wr := ⟨_, rfl⟩
            obtain ⟨a, q, ha, hq, hq40, rfl, rfl, hb⟩ := hrel
            have B13 := Lib.hid hb
            have HQ := Lib.hid hq
            clear hb hq
            by_cases hla : a < k
            · have hla2 : (a : Int) < (k : Int) := by omega
              obtain ⟨ia, rfl⟩ := HI.out.some_ (by omega)
              obtain ⟨z, hz⟩ : ∃ z, is[a]? = some z := ⟨_, List.getElem?_eq_getElem (by have := HKL.out; omega)⟩
              have hzin := (incF_pw HINC.out).2 z (List.mem_of_getElem? hz)
              have C3_11 := Lib.hid (bel_step C3_10.out B10.out)
              have C3_12 := Lib.hid (bel_step C3_11.out B11.out)
              have C3_13 := Lib.hid (bel_step C3_12.out B12.out)
              have C3_14 := Lib.hid (bel_step C3_13.out B13.out)
              have hcz := (HI.out.keep C3_14.out).at_ hla
              rw [List.getD_eq_getElem?_getD, hz] at hcz
              have HCZ := Lib.hid (show wo3.cell? (ia.add a) = some (.int .i64 z) from hcz)
              have HPZ := Lib.hid (pathsN_take (n := j) hz)
              clear hcz hz
              obtain ⟨dz, h_dz⟩ : ∃ x, digsN ml (sibN 0 j z) = x := ⟨_, rfl⟩
              have HDZ := Lib.hid h_dz
              clear h_dz
              obtain ⟨zl, h_zl⟩ : ∃ x, (sibN 0 j z).length = x := ⟨_, rfl⟩
              have HZL := Lib.hid h_zl
              clear h_zl
              have hzl : zl ≤ 40 := by have h1 := sibN_len j hm1 0 z; have h2 := HZL.out; omega
              have HZL2 := Lib.hid (show dz.length = zl by rw [← HDZ.out]; unfold digsN; rw [List.length_map, HZL.out])
              go_upto_region 22 with fail
              refine wp_region_lit ?_
              refine wpList_run (by kernel_rfl) (.slice (some ad) j d) wo3 rfl ?_
              simp only [Act.put, List.setIfInBounds_toArray, List.set_cons_zero, List.set_cons_succ]
              refine wpList_run (by kernel_rfl) (.slice (some ia) k f) wo3 rfl ?_
              simp only [Act.put, List.setIfInBounds_toArray, List.set_cons_zero, List.set_cons_succ]
              refine wpList_run (by kernel_rfl) (.int .i64 ((a : Nat) : Int)) wo3 rfl ?_
              simp only [Act.put, List.setIfInBounds_toArray, List.set_cons_zero, List.set_cons_succ]
              refine wpList_run (by kernel_rfl) (.pointer (some (ia.add a))) wo3 (exec_idxI _ ia k f a hla rfl rfl rfl) ?_
              simp only [Act.put, List.setIfInBounds_toArray, List.set_cons_zero, List.set_cons_succ]
              refine wpList_run (by kernel_rfl) (.int .i64 z) wo3 (exec_loadI _ z HCZ.out rfl rfl) ?_
              simp only [Act.put, List.setIfInBounds_toArray, List.set_cons_zero, List.set_cons_succ]
              have C0_11 := Lib.hid (bel_step C0_10.out B10.out)
              have C0_12 := Lib.hid (bel_step C0_11.out B11.out)
              have C0_13 := Lib.hid (bel_step C0_12.out B12.out)
              have C0_14 := Lib.hid (bel_step C0_13.out B13.out)
              refine wpList_call (by kernel_rfl) 16 Tryd.func16 (by kernel_rfl) (by kernel_rfl) _ _ #[.slice (some ad) j d, .int .i64 z] rfl (by kernel_rfl) ?_
              refine (witness_n (some ad) j d ml z wo3 (HP.out.keep C3_14.out) hm1 (by omega) HSM.out (HG.out.keep C0_14.out) hzin dz HDZ.out zl HZL2.out).mono ?_
              rintro e V15 ⟨zA, zc, rfl, hd, hb⟩
              have B14 := Lib.hid hb
              have HWZ := Lib.hid hd
              clear hb hd
              refine ⟨_, rfl, ?_⟩
              simp only [Act.put, List.setIfInBounds_toArray, List.set_cons_zero, List.set_cons_succ]
              refine wpList_run (by kernel_rfl) (.tuple #[.slice zA zl zc, .int .i64 0]) V15 rfl ?_
              simp only [Act.put, List.setIfInBounds_toArray, List.set_cons_zero, List.set_cons_succ]
              refine wpList_run (by kernel_rfl) (.slice zA zl zc) V15 rfl ?_
              simp only [Act.put, List.setIfInBounds_toArray, List.set_cons_zero, List.set_cons_succ]
              refine wpList_run (by kernel_rfl) (.int .i64 0) V15 rfl ?_
              simp only [Act.put, List.setIfInBounds_toArray, List.set_cons_zero, List.set_cons_succ]
              refine wpList_run (by kernel_rfl) (.slice zA zl zc) V15 rfl ?_
              simp only [Act.put, List.setIfInBounds_toArray, List.set_cons_zero, List.set_cons_succ]
              refine wpList_run (by kernel_rfl) (.int .i64 0) V15 rfl ?_
              simp only [Act.put, List.setIfInBounds_toArray, List.set_cons_zero, List.set_cons_succ]
              refine wpList_nil ?_
              go_upto_region 23 with fail
              refine wp_region_lit ?_
              refine wpList_run (by kernel_rfl) (.int .i64 0) V15 rfl ?_
              simp only [Act.put, List.setIfInBounds_toArray, List.set_cons_zero, List.set_cons_succ]
              refine wpList_run (by kernel_rfl) (.bool false) V15 (by first | rfl | (unfold execOp; go_simp)) ?_
              simp only [Act.put, List.setIfInBounds_toArray, List.set_cons_zero, List.set_cons_succ]
              refine wpList_nil ?_
              go_upto_region 25 with fail
              refine wp_region_lit ?_
              refine wpList_run (by kernel_rfl) (.int .i64 ((q : Nat) : Int)) V15 rfl ?_
              simp only [Act.put, List.setIfInBounds_toArray, List.set_cons_zero, List.set_cons_succ]
              refine wpList_run (by kernel_rfl) (.slice zA zl zc) V15 rfl ?_
              simp only [Act.put, List.setIfInBounds_toArray, List.set_cons_zero, List.set_cons_succ]
              refine wpList_run (by kernel_rfl) (.int .i64 ((zl : Nat) : Int)) V15 (by first | rfl | (unfold execOp; go_simp)) ?_
              simp only [Act.put, List.setIfInBounds_toArray, List.set_cons_zero, List.set_cons_succ]
              refine wpList_run (by kernel_rfl) (.int .i64 ((q + zl : Nat) : Int)) V15 (exec_addN q zl (q + zl) rfl (by omega) rfl rfl rfl _) ?_
              simp only [Act.put, List.setIfInBounds_toArray, List.set_cons_zero, List.set_cons_succ]
              refine wpList_run (by kernel_rfl) (.int .i64 ((q + zl : Nat) : Int)) V15 rfl ?_
              simp only [Act.put, List.setIfInBounds_toArray, List.set_cons_zero, List.set_cons_succ]
              refine wpList_nil ?_
              have C13_15 := Lib.hid (bel_step B13.out B14.out)
              have hwj : IntKind.i64.wrap ((a : Int) + 1) = ((a + 1 : Nat) : Int) := by rw [IntKind.wrap_i64]; omega
              go_wp2_with fail
              go_roundw
              case rel => exact ⟨a + 1, q + zl, by omega, by rw [HPZ.out, ← HQ.out, HZL.out], by omega, by first | rfl | go_num, by first | rfl | go_num, C13_15.out⟩
              case measure => simp [intOf]; omega
            · have hla2 : ¬ (a : Int) < (k : Int) := by omega
              have HQ2 := Lib.hid (show q = pathsN 0 j is by rw [HQ.out, List.take_of_length_le (by have := HKL.out; omega)])
              by_cases hle : sl ≤ q
              · have hle2 : (sl : Int) ≤ (q : Int) := by omega
                have C12_14 := Lib.hid (bel_step B12.out B13.out)
                have c18 := cells_at (heap_keep F18.out C12_14.out) 0 (v := .slice hoi sl hoic) rfl
                go_wp2_with fail
                go_ret
                have C0_11 := Lib.hid (bel_step C0_10.out B10.out)
                have C0_12 := Lib.hid (bel_step C0_11.out B11.out)
                have C0_13 := Lib.hid (bel_step C0_12.out B12.out)
                have C0_14 := Lib.hid (bel_step C0_13.out B13.out)
                exact ⟨rfl, C0_14.out⟩
              · have hle2 : ¬ (sl : Int) ≤ (q : Int) := by omega
                have his : is = [] := Classical.byContradiction fun hne => hle (by
                  have h1 := closed_paths j hm1 0 is (incF_pw HINC.out).1 hne
                  have h2 := HSL.out
                  rw [← HOS.out] at h2
                  unfold digsN at h2
                  rw [List.length_map] at h2
                  have h3 := HQ2.out
                  omega)
                obtain rfl : k = 0 := by have := HKL.out; rw [his] at this; exact this
                obtain rfl : sl = 1 := by rw [← HSL.out, ← HOS.out, his, closedN_nil 0 hm1]; rfl
                have hk0 : (((0 : Nat) : Int) = 0) := rfl
                have C12_14 := Lib.hid (bel_step B12.out B13.out)
                have c18 := cells_at (heap_keep F18.out C12_14.out) 0 (v := .slice hoi 1 hoic) rfl
                go_wp2_with fail
                go_ret
                have C0_11 := Lib.hid (bel_step C0_10.out B10.out)
                have C0_12 := Lib.hid (bel_step C0_11.out B11.out)
                have C0_13 := Lib.hid (bel_step C0_12.out B12.out)
                have C0_14 := Lib.hid (bel_step C0_13.out B13.out)
                exact ⟨rfl, C0_14.out⟩
end Go.Proofs.YtcephdkcjcbanaaDoor
