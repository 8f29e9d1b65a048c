/- The walk of MerkleGrowing. -/
import Derived.Test.YtcephdkcjcbanaaDoorMvk
namespace Go.Proofs.YtcephdkcjcbanaaDoor
set_option maxRecDepth 8000
set_option linter.unusedVariables false
set_option linter.unusedSimpArgs false
open Go.RowKit
attribute [local simp] z32_ne z32_run
attribute [-simp] Tryd.zeroValue31 Tryd.isAgg31 Tryd.sizeOf31
set_option maxHeartbeats 8000000 in
theorem merkleGrowing_any (A : Option Addr) (n c : Nat) (Ls : List (List Nat)) (bt : Nat) (w : World) (hP : Pb w A n c Ls) (hbt : bt < 2 ^ 64) (hG : Gl w) :
    Calls Tryd.prog 6 #[.agg #[.slice A n c, .int .u64 (bt : Int)]] w fun e w' => e = .returned (.bool true) ∧ Below w.heap.size w w' := by
  have HG := Lib.hid hG
  have HP0 := Lib.hid hP
  clear hP hG
  go_enter Tryd.func6, Tryd.ntmps6
  go_upto_region 1 with fail
  refine wp_named1 (fun V1 hb g0 hlt => ?_)
  have B0 := Lib.hid hb
  have FQ := Lib.hid g0
  clear hb g0 hlt
  refine wp_region_lit ?_
  refine wpList_call (by kernel_rfl) 9 Tryd.func9 (by kernel_rfl) (by kernel_rfl) _ _ #[] rfl (by kernel_rfl) ?_
  refine (sanity8_any V1 (HG.out.keep B0.out)).mono ?_
  rintro e V2 ⟨rfl, hb⟩
  have B1 := Lib.hid hb
  clear hb 
  refine ⟨_, rfl, ?_⟩
  simp only [Act.put, List.setIfInBounds_toArray, List.set_cons_zero, List.set_cons_succ]
  refine wpList_run (by kernel_rfl) (.bool true) V2 rfl ?_
  simp only [Act.put, List.setIfInBounds_toArray, List.set_cons_zero, List.set_cons_succ]
  refine wpList_nil ?_
  go_upto_region 2 with fail
  refine wp_region_lit ?_
  refine wpList_run (by kernel_rfl) (.agg #[.slice A n c, .int .u64 (bt : Int)]) V2 (exec_loadQ _ _ _ rfl rfl (heap_keep FQ.out B1.out)) ?_
  simp only [Act.put, List.setIfInBounds_toArray, List.set_cons_zero, List.set_cons_succ]
  have C0_2 := Lib.hid (bel_step B0.out B1.out)
  refine wpList_call (by kernel_rfl) 10 Tryd.func10 (by kernel_rfl) (by kernel_rfl) _ _ #[.agg #[.slice A n c, .int .u64 (bt : Int)]] rfl (by kernel_rfl) ?_
  refine (madeQ_as A n c Ls bt V2 (HP0.out.keep C0_2.out) hbt).mono ?_
  rintro e V3 ⟨ad, m, d, I, k, f, ml, is, rfl, hp, hi, hm, hs, hinc, hb⟩
  have B2 := Lib.hid hb
  obtain ⟨hm1, hm2, hkm, hmd⟩ := hm
  have HSM := Lib.hid hs
  have HINC := Lib.hid hinc
  have HML := Lib.hid hp.len
  have HKL := Lib.hid hi.len
  clear hs hinc
  have HP := Lib.hid hp
  have HI := Lib.hid hi
  clear hb hp hi
  refine ⟨_, rfl, ?_⟩
  simp only [Act.put, List.setIfInBounds_toArray, List.set_cons_zero, List.set_cons_succ]
  refine wpList_run (by kernel_rfl) (.tuple #[.slice (some ad) m d, .slice I k f]) V3 rfl ?_
  simp only [Act.put, List.setIfInBounds_toArray, List.set_cons_zero, List.set_cons_succ]
  refine wpList_run (by kernel_rfl) (.slice (some ad) m d) V3 rfl ?_
  simp only [Act.put, List.setIfInBounds_toArray, List.set_cons_zero, List.set_cons_succ]
  refine wpList_run (by kernel_rfl) (.slice I k f) V3 rfl ?_
  simp only [Act.put, List.setIfInBounds_toArray, List.set_cons_zero, List.set_cons_succ]
  refine wpList_run (by kernel_rfl) (.slice (some ad) m d) V3 rfl ?_
  simp only [Act.put, List.setIfInBounds_toArray, List.set_cons_zero, List.set_cons_succ]
  refine wpList_run (by kernel_rfl) (.slice I k f) V3 rfl ?_
  simp only [Act.put, List.setIfInBounds_toArray, List.set_cons_zero, List.set_cons_succ]
  refine wpList_nil ?_
  go_upto_region 3 with fail
  refine wp_region_lit ?_
  refine wpList_mk (by kernel_rfl) #[] 31 0 0 (exec_box0 _ rfl) ?_
  intro g21 V4 hge h0 hb
  have B3 := Lib.hid hb
  have M21 := Lib.hid (db_nil V4 ⟨g21, 0, none⟩)
  clear hge h0 hb
  simp only [Act.put, List.setIfInBounds_toArray, List.set_cons_zero, List.set_cons_succ]
  refine wpList_run (by kernel_rfl) (.slice (some ⟨g21, 0, none⟩) 0 0) V4 rfl ?_
  simp only [Act.put, List.setIfInBounds_toArray, List.set_cons_zero, List.set_cons_succ]
  refine wpList_nil ?_
  go_wp2_with fail
  go_loopw [6, 7] (fun p s wr => ∃ (j : Nat) (pa : Addr) (pn pc : Nat), j ≤ m ∧ pn ≤ 60000 ∧ s = .int .i64 j ∧ p = .slice (some pa) pn pc ∧ Db wr (some pa) pn pc (peaksN (ml.take j)) ∧ Below V4.heap.size V4 wr) (fun _ s _ => m - (intOf s).toNat)
  case atStart => exact ⟨0, _, 0, 0, Nat.zero_le _, by omega, rfl, rfl, M21.out, Below.refl _ _⟩
  case round =>
    obtain ⟨wo, rfl⟩ : ∃ wo : World, wo = wr := ⟨_, rfl⟩
    obtain ⟨j, pa, pn, pc, hj, hpn, rfl, rfl, hpk, hb⟩ := hrel
    have B4 := Lib.hid hb
    have HPK := Lib.hid hpk
    clear hb hpk
    by_cases hlt : j < m
    · have hlt2 : (j : Int) < (m : Int) := by omega
      obtain ⟨p, hp⟩ : ∃ p, ml[j]? = some p := ⟨_, List.getElem?_eq_getElem (by have := HML.out; omega)⟩
      have hpl : p.length ≤ 59999 := HSM.out p (List.mem_of_getElem? hp)
      have C3_5 := Lib.hid (bel_step B3.out B4.out)
      obtain ⟨eB, em, ed, he⟩ := (HP.out.keep C3_5.out).el hp
      have EL := Lib.hid he
      have hem : em ≤ 59999 := by have := he.sb.len; omega
      have HTK := Lib.hid (show ml.take (j + 1) = ml.take j ++ [p] by rw [List.take_add_one, hp]; rfl)
      have HTL := Lib.hid (show (ml.take j).length = j by rw [List.length_take]; have := HML.out; omega)
      clear he hp
      obtain ⟨on, h_on⟩ : ∃ x, onesN (j + 1) = x := ⟨_, rfl⟩
      have HON := Lib.hid h_on
      clear h_on
      have hon : on ≤ 41 := by have := onesN_le (j + 1); have := HON.out; omega
      obtain ⟨pk, h_pk⟩ : ∃ x, peaksN (ml.take (j + 1)) = x := ⟨_, rfl⟩
      have HPE := Lib.hid h_pk
      clear h_pk
      obtain ⟨pb, h_pb⟩ : ∃ x, peaksN (ml.take j ++ [[1, 2, 3]]) = x := ⟨_, rfl⟩
      have HPB := Lib.hid h_pb
      clear h_pb
      have HD1 := Lib.hid (show pushN (peaksN (ml.take j)) j (lfN p) = pk by have h := push_leaf (ml.take j) p; rw [HTL.out, ← HTK.out, HPE.out] at h; exact h)
      have HD2 := Lib.hid (show pushN (peaksN (ml.take j)) j (lfN [1, 2, 3]) = pb by have h := push_leaf (ml.take j) [1, 2, 3]; rw [HTL.out, HPB.out] at h; exact h)
      have HN1 := Lib.hid (show pk.length = on by rw [← HPE.out, peaksN_length, List.length_take, Nat.min_eq_left (by have := HML.out; omega), HON.out])
      have HN2 := Lib.hid (show pb.length = on by rw [← HPB.out, peaksN_length, List.length_append, HTL.out, List.length_singleton, HON.out])
      obtain ⟨root, h_root⟩ : ∃ x, rootN (ml.take (j + 1)) = x := ⟨_, rfl⟩
      have Dg_root := Lib.hid (show root.length = 32 ∧ ∀ x ∈ root, x < 256 by rw [← h_root]; exact ⟨rootN_length (by rw [HTK.out, List.length_append, List.length_singleton]; omega), rootN_lt _⟩)
      have ER := Lib.hid h_root
      clear h_root
      have EBAG := Lib.hid (show bagN pk = root by rw [← HPE.out, bag_peaks _ (by rw [HTK.out]; simp), ER.out])
      go_upto_region 7 with fail
      refine wp_region_lit ?_
      refine wpList_val rfl _ _ (exec_box0 wo rfl) ?_
      simp only [Act.put, List.setIfInBounds_toArray, List.set_cons_zero, List.set_cons_succ]
      have hc0 := heap_new wo (.cells #[] 31)
      have hcb : Below wo.heap.size wo (wo.alloc (.cells #[] 31)) := (Below.refl _ _).alloc (Nat.le_refl _) _
      generalize wo.alloc (.cells #[] 31) = X7 at *
      refine wpList_val rfl (.slice (some pa) pn pc) X7 rfl ?_
      simp only [Act.put, List.setIfInBounds_toArray, List.set_cons_zero, List.set_cons_succ]
      refine wpList_op (by kernel_rfl) ?_
      refine hOp_copyD (.tmp 28) (.tmp 29) rfl wo.heap.size _ rfl hc0 (Nat.le_refl _) pa pn pc _ rfl (HPK.out.keep hcb) (by omega) hcb.size ?_
      intro g7 c7 V6 hcd hcb2
      have hb := hcb.trans hcb2
      have B5 := Lib.hid hb
      have HCP := Lib.hid hcd
      clear hc0 hcb hcd hcb2 hb
      clear X7
      simp only [Act.put, List.setIfInBounds_toArray, List.set_cons_zero, List.set_cons_succ]
      refine wpList_run (by kernel_rfl) (.slice (some ⟨g7, 0, none⟩) pn c7) V6 rfl ?_
      simp only [Act.put, List.setIfInBounds_toArray, List.set_cons_zero, List.set_cons_succ]
      refine wpList_nil ?_
      go_upto_region 8 with fail
      refine wp_region_lit ?_
      refine wpList_run (by kernel_rfl) (.slice (some pa) pn pc) V6 rfl ?_
      simp only [Act.put, List.setIfInBounds_toArray, List.set_cons_zero, List.set_cons_succ]
      refine wpList_run (by kernel_rfl) (.int .i64 ((j : Nat) : Int)) V6 rfl ?_
      simp only [Act.put, List.setIfInBounds_toArray, List.set_cons_zero, List.set_cons_succ]
      refine wpList_run (by kernel_rfl) (.slice (some ad) m d) V6 rfl ?_
      simp only [Act.put, List.setIfInBounds_toArray, List.set_cons_zero, List.set_cons_succ]
      refine wpList_run (by kernel_rfl) (.int .i64 ((j : Nat) : Int)) V6 rfl ?_
      simp only [Act.put, List.setIfInBounds_toArray, List.set_cons_zero, List.set_cons_succ]
      refine wpList_run (by kernel_rfl) (.pointer (some (ad.add j))) V6 (exec_idxP _ ad m d j (by omega) rfl rfl rfl) ?_
      simp only [Act.put, List.setIfInBounds_toArray, List.set_cons_zero, List.set_cons_succ]
      refine wpList_run (by kernel_rfl) (.slice eB em ed) V6 (exec_loadS _ _ _ _ (EL.out.keep B5.out).cell rfl rfl) ?_
      simp only [Act.put, List.setIfInBounds_toArray, List.set_cons_zero, List.set_cons_succ]
      have C0_3 := Lib.hid (bel_step C0_2.out B2.out)
      have C0_4 := Lib.hid (bel_step C0_3.out B3.out)
      have C0_5 := Lib.hid (bel_step C0_4.out B4.out)
      have C0_6 := Lib.hid (bel_step C0_5.out B5.out)
      refine wpList_call (by kernel_rfl) 18 Tryd.func18 (by kernel_rfl) (by kernel_rfl) _ _ #[.slice (some pa) pn pc, .int .i64 ((j : Nat) : Int), .slice eB em ed] rfl (by kernel_rfl) ?_
      refine (push_dbs (some pa) pn pc _ j eB em ed p V6 (HPK.out.keep B5.out) hpn (by omega) (EL.out.keep B5.out).sb hem (HG.out.keep C0_6.out) pk HD1.out on HN1.out).mono ?_
      rintro e V7 ⟨na, naf, rfl, hd, hb⟩
      have B6 := Lib.hid hb
      have HNX := Lib.hid hd
      clear hb hd
      refine ⟨_, rfl, ?_⟩
      simp only [Act.put, List.setIfInBounds_toArray, List.set_cons_zero, List.set_cons_succ]
      refine wpList_run (by kernel_rfl) (.slice (some na) on naf) V7 rfl ?_
      simp only [Act.put, List.setIfInBounds_toArray, List.set_cons_zero, List.set_cons_succ]
      refine wpList_nil ?_
      go_upto_region 9 with fail
      refine wp_region_lit ?_
      refine wpList_run (by kernel_rfl) (.slice (some pa) pn pc) V7 rfl ?_
      simp only [Act.put, List.setIfInBounds_toArray, List.set_cons_zero, List.set_cons_succ]
      refine wpList_run (by kernel_rfl) (.int .i64 ((j : Nat) : Int)) V7 rfl ?_
      simp only [Act.put, List.setIfInBounds_toArray, List.set_cons_zero, List.set_cons_succ]
      refine wpList_mk (by kernel_rfl) #[.int .u8 1, .int .u8 2, .int .u8 3] 5 3 3 (run_buildB3 1 2 3 rfl rfl rfl rfl _) ?_
      intro g40 V8 hge h0 hb
      have B7 := Lib.hid hb
      have M123 := Lib.hid ((show RowB V8 5 g40 [1, 2, 3] from h0).all (n := 3) (c := 3) (by decide) rfl (Nat.le_refl _) (by omega))
      clear hge h0 hb
      simp only [Act.put, List.setIfInBounds_toArray, List.set_cons_zero, List.set_cons_succ]
      have C5_7 := Lib.hid (bel_step B5.out B6.out)
      have C5_8 := Lib.hid (bel_step C5_7.out B7.out)
      have C0_7 := Lib.hid (bel_step C0_6.out B6.out)
      have C0_8 := Lib.hid (bel_step C0_7.out B7.out)
      refine wpList_call (by kernel_rfl) 18 Tryd.func18 (by kernel_rfl) (by kernel_rfl) _ _ #[.slice (some pa) pn pc, .int .i64 ((j : Nat) : Int), .slice (some ⟨g40, 0, none⟩) 3 3] rfl (by kernel_rfl) ?_
      refine (push_dbs (some pa) pn pc _ j (some ⟨g40, 0, none⟩) 3 3 [1, 2, 3] V8 (HPK.out.keep C5_8.out) hpn (by omega) M123.out (by omega) (HG.out.keep C0_8.out) pb HD2.out on HN2.out).mono ?_
      rintro e V9 ⟨nb, nbf, rfl, hd, hb⟩
      have B8 := Lib.hid hb
      have HBR := Lib.hid hd
      clear hb hd
      refine ⟨_, rfl, ?_⟩
      simp only [Act.put, List.setIfInBounds_toArray, List.set_cons_zero, List.set_cons_succ]
      refine wpList_run (by kernel_rfl) (.slice (some nb) on nbf) V9 rfl ?_
      simp only [Act.put, List.setIfInBounds_toArray, List.set_cons_zero, List.set_cons_succ]
      refine wpList_nil ?_
      go_upto_region 10 with fail
      refine wp_region_lit ?_
      refine wpList_run (by kernel_rfl) (.slice (some ad) m d) V9 rfl ?_
      simp only [Act.put, List.setIfInBounds_toArray, List.set_cons_zero, List.set_cons_succ]
      refine wpList_run (by kernel_rfl) (.int .i64 ((j : Nat) : Int)) V9 rfl ?_
      simp only [Act.put, List.setIfInBounds_toArray, List.set_cons_zero, List.set_cons_succ]
      refine wpList_run (by kernel_rfl) (.int .i64 ((j + 1 : Nat) : Int)) V9 (exec_addN j 1 (j + 1) rfl (by omega) rfl rfl rfl _) ?_
      simp only [Act.put, List.setIfInBounds_toArray, List.set_cons_zero, List.set_cons_succ]
      refine wpList_run (by kernel_rfl) (.slice (some ad) (j + 1) d) V9 (exec_takeP _ ad m d (j + 1) (by omega) (by omega) rfl rfl rfl) ?_
      simp only [Act.put, List.setIfInBounds_toArray, List.set_cons_zero, List.set_cons_succ]
      have C3_6 := Lib.hid (bel_step C3_5.out B5.out)
      have C3_7 := Lib.hid (bel_step C3_6.out B6.out)
      have C3_8 := Lib.hid (bel_step C3_7.out B7.out)
      have C3_9 := Lib.hid (bel_step C3_8.out B8.out)
      have C0_9 := Lib.hid (bel_step C0_8.out B8.out)
      refine wpList_call (by kernel_rfl) 11 Tryd.func11 (by kernel_rfl) (by kernel_rfl) _ _ #[.slice (some ad) (j + 1) d] rfl (by kernel_rfl) ?_
      refine (root_yes (some ad) (j + 1) d (ml.take (j + 1)) V9 ((HP.out.keep C3_9.out).take (k := (j + 1)) (by omega)) (by omega) (by omega) (fun l hl => HSM.out l (List.mem_of_mem_take hl)) (HG.out.keep C0_9.out) root ER.out).mono ?_
      rintro e V10 ⟨rfl, hb⟩
      have B9 := Lib.hid hb
      clear hb 
      refine ⟨_, rfl, ?_⟩
      simp only [Act.put, List.setIfInBounds_toArray, List.set_cons_zero, List.set_cons_succ]
      refine wpList_run (by kernel_rfl) (.tuple #[.agg (celB root).toArray, .int .i64 0]) V10 rfl ?_
      simp only [Act.put, List.setIfInBounds_toArray, List.set_cons_zero, List.set_cons_succ]
      refine wpList_run (by kernel_rfl) (.agg (celB root).toArray) V10 rfl ?_
      simp only [Act.put, List.setIfInBounds_toArray, List.set_cons_zero, List.set_cons_succ]
      refine wpList_run (by kernel_rfl) (.int .i64 0) V10 rfl ?_
      simp only [Act.put, List.setIfInBounds_toArray, List.set_cons_zero, List.set_cons_succ]
      refine wpList_decl z32 (celB root).toArray 31 (by kernel_rfl) (run_allocD _ _ _ rfl) (fun _ => by kernel_rfl) (fun b W h0 => exec_storeD Dg_root.out.1 List.length_replicate (show RowB W 31 b (List.replicate 32 0) from h0) rfl rfl rfl) ?_
      intro b11 V11 hge h0 hb
      have B10 := Lib.hid hb
      have F11 := Lib.hid h0
      clear hge h0 hb
      simp only [ptr, Act.put, List.setIfInBounds_toArray, List.set_cons_zero, List.set_cons_succ]
      refine wpList_run (by kernel_rfl) (.int .i64 0) V11 rfl ?_
      simp only [Act.put, List.setIfInBounds_toArray, List.set_cons_zero, List.set_cons_succ]
      refine wpList_nil ?_
      have hw5 : IntKind.i64.wrap ((j : Int) + 1) = ((j + 1 : Nat) : Int) := by rw [IntKind.wrap_i64]; omega
      go_wp2_with fail
      go_loopw [13, 14] (fun s t wr => ∃ b q : Nat, q ≤ 41 ∧ b + onesN q = on ∧ s = .int .i64 b ∧ t = .int .i64 q ∧ wr = V11) (fun _ t _ => (intOf t).toNat)
      case atStart => exact ⟨0, j + 1, by omega, by rw [HON.out, Nat.zero_add], rfl, by first | rfl | go_num, rfl⟩
      case round =>
        obtain ⟨b, q, hq, hbq, rfl, rfl, rfl⟩ := hrel
        have HBB := Lib.hid hbq
        have hb2 : b ≤ 41 := by omega
        clear hbq
        by_cases h0 : q = 0
        · subst h0
          obtain rfl : b = on := by have := HBB.out; rw [onesN_zero] at this; omega
          have hq0 : ¬ ((0 : Int) < 0) := by omega
          go_upto_region 16 with fail
          try simp only [List.append_eq, List.cons_append, List.nil_append]
          refine Tl.wp_held_tailB 25 wr.heap.size (by kernel_rfl) (lexOK_of (by kernel_rfl) (by kernel_rfl)) (Tl.chainW_of (by kernel_rfl)) rfl (by kernel_rfl) (by kernel_rfl) (fun V12 hb hSW => ?_)
          simp only [List.take_succ_cons, List.take_zero]
          have HS12 := Lib.hid hSW
          have B11 := Lib.hid hb
          clear hb hSW
          refine wpHeld_seg 4 HS12.out (by kernel_rfl) ?_
          simp only [List.take_succ_cons, List.take_zero, List.drop_succ_cons, List.drop_zero]
          refine wpQuiet_val (by kernel_rfl) (.int .i64 0) (fun v hv => rfl) ?_
          simp only [Act.put, List.setIfInBounds_toArray, List.set_cons_zero, List.set_cons_succ]
          refine wpQuiet_val (by kernel_rfl) (.bool false) (fun v hv => (by first | rfl | (unfold execOp; go_simp))) ?_
          simp only [Act.put, List.setIfInBounds_toArray, List.set_cons_zero, List.set_cons_succ]
          refine wpQuiet_val (by kernel_rfl) (.bool false) (fun v hv => rfl) ?_
          simp only [Act.put, List.setIfInBounds_toArray, List.set_cons_zero, List.set_cons_succ]
          refine wpQuiet_val (by kernel_rfl) (.slice (some na) b naf) (fun v hv => rfl) ?_
          simp only [Act.put, List.setIfInBounds_toArray, List.set_cons_zero, List.set_cons_succ]
          refine wpQuiet_nil ?_
          have C7_9 := Lib.hid (bel_step B7.out B8.out)
          have C7_10 := Lib.hid (bel_step C7_9.out B9.out)
          have C7_11 := Lib.hid (bel_step C7_10.out B10.out)
          have C7_12 := Lib.hid (bel_step C7_11.out B11.out)
          have C0_10 := Lib.hid (bel_step C0_9.out B9.out)
          have C0_11 := Lib.hid (bel_step C0_10.out B10.out)
          have C0_12 := Lib.hid (bel_step C0_11.out B11.out)
          refine wpHeld_call 20 Tryd.func20 (by kernel_rfl) (by kernel_rfl) _ _ #[.slice (some na) b naf] rfl (by kernel_rfl) (by kernel_rfl) ?_
          refine (bag_any (some na) b naf pk V12 (HNX.out.keep C7_12.out) (by omega) (HG.out.keep C0_12.out) root EBAG.out).mono ?_
          rintro e V13 ⟨rfl, hb⟩
          have B12 := Lib.hid hb
          have HS13 := Lib.hid (LaterB.step HS12.out (hb.mono B11.out.size))
          clear hb 
          refine ⟨_, rfl, HS13.out, ?_⟩
          simp only [Act.put, List.setIfInBounds_toArray, List.set_cons_zero, List.set_cons_succ]
          refine wpHeld_seg 18 HS13.out (by kernel_rfl) ?_
          simp only [List.take_succ_cons, List.take_zero, List.drop_succ_cons, List.drop_zero]
          refine wpQuiet_val (by kernel_rfl) (.agg (celB root).toArray) (fun v hv => (exec_loadD Dg_root.out.1 (show RowB v 31 b11 root from (heap_keep F11.out (LaterB.of hv))) rfl rfl)) ?_
          simp only [Act.put, List.setIfInBounds_toArray, List.set_cons_zero, List.set_cons_succ]
          refine wpQuiet_val (by kernel_rfl) (.bool false) (fun v hv => (exec_cmpD rfl rfl rfl (run_neD_same root Dg_root.out.1 Dg_root.out.2 _))) ?_
          simp only [Act.put, List.setIfInBounds_toArray, List.set_cons_zero, List.set_cons_succ]
          refine wpQuiet_val (by kernel_rfl) (.bool false) (fun v hv => rfl) ?_
          simp only [Act.put, List.setIfInBounds_toArray, List.set_cons_zero, List.set_cons_succ]
          refine wpQuiet_val (by kernel_rfl) (.bool false) (fun v hv => rfl) ?_
          simp only [Act.put, List.setIfInBounds_toArray, List.set_cons_zero, List.set_cons_succ]
          refine wpQuiet_val (by kernel_rfl) (.slice (some na) b naf) (fun v hv => rfl) ?_
          simp only [Act.put, List.setIfInBounds_toArray, List.set_cons_zero, List.set_cons_succ]
          refine wpQuiet_val (by kernel_rfl) (.int .i64 ((b : Nat) : Int)) (fun v hv => (by first | rfl | (unfold execOp; go_simp))) ?_
          simp only [Act.put, List.setIfInBounds_toArray, List.set_cons_zero, List.set_cons_succ]
          refine wpQuiet_val (by kernel_rfl) (.int .i64 ((b : Nat) : Int)) (fun v hv => rfl) ?_
          simp only [Act.put, List.setIfInBounds_toArray, List.set_cons_zero, List.set_cons_succ]
          refine wpQuiet_val (by kernel_rfl) (.bool false) (fun v hv => (by first | rfl | (unfold execOp; go_simp))) ?_
          simp only [Act.put, List.setIfInBounds_toArray, List.set_cons_zero, List.set_cons_succ]
          refine wpQuiet_val (by kernel_rfl) (.bool false) (fun v hv => rfl) ?_
          simp only [Act.put, List.setIfInBounds_toArray, List.set_cons_zero, List.set_cons_succ]
          refine wpQuiet_val (by kernel_rfl) (.bool false) (fun v hv => rfl) ?_
          simp only [Act.put, List.setIfInBounds_toArray, List.set_cons_zero, List.set_cons_succ]
          refine wpQuiet_val (by kernel_rfl) (.slice (some nb) b nbf) (fun v hv => rfl) ?_
          simp only [Act.put, List.setIfInBounds_toArray, List.set_cons_zero, List.set_cons_succ]
          refine wpQuiet_val (by kernel_rfl) (.int .i64 ((b : Nat) : Int)) (fun v hv => (by first | rfl | (unfold execOp; go_simp))) ?_
          simp only [Act.put, List.setIfInBounds_toArray, List.set_cons_zero, List.set_cons_succ]
          refine wpQuiet_val (by kernel_rfl) (.int .i64 ((b : Nat) : Int)) (fun v hv => rfl) ?_
          simp only [Act.put, List.setIfInBounds_toArray, List.set_cons_zero, List.set_cons_succ]
          refine wpQuiet_val (by kernel_rfl) (.bool false) (fun v hv => (by first | rfl | (unfold execOp; go_simp))) ?_
          simp only [Act.put, List.setIfInBounds_toArray, List.set_cons_zero, List.set_cons_succ]
          refine wpQuiet_val (by kernel_rfl) (.bool false) (fun v hv => rfl) ?_
          simp only [Act.put, List.setIfInBounds_toArray, List.set_cons_zero, List.set_cons_succ]
          refine wpQuiet_val (by kernel_rfl) (.bool false) (fun v hv => rfl) ?_
          simp only [Act.put, List.setIfInBounds_toArray, List.set_cons_zero, List.set_cons_succ]
          refine wpQuiet_val (by kernel_rfl) (.slice (some pa) pn pc) (fun v hv => rfl) ?_
          simp only [Act.put, List.setIfInBounds_toArray, List.set_cons_zero, List.set_cons_succ]
          refine wpQuiet_val (by kernel_rfl) (.slice (some ⟨g7, 0, none⟩) pn c7) (fun v hv => rfl) ?_
          simp only [Act.put, List.setIfInBounds_toArray, List.set_cons_zero, List.set_cons_succ]
          refine wpQuiet_nil ?_
          have C5_9 := Lib.hid (bel_step C5_8.out B8.out)
          have C5_10 := Lib.hid (bel_step C5_9.out B9.out)
          have C5_11 := Lib.hid (bel_step C5_10.out B10.out)
          have C5_12 := Lib.hid (bel_step C5_11.out B11.out)
          have C5_13 := Lib.hid (bel_step C5_12.out B12.out)
          have C6_8 := Lib.hid (bel_step B6.out B7.out)
          have C6_9 := Lib.hid (bel_step C6_8.out B8.out)
          have C6_10 := Lib.hid (bel_step C6_9.out B9.out)
          have C6_11 := Lib.hid (bel_step C6_10.out B10.out)
          have C6_12 := Lib.hid (bel_step C6_11.out B11.out)
          have C6_13 := Lib.hid (bel_step C6_12.out B12.out)
          refine wpHeld_call 15 Tryd.func15 (by kernel_rfl) (by kernel_rfl) _ _ #[.slice (some pa) pn pc, .slice (some ⟨g7, 0, none⟩) pn c7] rfl (by kernel_rfl) (by kernel_rfl) ?_
          refine (same8_any (some pa) pn pc (peaksN (ml.take j)) (some ⟨g7, 0, none⟩) pn c7 (peaksN (ml.take j)) V13 (HPK.out.keep C5_13.out) (HCP.out.keep C6_13.out) true (decide_eq_true rfl)).mono ?_
          rintro e V14 ⟨rfl, hb⟩
          have B13 := Lib.hid hb
          have C11_13 := Lib.hid (bel_step B11.out B12.out)
          have HS14 := Lib.hid (LaterB.step HS13.out (hb.mono C11_13.out.size))
          clear hb 
          refine ⟨_, rfl, HS14.out, ?_⟩
          simp only [Act.put, List.setIfInBounds_toArray, List.set_cons_zero, List.set_cons_succ]
          refine wpHeld_seg 1 HS14.out (by kernel_rfl) ?_
          simp only [List.take_succ_cons, List.take_zero, List.drop_succ_cons, List.drop_zero]
          refine wpQuiet_val (by kernel_rfl) (.bool false) (fun v hv => rfl) ?_
          simp only [Act.put, List.setIfInBounds_toArray, List.set_cons_zero, List.set_cons_succ]
          refine wpQuiet_nil ?_
          refine wpHeld_nil ?_
          refine mOp_val (.bool false) rfl rfl rfl ?_
          have hwj : IntKind.i64.wrap ((j : Int) + 1) = ((j + 1 : Nat) : Int) := by rw [IntKind.wrap_i64]; omega
          go_wp2_with fail
          have C4_6 := Lib.hid (bel_step B4.out B5.out)
          have C4_7 := Lib.hid (bel_step C4_6.out B6.out)
          have C4_8 := Lib.hid (bel_step C4_7.out B7.out)
          have C4_9 := Lib.hid (bel_step C4_8.out B8.out)
          have C4_10 := Lib.hid (bel_step C4_9.out B9.out)
          have C4_11 := Lib.hid (bel_step C4_10.out B10.out)
          have C4_12 := Lib.hid (bel_step C4_11.out B11.out)
          have C4_13 := Lib.hid (bel_step C4_12.out B12.out)
          have C4_14 := Lib.hid (bel_step C4_13.out B13.out)
          have C7_13 := Lib.hid (bel_step C7_12.out B12.out)
          have C7_14 := Lib.hid (bel_step C7_13.out B13.out)
          go_roundw
          case rel => exact ⟨j + 1, na, b, naf, by omega, by omega, by first | rfl | go_num, rfl, by rw [HPE.out]; exact (HNX.out.keep C7_14.out), C4_14.out⟩
          case measure => simp [intOf]; omega
        · have h1 : (0 : Int) < (q : Int) := by omega
          have HS := Lib.hid (onesN_step q)
          have hw1 : IntKind.i64.wrap (Int.tmod (q : Int) 2) = ((q % 2 : Nat) : Int) := by rw [IntKind.wrap_i64, Int.tmod_eq_emod_of_nonneg (by omega)]; omega
          have hw2 : IntKind.i64.wrap (Int.tdiv (q : Int) 2) = ((q / 2 : Nat) : Int) := by rw [IntKind.wrap_i64, Int.tdiv_eq_ediv_of_nonneg (by omega)]; omega
          have hw : IntKind.i64.wrap ((b : Int) + ((q % 2 : Nat) : Int)) = ((b + q % 2 : Nat) : Int) := by rw [IntKind.wrap_i64]; omega
          go_wp2_with fail
          go_roundw
          case rel => exact ⟨b + q % 2, q / 2, by omega, by have := HBB.out; have := HS.out; omega, by first | rfl | go_num, by first | rfl | go_num, by first | trivial | rfl⟩
          case measure => simp [intOf]; omega
    · have hlt2 : ¬ (j : Int) < (m : Int) := by omega
      go_wp2_with fail
      go_ret
      have C0_3 := Lib.hid (bel_step C0_2.out B2.out)
      have C0_4 := Lib.hid (bel_step C0_3.out B3.out)
      have C0_5 := Lib.hid (bel_step C0_4.out B4.out)
      exact ⟨rfl, C0_5.out⟩
end Go.Proofs.YtcephdkcjcbanaaDoor
