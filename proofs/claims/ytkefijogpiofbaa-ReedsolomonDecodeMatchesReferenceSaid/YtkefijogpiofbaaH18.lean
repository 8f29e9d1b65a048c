/- Several texts in one: Ui9. -/
import Derived.Test.YtkefijogpiofbaaH17
namespace Go.Proofs.Ytkefijogpiofbaa
set_option linter.unusedVariables false
set_option linter.unusedSimpArgs false
set_option linter.unusedSectionVars false
set_option maxRecDepth 8000
open Go.RowKit Go.Proofs.Ytkefijogpiofbaa.K
attribute [local irreducible] wpList wpQuiet
set_option maxRecDepth 100000 in
set_option maxHeartbeats 16000000 in
theorem rencodeExtN (A : Option Addr) (n c : Nat) (xs : List Gold.E2) (z K L N M : Nat) (hn : n = 2 ^ K) (hz : z = 2 ^ L) (hL1 : 1 ≤ L) (hL4 : L ≤ 4) (hKL : K + L = M) (hM : M ≤ 16) (hN : N = 2 ^ M) (hn65 : n ≤ 65536) (w : World) (hX : Sg exC 2 w A n c xs) :
    Calls Try.prog 12 #[.slice A n c, .int .i64 (z : Int)] w fun e w' => ∃ A' c', e = .returned (.tuple #[.slice A' N c', .int .i64 0]) ∧ Sg exC 2 w' A' N c' (Gold.cwX xs M) ∧ Below w.heap.size w w' := by
  have HX := Lib.hid hX
  have hxl := hX.len
  have hcp := hX.cap
  have htp := hX.top
  clear hX
  have HN := Lib.hid hn
  have HZ := Lib.hid hz
  have HNN := Lib.hid hN
  have hNN65 : N ≤ 65536 := by rw [hN]; exact Gold.pow2_le hM
  clear hn hz hN
  go_enter Try.func12, Try.ntmps12
  go_upto_region 1 with fail
  refine wp_region_lit ?_
  refine wpList_mk (by kernel_rfl) #[] 29 0 0 (xo_empty (size := 1) Try.underlying22 (by kernel_rfl) rfl w) ?_
  intro g15 V1 hge h0 hb
  have hge2 := Nat.le_trans (Below.refl w.heap.size w).size hge
  have B0 := Lib.hid hb
  have Ow15 : Hid (V1.ownsRow w.heap.size 29 1 (.slice (some ⟨g15, 0, none⟩) 0 0) 0 (fl feC [])) := Lib.hid (own_new h0 hge2)
  clear hge hge2 h0 hb
  simp only [ptr, Act.put, List.setIfInBounds_toArray, List.set_cons_zero, List.set_cons_succ]
  refine wpList_run (by kernel_rfl) (.slice (some ⟨g15, 0, none⟩) 0 0) V1 rfl ?_
  simp only [Act.put, List.setIfInBounds_toArray, List.set_cons_zero, List.set_cons_succ]
  refine wpList_nil ?_
  go_upto_region 2 with fail
  refine wp_region_lit ?_
  refine wpList_mk (by kernel_rfl) #[] 29 0 0 (xo_empty (size := 1) Try.underlying22 (by kernel_rfl) rfl V1) ?_
  intro g16 V2 hge h0 hb
  have Ap0 : Hid (ApartV (.slice (some ⟨g15, 0, none⟩) 0 0) (.slice (some ⟨g16, 0, none⟩) 0 0)) := Lib.hid (ApartV.new Ow15.out hge)
  have hge2 := Nat.le_trans B0.out.size hge
  have B1 := Lib.hid hb
  have Ow16 : Hid (V2.ownsRow w.heap.size 29 1 (.slice (some ⟨g16, 0, none⟩) 0 0) 0 (fl feC [])) := Lib.hid (own_new h0 hge2)
  clear hge hge2 h0 hb
  simp only [ptr, Act.put, List.setIfInBounds_toArray, List.set_cons_zero, List.set_cons_succ]
  refine wpList_run (by kernel_rfl) (.slice (some ⟨g16, 0, none⟩) 0 0) V2 rfl ?_
  simp only [Act.put, List.setIfInBounds_toArray, List.set_cons_zero, List.set_cons_succ]
  refine wpList_nil ?_
  go_upto_region 3 with fail
  refine wp_region_lit ?_
  refine wpList_run (by kernel_rfl) (.int .i64 0) V2 rfl ?_
  simp only [Act.put, List.setIfInBounds_toArray, List.set_cons_zero, List.set_cons_succ]
  refine wpList_nil ?_
  have O1 := (own_keep Ow15.out B1.out)
  have O2 := Ow16.out
  have C0_2 := Lib.hid (bel_step B0.out B1.out)
  have O3 := C0_2.out
  go_wp2_with fail
  go_loopw [6, 7, 8] (fun av bv p wr => ∃ i : Nat, i ≤ n ∧ p = .int .i64 i ∧ wr.ownsRow w.heap.size 29 1 av i (fl feC ((xs.map Gold.E2.A).take i)) ∧ wr.ownsRow w.heap.size 29 1 bv i (fl feC ((xs.map Gold.E2.B).take i)) ∧ ApartV av bv ∧ Below w.heap.size w wr) (fun _ _ p _ => n - (intOf p).toNat)
  case atStart => exact ⟨0, Nat.zero_le _, rfl, O1, O2, Ap0.out, O3⟩
  case round =>
    clear O3 O1 O2
    obtain ⟨wo, rfl⟩ : ∃ wo : World, wo = wr := ⟨_, rfl⟩
    obtain ⟨i, hi, rfl, hOWa, hOWb, hHAP, hb0⟩ := hrel
    have hbr := hb0
    clear B0
    have B0 := Lib.hid hbr
    clear hbr
    have OWa := Lib.hid hOWa
    have OWb := Lib.hid hOWb
    have HAP := Lib.hid hHAP
    clear hb0 hOWa hOWb hHAP
    by_cases hi1 : i < n
    · have hci5 : ((i : Int) < (n : Int)) := by omega
      go_upto_region 4 with fail
      refine wp_region_lit ?_
      refine wpList_run (by kernel_rfl) (.int .i64 (i : Int)) wo rfl ?_
      simp only [Act.put, List.setIfInBounds_toArray, List.set_cons_zero, List.set_cons_succ]
      refine wpList_run (by kernel_rfl) (.slice A n c) wo rfl ?_
      simp only [Act.put, List.setIfInBounds_toArray, List.set_cons_zero, List.set_cons_succ]
      refine wpList_run (by kernel_rfl) (.int .i64 (n : Int)) wo (xo_len A n c Try.underlying28 rfl rfl) ?_
      simp only [Act.put, List.setIfInBounds_toArray, List.set_cons_zero, List.set_cons_succ]
      refine wpList_run (by kernel_rfl) (.bool true) wo (xo_lssT .i64 (i : Int) (n : Int) (by omega) rfl rfl rfl) ?_
      simp only [Act.put, List.setIfInBounds_toArray, List.set_cons_zero, List.set_cons_succ]
      refine wpList_nil ?_
      obtain ⟨x, hx⟩ : ∃ x, xs[i]? = some x := ⟨_, List.getElem?_eq_getElem (by omega)⟩
      have HEx := Lib.hid hx
      clear hx
      go_upto_region 6 with fail
      refine wp_region_lit ?_
      refine wpList_run (by kernel_rfl) (u6) wo rfl ?_
      simp only [Act.put, List.setIfInBounds_toArray, List.set_cons_zero, List.set_cons_succ]
      refine wpList_run (by kernel_rfl) (.slice A n c) wo rfl ?_
      simp only [Act.put, List.setIfInBounds_toArray, List.set_cons_zero, List.set_cons_succ]
      refine wpList_run (by kernel_rfl) (.int .i64 (i : Int)) wo rfl ?_
      simp only [Act.put, List.setIfInBounds_toArray, List.set_cons_zero, List.set_cons_succ]
      refine wpList_run (by kernel_rfl) (.pointer (some (gad A (i * 2)))) wo (xg_idx .i64 (HX.out.keep B0.out) HEx.out Try.underlying28 (by kernel_rfl) rfl rfl rfl) ?_
      simp only [Act.put, List.setIfInBounds_toArray, List.set_cons_zero, List.set_cons_succ]
      refine wpList_run (by kernel_rfl) (.pointer (some (gad A ((i * 2) + 0)))) wo (xg_fld 0 (HX.out.keep B0.out) HEx.out (by kernel_rfl) rfl rfl) ?_
      simp only [Act.put, List.setIfInBounds_toArray, List.set_cons_zero, List.set_cons_succ]
      refine wpList_run (by kernel_rfl) (.int .u64 (Gold.vF x.A)) wo (xg_load1 (E := exC) (i := i) (j := 0) (HX.out.keep B0.out) HEx.out rfl rfl Try.underlying29 rfl rfl rfl) ?_
      simp only [Act.put, List.setIfInBounds_toArray, List.set_cons_zero, List.set_cons_succ]
      refine wpList_mk (by kernel_rfl) ([x.A].flatMap feC).toArray 29 1 1 (xg_lit (E := feC) (bytes := 8) (.int .u64 0) [.tmp 28] [x.A] 1 Try.underlying22 (by kernel_rfl) rfl (by decide) (by decide) rfl rfl) ?_
      intro g29 V2 hge h0 hb
      have Ge6 : Hid (wo.heap.size ≤ g29) := Lib.hid hge
      have B1 := Lib.hid hb
      have Fv7_29 : Hid (RowG feC V2 g29 29 ([x.A])) := Lib.hid (h0)
      have Lt8 : Hid (g29 < V2.heap.size) := Lib.hid (xp_lt Fv7_29.out)
      clear hge h0 hb
      simp only [ptr, Act.put, List.setIfInBounds_toArray, List.set_cons_zero, List.set_cons_succ]
      have C0_2 := Lib.hid (bel_step B0.out B1.out)
      refine wpList_app2 (size := 1) (by kernel_rfl) (.tmp 23) (.tmp 29) 22 rfl (.int .u64 0) 8 Try.underlying22 (by kernel_rfl) rfl (by decide) rfl (own_keep OWa.out B1.out) (some ⟨g29, 0, none⟩) 1 1 (fl feC ([x.A])) rfl (RowG.sg (n := 1) (c := 1) Fv7_29.out (show ([x.A]).length = 1 from rfl) (Nat.le_refl _) (by omega)).src (by unfold maxLen; omega) (by omega) C0_2.out.size ?_
      intro v30 X2_9 ho hb1 hg hloc
      have hox : X2_9.ownsRow w.heap.size 29 1 v30 (i + 1) (fl feC (((xs.map Gold.E2.A).take i) ++ ([x.A]))) := by rw [fl_append]; exact ho
      have hzOWb := own_other (own_keep OWb.out B1.out) hg HAP.out
      have hpOWb := ApartV.grow HAP.out hloc (own_keep OWb.out B1.out)
      have hbr := C0_2.out.trans hb1
      clear B0
      have B0 := Lib.hid hbr
      clear hbr
      have Ow30_10 := Lib.hid hox
      clear OWb
      have OWb := Lib.hid hzOWb
      have Ap11 := Lib.hid hpOWb
      clear hzOWb hpOWb
      clear ho hox hb1 hg hloc
      simp only [ptr, Act.put, List.setIfInBounds_toArray, List.set_cons_zero, List.set_cons_succ]
      refine wpList_run (by kernel_rfl) (v30) X2_9 rfl ?_
      simp only [Act.put, List.setIfInBounds_toArray, List.set_cons_zero, List.set_cons_succ]
      refine wpList_nil ?_
      go_upto_region 7 with fail
      refine wp_region_lit ?_
      refine wpList_run (by kernel_rfl) (u7) X2_9 rfl ?_
      simp only [Act.put, List.setIfInBounds_toArray, List.set_cons_zero, List.set_cons_succ]
      refine wpList_run (by kernel_rfl) (.slice A n c) X2_9 rfl ?_
      simp only [Act.put, List.setIfInBounds_toArray, List.set_cons_zero, List.set_cons_succ]
      refine wpList_run (by kernel_rfl) (.int .i64 (i : Int)) X2_9 rfl ?_
      simp only [Act.put, List.setIfInBounds_toArray, List.set_cons_zero, List.set_cons_succ]
      refine wpList_run (by kernel_rfl) (.pointer (some (gad A (i * 2)))) X2_9 (xg_idx .i64 (HX.out.keep B0.out) HEx.out Try.underlying28 (by kernel_rfl) rfl rfl rfl) ?_
      simp only [Act.put, List.setIfInBounds_toArray, List.set_cons_zero, List.set_cons_succ]
      refine wpList_run (by kernel_rfl) (.pointer (some (gad A ((i * 2) + 1)))) X2_9 (xg_fld 1 (HX.out.keep B0.out) HEx.out (by kernel_rfl) rfl rfl) ?_
      simp only [Act.put, List.setIfInBounds_toArray, List.set_cons_zero, List.set_cons_succ]
      refine wpList_run (by kernel_rfl) (.int .u64 (Gold.vF x.B)) X2_9 (xg_load1 (E := exC) (i := i) (j := 1) (HX.out.keep B0.out) HEx.out rfl rfl Try.underlying29 rfl rfl rfl) ?_
      simp only [Act.put, List.setIfInBounds_toArray, List.set_cons_zero, List.set_cons_succ]
      refine wpList_mk (by kernel_rfl) ([x.B].flatMap feC).toArray 29 1 1 (xg_lit (E := feC) (bytes := 8) (.int .u64 0) [.tmp 36] [x.B] 1 Try.underlying22 (by kernel_rfl) rfl (by decide) (by decide) rfl rfl) ?_
      intro g37 V2 hge h0 hb
      have Ge12 : Hid (X2_9.heap.size ≤ g37) := Lib.hid hge
      have B1 := Lib.hid hb
      have Fv13_37 : Hid (RowG feC V2 g37 29 ([x.B])) := Lib.hid (h0)
      have Lt14 : Hid (g37 < V2.heap.size) := Lib.hid (xp_lt Fv13_37.out)
      clear hge h0 hb
      simp only [ptr, Act.put, List.setIfInBounds_toArray, List.set_cons_zero, List.set_cons_succ]
      have C0_2 := Lib.hid (bel_step B0.out B1.out)
      refine wpList_app2 (size := 1) (by kernel_rfl) (.tmp 31) (.tmp 37) 22 rfl (.int .u64 0) 8 Try.underlying22 (by kernel_rfl) rfl (by decide) rfl (own_keep OWb.out B1.out) (some ⟨g37, 0, none⟩) 1 1 (fl feC ([x.B])) rfl (RowG.sg (n := 1) (c := 1) Fv13_37.out (show ([x.B]).length = 1 from rfl) (Nat.le_refl _) (by omega)).src (by unfold maxLen; omega) (by omega) C0_2.out.size ?_
      intro v38 X2_15 ho hb1 hg hloc
      have hox : X2_15.ownsRow w.heap.size 29 1 v38 (i + 1) (fl feC (((xs.map Gold.E2.B).take i) ++ ([x.B]))) := by rw [fl_append]; exact ho
      have hzOw30_10 := own_other (own_keep Ow30_10.out B1.out) hg Ap11.out.symm
      have hpOw30_10 := ApartV.grow Ap11.out.symm hloc (own_keep Ow30_10.out B1.out)
      have hbr := C0_2.out.trans hb1
      clear B0
      have B0 := Lib.hid hbr
      clear hbr
      have Ow38_16 := Lib.hid hox
      clear Ow30_10
      have Ow30_10 := Lib.hid hzOw30_10
      have Ap17 := Lib.hid hpOw30_10
      clear hzOw30_10 hpOw30_10
      clear ho hox hb1 hg hloc
      simp only [ptr, Act.put, List.setIfInBounds_toArray, List.set_cons_zero, List.set_cons_succ]
      refine wpList_run (by kernel_rfl) (v38) X2_15 rfl ?_
      simp only [Act.put, List.setIfInBounds_toArray, List.set_cons_zero, List.set_cons_succ]
      refine wpList_nil ?_
      have hka := Ow30_10.out
      rw [show (xs.map Gold.E2.A).take i ++ [x.A] = (xs.map Gold.E2.A).take (i + 1) by rw [List.take_add_one, List.getElem?_map, HEx.out]; rfl] at hka
      have hkb := Ow38_16.out
      rw [show (xs.map Gold.E2.B).take i ++ [x.B] = (xs.map Gold.E2.B).take (i + 1) by rw [List.take_add_one, List.getElem?_map, HEx.out]; rfl] at hkb
      have hap2 := Ap17.out.symm
      go_upto_region 5 with fail
      refine wp_region_lit ?_
      refine wpList_run (by kernel_rfl) (.int .i64 (i : Int)) X2_15 rfl ?_
      simp only [Act.put, List.setIfInBounds_toArray, List.set_cons_zero, List.set_cons_succ]
      refine wpList_run (by kernel_rfl) (.int .i64 ((i + 1 : Nat) : Int)) X2_15 (xo_addI (i : Int) 1 ((i + 1 : Nat) : Int) (by omega) (by omega) (by omega) rfl rfl rfl) ?_
      simp only [Act.put, List.setIfInBounds_toArray, List.set_cons_zero, List.set_cons_succ]
      refine wpList_run (by kernel_rfl) (.int .i64 ((i + 1 : Nat) : Int)) X2_15 rfl ?_
      simp only [Act.put, List.setIfInBounds_toArray, List.set_cons_zero, List.set_cons_succ]
      refine wpList_nil ?_
      have hq18 := B0.out
      go_wp2_with fail
      go_roundw
      case rel => exact ⟨i + 1, by omega, by go_num, hka, hkb, hap2, hq18⟩
      case measure => simp [intOf]; omega
    · have hci5 : ¬ ((i : Int) < (n : Int)) := by omega
      go_upto_region 4 with fail
      refine wp_region_lit ?_
      refine wpList_run (by kernel_rfl) (.int .i64 (i : Int)) wo rfl ?_
      simp only [Act.put, List.setIfInBounds_toArray, List.set_cons_zero, List.set_cons_succ]
      refine wpList_run (by kernel_rfl) (.slice A n c) wo rfl ?_
      simp only [Act.put, List.setIfInBounds_toArray, List.set_cons_zero, List.set_cons_succ]
      refine wpList_run (by kernel_rfl) (.int .i64 (n : Int)) wo (xo_len A n c Try.underlying28 rfl rfl) ?_
      simp only [Act.put, List.setIfInBounds_toArray, List.set_cons_zero, List.set_cons_succ]
      refine wpList_run (by kernel_rfl) (.bool false) wo (xo_lssF .i64 (i : Int) (n : Int) (by omega) rfl rfl rfl) ?_
      simp only [Act.put, List.setIfInBounds_toArray, List.set_cons_zero, List.set_cons_succ]
      refine wpList_nil ?_
      obtain rfl : n = i := by omega
      obtain ⟨AA, cA, hvA⟩ := own_form OWa.out
      subst hvA
      have hso := Sg.ownS OWa.out
      rw [List.take_of_length_le (by rw [List.length_map]; omega)] at hso
      have HSa := Lib.hid hso
      clear hso
      obtain ⟨AB, cB, hvB⟩ := own_form OWb.out
      subst hvB
      have hso := Sg.ownS OWb.out
      rw [List.take_of_length_le (by rw [List.length_map]; omega)] at hso
      have HSb := Lib.hid hso
      clear hso
      go_upto_region 8 with fail
      refine wp_region_lit ?_
      refine wpList_run (by kernel_rfl) (.slice AA n cA) wo rfl ?_
      simp only [Act.put, List.setIfInBounds_toArray, List.set_cons_zero, List.set_cons_succ]
      refine wpList_run (by kernel_rfl) (.int .i64 (z : Int)) wo rfl ?_
      simp only [Act.put, List.setIfInBounds_toArray, List.set_cons_zero, List.set_cons_succ]
      refine wpList_call (by kernel_rfl) 10 Try.func10 (by kernel_rfl) (by kernel_rfl) _ _ #[.slice AA n cA, .int .i64 (z : Int)] rfl (by kernel_rfl) ?_
      refine (rencodeN AA n cA (xs.map Gold.E2.A) z K L N M HN.out HZ.out hL1 hL4 hKL hM HNN.out wo HSa.out).mono ?_
      rintro e V2 ⟨Ea, fa, rfl, hs, hb⟩
      have B1 := Lib.hid hb
      have Ha := Lib.hid hs
      clear hb hs
      refine ⟨_, rfl, ?_⟩
      simp only [Act.put, List.setIfInBounds_toArray, List.set_cons_zero, List.set_cons_succ]
      refine wpList_run (by kernel_rfl) (.tuple #[.slice Ea N fa, .int .i64 0]) V2 rfl ?_
      simp only [Act.put, List.setIfInBounds_toArray, List.set_cons_zero, List.set_cons_succ]
      refine wpList_run (by kernel_rfl) (.slice Ea N fa) V2 rfl ?_
      simp only [Act.put, List.setIfInBounds_toArray, List.set_cons_zero, List.set_cons_succ]
      refine wpList_run (by kernel_rfl) (.int .i64 0) V2 rfl ?_
      simp only [Act.put, List.setIfInBounds_toArray, List.set_cons_zero, List.set_cons_succ]
      refine wpList_run (by kernel_rfl) (.slice Ea N fa) V2 rfl ?_
      simp only [Act.put, List.setIfInBounds_toArray, List.set_cons_zero, List.set_cons_succ]
      refine wpList_run (by kernel_rfl) (.int .i64 0) V2 rfl ?_
      simp only [Act.put, List.setIfInBounds_toArray, List.set_cons_zero, List.set_cons_succ]
      refine wpList_nil ?_
      go_upto_region 9 with fail
      refine wp_region_lit ?_
      refine wpList_run (by kernel_rfl) (.slice AB n cB) V2 rfl ?_
      simp only [Act.put, List.setIfInBounds_toArray, List.set_cons_zero, List.set_cons_succ]
      refine wpList_run (by kernel_rfl) (.int .i64 (z : Int)) V2 rfl ?_
      simp only [Act.put, List.setIfInBounds_toArray, List.set_cons_zero, List.set_cons_succ]
      refine wpList_call (by kernel_rfl) 10 Try.func10 (by kernel_rfl) (by kernel_rfl) _ _ #[.slice AB n cB, .int .i64 (z : Int)] rfl (by kernel_rfl) ?_
      refine (rencodeN AB n cB (xs.map Gold.E2.B) z K L N M HN.out HZ.out hL1 hL4 hKL hM HNN.out V2 (HSb.out.keep B1.out)).mono ?_
      rintro e V3 ⟨Eb, fb, rfl, hs, hb⟩
      have B2 := Lib.hid hb
      have Hb := Lib.hid hs
      clear hb hs
      refine ⟨_, rfl, ?_⟩
      simp only [Act.put, List.setIfInBounds_toArray, List.set_cons_zero, List.set_cons_succ]
      refine wpList_run (by kernel_rfl) (.tuple #[.slice Eb N fb, .int .i64 0]) V3 rfl ?_
      simp only [Act.put, List.setIfInBounds_toArray, List.set_cons_zero, List.set_cons_succ]
      refine wpList_run (by kernel_rfl) (.slice Eb N fb) V3 rfl ?_
      simp only [Act.put, List.setIfInBounds_toArray, List.set_cons_zero, List.set_cons_succ]
      refine wpList_run (by kernel_rfl) (.int .i64 0) V3 rfl ?_
      simp only [Act.put, List.setIfInBounds_toArray, List.set_cons_zero, List.set_cons_succ]
      refine wpList_run (by kernel_rfl) (.slice Eb N fb) V3 rfl ?_
      simp only [Act.put, List.setIfInBounds_toArray, List.set_cons_zero, List.set_cons_succ]
      refine wpList_run (by kernel_rfl) (.int .i64 0) V3 rfl ?_
      simp only [Act.put, List.setIfInBounds_toArray, List.set_cons_zero, List.set_cons_succ]
      refine wpList_nil ?_
      go_upto_region 10 with fail
      refine wp_region_lit ?_
      refine wpList_run (by kernel_rfl) (.int .i64 0) V3 rfl ?_
      simp only [Act.put, List.setIfInBounds_toArray, List.set_cons_zero, List.set_cons_succ]
      refine wpList_run (by kernel_rfl) (.bool false) V3 (xo_neqF .i64 0 0 (by omega) rfl rfl rfl) ?_
      simp only [Act.put, List.setIfInBounds_toArray, List.set_cons_zero, List.set_cons_succ]
      refine wpList_nil ?_
      have C0_2 := Lib.hid (bel_step B0.out B1.out)
      have C0_3 := Lib.hid (bel_step C0_2.out B2.out)
      have HBV6 := Lib.hid C0_3.out
      have YHa := (Ha.out.keep B2.out)
      have YHb := Hb.out
      clear Ha
      have Ha := Lib.hid YHa
      clear YHa
      clear Hb
      have Hb := Lib.hid YHb
      clear YHb
      obtain ⟨VB6, rfl⟩ : ∃ VB6 : World, VB6 = V3 := ⟨_, rfl⟩
      go_upto_region 12 with fail
      refine wp_region_lit ?_
      refine wpList_mk (by kernel_rfl) #[] 31 0 0 (xo_empty (size := 2) Try.underlying28 (by kernel_rfl) rfl VB6) ?_
      intro g54 V1 hge h0 hb
      have hge2 := Nat.le_trans (Below.refl VB6.heap.size VB6).size hge
      have B0 := Lib.hid hb
      have Ow54 : Hid (V1.ownsRow VB6.heap.size 31 2 (.slice (some ⟨g54, 0, none⟩) 0 0) 0 (fl exC [])) := Lib.hid (own_new h0 hge2)
      clear hge hge2 h0 hb
      simp only [ptr, Act.put, List.setIfInBounds_toArray, List.set_cons_zero, List.set_cons_succ]
      refine wpList_run (by kernel_rfl) (.slice (some ⟨g54, 0, none⟩) 0 0) V1 rfl ?_
      simp only [Act.put, List.setIfInBounds_toArray, List.set_cons_zero, List.set_cons_succ]
      refine wpList_nil ?_
      go_upto_region 13 with fail
      refine wp_region_lit ?_
      refine wpList_run (by kernel_rfl) (.int .i64 0) V1 rfl ?_
      simp only [Act.put, List.setIfInBounds_toArray, List.set_cons_zero, List.set_cons_succ]
      refine wpList_nil ?_
      have O7 := Ow54.out
      have O8 := B0.out
      go_wp2_with fail
      go_loopw [13, 14] (fun ov p wr => ∃ j : Nat, j ≤ N ∧ p = .int .i64 j ∧ wr.ownsRow VB6.heap.size 31 2 ov j (fl exC ((Gold.cwX xs M).take j)) ∧ Below VB6.heap.size VB6 wr) (fun _ p _ => N - (intOf p).toNat)
      case atStart => exact ⟨0, Nat.zero_le _, rfl, O7, O8⟩
      case round =>
        clear O8 O7
        obtain ⟨wz, rfl⟩ : ∃ wz : World, wz = wr := ⟨_, rfl⟩
        obtain ⟨j, hi, rfl, hOW, hb0⟩ := hrel
        have hbr := hb0
        clear B0
        have B0 := Lib.hid hbr
        clear hbr
        have OW := Lib.hid hOW
        clear hb0 hOW
        by_cases hj1 : j < N
        · have hci10 : ((j : Int) < (N : Int)) := by omega
          go_upto_region 14 with fail
          refine wp_region_lit ?_
          refine wpList_run (by kernel_rfl) (.int .i64 (j : Int)) wz rfl ?_
          simp only [Act.put, List.setIfInBounds_toArray, List.set_cons_zero, List.set_cons_succ]
          refine wpList_run (by kernel_rfl) (.slice Ea N fa) wz rfl ?_
          simp only [Act.put, List.setIfInBounds_toArray, List.set_cons_zero, List.set_cons_succ]
          refine wpList_run (by kernel_rfl) (.int .i64 (N : Int)) wz (xo_len Ea N fa Try.underlying22 rfl rfl) ?_
          simp only [Act.put, List.setIfInBounds_toArray, List.set_cons_zero, List.set_cons_succ]
          refine wpList_run (by kernel_rfl) (.bool true) wz (xo_lssT .i64 (j : Int) (N : Int) (by omega) rfl rfl rfl) ?_
          simp only [Act.put, List.setIfInBounds_toArray, List.set_cons_zero, List.set_cons_succ]
          refine wpList_nil ?_
          obtain ⟨xa, hxa⟩ : ∃ xa, (Gold.cwF (xs.map Gold.E2.A) M)[j]? = some xa := ⟨_, List.getElem?_eq_getElem (by rw [Gold.cw_len, ← HNN.out]; exact hj1)⟩
          have HExa := Lib.hid hxa
          clear hxa
          obtain ⟨xb, hxb⟩ : ∃ xb, (Gold.cwF (xs.map Gold.E2.B) M)[j]? = some xb := ⟨_, List.getElem?_eq_getElem (by rw [Gold.cw_len, ← HNN.out]; exact hj1)⟩
          have HExb := Lib.hid hxb
          clear hxb
          go_upto_region 16 with fail
          try simp only [List.append_eq, List.cons_append, List.nil_append]
          refine wp_ordT (fun W => Below VB6.heap.size VB6 W) (.q 0 (.q 1 (.q 2 (.q 3 (.q 4 (.q 5 (.q 6 (.q 7 (.q 8 (.q 9 (.one 10 (.one 11 (.q 12 .nil))))))))))))) (by kernel_rfl) (by kernel_rfl) (fun _ _ dt _ _ h => by first | exact h.elim | (cases dt <;> exact h)) (by kernel_rfl) (by kernel_rfl) B0.out.drew ?_
          have hb : Below wz.heap.size wz wz.drew := (Below.refl _ _).drew
          generalize wz.drew = V2 at hb ⊢
          have B1 := Lib.hid hb
          clear hb
          refine wpOT_q (u13) rfl (by kernel_rfl) (fun v hW => rfl) ?_
          simp only [ptr, Act.put, List.setIfInBounds_toArray, List.set_cons_zero, List.set_cons_succ]
          refine wpOT_q (.slice Ea N fa) rfl (by kernel_rfl) (fun v hW => rfl) ?_
          simp only [ptr, Act.put, List.setIfInBounds_toArray, List.set_cons_zero, List.set_cons_succ]
          refine wpOT_q (.int .i64 (j : Int)) rfl (by kernel_rfl) (fun v hW => rfl) ?_
          simp only [ptr, Act.put, List.setIfInBounds_toArray, List.set_cons_zero, List.set_cons_succ]
          refine wpOT_q (.pointer (some (gad Ea (j * 1)))) rfl (by kernel_rfl) (fun v hW => (xg_idx .i64 (Ha.out.keep hW) HExa.out Try.underlying22 (by kernel_rfl) rfl rfl rfl)) ?_
          simp only [ptr, Act.put, List.setIfInBounds_toArray, List.set_cons_zero, List.set_cons_succ]
          refine wpOT_q (.int .u64 (Gold.vF xa)) rfl (by kernel_rfl) (fun v hW => (xg_load1 (E := feC) (i := j) (j := 0) (Ha.out.keep hW) HExa.out rfl rfl Try.underlying29 rfl rfl rfl)) ?_
          simp only [ptr, Act.put, List.setIfInBounds_toArray, List.set_cons_zero, List.set_cons_succ]
          refine wpOT_q (.slice Eb N fb) rfl (by kernel_rfl) (fun v hW => rfl) ?_
          simp only [ptr, Act.put, List.setIfInBounds_toArray, List.set_cons_zero, List.set_cons_succ]
          refine wpOT_q (.int .i64 (j : Int)) rfl (by kernel_rfl) (fun v hW => rfl) ?_
          simp only [ptr, Act.put, List.setIfInBounds_toArray, List.set_cons_zero, List.set_cons_succ]
          refine wpOT_q (.pointer (some (gad Eb (j * 1)))) rfl (by kernel_rfl) (fun v hW => (xg_idx .i64 (Hb.out.keep hW) HExb.out Try.underlying22 (by kernel_rfl) rfl rfl rfl)) ?_
          simp only [ptr, Act.put, List.setIfInBounds_toArray, List.set_cons_zero, List.set_cons_succ]
          refine wpOT_q (.int .u64 (Gold.vF xb)) rfl (by kernel_rfl) (fun v hW => (xg_load1 (E := feC) (i := j) (j := 0) (Hb.out.keep hW) HExb.out rfl rfl Try.underlying29 rfl rfl rfl)) ?_
          simp only [ptr, Act.put, List.setIfInBounds_toArray, List.set_cons_zero, List.set_cons_succ]
          refine wpOT_q (.agg #[.int .u64 (Gold.vF xa), .int .u64 (Gold.vF xb)]) rfl (by kernel_rfl) (fun v hW => (by unfold execOp; go_simp)) ?_
          simp only [ptr, Act.put, List.setIfInBounds_toArray, List.set_cons_zero, List.set_cons_succ]
          refine wpOT_one rfl (by kernel_rfl) ?_
          refine hOp_mk ([(Gold.E2.mk xa xb)].flatMap exC).toArray 31 1 1 (xg_lit (E := exC) (bytes := 16) (.agg #[.int .u64 0, .int .u64 0]) [.tmp 70] [(Gold.E2.mk xa xb)] 1 Try.underlying28 (by kernel_rfl) rfl (by decide) (by decide) rfl rfl) ?_
          intro g71 V3 hge h0 hb
          have Ge11 : Hid (V2.heap.size ≤ g71) := Lib.hid hge
          have B2 := Lib.hid hb
          have Fv12_71 : Hid (RowG exC V3 g71 31 ([(Gold.E2.mk xa xb)])) := Lib.hid (h0)
          have Lt13 : Hid (g71 < V3.heap.size) := Lib.hid (xp_lt Fv12_71.out)
          clear hge h0 hb
          have C0_2 := Lib.hid (bel_step B0.out B1.out)
          have C0_3 := Lib.hid (bel_step C0_2.out B2.out)
          refine ⟨C0_3.out, ?_⟩
          simp only [ptr, Act.put, List.setIfInBounds_toArray, List.set_cons_zero, List.set_cons_succ]
          refine wpOT_one rfl (by kernel_rfl) ?_
          have C1_3 := Lib.hid (bel_step B1.out B2.out)
          refine hOp_app (size := 2) (.tmp 61) (.tmp 71) 28 rfl (.agg #[.int .u64 0, .int .u64 0]) 16 Try.underlying28 (by kernel_rfl) rfl (by decide) rfl (own_keep OW.out C1_3.out) (some ⟨g71, 0, none⟩) 1 1 (fl exC ([(Gold.E2.mk xa xb)])) rfl (RowG.sg (n := 1) (c := 1) Fv12_71.out (show ([(Gold.E2.mk xa xb)]).length = 1 from rfl) (Nat.le_refl _) (by omega)).src (by unfold maxLen; omega) (by omega) C0_3.out.size ?_
          intro v72 X3_14 ho hg hloc
          have hb1 := own_below (own_keep OW.out C1_3.out) hg C0_3.out.size
          have hox : X3_14.ownsRow VB6.heap.size 31 2 v72 (j + 1) (fl exC (((Gold.cwX xs M).take j) ++ ([(Gold.E2.mk xa xb)]))) := by rw [fl_append]; exact ho
          have hbr := C0_3.out.trans hb1
          clear B0
          have B0 := Lib.hid hbr
          clear hbr
          have Ow72_15 := Lib.hid hox
          clear ho hox hb1 hg hloc
          refine ⟨B0.out, ?_⟩
          simp only [ptr, Act.put, List.setIfInBounds_toArray, List.set_cons_zero, List.set_cons_succ]
          refine wpOT_q (v72) rfl (by kernel_rfl) (fun v hW => rfl) ?_
          simp only [ptr, Act.put, List.setIfInBounds_toArray, List.set_cons_zero, List.set_cons_succ]
          refine wpOT_nil ?_
          have hko := Ow72_15.out
          have hme : (Gold.cwX xs M).take j ++ [Gold.E2.mk xa xb] = (Gold.cwX xs M).take (j + 1) := by rw [List.take_add_one, Gold.cwX_parts xs M j (by rw [← HNN.out]; exact hj1), Gold.cfF_some HExa.out, Gold.cfF_some HExb.out]; rfl
          rw [hme] at hko
          go_upto_region 15 with fail
          refine wp_region_lit ?_
          refine wpList_run (by kernel_rfl) (.int .i64 (j : Int)) X3_14 rfl ?_
          simp only [Act.put, List.setIfInBounds_toArray, List.set_cons_zero, List.set_cons_succ]
          refine wpList_run (by kernel_rfl) (.int .i64 ((j + 1 : Nat) : Int)) X3_14 (xo_addI (j : Int) 1 ((j + 1 : Nat) : Int) (by omega) (by omega) (by omega) rfl rfl rfl) ?_
          simp only [Act.put, List.setIfInBounds_toArray, List.set_cons_zero, List.set_cons_succ]
          refine wpList_run (by kernel_rfl) (.int .i64 ((j + 1 : Nat) : Int)) X3_14 rfl ?_
          simp only [Act.put, List.setIfInBounds_toArray, List.set_cons_zero, List.set_cons_succ]
          refine wpList_nil ?_
          have hq16 := B0.out
          go_wp2_with fail
          go_roundw
          case rel => exact ⟨j + 1, by omega, by go_num, hko, hq16⟩
          case measure => simp [intOf]; omega
        · have hci10 : ¬ ((j : Int) < (N : Int)) := by omega
          go_upto_region 14 with fail
          refine wp_region_lit ?_
          refine wpList_run (by kernel_rfl) (.int .i64 (j : Int)) wz rfl ?_
          simp only [Act.put, List.setIfInBounds_toArray, List.set_cons_zero, List.set_cons_succ]
          refine wpList_run (by kernel_rfl) (.slice Ea N fa) wz rfl ?_
          simp only [Act.put, List.setIfInBounds_toArray, List.set_cons_zero, List.set_cons_succ]
          refine wpList_run (by kernel_rfl) (.int .i64 (N : Int)) wz (xo_len Ea N fa Try.underlying22 rfl rfl) ?_
          simp only [Act.put, List.setIfInBounds_toArray, List.set_cons_zero, List.set_cons_succ]
          refine wpList_run (by kernel_rfl) (.bool false) wz (xo_lssF .i64 (j : Int) (N : Int) (by omega) rfl rfl rfl) ?_
          simp only [Act.put, List.setIfInBounds_toArray, List.set_cons_zero, List.set_cons_succ]
          refine wpList_nil ?_
          obtain rfl : N = j := by omega
          obtain ⟨As, cs, hvs⟩ := own_form OW.out
          subst hvs
          have hso := Sg.ownS OW.out
          rw [List.take_of_length_le (by rw [Gold.cwX_length, HNN.out]; exact Nat.le_refl _)] at hso
          have HSs := Lib.hid hso
          clear hso
          go_upto_region 17 with fail
          refine wp_region_lit ?_
          refine wpList_run (by kernel_rfl) (.slice As N cs) wz rfl ?_
          simp only [Act.put, List.setIfInBounds_toArray, List.set_cons_zero, List.set_cons_succ]
          refine wpList_run (by kernel_rfl) (.slice As N cs) wz rfl ?_
          simp only [Act.put, List.setIfInBounds_toArray, List.set_cons_zero, List.set_cons_succ]
          refine wpList_run (by kernel_rfl) (.int .i64 0) wz rfl ?_
          simp only [Act.put, List.setIfInBounds_toArray, List.set_cons_zero, List.set_cons_succ]
          refine wpList_nil ?_
          go_wp2_with fail
          go_ret2
          exact ⟨As, cs, rfl, HSs.out, HBV6.out.trans (B0.out.mono HBV6.out.size)⟩
set_option maxRecDepth 100000 in
set_option maxHeartbeats 8000000 in
theorem rencodeExt_no (A : Option Addr) (n c : Nat) (xs : List Gold.E2) (z : Int) (hr : rB n z = false) (hn65 : n ≤ 65536) (w : World) (hX : Sg exC 2 w A n c xs) :
    Calls Try.prog 12 #[.slice A n c, .int .i64 z] w fun e w' => e = .returned (.tuple #[.slice none 0 0, .int .i64 1]) ∧ Below w.heap.size w w' := by
  have HX := Lib.hid hX
  have hxl := hX.len
  have hcp := hX.cap
  have htp := hX.top
  clear hX
  go_enter Try.func12, Try.ntmps12
  go_upto_region 1 with fail
  refine wp_region_lit ?_
  refine wpList_mk (by kernel_rfl) #[] 29 0 0 (xo_empty (size := 1) Try.underlying22 (by kernel_rfl) rfl w) ?_
  intro g15 V1 hge h0 hb
  have hge2 := Nat.le_trans (Below.refl w.heap.size w).size hge
  have B0 := Lib.hid hb
  have Ow15 : Hid (V1.ownsRow w.heap.size 29 1 (.slice (some ⟨g15, 0, none⟩) 0 0) 0 (fl feC [])) := Lib.hid (own_new h0 hge2)
  clear hge hge2 h0 hb
  simp only [ptr, Act.put, List.setIfInBounds_toArray, List.set_cons_zero, List.set_cons_succ]
  refine wpList_run (by kernel_rfl) (.slice (some ⟨g15, 0, none⟩) 0 0) V1 rfl ?_
  simp only [Act.put, List.setIfInBounds_toArray, List.set_cons_zero, List.set_cons_succ]
  refine wpList_nil ?_
  go_upto_region 2 with fail
  refine wp_region_lit ?_
  refine wpList_mk (by kernel_rfl) #[] 29 0 0 (xo_empty (size := 1) Try.underlying22 (by kernel_rfl) rfl V1) ?_
  intro g16 V2 hge h0 hb
  have Ap0 : Hid (ApartV (.slice (some ⟨g15, 0, none⟩) 0 0) (.slice (some ⟨g16, 0, none⟩) 0 0)) := Lib.hid (ApartV.new Ow15.out hge)
  have hge2 := Nat.le_trans B0.out.size hge
  have B1 := Lib.hid hb
  have Ow16 : Hid (V2.ownsRow w.heap.size 29 1 (.slice (some ⟨g16, 0, none⟩) 0 0) 0 (fl feC [])) := Lib.hid (own_new h0 hge2)
  clear hge hge2 h0 hb
  simp only [ptr, Act.put, List.setIfInBounds_toArray, List.set_cons_zero, List.set_cons_succ]
  refine wpList_run (by kernel_rfl) (.slice (some ⟨g16, 0, none⟩) 0 0) V2 rfl ?_
  simp only [Act.put, List.setIfInBounds_toArray, List.set_cons_zero, List.set_cons_succ]
  refine wpList_nil ?_
  go_upto_region 3 with fail
  refine wp_region_lit ?_
  refine wpList_run (by kernel_rfl) (.int .i64 0) V2 rfl ?_
  simp only [Act.put, List.setIfInBounds_toArray, List.set_cons_zero, List.set_cons_succ]
  refine wpList_nil ?_
  have O1 := (own_keep Ow15.out B1.out)
  have O2 := Ow16.out
  have C0_2 := Lib.hid (bel_step B0.out B1.out)
  have O3 := C0_2.out
  go_wp2_with fail
  go_loopw [6, 7, 8] (fun av bv p wr => ∃ i : Nat, i ≤ n ∧ p = .int .i64 i ∧ wr.ownsRow w.heap.size 29 1 av i (fl feC ((xs.map Gold.E2.A).take i)) ∧ wr.ownsRow w.heap.size 29 1 bv i (fl feC ((xs.map Gold.E2.B).take i)) ∧ ApartV av bv ∧ Below w.heap.size w wr) (fun _ _ p _ => n - (intOf p).toNat)
  case atStart => exact ⟨0, Nat.zero_le _, rfl, O1, O2, Ap0.out, O3⟩
  case round =>
    clear O3 O1 O2
    obtain ⟨wo, rfl⟩ : ∃ wo : World, wo = wr := ⟨_, rfl⟩
    obtain ⟨i, hi, rfl, hOWa, hOWb, hHAP, hb0⟩ := hrel
    have hbr := hb0
    clear B0
    have B0 := Lib.hid hbr
    clear hbr
    have OWa := Lib.hid hOWa
    have OWb := Lib.hid hOWb
    have HAP := Lib.hid hHAP
    clear hb0 hOWa hOWb hHAP
    by_cases hi1 : i < n
    · have hci5 : ((i : Int) < (n : Int)) := by omega
      go_upto_region 4 with fail
      refine wp_region_lit ?_
      refine wpList_run (by kernel_rfl) (.int .i64 (i : Int)) wo rfl ?_
      simp only [Act.put, List.setIfInBounds_toArray, List.set_cons_zero, List.set_cons_succ]
      refine wpList_run (by kernel_rfl) (.slice A n c) wo rfl ?_
      simp only [Act.put, List.setIfInBounds_toArray, List.set_cons_zero, List.set_cons_succ]
      refine wpList_run (by kernel_rfl) (.int .i64 (n : Int)) wo (xo_len A n c Try.underlying28 rfl rfl) ?_
      simp only [Act.put, List.setIfInBounds_toArray, List.set_cons_zero, List.set_cons_succ]
      refine wpList_run (by kernel_rfl) (.bool true) wo (xo_lssT .i64 (i : Int) (n : Int) (by omega) rfl rfl rfl) ?_
      simp only [Act.put, List.setIfInBounds_toArray, List.set_cons_zero, List.set_cons_succ]
      refine wpList_nil ?_
      obtain ⟨x, hx⟩ : ∃ x, xs[i]? = some x := ⟨_, List.getElem?_eq_getElem (by omega)⟩
      have HEx := Lib.hid hx
      clear hx
      go_upto_region 6 with fail
      refine wp_region_lit ?_
      refine wpList_run (by kernel_rfl) (u6) wo rfl ?_
      simp only [Act.put, List.setIfInBounds_toArray, List.set_cons_zero, List.set_cons_succ]
      refine wpList_run (by kernel_rfl) (.slice A n c) wo rfl ?_
      simp only [Act.put, List.setIfInBounds_toArray, List.set_cons_zero, List.set_cons_succ]
      refine wpList_run (by kernel_rfl) (.int .i64 (i : Int)) wo rfl ?_
      simp only [Act.put, List.setIfInBounds_toArray, List.set_cons_zero, List.set_cons_succ]
      refine wpList_run (by kernel_rfl) (.pointer (some (gad A (i * 2)))) wo (xg_idx .i64 (HX.out.keep B0.out) HEx.out Try.underlying28 (by kernel_rfl) rfl rfl rfl) ?_
      simp only [Act.put, List.setIfInBounds_toArray, List.set_cons_zero, List.set_cons_succ]
      refine wpList_run (by kernel_rfl) (.pointer (some (gad A ((i * 2) + 0)))) wo (xg_fld 0 (HX.out.keep B0.out) HEx.out (by kernel_rfl) rfl rfl) ?_
      simp only [Act.put, List.setIfInBounds_toArray, List.set_cons_zero, List.set_cons_succ]
      refine wpList_run (by kernel_rfl) (.int .u64 (Gold.vF x.A)) wo (xg_load1 (E := exC) (i := i) (j := 0) (HX.out.keep B0.out) HEx.out rfl rfl Try.underlying29 rfl rfl rfl) ?_
      simp only [Act.put, List.setIfInBounds_toArray, List.set_cons_zero, List.set_cons_succ]
      refine wpList_mk (by kernel_rfl) ([x.A].flatMap feC).toArray 29 1 1 (xg_lit (E := feC) (bytes := 8) (.int .u64 0) [.tmp 28] [x.A] 1 Try.underlying22 (by kernel_rfl) rfl (by decide) (by decide) rfl rfl) ?_
      intro g29 V2 hge h0 hb
      have Ge6 : Hid (wo.heap.size ≤ g29) := Lib.hid hge
      have B1 := Lib.hid hb
      have Fv7_29 : Hid (RowG feC V2 g29 29 ([x.A])) := Lib.hid (h0)
      have Lt8 : Hid (g29 < V2.heap.size) := Lib.hid (xp_lt Fv7_29.out)
      clear hge h0 hb
      simp only [ptr, Act.put, List.setIfInBounds_toArray, List.set_cons_zero, List.set_cons_succ]
      have C0_2 := Lib.hid (bel_step B0.out B1.out)
      refine wpList_app2 (size := 1) (by kernel_rfl) (.tmp 23) (.tmp 29) 22 rfl (.int .u64 0) 8 Try.underlying22 (by kernel_rfl) rfl (by decide) rfl (own_keep OWa.out B1.out) (some ⟨g29, 0, none⟩) 1 1 (fl feC ([x.A])) rfl (RowG.sg (n := 1) (c := 1) Fv7_29.out (show ([x.A]).length = 1 from rfl) (Nat.le_refl _) (by omega)).src (by unfold maxLen; omega) (by omega) C0_2.out.size ?_
      intro v30 X2_9 ho hb1 hg hloc
      have hox : X2_9.ownsRow w.heap.size 29 1 v30 (i + 1) (fl feC (((xs.map Gold.E2.A).take i) ++ ([x.A]))) := by rw [fl_append]; exact ho
      have hzOWb := own_other (own_keep OWb.out B1.out) hg HAP.out
      have hpOWb := ApartV.grow HAP.out hloc (own_keep OWb.out B1.out)
      have hbr := C0_2.out.trans hb1
      clear B0
      have B0 := Lib.hid hbr
      clear hbr
      have Ow30_10 := Lib.hid hox
      clear OWb
      have OWb := Lib.hid hzOWb
      have Ap11 := Lib.hid hpOWb
      clear hzOWb hpOWb
      clear ho hox hb1 hg hloc
      simp only [ptr, Act.put, List.setIfInBounds_toArray, List.set_cons_zero, List.set_cons_succ]
      refine wpList_run (by kernel_rfl) (v30) X2_9 rfl ?_
      simp only [Act.put, List.setIfInBounds_toArray, List.set_cons_zero, List.set_cons_succ]
      refine wpList_nil ?_
      go_upto_region 7 with fail
      refine wp_region_lit ?_
      refine wpList_run (by kernel_rfl) (u7) X2_9 rfl ?_
      simp only [Act.put, List.setIfInBounds_toArray, List.set_cons_zero, List.set_cons_succ]
      refine wpList_run (by kernel_rfl) (.slice A n c) X2_9 rfl ?_
      simp only [Act.put, List.setIfInBounds_toArray, List.set_cons_zero, List.set_cons_succ]
      refine wpList_run (by kernel_rfl) (.int .i64 (i : Int)) X2_9 rfl ?_
      simp only [Act.put, List.setIfInBounds_toArray, List.set_cons_zero, List.set_cons_succ]
      refine wpList_run (by kernel_rfl) (.pointer (some (gad A (i * 2)))) X2_9 (xg_idx .i64 (HX.out.keep B0.out) HEx.out Try.underlying28 (by kernel_rfl) rfl rfl rfl) ?_
      simp only [Act.put, List.setIfInBounds_toArray, List.set_cons_zero, List.set_cons_succ]
      refine wpList_run (by kernel_rfl) (.pointer (some (gad A ((i * 2) + 1)))) X2_9 (xg_fld 1 (HX.out.keep B0.out) HEx.out (by kernel_rfl) rfl rfl) ?_
      simp only [Act.put, List.setIfInBounds_toArray, List.set_cons_zero, List.set_cons_succ]
      refine wpList_run (by kernel_rfl) (.int .u64 (Gold.vF x.B)) X2_9 (xg_load1 (E := exC) (i := i) (j := 1) (HX.out.keep B0.out) HEx.out rfl rfl Try.underlying29 rfl rfl rfl) ?_
      simp only [Act.put, List.setIfInBounds_toArray, List.set_cons_zero, List.set_cons_succ]
      refine wpList_mk (by kernel_rfl) ([x.B].flatMap feC).toArray 29 1 1 (xg_lit (E := feC) (bytes := 8) (.int .u64 0) [.tmp 36] [x.B] 1 Try.underlying22 (by kernel_rfl) rfl (by decide) (by decide) rfl rfl) ?_
      intro g37 V2 hge h0 hb
      have Ge12 : Hid (X2_9.heap.size ≤ g37) := Lib.hid hge
      have B1 := Lib.hid hb
      have Fv13_37 : Hid (RowG feC V2 g37 29 ([x.B])) := Lib.hid (h0)
      have Lt14 : Hid (g37 < V2.heap.size) := Lib.hid (xp_lt Fv13_37.out)
      clear hge h0 hb
      simp only [ptr, Act.put, List.setIfInBounds_toArray, List.set_cons_zero, List.set_cons_succ]
      have C0_2 := Lib.hid (bel_step B0.out B1.out)
      refine wpList_app2 (size := 1) (by kernel_rfl) (.tmp 31) (.tmp 37) 22 rfl (.int .u64 0) 8 Try.underlying22 (by kernel_rfl) rfl (by decide) rfl (own_keep OWb.out B1.out) (some ⟨g37, 0, none⟩) 1 1 (fl feC ([x.B])) rfl (RowG.sg (n := 1) (c := 1) Fv13_37.out (show ([x.B]).length = 1 from rfl) (Nat.le_refl _) (by omega)).src (by unfold maxLen; omega) (by omega) C0_2.out.size ?_
      intro v38 X2_15 ho hb1 hg hloc
      have hox : X2_15.ownsRow w.heap.size 29 1 v38 (i + 1) (fl feC (((xs.map Gold.E2.B).take i) ++ ([x.B]))) := by rw [fl_append]; exact ho
      have hzOw30_10 := own_other (own_keep Ow30_10.out B1.out) hg Ap11.out.symm
      have hpOw30_10 := ApartV.grow Ap11.out.symm hloc (own_keep Ow30_10.out B1.out)
      have hbr := C0_2.out.trans hb1
      clear B0
      have B0 := Lib.hid hbr
      clear hbr
      have Ow38_16 := Lib.hid hox
      clear Ow30_10
      have Ow30_10 := Lib.hid hzOw30_10
      have Ap17 := Lib.hid hpOw30_10
      clear hzOw30_10 hpOw30_10
      clear ho hox hb1 hg hloc
      simp only [ptr, Act.put, List.setIfInBounds_toArray, List.set_cons_zero, List.set_cons_succ]
      refine wpList_run (by kernel_rfl) (v38) X2_15 rfl ?_
      simp only [Act.put, List.setIfInBounds_toArray, List.set_cons_zero, List.set_cons_succ]
      refine wpList_nil ?_
      have hka := Ow30_10.out
      rw [show (xs.map Gold.E2.A).take i ++ [x.A] = (xs.map Gold.E2.A).take (i + 1) by rw [List.take_add_one, List.getElem?_map, HEx.out]; rfl] at hka
      have hkb := Ow38_16.out
      rw [show (xs.map Gold.E2.B).take i ++ [x.B] = (xs.map Gold.E2.B).take (i + 1) by rw [List.take_add_one, List.getElem?_map, HEx.out]; rfl] at hkb
      have hap2 := Ap17.out.symm
      go_upto_region 5 with fail
      refine wp_region_lit ?_
      refine wpList_run (by kernel_rfl) (.int .i64 (i : Int)) X2_15 rfl ?_
      simp only [Act.put, List.setIfInBounds_toArray, List.set_cons_zero, List.set_cons_succ]
      refine wpList_run (by kernel_rfl) (.int .i64 ((i + 1 : Nat) : Int)) X2_15 (xo_addI (i : Int) 1 ((i + 1 : Nat) : Int) (by omega) (by omega) (by omega) rfl rfl rfl) ?_
      simp only [Act.put, List.setIfInBounds_toArray, List.set_cons_zero, List.set_cons_succ]
      refine wpList_run (by kernel_rfl) (.int .i64 ((i + 1 : Nat) : Int)) X2_15 rfl ?_
      simp only [Act.put, List.setIfInBounds_toArray, List.set_cons_zero, List.set_cons_succ]
      refine wpList_nil ?_
      have hq18 := B0.out
      go_wp2_with fail
      go_roundw
      case rel => exact ⟨i + 1, by omega, by go_num, hka, hkb, hap2, hq18⟩
      case measure => simp [intOf]; omega
    · have hci5 : ¬ ((i : Int) < (n : Int)) := by omega
      go_upto_region 4 with fail
      refine wp_region_lit ?_
      refine wpList_run (by kernel_rfl) (.int .i64 (i : Int)) wo rfl ?_
      simp only [Act.put, List.setIfInBounds_toArray, List.set_cons_zero, List.set_cons_succ]
      refine wpList_run (by kernel_rfl) (.slice A n c) wo rfl ?_
      simp only [Act.put, List.setIfInBounds_toArray, List.set_cons_zero, List.set_cons_succ]
      refine wpList_run (by kernel_rfl) (.int .i64 (n : Int)) wo (xo_len A n c Try.underlying28 rfl rfl) ?_
      simp only [Act.put, List.setIfInBounds_toArray, List.set_cons_zero, List.set_cons_succ]
      refine wpList_run (by kernel_rfl) (.bool false) wo (xo_lssF .i64 (i : Int) (n : Int) (by omega) rfl rfl rfl) ?_
      simp only [Act.put, List.setIfInBounds_toArray, List.set_cons_zero, List.set_cons_succ]
      refine wpList_nil ?_
      obtain rfl : n = i := by omega
      obtain ⟨AA, cA, hvA⟩ := own_form OWa.out
      subst hvA
      have hso := Sg.ownS OWa.out
      rw [List.take_of_length_le (by rw [List.length_map]; omega)] at hso
      have HSa := Lib.hid hso
      clear hso
      obtain ⟨AB, cB, hvB⟩ := own_form OWb.out
      subst hvB
      have hso := Sg.ownS OWb.out
      rw [List.take_of_length_le (by rw [List.length_map]; omega)] at hso
      have HSb := Lib.hid hso
      clear hso
      go_upto_region 8 with fail
      refine wp_region_lit ?_
      refine wpList_run (by kernel_rfl) (.slice AA n cA) wo rfl ?_
      simp only [Act.put, List.setIfInBounds_toArray, List.set_cons_zero, List.set_cons_succ]
      refine wpList_run (by kernel_rfl) (.int .i64 z) wo rfl ?_
      simp only [Act.put, List.setIfInBounds_toArray, List.set_cons_zero, List.set_cons_succ]
      refine wpList_call (by kernel_rfl) 10 Try.func10 (by kernel_rfl) (by kernel_rfl) _ _ #[.slice AA n cA, .int .i64 z] rfl (by kernel_rfl) ?_
      refine (rencode_no AA n cA (xs.map Gold.E2.A) z hr (by omega) wo HSa.out).mono ?_
      rintro e V2 ⟨rfl, hb⟩
      have B1 := Lib.hid hb
      clear hb 
      refine ⟨_, rfl, ?_⟩
      simp only [Act.put, List.setIfInBounds_toArray, List.set_cons_zero, List.set_cons_succ]
      refine wpList_run (by kernel_rfl) (.tuple #[.slice none 0 0, .int .i64 1]) V2 rfl ?_
      simp only [Act.put, List.setIfInBounds_toArray, List.set_cons_zero, List.set_cons_succ]
      refine wpList_run (by kernel_rfl) (.slice none 0 0) V2 rfl ?_
      simp only [Act.put, List.setIfInBounds_toArray, List.set_cons_zero, List.set_cons_succ]
      refine wpList_run (by kernel_rfl) (.int .i64 1) V2 rfl ?_
      simp only [Act.put, List.setIfInBounds_toArray, List.set_cons_zero, List.set_cons_succ]
      refine wpList_run (by kernel_rfl) (.slice none 0 0) V2 rfl ?_
      simp only [Act.put, List.setIfInBounds_toArray, List.set_cons_zero, List.set_cons_succ]
      refine wpList_run (by kernel_rfl) (.int .i64 1) V2 rfl ?_
      simp only [Act.put, List.setIfInBounds_toArray, List.set_cons_zero, List.set_cons_succ]
      refine wpList_nil ?_
      go_upto_region 9 with fail
      refine wp_region_lit ?_
      refine wpList_run (by kernel_rfl) (.slice AB n cB) V2 rfl ?_
      simp only [Act.put, List.setIfInBounds_toArray, List.set_cons_zero, List.set_cons_succ]
      refine wpList_run (by kernel_rfl) (.int .i64 z) V2 rfl ?_
      simp only [Act.put, List.setIfInBounds_toArray, List.set_cons_zero, List.set_cons_succ]
      refine wpList_call (by kernel_rfl) 10 Try.func10 (by kernel_rfl) (by kernel_rfl) _ _ #[.slice AB n cB, .int .i64 z] rfl (by kernel_rfl) ?_
      refine (rencode_no AB n cB (xs.map Gold.E2.B) z hr (by omega) V2 (HSb.out.keep B1.out)).mono ?_
      rintro e V3 ⟨rfl, hb⟩
      have B2 := Lib.hid hb
      clear hb 
      refine ⟨_, rfl, ?_⟩
      simp only [Act.put, List.setIfInBounds_toArray, List.set_cons_zero, List.set_cons_succ]
      refine wpList_run (by kernel_rfl) (.tuple #[.slice none 0 0, .int .i64 1]) V3 rfl ?_
      simp only [Act.put, List.setIfInBounds_toArray, List.set_cons_zero, List.set_cons_succ]
      refine wpList_run (by kernel_rfl) (.slice none 0 0) V3 rfl ?_
      simp only [Act.put, List.setIfInBounds_toArray, List.set_cons_zero, List.set_cons_succ]
      refine wpList_run (by kernel_rfl) (.int .i64 1) V3 rfl ?_
      simp only [Act.put, List.setIfInBounds_toArray, List.set_cons_zero, List.set_cons_succ]
      refine wpList_run (by kernel_rfl) (.slice none 0 0) V3 rfl ?_
      simp only [Act.put, List.setIfInBounds_toArray, List.set_cons_zero, List.set_cons_succ]
      refine wpList_run (by kernel_rfl) (.int .i64 1) V3 rfl ?_
      simp only [Act.put, List.setIfInBounds_toArray, List.set_cons_zero, List.set_cons_succ]
      refine wpList_nil ?_
      go_upto_region 10 with fail
      refine wp_region_lit ?_
      refine wpList_run (by kernel_rfl) (.int .i64 1) V3 rfl ?_
      simp only [Act.put, List.setIfInBounds_toArray, List.set_cons_zero, List.set_cons_succ]
      refine wpList_run (by kernel_rfl) (.bool true) V3 (xo_neqT .i64 1 0 (by omega) rfl rfl rfl) ?_
      simp only [Act.put, List.setIfInBounds_toArray, List.set_cons_zero, List.set_cons_succ]
      refine wpList_nil ?_
      go_upto_region 11 with fail
      refine wp_region_lit ?_
      refine wpList_run (by kernel_rfl) (.int .i64 1) V3 rfl ?_
      simp only [Act.put, List.setIfInBounds_toArray, List.set_cons_zero, List.set_cons_succ]
      refine wpList_run (by kernel_rfl) (.slice none 0 0) V3 rfl ?_
      simp only [Act.put, List.setIfInBounds_toArray, List.set_cons_zero, List.set_cons_succ]
      refine wpList_run (by kernel_rfl) (.int .i64 1) V3 rfl ?_
      simp only [Act.put, List.setIfInBounds_toArray, List.set_cons_zero, List.set_cons_succ]
      refine wpList_nil ?_
      go_wp2_with fail
      go_ret2
      have C0_2 := Lib.hid (bel_step B0.out B1.out)
      have C0_3 := Lib.hid (bel_step C0_2.out B2.out)
      exact ⟨rfl, C0_3.out⟩
end Go.Proofs.Ytkefijogpiofbaa

