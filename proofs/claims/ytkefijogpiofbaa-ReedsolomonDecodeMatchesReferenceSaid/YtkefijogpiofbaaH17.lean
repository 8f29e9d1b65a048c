/- Several texts in one: Uh9. -/
import Derived.Test.YtkefijogpiofbaaH16
namespace Go.Proofs.Ytkefijogpiofbaa
set_option linter.unusedVariables false
set_option linter.unusedSimpArgs false
set_option linter.unusedSectionVars false
set_option maxRecDepth 8000
open Go.RowKit Go.Proofs.Ytkefijogpiofbaa.K
attribute [local irreducible] wpList wpQuiet
set_option maxRecDepth 100000 in
set_option maxHeartbeats 16000000 in
theorem through_any (A : Option Addr) (n c : Nat) (xs : List Gold.F) (B : Option Addr) (k d : Nat) (js : List Nat) (M : Nat) (hn : n = 2 ^ M) (hM : M ≤ 16) (hk : k ≤ 8192) (hlt : ∀ j ∈ js, j < n) (hd : js.Nodup) (w : World) (hX : Sg feC 1 w A n c xs) (hJ : Sg ixC 1 w B k d js) :
    Calls Try.prog 49 #[.slice A n c, .slice B k d] w fun e w' => ∃ (A' : Option Addr) (c' : Nat), e = .returned (.slice A' k c') ∧ ∃ row : List Gold.F, row.length = k ∧ Sg feC 1 w' A' k c' row ∧ (∀ m j : Nat, js[m]? = some j → Gold.evL row (Gold.ptF M j) = Gold.cfF xs j) ∧ Below w.heap.size w w' := by
  have HX := Lib.hid hX
  have HJ := Lib.hid hJ
  have hxl := hX.len
  have hcx := hX.cap
  have htx := hX.top
  have hjl := hJ.len
  have hcj := hJ.cap
  have htj := hJ.top
  clear hX hJ
  have hn65 : n ≤ 65536 := by rw [hn]; exact Gold.pow2_le hM
  have HN := Lib.hid hn
  have HLT := Lib.hid hlt
  have HND := Lib.hid hd
  clear hn hlt hd
  go_enter Try.func49, Try.ntmps49
  go_upto_region 1 with fail
  refine wp_region_lit ?_
  refine wpList_run (by kernel_rfl) (.slice A n c) w rfl ?_
  simp only [Act.put, List.setIfInBounds_toArray, List.set_cons_zero, List.set_cons_succ]
  refine wpList_run (by kernel_rfl) (.int .i64 (n : Int)) w (xo_len A n c Try.underlying22 rfl rfl) ?_
  simp only [Act.put, List.setIfInBounds_toArray, List.set_cons_zero, List.set_cons_succ]
  refine wpList_run (by kernel_rfl) (.int .i64 (n : Int)) w rfl ?_
  simp only [Act.put, List.setIfInBounds_toArray, List.set_cons_zero, List.set_cons_succ]
  refine wpList_nil ?_
  go_upto_region 2 with fail
  refine wp_region_lit ?_
  refine wpList_mk (by kernel_rfl) #[] 31 0 0 (xo_empty (size := 2) Try.underlying28 (by kernel_rfl) rfl w) ?_
  intro g18 V1 hge h0 hb
  have hge2 := Nat.le_trans (Below.refl w.heap.size w).size hge
  have B0 := Lib.hid hb
  have Ow18 : Hid (V1.ownsRow w.heap.size 31 2 (.slice (some ⟨g18, 0, none⟩) 0 0) 0 (fl exC [])) := Lib.hid (own_new h0 hge2)
  clear hge hge2 h0 hb
  simp only [ptr, Act.put, List.setIfInBounds_toArray, List.set_cons_zero, List.set_cons_succ]
  refine wpList_run (by kernel_rfl) (.slice (some ⟨g18, 0, none⟩) 0 0) V1 rfl ?_
  simp only [Act.put, List.setIfInBounds_toArray, List.set_cons_zero, List.set_cons_succ]
  refine wpList_nil ?_
  have hs0 := Sg.ownS Ow18.out
  have HS0 := Lib.hid hs0
  clear hs0
  go_upto_region 3 with fail
  refine wp_region_lit ?_
  refine wpList_run (by kernel_rfl) (.int .i64 0) V1 rfl ?_
  simp only [Act.put, List.setIfInBounds_toArray, List.set_cons_zero, List.set_cons_succ]
  refine wpList_nil ?_
  obtain ⟨pf, hpf⟩ : ∃ pf : Nat → Gold.F, (fun m => Gold.ptF M (js.getD m 0)) = pf := ⟨_, rfl⟩
  obtain ⟨wf, hwf⟩ : ∃ wf : Nat → Gold.F, (fun m => Gold.cfF xs (js.getD m 0)) = wf := ⟨_, rfl⟩
  have HPF := Lib.hid hpf
  have HWF := Lib.hid hwf
  clear hpf hwf
  have HBV0 := Lib.hid B0.out
  have YHX := (HX.out.keep B0.out)
  have YHJ := (HJ.out.keep B0.out)
  have YHS0 := HS0.out
  clear HX
  have HX := Lib.hid YHX
  clear YHX
  clear HJ
  have HJ := Lib.hid YHJ
  clear YHJ
  clear HS0
  have HS0 := Lib.hid YHS0
  clear YHS0
  obtain ⟨VB0, rfl⟩ : ∃ VB0 : World, VB0 = V1 := ⟨_, rfl⟩
  have O1 := HS0.out
  have O2 := (Below.refl VB0.heap.size VB0)
  have B0 := Lib.hid (Below.refl VB0.heap.size VB0)
  go_wp2_with fail
  go_loopw [6, 7, 8, 9, 10, 11, 12, 13] (fun sv p bq xq kq yq iq eq wr => ∃ i : Nat, ∃ (As : Option Addr) (ms cs : Nat) (ss : List Gold.E2), i ≤ k ∧ p = .int .i64 i ∧ sv = .slice As ms cs ∧ ms ≤ k ∧ Sg exC 2 wr As ms cs ss ∧ (∀ x : Gold.F, Gold.evE ss (Gold.E2.ofF x) = Gold.E2.ofF (Gold.sumF (fun i => wf i * Gold.lagF pf i x k) i)) ∧ Below VB0.heap.size VB0 wr) (fun _ p _ _ _ _ _ _ _ => k - (intOf p).toNat)
  case atStart => exact ⟨0, some ⟨g18, 0, none⟩, 0, 0, [], Nat.zero_le _, rfl, rfl, Nat.zero_le _, O1, (fun x => rfl), O2⟩
  case round =>
    clear O2 O1
    obtain ⟨wo, rfl⟩ : ∃ wo : World, wo = wr := ⟨_, rfl⟩
    obtain ⟨i, As, ms, cs, ss, hi, rfl, hhsv, hhml, hHS, hhev, hb0⟩ := hrel
    have hbr := hb0
    clear B0
    have B0 := Lib.hid hbr
    clear hbr
    have hsv := Lib.hid hhsv
    have hml := Lib.hid hhml
    have HS := Lib.hid hHS
    have hev := Lib.hid hhev
    clear hb0 hhsv hhml hHS hhev
    have hsve := hsv.out
    subst hsve
    have hmle := hml.out
    have hcs := HS.out.cap
    have hts := HS.out.top
    by_cases hik : i < k
    · have hci4 : ((i : Int) < (k : Int)) := by omega
      go_upto_region 4 with fail
      refine wp_region_lit ?_
      refine wpList_run (by kernel_rfl) (.int .i64 (i : Int)) wo rfl ?_
      simp only [Act.put, List.setIfInBounds_toArray, List.set_cons_zero, List.set_cons_succ]
      refine wpList_run (by kernel_rfl) (.slice B k d) wo rfl ?_
      simp only [Act.put, List.setIfInBounds_toArray, List.set_cons_zero, List.set_cons_succ]
      refine wpList_run (by kernel_rfl) (.int .i64 (k : Int)) wo (xo_len B k d Try.underlying68 rfl rfl) ?_
      simp only [Act.put, List.setIfInBounds_toArray, List.set_cons_zero, List.set_cons_succ]
      refine wpList_run (by kernel_rfl) (.bool true) wo (xo_lssT .i64 (i : Int) (k : Int) (by omega) rfl rfl rfl) ?_
      simp only [Act.put, List.setIfInBounds_toArray, List.set_cons_zero, List.set_cons_succ]
      refine wpList_nil ?_
      obtain ⟨ji, hji⟩ : ∃ ji, js[i]? = some ji := ⟨_, List.getElem?_eq_getElem (by omega)⟩
      have HEji := Lib.hid hji
      have hlji : ji < n := HLT.out ji (List.mem_of_getElem? hji)
      have hpvji : Gold.ptF M ji = pf i := by rw [← HPF.out]; show _ = Gold.ptF M (js.getD i 0); rw [List.getD_eq_getElem?_getD, hji]; rfl
      clear hji
      obtain ⟨wi, hwi⟩ : ∃ wi, xs[ji]? = some wi := ⟨_, List.getElem?_eq_getElem (by omega)⟩
      have HEwi := Lib.hid hwi
      have hwv : wi = wf i := by rw [← HWF.out]; show _ = Gold.cfF xs (js.getD i 0); rw [List.getD_eq_getElem?_getD, HEji.out]; exact (Gold.cfF_some hwi).symm
      clear hwi
      go_upto_region 6 with fail
      refine wp_region_lit ?_
      refine wpList_run (by kernel_rfl) (.slice A n c) wo rfl ?_
      simp only [Act.put, List.setIfInBounds_toArray, List.set_cons_zero, List.set_cons_succ]
      refine wpList_run (by kernel_rfl) (.slice B k d) wo rfl ?_
      simp only [Act.put, List.setIfInBounds_toArray, List.set_cons_zero, List.set_cons_succ]
      refine wpList_run (by kernel_rfl) (.int .i64 (i : Int)) wo rfl ?_
      simp only [Act.put, List.setIfInBounds_toArray, List.set_cons_zero, List.set_cons_succ]
      refine wpList_run (by kernel_rfl) (.pointer (some (gad B (i * 1)))) wo (xg_idx .i64 (HJ.out.keep B0.out) HEji.out Try.underlying68 (by kernel_rfl) rfl rfl rfl) ?_
      simp only [Act.put, List.setIfInBounds_toArray, List.set_cons_zero, List.set_cons_succ]
      refine wpList_run (by kernel_rfl) (.int .i64 (ji : Int)) wo (xg_load1 (E := ixC) (i := i) (j := 0) (HJ.out.keep B0.out) HEji.out rfl rfl Try.underlying3 rfl rfl rfl) ?_
      simp only [Act.put, List.setIfInBounds_toArray, List.set_cons_zero, List.set_cons_succ]
      refine wpList_run (by kernel_rfl) (.pointer (some (gad A (ji * 1)))) wo (xg_idx .i64 (HX.out.keep B0.out) HEwi.out Try.underlying22 (by kernel_rfl) rfl rfl rfl) ?_
      simp only [Act.put, List.setIfInBounds_toArray, List.set_cons_zero, List.set_cons_succ]
      refine wpList_run (by kernel_rfl) (.int .u64 (Gold.vF wi)) wo (xg_load1 (E := feC) (i := ji) (j := 0) (HX.out.keep B0.out) HEwi.out rfl rfl Try.underlying29 rfl rfl rfl) ?_
      simp only [Act.put, List.setIfInBounds_toArray, List.set_cons_zero, List.set_cons_succ]
      refine wpList_call (by kernel_rfl) 29 Try.func29 (by kernel_rfl) (by kernel_rfl) _ _ #[.int .u64 (Gold.vF wi)] rfl (by kernel_rfl) ?_
      refine (J.rFromBase_any wi wo).mono ?_
      rintro e V2 ⟨rfl, hb⟩
      have B1 := Lib.hid hb
      clear hb 
      refine ⟨_, rfl, ?_⟩
      simp only [Act.put, List.setIfInBounds_toArray, List.set_cons_zero, List.set_cons_succ]
      refine wpList_mk (by kernel_rfl) ([(Gold.E2.ofF wi)].flatMap exC).toArray 31 1 1 (xg_lit (E := exC) (bytes := 16) (.agg #[.int .u64 0, .int .u64 0]) [.tmp 32] [(Gold.E2.ofF wi)] 1 Try.underlying28 (by kernel_rfl) rfl (by decide) (by decide) rfl rfl) ?_
      intro g33 V3 hge h0 hb
      have Ge5 : Hid (V2.heap.size ≤ g33) := Lib.hid hge
      have B2 := Lib.hid hb
      have Fv6_33 : Hid (RowG exC V3 g33 31 ([(Gold.E2.ofF wi)])) := Lib.hid (h0)
      have Lt7 : Hid (g33 < V3.heap.size) := Lib.hid (xp_lt Fv6_33.out)
      clear hge h0 hb
      simp only [ptr, Act.put, List.setIfInBounds_toArray, List.set_cons_zero, List.set_cons_succ]
      refine wpList_run (by kernel_rfl) (.slice (some ⟨g33, 0, none⟩) 1 1) V3 rfl ?_
      simp only [Act.put, List.setIfInBounds_toArray, List.set_cons_zero, List.set_cons_succ]
      refine wpList_nil ?_
      go_upto_region 7 with fail
      refine wp_region_lit ?_
      refine wpList_run (by kernel_rfl) (.int .i64 (n : Int)) V3 rfl ?_
      simp only [Act.put, List.setIfInBounds_toArray, List.set_cons_zero, List.set_cons_succ]
      refine wpList_run (by kernel_rfl) (.slice B k d) V3 rfl ?_
      simp only [Act.put, List.setIfInBounds_toArray, List.set_cons_zero, List.set_cons_succ]
      refine wpList_run (by kernel_rfl) (.int .i64 (i : Int)) V3 rfl ?_
      simp only [Act.put, List.setIfInBounds_toArray, List.set_cons_zero, List.set_cons_succ]
      have C0_2 := Lib.hid (bel_step B0.out B1.out)
      have C0_3 := Lib.hid (bel_step C0_2.out B2.out)
      refine wpList_run (by kernel_rfl) (.pointer (some (gad B (i * 1)))) V3 (xg_idx .i64 (HJ.out.keep C0_3.out) HEji.out Try.underlying68 (by kernel_rfl) rfl rfl rfl) ?_
      simp only [Act.put, List.setIfInBounds_toArray, List.set_cons_zero, List.set_cons_succ]
      refine wpList_run (by kernel_rfl) (.int .i64 (ji : Int)) V3 (xg_load1 (E := ixC) (i := i) (j := 0) (HJ.out.keep C0_3.out) HEji.out rfl rfl Try.underlying3 rfl rfl rfl) ?_
      simp only [Act.put, List.setIfInBounds_toArray, List.set_cons_zero, List.set_cons_succ]
      refine wpList_call (by kernel_rfl) 31 Try.func31 (by kernel_rfl) (by kernel_rfl) _ _ #[.int .i64 (n : Int), .int .i64 (ji : Int)] rfl (by kernel_rfl) ?_
      refine (rpoint_any n M ji HN.out hM (by omega) V3).mono ?_
      rintro e V4 ⟨rfl, hb⟩
      have B3 := Lib.hid hb
      clear hb 
      refine ⟨_, rfl, ?_⟩
      simp only [Act.put, List.setIfInBounds_toArray, List.set_cons_zero, List.set_cons_succ]
      refine wpList_run (by kernel_rfl) (.int .u64 (Gold.vF (Gold.ptF M ji))) V4 rfl ?_
      simp only [Act.put, List.setIfInBounds_toArray, List.set_cons_zero, List.set_cons_succ]
      refine wpList_nil ?_
      rw [hpvji]
      go_upto_region 8 with fail
      refine wp_region_lit ?_
      refine wpList_run (by kernel_rfl) (.int .i64 0) V4 rfl ?_
      simp only [Act.put, List.setIfInBounds_toArray, List.set_cons_zero, List.set_cons_succ]
      refine wpList_nil ?_
      have HB0 := Lib.hid (RowG.sg (n := 1) (c := 1) (Fv6_33.out.keep B3.out) (show ([(Gold.E2.ofF wi)]).length = 1 from rfl) (Nat.le_refl _) (by omega))
      have C0_4 := Lib.hid (bel_step C0_3.out B3.out)
      have HBV8 := Lib.hid C0_4.out
      have YHX := (HX.out.keep C0_4.out)
      have YHJ := (HJ.out.keep C0_4.out)
      have C1_3 := Lib.hid (bel_step B1.out B2.out)
      have C1_4 := Lib.hid (bel_step C1_3.out B3.out)
      have YHS := (HS.out.keep C1_4.out)
      have YHB0 := HB0.out
      clear HX
      have HX := Lib.hid YHX
      clear YHX
      clear HJ
      have HJ := Lib.hid YHJ
      clear YHJ
      clear HS
      have HS := Lib.hid YHS
      clear YHS
      clear HB0
      have HB0 := Lib.hid YHB0
      clear YHB0
      obtain ⟨VB8, rfl⟩ : ∃ VB8 : World, VB8 = V4 := ⟨_, rfl⟩
      have O9 := HB0.out
      have O10 := (Below.refl VB8.heap.size VB8)
      have B0 := Lib.hid (Below.refl VB8.heap.size VB8)
      go_wp2_with fail
      go_loopw [8, 10, 11, 12, 13] (fun bv p yq iq eq wr => ∃ q : Nat, ∃ (Ab : Option Addr) (mb cb : Nat) (bs : List Gold.E2), q ≤ k ∧ p = .int .i64 q ∧ bv = .slice Ab mb cb ∧ mb ≤ q + 1 ∧ (i < q → mb ≤ q) ∧ Sg exC 2 wr Ab mb cb bs ∧ (∀ x : Gold.F, Gold.evE bs (Gold.E2.ofF x) = Gold.E2.ofF (wf i * Gold.lagF pf i x q)) ∧ Below VB8.heap.size VB8 wr) (fun _ p _ _ _ _ => k - (intOf p).toNat)
      case atStart => exact ⟨0, some ⟨g33, 0, none⟩, 1, 1, [(Gold.E2.ofF wi)], Nat.zero_le _, rfl, rfl, Nat.le_refl _, (fun h => absurd h (Nat.not_lt_zero _)), O9, (fun x => by rw [Gold.evE_one9, hwv]; unfold Gold.lagF; congr 1; grind), O10⟩
      case round =>
        clear O10 O9
        obtain ⟨wz, rfl⟩ : ∃ wz : World, wz = wr := ⟨_, rfl⟩
        obtain ⟨q, Ab, mb, cb, bs, hi, rfl, hhbv, hhmb, hhmb2, hHBs, hhbe, hb0⟩ := hrel
        have hbr := hb0
        clear B0
        have B0 := Lib.hid hbr
        clear hbr
        have hbv := Lib.hid hhbv
        have hmb := Lib.hid hhmb
        have hmb2 := Lib.hid hhmb2
        have HBs := Lib.hid hHBs
        have hbe := Lib.hid hhbe
        clear hb0 hhbv hhmb hhmb2 hHBs hhbe
        have hbve := hbv.out
        subst hbve
        have hmble := hmb.out
        have hcb := HBs.out.cap
        have htb := HBs.out.top
        by_cases hqk : q < k
        · have hci12 : ((q : Int) < (k : Int)) := by omega
          go_upto_region 9 with fail
          refine wp_region_lit ?_
          refine wpList_run (by kernel_rfl) (.int .i64 (q : Int)) wz rfl ?_
          simp only [Act.put, List.setIfInBounds_toArray, List.set_cons_zero, List.set_cons_succ]
          refine wpList_run (by kernel_rfl) (.slice B k d) wz rfl ?_
          simp only [Act.put, List.setIfInBounds_toArray, List.set_cons_zero, List.set_cons_succ]
          refine wpList_run (by kernel_rfl) (.int .i64 (k : Int)) wz (xo_len B k d Try.underlying68 rfl rfl) ?_
          simp only [Act.put, List.setIfInBounds_toArray, List.set_cons_zero, List.set_cons_succ]
          refine wpList_run (by kernel_rfl) (.bool true) wz (xo_lssT .i64 (q : Int) (k : Int) (by omega) rfl rfl rfl) ?_
          simp only [Act.put, List.setIfInBounds_toArray, List.set_cons_zero, List.set_cons_succ]
          refine wpList_nil ?_
          by_cases hqi : q = i
          · have hci13 : ¬ ((q : Int) ≠ (i : Int)) := by omega
            go_upto_region 11 with fail
            refine wp_region_lit ?_
            refine wpList_run (by kernel_rfl) (.int .i64 (q : Int)) wz rfl ?_
            simp only [Act.put, List.setIfInBounds_toArray, List.set_cons_zero, List.set_cons_succ]
            refine wpList_run (by kernel_rfl) (.int .i64 (i : Int)) wz rfl ?_
            simp only [Act.put, List.setIfInBounds_toArray, List.set_cons_zero, List.set_cons_succ]
            refine wpList_run (by kernel_rfl) (.bool false) wz (xo_neqF .i64 (q : Int) (i : Int) (by omega) rfl rfl rfl) ?_
            simp only [Act.put, List.setIfInBounds_toArray, List.set_cons_zero, List.set_cons_succ]
            refine wpList_nil ?_
            go_upto_region 10 with fail
            refine wp_region_lit ?_
            refine wpList_run (by kernel_rfl) (.int .i64 (q : Int)) wz rfl ?_
            simp only [Act.put, List.setIfInBounds_toArray, List.set_cons_zero, List.set_cons_succ]
            refine wpList_run (by kernel_rfl) (.int .i64 ((q + 1 : Nat) : Int)) wz (xo_addI (q : Int) 1 ((q + 1 : Nat) : Int) (by omega) (by omega) (by omega) rfl rfl rfl) ?_
            simp only [Act.put, List.setIfInBounds_toArray, List.set_cons_zero, List.set_cons_succ]
            refine wpList_run (by kernel_rfl) (.int .i64 ((q + 1 : Nat) : Int)) wz rfl ?_
            simp only [Act.put, List.setIfInBounds_toArray, List.set_cons_zero, List.set_cons_succ]
            refine wpList_nil ?_
            have hkB := HBs.out
            have hq14 := B0.out
            go_wp2_with fail
            go_roundw
            case rel => exact ⟨q + 1, Ab, mb, cb, bs, by omega, by go_num, rfl, (by omega), (fun _ => by omega), hkB, (fun x => by rw [hbe.out x]; rw [Gold.lagF_eq hqi]), hq14⟩
            case measure => simp [intOf]; omega
          · have hci13 : ((q : Int) ≠ (i : Int)) := by omega
            go_upto_region 11 with fail
            refine wp_region_lit ?_
            refine wpList_run (by kernel_rfl) (.int .i64 (q : Int)) wz rfl ?_
            simp only [Act.put, List.setIfInBounds_toArray, List.set_cons_zero, List.set_cons_succ]
            refine wpList_run (by kernel_rfl) (.int .i64 (i : Int)) wz rfl ?_
            simp only [Act.put, List.setIfInBounds_toArray, List.set_cons_zero, List.set_cons_succ]
            refine wpList_run (by kernel_rfl) (.bool true) wz (xo_neqT .i64 (q : Int) (i : Int) (by omega) rfl rfl rfl) ?_
            simp only [Act.put, List.setIfInBounds_toArray, List.set_cons_zero, List.set_cons_succ]
            refine wpList_nil ?_
            obtain ⟨jq, hjq⟩ : ∃ jq, js[q]? = some jq := ⟨_, List.getElem?_eq_getElem (by omega)⟩
            have HEjq := Lib.hid hjq
            have hljq : jq < n := HLT.out jq (List.mem_of_getElem? hjq)
            have hpvjq : Gold.ptF M jq = pf q := by rw [← HPF.out]; show _ = Gold.ptF M (js.getD q 0); rw [List.getD_eq_getElem?_getD, hjq]; rfl
            clear hjq
            go_upto_region 12 with fail
            refine wp_region_lit ?_
            refine wpList_run (by kernel_rfl) (.int .i64 (n : Int)) wz rfl ?_
            simp only [Act.put, List.setIfInBounds_toArray, List.set_cons_zero, List.set_cons_succ]
            refine wpList_run (by kernel_rfl) (.slice B k d) wz rfl ?_
            simp only [Act.put, List.setIfInBounds_toArray, List.set_cons_zero, List.set_cons_succ]
            refine wpList_run (by kernel_rfl) (.int .i64 (q : Int)) wz rfl ?_
            simp only [Act.put, List.setIfInBounds_toArray, List.set_cons_zero, List.set_cons_succ]
            refine wpList_run (by kernel_rfl) (.pointer (some (gad B (q * 1)))) wz (xg_idx .i64 (HJ.out.keep B0.out) HEjq.out Try.underlying68 (by kernel_rfl) rfl rfl rfl) ?_
            simp only [Act.put, List.setIfInBounds_toArray, List.set_cons_zero, List.set_cons_succ]
            refine wpList_run (by kernel_rfl) (.int .i64 (jq : Int)) wz (xg_load1 (E := ixC) (i := q) (j := 0) (HJ.out.keep B0.out) HEjq.out rfl rfl Try.underlying3 rfl rfl rfl) ?_
            simp only [Act.put, List.setIfInBounds_toArray, List.set_cons_zero, List.set_cons_succ]
            refine wpList_call (by kernel_rfl) 31 Try.func31 (by kernel_rfl) (by kernel_rfl) _ _ #[.int .i64 (n : Int), .int .i64 (jq : Int)] rfl (by kernel_rfl) ?_
            refine (rpoint_any n M jq HN.out hM (by omega) wz).mono ?_
            rintro e V2 ⟨rfl, hb⟩
            have B1 := Lib.hid hb
            clear hb 
            refine ⟨_, rfl, ?_⟩
            simp only [Act.put, List.setIfInBounds_toArray, List.set_cons_zero, List.set_cons_succ]
            refine wpList_run (by kernel_rfl) (.int .u64 (Gold.vF (Gold.ptF M jq))) V2 rfl ?_
            simp only [Act.put, List.setIfInBounds_toArray, List.set_cons_zero, List.set_cons_succ]
            refine wpList_nil ?_
            rw [hpvjq]
            have hnz : pf i - pf q ≠ 0 := fun e => pt_ne HN.out hM HND.out HLT.out HEji.out HEjq.out hqi (by rw [hpvji, hpvjq]; grind)
            go_upto_region 13 with fail
            refine wp_region_lit ?_
            refine wpList_run (by kernel_rfl) (.int .u64 (Gold.vF (pf i))) V2 rfl ?_
            simp only [Act.put, List.setIfInBounds_toArray, List.set_cons_zero, List.set_cons_succ]
            refine wpList_run (by kernel_rfl) (.int .u64 (Gold.vF (pf q))) V2 rfl ?_
            simp only [Act.put, List.setIfInBounds_toArray, List.set_cons_zero, List.set_cons_succ]
            refine wpList_call (by kernel_rfl) 72 Try.func72 (by kernel_rfl) (by kernel_rfl) _ _ #[.int .u64 (Gold.vF (pf i)), .int .u64 (Gold.vF (pf q))] rfl (by kernel_rfl) ?_
            refine (J.rsubF (pf i) (pf q) V2).mono ?_
            rintro e W1 ⟨rfl, hw1⟩
            rw [hw1]
            clear hw1 W1
            refine ⟨_, rfl, ?_⟩
            simp only [Act.put, List.setIfInBounds_toArray, List.set_cons_zero, List.set_cons_succ]
            refine wpList_call (by kernel_rfl) 71 Try.func71 (by kernel_rfl) (by kernel_rfl) _ _ #[.int .u64 (Gold.vF ((pf i) - (pf q)))] rfl (by kernel_rfl) ?_
            refine (J.rinvF_any ((pf i) - (pf q)) V2 (by first | exact hnz | simpa using hnz)).mono ?_
            rintro e W1 ⟨rfl, hw1⟩
            rw [hw1]
            clear hw1 W1
            refine ⟨_, rfl, ?_⟩
            simp only [Act.put, List.setIfInBounds_toArray, List.set_cons_zero, List.set_cons_succ]
            refine wpList_run (by kernel_rfl) (.tuple #[.int .u64 (Gold.vF (Gold.invF ((pf i) - (pf q)))), .int .i64 0]) V2 rfl ?_
            simp only [Act.put, List.setIfInBounds_toArray, List.set_cons_zero, List.set_cons_succ]
            refine wpList_run (by kernel_rfl) (.int .u64 (Gold.vF (Gold.invF ((pf i) - (pf q))))) V2 rfl ?_
            simp only [Act.put, List.setIfInBounds_toArray, List.set_cons_zero, List.set_cons_succ]
            refine wpList_run (by kernel_rfl) (.int .i64 0) V2 rfl ?_
            simp only [Act.put, List.setIfInBounds_toArray, List.set_cons_zero, List.set_cons_succ]
            refine wpList_run (by kernel_rfl) (.int .u64 (Gold.vF (Gold.invF ((pf i) - (pf q))))) V2 rfl ?_
            simp only [Act.put, List.setIfInBounds_toArray, List.set_cons_zero, List.set_cons_succ]
            refine wpList_run (by kernel_rfl) (.int .i64 0) V2 rfl ?_
            simp only [Act.put, List.setIfInBounds_toArray, List.set_cons_zero, List.set_cons_succ]
            refine wpList_nil ?_
            obtain ⟨vi, hvi⟩ : ∃ v, Gold.invF (pf i - pf q) = v := ⟨_, rfl⟩
            simp only [hvi]
            have HVI := Lib.hid hvi
            clear hvi
            go_upto_region 14 with fail
            refine wp_region_lit ?_
            refine wpList_run (by kernel_rfl) (.slice Ab mb cb) V2 rfl ?_
            simp only [Act.put, List.setIfInBounds_toArray, List.set_cons_zero, List.set_cons_succ]
            refine wpList_run (by kernel_rfl) (.int .u64 (Gold.vF (pf q))) V2 rfl ?_
            simp only [Act.put, List.setIfInBounds_toArray, List.set_cons_zero, List.set_cons_succ]
            refine wpList_call (by kernel_rfl) 30 Try.func30 (by kernel_rfl) (by kernel_rfl) _ _ #[.int .u64 (Gold.vF (pf q))] rfl (by kernel_rfl) ?_
            refine (J.rnegF (pf q) V2).mono ?_
            rintro e W1 ⟨rfl, hw1⟩
            rw [hw1]
            clear hw1 W1
            refine ⟨_, rfl, ?_⟩
            simp only [Act.put, List.setIfInBounds_toArray, List.set_cons_zero, List.set_cons_succ]
            refine wpList_run (by kernel_rfl) (.int .u64 (Gold.vF vi)) V2 rfl ?_
            simp only [Act.put, List.setIfInBounds_toArray, List.set_cons_zero, List.set_cons_succ]
            refine wpList_call (by kernel_rfl) 42 Try.func42 (by kernel_rfl) (by kernel_rfl) _ _ #[.int .u64 (Gold.vF (-(pf q))), .int .u64 (Gold.vF vi)] rfl (by kernel_rfl) ?_
            refine (J.rmulF (-(pf q)) vi V2).mono ?_
            rintro e W1 ⟨rfl, hw1⟩
            rw [hw1]
            clear hw1 W1
            refine ⟨_, rfl, ?_⟩
            simp only [Act.put, List.setIfInBounds_toArray, List.set_cons_zero, List.set_cons_succ]
            refine wpList_call (by kernel_rfl) 29 Try.func29 (by kernel_rfl) (by kernel_rfl) _ _ #[.int .u64 (Gold.vF ((-(pf q)) * vi))] rfl (by kernel_rfl) ?_
            refine (J.rFromBase_any ((-(pf q)) * vi) V2).mono ?_
            rintro e V3 ⟨rfl, hb⟩
            have B2 := Lib.hid hb
            clear hb 
            refine ⟨_, rfl, ?_⟩
            simp only [Act.put, List.setIfInBounds_toArray, List.set_cons_zero, List.set_cons_succ]
            refine wpList_run (by kernel_rfl) (.int .u64 (Gold.vF vi)) V3 rfl ?_
            simp only [Act.put, List.setIfInBounds_toArray, List.set_cons_zero, List.set_cons_succ]
            refine wpList_call (by kernel_rfl) 29 Try.func29 (by kernel_rfl) (by kernel_rfl) _ _ #[.int .u64 (Gold.vF vi)] rfl (by kernel_rfl) ?_
            refine (J.rFromBase_any vi V3).mono ?_
            rintro e V4 ⟨rfl, hb⟩
            have B3 := Lib.hid hb
            clear hb 
            refine ⟨_, rfl, ?_⟩
            simp only [Act.put, List.setIfInBounds_toArray, List.set_cons_zero, List.set_cons_succ]
            refine wpList_mk (by kernel_rfl) ([(Gold.E2.ofF ((-(pf q)) * vi)), (Gold.E2.ofF vi)].flatMap exC).toArray 31 2 2 (xg_lit (E := exC) (bytes := 16) (.agg #[.int .u64 0, .int .u64 0]) [.tmp 67, .tmp 69] [(Gold.E2.ofF ((-(pf q)) * vi)), (Gold.E2.ofF vi)] 2 Try.underlying28 (by kernel_rfl) rfl (by decide) (by decide) rfl rfl) ?_
            intro g70 V5 hge h0 hb
            have Ge14 : Hid (V4.heap.size ≤ g70) := Lib.hid hge
            have B4 := Lib.hid hb
            have Fv15_70 : Hid (RowG exC V5 g70 31 ([(Gold.E2.ofF ((-(pf q)) * vi)), (Gold.E2.ofF vi)])) := Lib.hid (h0)
            have Lt16 : Hid (g70 < V5.heap.size) := Lib.hid (xp_lt Fv15_70.out)
            clear hge h0 hb
            simp only [ptr, Act.put, List.setIfInBounds_toArray, List.set_cons_zero, List.set_cons_succ]
            have C1_3 := Lib.hid (bel_step B1.out B2.out)
            have C1_4 := Lib.hid (bel_step C1_3.out B3.out)
            have C1_5 := Lib.hid (bel_step C1_4.out B4.out)
            refine wpList_call (by kernel_rfl) 28 Try.func28 (by kernel_rfl) (by kernel_rfl) _ _ #[.slice Ab mb cb, .slice (some ⟨g70, 0, none⟩) 2 2] rfl (by kernel_rfl) ?_
            refine (J.rPMul_any Ab mb cb bs (some ⟨g70, 0, none⟩) 2 2 [(Gold.E2.ofF ((-(pf q)) * vi)), (Gold.E2.ofF vi)] V5 (slOf (HBs.out.keep C1_5.out)) (slOf (RowG.sg (n := 2) (c := 2) Fv15_70.out (show ([(Gold.E2.ofF ((-(pf q)) * vi)), (Gold.E2.ofF vi)]).length = 2 from rfl) (Nat.le_refl _) (by omega))) (by omega) (by omega)).mono ?_
            rintro e V6 ⟨A2, m2, c2, rfl, hm2, hsl, hb⟩
            have B5 := Lib.hid hb
            have hs := sgE hsl
            clear hsl
            have hlm := Gold.mulE_length' (xs := bs) (ys := [(Gold.E2.ofF ((-(pf q)) * vi)), (Gold.E2.ofF vi)])
            rw [hs.len, HBs.out.len] at hlm
            have hml2 : m2 ≤ mb + 1 := by simp only [List.length_cons, List.length_nil] at hlm; omega
            clear hlm
            have HD2 := Lib.hid hs
            clear hb hs
            refine ⟨_, rfl, ?_⟩
            simp only [Act.put, List.setIfInBounds_toArray, List.set_cons_zero, List.set_cons_succ]
            refine wpList_run (by kernel_rfl) (.slice A2 m2 c2) V6 rfl ?_
            simp only [Act.put, List.setIfInBounds_toArray, List.set_cons_zero, List.set_cons_succ]
            refine wpList_nil ?_
            go_upto_region 10 with fail
            refine wp_region_lit ?_
            refine wpList_run (by kernel_rfl) (.int .i64 (q : Int)) V6 rfl ?_
            simp only [Act.put, List.setIfInBounds_toArray, List.set_cons_zero, List.set_cons_succ]
            refine wpList_run (by kernel_rfl) (.int .i64 ((q + 1 : Nat) : Int)) V6 (xo_addI (q : Int) 1 ((q + 1 : Nat) : Int) (by omega) (by omega) (by omega) rfl rfl rfl) ?_
            simp only [Act.put, List.setIfInBounds_toArray, List.set_cons_zero, List.set_cons_succ]
            refine wpList_run (by kernel_rfl) (.int .i64 ((q + 1 : Nat) : Int)) V6 rfl ?_
            simp only [Act.put, List.setIfInBounds_toArray, List.set_cons_zero, List.set_cons_succ]
            refine wpList_nil ?_
            have hkB := HD2.out
            have hm22 := hmb2.out
            have C0_2 := Lib.hid (bel_step B0.out B1.out)
            have C0_3 := Lib.hid (bel_step C0_2.out B2.out)
            have C0_4 := Lib.hid (bel_step C0_3.out B3.out)
            have C0_5 := Lib.hid (bel_step C0_4.out B4.out)
            have C0_6 := Lib.hid (bel_step C0_5.out B5.out)
            have hq17 := C0_6.out
            go_wp2_with fail
            go_roundw
            case rel => exact ⟨q + 1, A2, m2, c2, _, by omega, by go_num, rfl, (by omega), (fun h => by have := hm22 (by omega); omega), hkB, (fun x => by rw [Gold.evE_basis bs _ _ x _ (hbe.out x), Gold.lagF_ne hqi, HVI.out]; refine congrArg Gold.E2.ofF ?_; grind), hq17⟩
            case measure => simp [intOf]; omega
        · have hci12 : ¬ ((q : Int) < (k : Int)) := by omega
          obtain rfl : k = q := by omega
          go_upto_region 9 with fail
          refine wp_region_lit ?_
          refine wpList_run (by kernel_rfl) (.int .i64 (k : Int)) wz rfl ?_
          simp only [Act.put, List.setIfInBounds_toArray, List.set_cons_zero, List.set_cons_succ]
          refine wpList_run (by kernel_rfl) (.slice B k d) wz rfl ?_
          simp only [Act.put, List.setIfInBounds_toArray, List.set_cons_zero, List.set_cons_succ]
          refine wpList_run (by kernel_rfl) (.int .i64 (k : Int)) wz (xo_len B k d Try.underlying68 rfl rfl) ?_
          simp only [Act.put, List.setIfInBounds_toArray, List.set_cons_zero, List.set_cons_succ]
          refine wpList_run (by kernel_rfl) (.bool false) wz (xo_lssF .i64 (k : Int) (k : Int) (by omega) rfl rfl rfl) ?_
          simp only [Act.put, List.setIfInBounds_toArray, List.set_cons_zero, List.set_cons_succ]
          refine wpList_nil ?_
          have hmk := hmb2.out hik
          have hcb := HBV8.out.trans (B0.out.mono HBV8.out.size)
          have YHX := (HX.out.keep B0.out)
          have YHJ := (HJ.out.keep B0.out)
          have YHS := (HS.out.keep B0.out)
          have YHBs := HBs.out
          clear HX
          have HX := Lib.hid YHX
          clear YHX
          clear HJ
          have HJ := Lib.hid YHJ
          clear YHJ
          clear HS
          have HS := Lib.hid YHS
          clear YHS
          clear HBs
          have HBs := Lib.hid YHBs
          clear YHBs
          have B0 := Lib.hid hcb
          clear hcb
          go_upto_region 15 with fail
          refine wp_region_lit ?_
          refine wpList_run (by kernel_rfl) (.slice As ms cs) wz rfl ?_
          simp only [Act.put, List.setIfInBounds_toArray, List.set_cons_zero, List.set_cons_succ]
          refine wpList_run (by kernel_rfl) (.slice Ab mb cb) wz rfl ?_
          simp only [Act.put, List.setIfInBounds_toArray, List.set_cons_zero, List.set_cons_succ]
          refine wpList_call (by kernel_rfl) 73 Try.func73 (by kernel_rfl) (by kernel_rfl) _ _ #[.slice As ms cs, .slice Ab mb cb] rfl (by kernel_rfl) ?_
          refine (J.rPAdd_any As ms cs ss Ab mb cb bs wz (slOf HS.out) (slOf HBs.out) (by omega) (by omega)).mono ?_
          rintro e V2 ⟨A3, m3, c3, rfl, hm3, hsl, hb⟩
          have B1 := Lib.hid hb
          have hs := sgE hsl
          clear hsl
          have HD3 := Lib.hid hs
          clear hb hs
          refine ⟨_, rfl, ?_⟩
          simp only [Act.put, List.setIfInBounds_toArray, List.set_cons_zero, List.set_cons_succ]
          refine wpList_run (by kernel_rfl) (.slice A3 m3 c3) V2 rfl ?_
          simp only [Act.put, List.setIfInBounds_toArray, List.set_cons_zero, List.set_cons_succ]
          refine wpList_nil ?_
          go_upto_region 5 with fail
          refine wp_region_lit ?_
          refine wpList_run (by kernel_rfl) (.int .i64 (i : Int)) V2 rfl ?_
          simp only [Act.put, List.setIfInBounds_toArray, List.set_cons_zero, List.set_cons_succ]
          refine wpList_run (by kernel_rfl) (.int .i64 ((i + 1 : Nat) : Int)) V2 (xo_addI (i : Int) 1 ((i + 1 : Nat) : Int) (by omega) (by omega) (by omega) rfl rfl rfl) ?_
          simp only [Act.put, List.setIfInBounds_toArray, List.set_cons_zero, List.set_cons_succ]
          refine wpList_run (by kernel_rfl) (.int .i64 ((i + 1 : Nat) : Int)) V2 rfl ?_
          simp only [Act.put, List.setIfInBounds_toArray, List.set_cons_zero, List.set_cons_succ]
          refine wpList_nil ?_
          have hkS := HD3.out
          have C0_2 := Lib.hid (bel_step B0.out B1.out)
          have hq13 := C0_2.out
          go_wp2_with fail
          go_roundw
          case rel => exact ⟨i + 1, A3, m3, c3, _, by omega, by go_num, rfl, (by omega), hkS, (fun x => by rw [Gold.evE_sumF ss bs x _ _ (hev.out x) (hbe.out x)]; rfl), hq13⟩
          case measure => simp [intOf]; omega
    · have hci4 : ¬ ((i : Int) < (k : Int)) := by omega
      go_upto_region 4 with fail
      refine wp_region_lit ?_
      refine wpList_run (by kernel_rfl) (.int .i64 (i : Int)) wo rfl ?_
      simp only [Act.put, List.setIfInBounds_toArray, List.set_cons_zero, List.set_cons_succ]
      refine wpList_run (by kernel_rfl) (.slice B k d) wo rfl ?_
      simp only [Act.put, List.setIfInBounds_toArray, List.set_cons_zero, List.set_cons_succ]
      refine wpList_run (by kernel_rfl) (.int .i64 (k : Int)) wo (xo_len B k d Try.underlying68 rfl rfl) ?_
      simp only [Act.put, List.setIfInBounds_toArray, List.set_cons_zero, List.set_cons_succ]
      refine wpList_run (by kernel_rfl) (.bool false) wo (xo_lssF .i64 (i : Int) (k : Int) (by omega) rfl rfl rfl) ?_
      simp only [Act.put, List.setIfInBounds_toArray, List.set_cons_zero, List.set_cons_succ]
      refine wpList_nil ?_
      obtain rfl : k = i := by omega
      have hssl := HS.out.len
      have HBV5 := Lib.hid B0.out
      have YHS := HS.out
      clear HS
      have HS := Lib.hid YHS
      clear YHS
      obtain ⟨VB5, rfl⟩ : ∃ VB5 : World, VB5 = wo := ⟨_, rfl⟩
      go_upto_region 16 with fail
      refine wp_region_lit ?_
      refine wpList_run (by kernel_rfl) (.slice B k d) VB5 rfl ?_
      simp only [Act.put, List.setIfInBounds_toArray, List.set_cons_zero, List.set_cons_succ]
      refine wpList_run (by kernel_rfl) (.int .i64 (k : Int)) VB5 (xo_len B k d Try.underlying68 rfl rfl) ?_
      simp only [Act.put, List.setIfInBounds_toArray, List.set_cons_zero, List.set_cons_succ]
      refine wpList_mk (by kernel_rfl) ((List.replicate k (0 : Gold.F)).flatMap feC).toArray 29 k k (xg_make (E := feC) (bytes := 8) (.int .u64 0) (0 : Gold.F) k .i64 Try.underlying22 (by kernel_rfl) rfl (by omega) (by omega) rfl rfl rfl) ?_
      intro g77 V1 hge h0 hb
      have Ge6 : Hid (VB5.heap.size ≤ g77) := Lib.hid hge
      have B0 := Lib.hid hb
      have Fv7_77 : Hid (RowG feC V1 g77 29 (List.replicate k (0 : Gold.F))) := Lib.hid (h0)
      have Lt8 : Hid (g77 < V1.heap.size) := Lib.hid (xp_lt Fv7_77.out)
      clear hge h0 hb
      simp only [ptr, Act.put, List.setIfInBounds_toArray, List.set_cons_zero, List.set_cons_succ]
      refine wpList_run (by kernel_rfl) (.slice (some ⟨g77, 0, none⟩) k k) V1 rfl ?_
      simp only [Act.put, List.setIfInBounds_toArray, List.set_cons_zero, List.set_cons_succ]
      refine wpList_nil ?_
      rw [← fiG_zero (0 : Gold.F) (Gold.cfF (ss.map Gold.E2.A)) k] at Fv7_77
      go_upto_region 17 with fail
      refine wp_region_lit ?_
      refine wpList_run (by kernel_rfl) (.int .i64 0) V1 rfl ?_
      simp only [Act.put, List.setIfInBounds_toArray, List.set_cons_zero, List.set_cons_succ]
      refine wpList_nil ?_
      have O9 := Fv7_77.out
      have O10 := B0.out
      go_wp2_with fail
      go_loopw [15] (fun p wr => ∃ j : Nat, j ≤ ms ∧ p = .int .i64 j ∧ RowG feC wr g77 29 (fiG (0 : Gold.F) (Gold.cfF (ss.map Gold.E2.A)) k j) ∧ Below VB5.heap.size VB5 wr) (fun p _ => ms - (intOf p).toNat)
      case atStart => exact ⟨0, Nat.zero_le _, rfl, O9, O10⟩
      case round =>
        clear O9 O10
        obtain ⟨wy, rfl⟩ : ∃ wy : World, wy = wr := ⟨_, rfl⟩
        obtain ⟨j, hi, rfl, hr0, hb0⟩ := hrel
        have hbr := hb0
        clear B0
        have B0 := Lib.hid hbr
        clear hbr
        clear Fv7_77
        have Fv7_77 : Hid (RowG feC wy g77 29 (fiG (0 : Gold.F) (Gold.cfF (ss.map Gold.E2.A)) k j)) := Lib.hid (hr0)
        clear hb0 hr0
        by_cases hj1 : j < ms
        · have hci12 : ((j : Int) < (ms : Int)) := by omega
          go_upto_region 18 with fail
          refine wp_region_lit ?_
          refine wpList_run (by kernel_rfl) (.int .i64 (j : Int)) wy rfl ?_
          simp only [Act.put, List.setIfInBounds_toArray, List.set_cons_zero, List.set_cons_succ]
          refine wpList_run (by kernel_rfl) (.slice As ms cs) wy rfl ?_
          simp only [Act.put, List.setIfInBounds_toArray, List.set_cons_zero, List.set_cons_succ]
          refine wpList_run (by kernel_rfl) (.int .i64 (ms : Int)) wy (xo_len As ms cs Try.underlying28 rfl rfl) ?_
          simp only [Act.put, List.setIfInBounds_toArray, List.set_cons_zero, List.set_cons_succ]
          refine wpList_run (by kernel_rfl) (.bool true) wy (xo_lssT .i64 (j : Int) (ms : Int) (by omega) rfl rfl rfl) ?_
          simp only [Act.put, List.setIfInBounds_toArray, List.set_cons_zero, List.set_cons_succ]
          refine wpList_nil ?_
          obtain ⟨x, hx⟩ : ∃ x, ss[j]? = some x := ⟨_, List.getElem?_eq_getElem (by omega)⟩
          have HEx := Lib.hid hx
          clear hx
          have hjk : j < k := by omega
          go_upto_region 20 with fail
          refine wp_region_lit ?_
          refine wpList_run (by kernel_rfl) (.slice (some ⟨g77, 0, none⟩) k k) wy rfl ?_
          simp only [Act.put, List.setIfInBounds_toArray, List.set_cons_zero, List.set_cons_succ]
          refine wpList_run (by kernel_rfl) (.int .i64 (j : Int)) wy rfl ?_
          simp only [Act.put, List.setIfInBounds_toArray, List.set_cons_zero, List.set_cons_succ]
          refine wpList_run (by kernel_rfl) (.slice As ms cs) wy rfl ?_
          simp only [Act.put, List.setIfInBounds_toArray, List.set_cons_zero, List.set_cons_succ]
          refine wpList_run (by kernel_rfl) (.int .i64 (j : Int)) wy rfl ?_
          simp only [Act.put, List.setIfInBounds_toArray, List.set_cons_zero, List.set_cons_succ]
          refine wpList_run (by kernel_rfl) (.pointer (some (gad As (j * 2)))) wy (xg_idx .i64 (HS.out.keep B0.out) HEx.out Try.underlying28 (by kernel_rfl) rfl rfl rfl) ?_
          simp only [Act.put, List.setIfInBounds_toArray, List.set_cons_zero, List.set_cons_succ]
          refine wpList_run (by kernel_rfl) (.pointer (some (gad As ((j * 2) + 0)))) wy (xg_fld 0 (HS.out.keep B0.out) HEx.out (by kernel_rfl) rfl rfl) ?_
          simp only [Act.put, List.setIfInBounds_toArray, List.set_cons_zero, List.set_cons_succ]
          refine wpList_run (by kernel_rfl) (.int .u64 (Gold.vF x.A)) wy (xg_load1 (E := exC) (i := j) (j := 0) (HS.out.keep B0.out) HEx.out rfl rfl Try.underlying29 rfl rfl rfl) ?_
          simp only [Act.put, List.setIfInBounds_toArray, List.set_cons_zero, List.set_cons_succ]
          refine wpList_run (by kernel_rfl) (.pointer (some (gad (some ⟨g77, 0, none⟩) (j * 1)))) wy (xg_idx .i64 (RowG.sg (n := k) (c := k) Fv7_77.out (fiG_length ..) (Nat.le_refl _) (by omega)) (fiG_at (0 : Gold.F) (Gold.cfF (ss.map Gold.E2.A)) hjk) Try.underlying22 (by kernel_rfl) rfl rfl rfl) ?_
          simp only [Act.put, List.setIfInBounds_toArray, List.set_cons_zero, List.set_cons_succ]
          refine wpList_storeW g77 _ _ 29 (by kernel_rfl) (RowG.h Fv7_77.out) (xg_store Fv7_77.out (List.getElem?_eq_some_iff.1 (fiG_at (0 : Gold.F) (Gold.cfF (ss.map Gold.E2.A)) hjk)).1 x.A (by kernel_rfl) rfl rfl rfl) ?_
          intro X1_13 h1 hfar hbel hsz
          have hbr := hbel _ _ Ge6.out B0.out
          clear B0
          have B0 := Lib.hid hbr
          clear hbr
          clear Fv7_77
          have Fv7_77 : Hid (RowG feC X1_13 g77 29 ((fiG (0 : Gold.F) (Gold.cfF (ss.map Gold.E2.A)) k j).set j x.A)) := Lib.hid (h1)
          have HszX1_13 := Lib.hid hsz
          clear h1 hfar hbel hsz
          simp only [ptr, Act.put, List.setIfInBounds_toArray, List.set_cons_zero, List.set_cons_succ]
          refine wpList_nil ?_
          have hqc := Fv7_77.out
          rw [fiG_set (0 : Gold.F) (Gold.cfF (ss.map Gold.E2.A)) x.A hjk (Gold.cfF_some (by rw [List.getElem?_map, HEx.out]; rfl))] at hqc
          go_upto_region 19 with fail
          refine wp_region_lit ?_
          refine wpList_run (by kernel_rfl) (.int .i64 (j : Int)) X1_13 rfl ?_
          simp only [Act.put, List.setIfInBounds_toArray, List.set_cons_zero, List.set_cons_succ]
          refine wpList_run (by kernel_rfl) (.int .i64 ((j + 1 : Nat) : Int)) X1_13 (xo_addI (j : Int) 1 ((j + 1 : Nat) : Int) (by omega) (by omega) (by omega) rfl rfl rfl) ?_
          simp only [Act.put, List.setIfInBounds_toArray, List.set_cons_zero, List.set_cons_succ]
          refine wpList_run (by kernel_rfl) (.int .i64 ((j + 1 : Nat) : Int)) X1_13 rfl ?_
          simp only [Act.put, List.setIfInBounds_toArray, List.set_cons_zero, List.set_cons_succ]
          refine wpList_nil ?_
          have hq14 := B0.out
          go_wp2_with fail
          go_roundw
          case rel => exact ⟨j + 1, by omega, by go_num, hqc, hq14⟩
          case measure => simp [intOf]; omega
        · have hci12 : ¬ ((j : Int) < (ms : Int)) := by omega
          go_upto_region 18 with fail
          refine wp_region_lit ?_
          refine wpList_run (by kernel_rfl) (.int .i64 (j : Int)) wy rfl ?_
          simp only [Act.put, List.setIfInBounds_toArray, List.set_cons_zero, List.set_cons_succ]
          refine wpList_run (by kernel_rfl) (.slice As ms cs) wy rfl ?_
          simp only [Act.put, List.setIfInBounds_toArray, List.set_cons_zero, List.set_cons_succ]
          refine wpList_run (by kernel_rfl) (.int .i64 (ms : Int)) wy (xo_len As ms cs Try.underlying28 rfl rfl) ?_
          simp only [Act.put, List.setIfInBounds_toArray, List.set_cons_zero, List.set_cons_succ]
          refine wpList_run (by kernel_rfl) (.bool false) wy (xo_lssF .i64 (j : Int) (ms : Int) (by omega) rfl rfl rfl) ?_
          simp only [Act.put, List.setIfInBounds_toArray, List.set_cons_zero, List.set_cons_succ]
          refine wpList_nil ?_
          obtain rfl : ms = j := by omega
          go_upto_region 21 with fail
          refine wp_region_lit ?_
          refine wpList_run (by kernel_rfl) (.slice (some ⟨g77, 0, none⟩) k k) wy rfl ?_
          simp only [Act.put, List.setIfInBounds_toArray, List.set_cons_zero, List.set_cons_succ]
          refine wpList_run (by kernel_rfl) (.slice (some ⟨g77, 0, none⟩) k k) wy rfl ?_
          simp only [Act.put, List.setIfInBounds_toArray, List.set_cons_zero, List.set_cons_succ]
          refine wpList_nil ?_
          have hfin := (RowG.sg (n := k) (c := k) Fv7_77.out (fiG_length ..) (Nat.le_refl _) (by omega))
          go_wp2_with fail
          go_ret
          refine ⟨_, _, rfl, _, fiG_length _ _ _ _, hfin, fun m j hm => ?_, HBV0.out.trans ((HBV5.out.trans (B0.out.mono HBV5.out.size)).mono HBV0.out.size)⟩
          have hmk : m < k := by rw [← hjl]; exact (List.getElem?_eq_some_iff.1 hm).1
          rw [Gold.evL_congr (ys := ss.map Gold.E2.A) (fiG_cfF (Gold.cfF (ss.map Gold.E2.A)) k ms hmle (fun i hi => Gold.cfF_none (by rw [List.length_map]; omega)))]
          have hpm : Gold.ptF M j = pf m := by rw [← HPF.out]; show _ = Gold.ptF M (js.getD m 0); rw [List.getD_eq_getElem?_getD, hm]; rfl
          have hwm : Gold.cfF xs j = wf m := by rw [← HWF.out]; show _ = Gold.cfF xs (js.getD m 0); rw [List.getD_eq_getElem?_getD, hm]; rfl
          rw [hpm, hwm, Gold.evL_A (hev.out (pf m))]
          refine Gold.lag_sum (p := pf) (w := wf) hmk fun i m hi hm2 hne => ?_
          obtain ⟨a, ha⟩ : ∃ a, js[i]? = some a := ⟨_, List.getElem?_eq_getElem (by omega)⟩
          obtain ⟨b, hb⟩ : ∃ b, js[m]? = some b := ⟨_, List.getElem?_eq_getElem (by omega)⟩
          have hpa : Gold.ptF M a = pf i := by rw [← HPF.out]; show _ = Gold.ptF M (js.getD i 0); rw [List.getD_eq_getElem?_getD, ha]; rfl
          have hpb : Gold.ptF M b = pf m := by rw [← HPF.out]; show _ = Gold.ptF M (js.getD m 0); rw [List.getD_eq_getElem?_getD, hb]; rfl
          rw [← hpa, ← hpb]
          exact pt_ne HN.out hM HND.out HLT.out ha hb hne
end Go.Proofs.Ytkefijogpiofbaa

