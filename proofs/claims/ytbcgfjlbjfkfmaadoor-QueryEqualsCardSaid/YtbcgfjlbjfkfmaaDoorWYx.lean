/- Stage 13: Digits, Column of the reference; law QueryEquals. -/
import Derived.Test.YtbcgfjlbjfkfmaaDoorM18
namespace Go.Proofs.YtbcgfjlbjfkfmaaDoor
set_option linter.unusedVariables false
set_option linter.unusedSimpArgs false
set_option linter.unusedSectionVars false
set_option maxRecDepth 8000
open Go.RowKit Go.Proofs.YtbcgfjlbjfkfmaaDoor.K
attribute [local irreducible] wpList wpQuiet
def stC (l : List UInt8) : List Value := [.string (sB l)]
instance : Enc stC 1 := ⟨fun _ => rfl, fun x u hu => by
  simp only [stC, List.mem_cons, List.not_mem_nil, or_false] at hu
  subst hu
  rfl, by decide⟩
set_option maxRecDepth 100000 in
set_option maxHeartbeats 16000000 in
theorem rdigits_any (f : Nat) : f ≤ 6 → 1 ≤ f → ∀ (n : Nat), n < 10 ^ f → ∀ (w : World), Calls Tryd.prog 25 #[.int .i64 (n : Int)] w fun e w' => e = .returned (.string (sB (Qu.decF f n))) ∧ Below w.heap.size w w' := by
  induction f with
  | zero => intro _ h; omega
  | succ f ih =>
    intro hf h1 n hn w
    have hn7 : n < 1000000 := Nat.lt_of_lt_of_le hn (Nat.pow_le_pow_right (by decide) hf)
    rw [Nat.pow_succ] at hn
    have hle := Qu.decF_le f (n / 10)
    have hle2 := Qu.decF_le f (n % 10)
    go_enter Tryd.func25, Tryd.ntmps25
    go_upto_region 1 with fail
    obtain ⟨m, hm⟩ : ∃ m, 48 + n = m := ⟨_, rfl⟩
    obtain ⟨d, hd⟩ : ∃ d, n % 10 = d := ⟨_, rfl⟩
    by_cases h10 : n < 10
    · have hci0 : ((n : Int) < 10) := by omega
      refine wp_region_lit ?_
      refine wpList_run (by kernel_rfl) (.int .i64 (n : Int)) w rfl ?_
      simp only [Act.put, List.setIfInBounds_toArray, List.set_cons_zero, List.set_cons_succ]
      refine wpList_run (by kernel_rfl) (.bool true) w (xo_lssT .i64 (n : Int) 10 (by omega) rfl rfl rfl) ?_
      simp only [Act.put, List.setIfInBounds_toArray, List.set_cons_zero, List.set_cons_succ]
      refine wpList_nil ?_
      go_upto_region 2 with fail
      refine wp_region_lit ?_
      refine wpList_run (by kernel_rfl) (.int .i64 (n : Int)) w rfl ?_
      simp only [Act.put, List.setIfInBounds_toArray, List.set_cons_zero, List.set_cons_succ]
      refine wpList_run (by kernel_rfl) (.int .i64 (m : Int)) w (xo_addI 48 (n : Int) (m : Int) (by omega) (by omega) (by omega) rfl rfl rfl) ?_
      simp only [Act.put, List.setIfInBounds_toArray, List.set_cons_zero, List.set_cons_succ]
      refine wpList_run (by kernel_rfl) (.int .u8 (m : Int)) w (xo_cvt .i64 .u8 (m : Int) (m : Int) (by rw [IntKind.wrap_u8]; omega) Tryd.underlying5 Tryd.underlying3 rfl rfl) ?_
      simp only [Act.put, List.setIfInBounds_toArray, List.set_cons_zero, List.set_cons_succ]
      refine wpList_mk (by kernel_rfl) ([m].flatMap byC).toArray 5 1 1 (xg_lit (E := byC) (bytes := 1) (.int .u8 0) [.tmp 7] [m] 1 Tryd.underlying87 (by kernel_rfl) rfl (by decide) (by decide) rfl rfl) ?_
      intro g8 V1 hge h0 hb
      have Ge1 : Hid (w.heap.size ≤ g8) := Lib.hid hge
      have B0 := Lib.hid hb
      have Fv2_8 : Hid (RowG byC V1 g8 5 ([m])) := Lib.hid (h0)
      have Lt3 : Hid (g8 < V1.heap.size) := Lib.hid (xp_lt Fv2_8.out)
      clear hge h0 hb
      simp only [ptr, Act.put, List.setIfInBounds_toArray, List.set_cons_zero, List.set_cons_succ]
      refine wpList_run (by kernel_rfl) (.string (sB ([UInt8.ofNat m]))) V1 (xs_str1 (RowG.sg (n := 1) (c := 1) Fv2_8.out (show ([m]).length = 1 from rfl) (Nat.le_refl _) (by omega)) (by decide) Tryd.underlying87 Tryd.underlying5 Tryd.underlying9 rfl rfl) ?_
      simp only [Act.put, List.setIfInBounds_toArray, List.set_cons_zero, List.set_cons_succ]
      refine wpList_run (by kernel_rfl) (.string (sB ([UInt8.ofNat m]))) V1 rfl ?_
      simp only [Act.put, List.setIfInBounds_toArray, List.set_cons_zero, List.set_cons_succ]
      refine wpList_nil ?_
      have hx : Qu.decF (f + 1) n = [UInt8.ofNat m] := by rw [Qu.decF_lt h10, ← hm]; rfl
      have hbf := B0.out
      go_wp2_with fail
      go_ret
      exact ⟨by first | rfl | (rw [hx] <;> rfl), hbf⟩
    · have hci0 : ¬ ((n : Int) < 10) := by omega
      refine wp_region_lit ?_
      refine wpList_run (by kernel_rfl) (.int .i64 (n : Int)) w rfl ?_
      simp only [Act.put, List.setIfInBounds_toArray, List.set_cons_zero, List.set_cons_succ]
      refine wpList_run (by kernel_rfl) (.bool false) w (xo_lssF .i64 (n : Int) 10 (by omega) rfl rfl rfl) ?_
      simp only [Act.put, List.setIfInBounds_toArray, List.set_cons_zero, List.set_cons_succ]
      refine wpList_nil ?_
      have hf1 : 1 ≤ f := by
              rcases f with _ | f
              · simp at hn; omega
              · omega
      have h10f : 10 ≤ 10 ^ f := by have := Nat.pow_le_pow_right (n := 10) (by decide) hf1; simpa using this
      go_upto_region 3 with fail
      refine wp_region_lit ?_
      refine wpList_run (by kernel_rfl) (.int .i64 (n : Int)) w rfl ?_
      simp only [Act.put, List.setIfInBounds_toArray, List.set_cons_zero, List.set_cons_succ]
      refine wpList_run (by kernel_rfl) (.int .i64 ((n / 10 : Nat) : Int)) w (xo_quoN .i64 n 10 (n / 10) (by omega) rfl (by rw [IntKind.wrap_i64]; omega) rfl rfl rfl) ?_
      simp only [Act.put, List.setIfInBounds_toArray, List.set_cons_zero, List.set_cons_succ]
      refine wpList_call (by kernel_rfl) 25 Tryd.func25 (by kernel_rfl) (by kernel_rfl) _ _ #[.int .i64 ((n / 10 : Nat) : Int)] rfl (by kernel_rfl) ?_
      refine (ih (by omega) hf1 (n / 10) (by omega) w).mono ?_
      rintro e V1 ⟨rfl, hb⟩
      have B0 := Lib.hid hb
      clear hb 
      refine ⟨_, rfl, ?_⟩
      simp only [Act.put, List.setIfInBounds_toArray, List.set_cons_zero, List.set_cons_succ]
      refine wpList_run (by kernel_rfl) (.int .i64 (n : Int)) V1 rfl ?_
      simp only [Act.put, List.setIfInBounds_toArray, List.set_cons_zero, List.set_cons_succ]
      refine wpList_run (by kernel_rfl) (.int .i64 ((n % 10 : Nat) : Int)) V1 (xo_remN .i64 n 10 (n % 10) (by omega) rfl rfl rfl rfl) ?_
      simp only [Act.put, List.setIfInBounds_toArray, List.set_cons_zero, List.set_cons_succ]
      refine wpList_call (by kernel_rfl) 25 Tryd.func25 (by kernel_rfl) (by kernel_rfl) _ _ #[.int .i64 ((n % 10 : Nat) : Int)] rfl (by kernel_rfl) ?_
      refine (ih (by omega) hf1 (n % 10) (by omega) V1).mono ?_
      rintro e V2 ⟨rfl, hb⟩
      have B1 := Lib.hid hb
      clear hb 
      refine ⟨_, rfl, ?_⟩
      simp only [Act.put, List.setIfInBounds_toArray, List.set_cons_zero, List.set_cons_succ]
      refine wpList_run (by kernel_rfl) (.string (sB ((Qu.decF f (n / 10)) ++ (Qu.decF f (n % 10))))) V2 (xs_add (Qu.decF f (n / 10)) (Qu.decF f (n % 10)) (by omega) Tryd.underlying9 rfl rfl rfl) ?_
      simp only [Act.put, List.setIfInBounds_toArray, List.set_cons_zero, List.set_cons_succ]
      refine wpList_run (by kernel_rfl) (.string (sB ((Qu.decF f (n / 10)) ++ (Qu.decF f (n % 10))))) V2 rfl ?_
      simp only [Act.put, List.setIfInBounds_toArray, List.set_cons_zero, List.set_cons_succ]
      refine wpList_nil ?_
      have hx : Qu.decF (f + 1) n = Qu.decF f (n / 10) ++ Qu.decF f (n % 10) := by
              obtain ⟨f2, rfl⟩ : ∃ f2, f = f2 + 1 := ⟨f - 1, by omega⟩
              rw [Qu.decF_ge h10, Qu.decF_lt (f := f2) (n := n % 10) (Nat.mod_lt _ (by decide))]
      have C0_2 := Lib.hid (bel_step B0.out B1.out)
      have hbf := C0_2.out
      go_wp2_with fail
      go_ret
      exact ⟨by first | rfl | (rw [hx] <;> rfl), hbf⟩
theorem rdigits_as (n : Nat) (x : List UInt8) (h : Qu.decN n = x) (hn : n < 1000000) (w : World) : Calls Tryd.prog 25 #[.int .i64 (n : Int)] w fun e w' => e = .returned (.string (sB x)) ∧ Below w.heap.size w w' := by
  subst h
  exact rdigits_any 6 (Nat.le_refl _) (by decide) n hn w
set_option maxRecDepth 100000 in
set_option maxHeartbeats 16000000 in
theorem rcolumn_as (c : Nat) (x : List UInt8) (h : Qu.nameN c = x) (hc : c < 4) (w : World) : Calls Tryd.prog 26 #[.int .i64 (c : Int)] w fun e w' => e = .returned (.string (sB x)) ∧ Below w.heap.size w w' := by
  go_enter Tryd.func26, Tryd.ntmps26
  go_upto_region 1 with fail
  have hx : ([[119, 104, 111], [119, 104, 101, 110], [107, 105, 110, 100], [118, 97, 108, 117, 101]] : List (List UInt8))[c]? = some x := by
    have h4 : c = 0 ∨ c = 1 ∨ c = 2 ∨ c = 3 := by omega
    rcases h4 with rfl | rfl | rfl | rfl <;> exact congrArg some h
  have HE := Lib.hid hx
  clear hx
  refine wp_region_lit ?_
  refine wpList_mk (by kernel_rfl) ([[119, 104, 111], [119, 104, 101, 110], [107, 105, 110, 100], [118, 97, 108, 117, 101]].flatMap stC).toArray 9 4 4 (xg_lit (E := stC) (bytes := 16) (.string ByteArray.empty) [.const (.string ⟨#[119, 104, 111]⟩), .const (.string ⟨#[119, 104, 101, 110]⟩), .const (.string ⟨#[107, 105, 110, 100]⟩), .const (.string ⟨#[118, 97, 108, 117, 101]⟩)] [[119, 104, 111], [119, 104, 101, 110], [107, 105, 110, 100], [118, 97, 108, 117, 101]] 4 Tryd.underlying86 (by kernel_rfl) rfl (by decide) (by decide) rfl rfl) ?_
  intro g3 V1 hge h0 hb
  have Ge0 : Hid (w.heap.size ≤ g3) := Lib.hid hge
  have B0 := Lib.hid hb
  have Fv1_3 : Hid (RowG stC V1 g3 9 ([[119, 104, 111], [119, 104, 101, 110], [107, 105, 110, 100], [118, 97, 108, 117, 101]])) := Lib.hid (h0)
  have Lt2 : Hid (g3 < V1.heap.size) := Lib.hid (xp_lt Fv1_3.out)
  clear hge h0 hb
  simp only [ptr, Act.put, List.setIfInBounds_toArray, List.set_cons_zero, List.set_cons_succ]
  refine wpList_run (by kernel_rfl) (.int .i64 (c : Int)) V1 rfl ?_
  simp only [Act.put, List.setIfInBounds_toArray, List.set_cons_zero, List.set_cons_succ]
  refine wpList_run (by kernel_rfl) (.pointer (some (gad (some ⟨g3, 0, none⟩) (c * 1)))) V1 (xg_idx .i64 (RowG.sg (n := 4) (c := 4) Fv1_3.out (show ([[119, 104, 111], [119, 104, 101, 110], [107, 105, 110, 100], [118, 97, 108, 117, 101]]).length = 4 from rfl) (Nat.le_refl _) (by omega)) HE.out Tryd.underlying86 (by kernel_rfl) rfl rfl rfl) ?_
  simp only [Act.put, List.setIfInBounds_toArray, List.set_cons_zero, List.set_cons_succ]
  refine wpList_run (by kernel_rfl) (.string (sB x)) V1 (xg_load1 (E := stC) (i := c) (j := 0) (RowG.sg (n := 4) (c := 4) Fv1_3.out (show ([[119, 104, 111], [119, 104, 101, 110], [107, 105, 110, 100], [118, 97, 108, 117, 101]]).length = 4 from rfl) (Nat.le_refl _) (by omega)) HE.out rfl rfl Tryd.underlying9 rfl rfl rfl) ?_
  simp only [Act.put, List.setIfInBounds_toArray, List.set_cons_zero, List.set_cons_succ]
  refine wpList_run (by kernel_rfl) (.string (sB x)) V1 rfl ?_
  simp only [Act.put, List.setIfInBounds_toArray, List.set_cons_zero, List.set_cons_succ]
  refine wpList_nil ?_
  have hbf := B0.out
  go_wp2_with fail
  go_ret
  exact ⟨rfl, hbf⟩
set_option maxRecDepth 100000 in
set_option maxHeartbeats 32000000 in
theorem qEquals_any (n1 n2 n3 : Nat) (h1 : n1 < 256) (h2 : n2 < 256) (h3 : n3 < 256) (w : World) (hG : Gc w) : Calls Tryd.prog 8 #[.int .u8 (n1 : Int), .int .u8 (n2 : Int), .int .u8 (n3 : Int)] w fun e w' => e = .returned (.bool true) ∧ Below w.heap.size w w' := by
  have HG := Lib.hid hG
  clear hG
  go_enter Tryd.func8, Tryd.ntmps8
  go_upto_region 1 with fail
  obtain ⟨c, hc⟩ : ∃ c, n1 % 4 = c := ⟨_, rfl⟩
  have hc4 : c < 4 := by rw [← hc]; exact Nat.mod_lt _ (by decide)
  obtain ⟨m, hm⟩ : ∃ m, Qu.maxN c = m := ⟨_, rfl⟩
  have hm255 : m ≤ 255 := by rw [← hm]; exact Qu.maxN_le _
  obtain ⟨v, hv⟩ : ∃ v, n2 % (m + 1) = v := ⟨_, rfl⟩
  have hvm : v ≤ m := by rw [← hv]; exact Nat.le_of_lt_succ (Nat.mod_lt _ (Nat.succ_pos _))
  obtain ⟨z, hz⟩ : ∃ z, n3 % 6 = z := ⟨_, rfl⟩
  have hz6 : z < 6 := by rw [← hz]; exact Nat.mod_lt _ (by decide)
  obtain ⟨dd, hdd⟩ : ∃ x, Qu.decN v = x := ⟨_, rfl⟩
  have hddl : dd.length ≤ 6 := by rw [← hdd]; first | exact Nat.le_trans (Qu.nameN_le _) (by decide) | exact Qu.decF_le 6 _
  have Hdd := Lib.hid hdd
  clear hdd
  obtain ⟨nm, hnm⟩ : ∃ x, Qu.nameN c = x := ⟨_, rfl⟩
  have hnml : nm.length ≤ 6 := by rw [← hnm]; first | exact Nat.le_trans (Qu.nameN_le _) (by decide) | exact Qu.decF_le 6 _
  have Hnm := Lib.hid hnm
  clear hnm
  have HM := Lib.hid hm
  clear hm
  have heq := eqOk c v z hc4 (by rw [HM.out]; exact hvm) hz6
  unfold EqOk eqA eqB at heq
  rw [Hdd.out, Hnm.out] at heq
  have HPA := Lib.hid heq.1
  have HPB := Lib.hid heq.2
  clear heq
  refine wp_region_lit ?_
  refine wpList_call (by kernel_rfl) 11 Tryd.func11 (by kernel_rfl) (by kernel_rfl) _ _ #[] rfl (by kernel_rfl) ?_
  refine (sanity13_any w HG.out).mono ?_
  rintro e V1 ⟨rfl, hb⟩
  have B0 := Lib.hid hb
  clear hb 
  refine ⟨_, rfl, ?_⟩
  simp only [Act.put, List.setIfInBounds_toArray, List.set_cons_zero, List.set_cons_succ]
  refine wpList_run (by kernel_rfl) (.bool true) V1 rfl ?_
  simp only [Act.put, List.setIfInBounds_toArray, List.set_cons_zero, List.set_cons_succ]
  refine wpList_nil ?_
  go_upto_region 2 with fail
  refine wp_region_lit ?_
  refine wpList_run (by kernel_rfl) (.int .u8 (n1 : Int)) V1 rfl ?_
  simp only [Act.put, List.setIfInBounds_toArray, List.set_cons_zero, List.set_cons_succ]
  refine wpList_run (by kernel_rfl) (.int .i64 (n1 : Int)) V1 (xo_cvt .u8 .i64 (n1 : Int) (n1 : Int) (by rw [IntKind.wrap_i64]; omega) Tryd.underlying3 Tryd.underlying5 rfl rfl) ?_
  simp only [Act.put, List.setIfInBounds_toArray, List.set_cons_zero, List.set_cons_succ]
  refine wpList_run (by kernel_rfl) (.int .i64 (c : Int)) V1 (xo_remN .i64 n1 4 c (by omega) hc rfl rfl rfl) ?_
  simp only [Act.put, List.setIfInBounds_toArray, List.set_cons_zero, List.set_cons_succ]
  refine wpList_run (by kernel_rfl) (.int .i64 (c : Int)) V1 rfl ?_
  simp only [Act.put, List.setIfInBounds_toArray, List.set_cons_zero, List.set_cons_succ]
  refine wpList_nil ?_
  go_upto_region 3 with fail
  refine wp_region_lit ?_
  refine wpList_run (by kernel_rfl) (.int .u8 (n2 : Int)) V1 rfl ?_
  simp only [Act.put, List.setIfInBounds_toArray, List.set_cons_zero, List.set_cons_succ]
  refine wpList_run (by kernel_rfl) (.int .i64 (n2 : Int)) V1 (xo_cvt .u8 .i64 (n2 : Int) (n2 : Int) (by rw [IntKind.wrap_i64]; omega) Tryd.underlying3 Tryd.underlying5 rfl rfl) ?_
  simp only [Act.put, List.setIfInBounds_toArray, List.set_cons_zero, List.set_cons_succ]
  refine wpList_run (by kernel_rfl) (.int .i64 (c : Int)) V1 rfl ?_
  simp only [Act.put, List.setIfInBounds_toArray, List.set_cons_zero, List.set_cons_succ]
  refine wpList_call (by kernel_rfl) 24 Tryd.func24 (by kernel_rfl) (by kernel_rfl) _ _ #[.int .i64 (c : Int)] rfl (by kernel_rfl) ?_
  refine (max_as c m hc4 HM.out V1).mono ?_
  rintro e W1 ⟨rfl, hw1⟩
  rw [hw1]
  clear hw1 W1
  refine ⟨_, rfl, ?_⟩
  simp only [Act.put, List.setIfInBounds_toArray, List.set_cons_zero, List.set_cons_succ]
  refine wpList_run (by kernel_rfl) (.int .i64 ((m + 1 : Nat) : Int)) V1 (xo_addI (m : Int) 1 ((m + 1 : Nat) : Int) (by omega) (by omega) (by omega) rfl rfl rfl) ?_
  simp only [Act.put, List.setIfInBounds_toArray, List.set_cons_zero, List.set_cons_succ]
  refine wpList_run (by kernel_rfl) (.int .i64 (v : Int)) V1 (xo_remN .i64 n2 (m + 1) v (by omega) hv rfl rfl rfl) ?_
  simp only [Act.put, List.setIfInBounds_toArray, List.set_cons_zero, List.set_cons_succ]
  refine wpList_run (by kernel_rfl) (.int .i64 (v : Int)) V1 rfl ?_
  simp only [Act.put, List.setIfInBounds_toArray, List.set_cons_zero, List.set_cons_succ]
  refine wpList_nil ?_
  go_upto_region 4 with fail
  refine wp_region_lit ?_
  refine wpList_run (by kernel_rfl) (.string (sB ([]))) V1 rfl ?_
  simp only [Act.put, List.setIfInBounds_toArray, List.set_cons_zero, List.set_cons_succ]
  refine wpList_nil ?_
  go_upto_region 5 with fail
  refine wp_region_lit ?_
  refine wpList_run (by kernel_rfl) (.int .i64 0) V1 rfl ?_
  simp only [Act.put, List.setIfInBounds_toArray, List.set_cons_zero, List.set_cons_succ]
  refine wpList_nil ?_
  have O0 := B0.out
  go_wp2_with fail
  go_loopw [11, 10] (fun p a wr => ∃ i : Nat, i ≤ z ∧ p = .int .i64 i ∧ a = .string (sB (List.replicate i 48)) ∧ Below w.heap.size w wr) (fun p _ _ => z - (intOf p).toNat)
  case atStart => exact ⟨0, Nat.zero_le _, rfl, rfl, O0⟩
  case round =>
    clear O0
    obtain ⟨wo, rfl⟩ : ∃ wo : World, wo = wr := ⟨_, rfl⟩
    obtain ⟨i, hi, rfl, hHA, hb0⟩ := hrel
    have hbr := hb0
    clear B0
    have B0 := Lib.hid hbr
    clear hbr
    have HA := Lib.hid hHA
    clear hb0 hHA
    have ea := HA.out
    subst ea
    clear HA
    obtain ⟨pd, hpd⟩ : ∃ x, List.replicate i (48 : UInt8) = x := ⟨_, rfl⟩
    have hpl : pd.length = i := by rw [← hpd]; exact List.length_replicate ..
    have HPD := Lib.hid hpd
    rw [hpd]
    clear hpd
    by_cases hiz : i < z
    · have hci2 : ((i : Int) < (z : Int)) := by omega
      go_upto_region 6 with fail
      refine wp_region_lit ?_
      refine wpList_run (by kernel_rfl) (.int .i64 (i : Int)) wo rfl ?_
      simp only [Act.put, List.setIfInBounds_toArray, List.set_cons_zero, List.set_cons_succ]
      refine wpList_run (by kernel_rfl) (.int .u8 (n3 : Int)) wo rfl ?_
      simp only [Act.put, List.setIfInBounds_toArray, List.set_cons_zero, List.set_cons_succ]
      refine wpList_run (by kernel_rfl) (.int .i64 (n3 : Int)) wo (xo_cvt .u8 .i64 (n3 : Int) (n3 : Int) (by rw [IntKind.wrap_i64]; omega) Tryd.underlying3 Tryd.underlying5 rfl rfl) ?_
      simp only [Act.put, List.setIfInBounds_toArray, List.set_cons_zero, List.set_cons_succ]
      refine wpList_run (by kernel_rfl) (.int .i64 (z : Int)) wo (xo_remN .i64 n3 6 z (by omega) hz rfl rfl rfl) ?_
      simp only [Act.put, List.setIfInBounds_toArray, List.set_cons_zero, List.set_cons_succ]
      refine wpList_run (by kernel_rfl) (.bool true) wo (xo_lssT .i64 (i : Int) (z : Int) (by omega) rfl rfl rfl) ?_
      simp only [Act.put, List.setIfInBounds_toArray, List.set_cons_zero, List.set_cons_succ]
      refine wpList_nil ?_
      go_upto_region 8 with fail
      refine wp_region_lit ?_
      refine wpList_run (by kernel_rfl) (.string (sB pd)) wo rfl ?_
      simp only [Act.put, List.setIfInBounds_toArray, List.set_cons_zero, List.set_cons_succ]
      refine wpList_run (by kernel_rfl) (.string (sB (pd ++ ([48])))) wo (xs_add pd ([48]) (by (try simp only [List.length_append, List.length_cons, List.length_nil]); omega) Tryd.underlying9 rfl rfl rfl) ?_
      simp only [Act.put, List.setIfInBounds_toArray, List.set_cons_zero, List.set_cons_succ]
      refine wpList_run (by kernel_rfl) (.string (sB (pd ++ ([48])))) wo rfl ?_
      simp only [Act.put, List.setIfInBounds_toArray, List.set_cons_zero, List.set_cons_succ]
      refine wpList_nil ?_
      go_upto_region 7 with fail
      refine wp_region_lit ?_
      refine wpList_run (by kernel_rfl) (.int .i64 (i : Int)) wo rfl ?_
      simp only [Act.put, List.setIfInBounds_toArray, List.set_cons_zero, List.set_cons_succ]
      refine wpList_run (by kernel_rfl) (.int .i64 ((i + 1 : Nat) : Int)) wo (xo_addI (i : Int) 1 ((i + 1 : Nat) : Int) (by omega) (by omega) (by omega) rfl rfl rfl) ?_
      simp only [Act.put, List.setIfInBounds_toArray, List.set_cons_zero, List.set_cons_succ]
      refine wpList_run (by kernel_rfl) (.int .i64 ((i + 1 : Nat) : Int)) wo rfl ?_
      simp only [Act.put, List.setIfInBounds_toArray, List.set_cons_zero, List.set_cons_succ]
      refine wpList_nil ?_
      have he : List.replicate (i + 1) (48 : UInt8) = pd ++ [48] := by rw [List.replicate_succ', HPD.out]
      have hq3 := B0.out
      go_wp2_with fail
      go_roundw
      case rel => exact ⟨i + 1, by omega, by go_num, by first | rfl | rw [he], hq3⟩
      case measure => simp [intOf]; omega
    · have hci2 : ¬ ((i : Int) < (z : Int)) := by omega
      obtain rfl : i = z := by omega
      have hci3 : ¬ ((i : Int) < (i : Int)) := by omega
      have HPA2 := Lib.hid (HPD.out ▸ HPA.out)
      have HPB2 := Lib.hid (HPD.out ▸ HPB.out)
      go_upto_region 6 with fail
      refine wp_region_lit ?_
      refine wpList_run (by kernel_rfl) (.int .i64 (i : Int)) wo rfl ?_
      simp only [Act.put, List.setIfInBounds_toArray, List.set_cons_zero, List.set_cons_succ]
      refine wpList_run (by kernel_rfl) (.int .u8 (n3 : Int)) wo rfl ?_
      simp only [Act.put, List.setIfInBounds_toArray, List.set_cons_zero, List.set_cons_succ]
      refine wpList_run (by kernel_rfl) (.int .i64 (n3 : Int)) wo (xo_cvt .u8 .i64 (n3 : Int) (n3 : Int) (by rw [IntKind.wrap_i64]; omega) Tryd.underlying3 Tryd.underlying5 rfl rfl) ?_
      simp only [Act.put, List.setIfInBounds_toArray, List.set_cons_zero, List.set_cons_succ]
      refine wpList_run (by kernel_rfl) (.int .i64 (i : Int)) wo (xo_remN .i64 n3 6 i (by omega) hz rfl rfl rfl) ?_
      simp only [Act.put, List.setIfInBounds_toArray, List.set_cons_zero, List.set_cons_succ]
      refine wpList_run (by kernel_rfl) (.bool false) wo (xo_lssF .i64 (i : Int) (i : Int) (by omega) rfl rfl rfl) ?_
      simp only [Act.put, List.setIfInBounds_toArray, List.set_cons_zero, List.set_cons_succ]
      refine wpList_nil ?_
      go_upto_region 9 with fail
      refine wp_region_lit ?_
      refine wpList_run (by kernel_rfl) (.string (sB pd)) wo rfl ?_
      simp only [Act.put, List.setIfInBounds_toArray, List.set_cons_zero, List.set_cons_succ]
      refine wpList_run (by kernel_rfl) (.int .i64 (v : Int)) wo rfl ?_
      simp only [Act.put, List.setIfInBounds_toArray, List.set_cons_zero, List.set_cons_succ]
      refine wpList_call (by kernel_rfl) 25 Tryd.func25 (by kernel_rfl) (by kernel_rfl) _ _ #[.int .i64 (v : Int)] rfl (by kernel_rfl) ?_
      refine (rdigits_as v dd Hdd.out (by omega) wo).mono ?_
      rintro e V2 ⟨rfl, hb⟩
      have B1 := Lib.hid hb
      clear hb 
      refine ⟨_, rfl, ?_⟩
      simp only [Act.put, List.setIfInBounds_toArray, List.set_cons_zero, List.set_cons_succ]
      refine wpList_run (by kernel_rfl) (.string (sB (pd ++ dd))) V2 (xs_add pd dd (by (try simp only [List.length_append, List.length_cons, List.length_nil]); omega) Tryd.underlying9 rfl rfl rfl) ?_
      simp only [Act.put, List.setIfInBounds_toArray, List.set_cons_zero, List.set_cons_succ]
      refine wpList_run (by kernel_rfl) (.string (sB (pd ++ dd))) V2 rfl ?_
      simp only [Act.put, List.setIfInBounds_toArray, List.set_cons_zero, List.set_cons_succ]
      refine wpList_nil ?_
      go_upto_region 10 with fail
      refine wp_region_lit ?_
      refine wpList_run (by kernel_rfl) (.int .i64 (c : Int)) V2 rfl ?_
      simp only [Act.put, List.setIfInBounds_toArray, List.set_cons_zero, List.set_cons_succ]
      refine wpList_call (by kernel_rfl) 26 Tryd.func26 (by kernel_rfl) (by kernel_rfl) _ _ #[.int .i64 (c : Int)] rfl (by kernel_rfl) ?_
      refine (rcolumn_as c nm Hnm.out hc4 V2).mono ?_
      rintro e V3 ⟨rfl, hb⟩
      have B2 := Lib.hid hb
      clear hb 
      refine ⟨_, rfl, ?_⟩
      simp only [Act.put, List.setIfInBounds_toArray, List.set_cons_zero, List.set_cons_succ]
      refine wpList_run (by kernel_rfl) (.string (sB (([99, 111, 117, 110, 116, 32, 119, 104, 101, 114, 101, 32]) ++ nm))) V3 (xs_add ([99, 111, 117, 110, 116, 32, 119, 104, 101, 114, 101, 32]) nm (by (try simp only [List.length_append, List.length_cons, List.length_nil]); omega) Tryd.underlying9 rfl rfl rfl) ?_
      simp only [Act.put, List.setIfInBounds_toArray, List.set_cons_zero, List.set_cons_succ]
      refine wpList_run (by kernel_rfl) (.string (sB ((([99, 111, 117, 110, 116, 32, 119, 104, 101, 114, 101, 32]) ++ nm) ++ ([32, 61, 32])))) V3 (xs_add (([99, 111, 117, 110, 116, 32, 119, 104, 101, 114, 101, 32]) ++ nm) ([32, 61, 32]) (by (try simp only [List.length_append, List.length_cons, List.length_nil]); omega) Tryd.underlying9 rfl rfl rfl) ?_
      simp only [Act.put, List.setIfInBounds_toArray, List.set_cons_zero, List.set_cons_succ]
      refine wpList_run (by kernel_rfl) (.string (sB (pd ++ dd))) V3 rfl ?_
      simp only [Act.put, List.setIfInBounds_toArray, List.set_cons_zero, List.set_cons_succ]
      refine wpList_run (by kernel_rfl) (.string (sB (((([99, 111, 117, 110, 116, 32, 119, 104, 101, 114, 101, 32]) ++ nm) ++ ([32, 61, 32])) ++ (pd ++ dd)))) V3 (xs_add ((([99, 111, 117, 110, 116, 32, 119, 104, 101, 114, 101, 32]) ++ nm) ++ ([32, 61, 32])) (pd ++ dd) (by (try simp only [List.length_append, List.length_cons, List.length_nil]); omega) Tryd.underlying9 rfl rfl rfl) ?_
      simp only [Act.put, List.setIfInBounds_toArray, List.set_cons_zero, List.set_cons_succ]
      have C0_2 := Lib.hid (bel_step B0.out B1.out)
      have C0_3 := Lib.hid (bel_step C0_2.out B2.out)
      refine wpList_call (by kernel_rfl) 20 Tryd.func20 (by kernel_rfl) (by kernel_rfl) _ _ #[.string (sB (((([99, 111, 117, 110, 116, 32, 119, 104, 101, 114, 101, 32]) ++ nm) ++ ([32, 61, 32])) ++ (pd ++ dd)))] rfl (by kernel_rfl) ?_
      refine (parse_as (((([99, 111, 117, 110, 116, 32, 119, 104, 101, 114, 101, 32]) ++ nm) ++ ([32, 61, 32])) ++ (pd ++ dd)) V3 (HG.out.keep C0_3.out) ⟨1, 0, 0, [[⟨c, v, v⟩]]⟩ 0 0 HPA2.out).mono ?_
      rintro e V4 ⟨AA, nA, cA, rfl, hfo, hb⟩
      have B3 := Lib.hid hb
      have HOA := Lib.hid hfo
      clear hb hfo
      refine ⟨_, rfl, ?_⟩
      simp only [Act.put, List.setIfInBounds_toArray, List.set_cons_zero, List.set_cons_succ]
      refine wpList_run (by kernel_rfl) (.tuple #[.agg #[.int .i64 1, .int .i64 0, .int .i64 0, .slice AA nA cA], .int .i64 0, .int .i64 0]) V4 rfl ?_
      simp only [Act.put, List.setIfInBounds_toArray, List.set_cons_zero, List.set_cons_succ]
      refine wpList_run (by kernel_rfl) (.agg #[.int .i64 1, .int .i64 0, .int .i64 0, .slice AA nA cA]) V4 rfl ?_
      simp only [Act.put, List.setIfInBounds_toArray, List.set_cons_zero, List.set_cons_succ]
      refine wpList_run (by kernel_rfl) (.int .i64 0) V4 rfl ?_
      simp only [Act.put, List.setIfInBounds_toArray, List.set_cons_zero, List.set_cons_succ]
      refine wpList_run (by kernel_rfl) (.int .i64 0) V4 rfl ?_
      simp only [Act.put, List.setIfInBounds_toArray, List.set_cons_zero, List.set_cons_succ]
      refine wpList_new #[.int .i64 0, .int .i64 0, .int .i64 0, .slice none 0 0] 24 (by kernel_rfl) (xo_alloc #[.int .i64 0, .int .i64 0, .int .i64 0, .slice none 0 0] (by kernel_rfl) rfl) ?_
      intro b13 V5 hge h0 hb
      have Ge4 : Hid (V4.heap.size ≤ b13) := Lib.hid hge
      have B4 := Lib.hid hb
      have Fv5_13 : Hid (V5.heap[b13]? = some (.cells #[.int .i64 0, .int .i64 0, .int .i64 0, .slice none 0 0] 24 (0, 0))) := Lib.hid (h0)
      have Lt6 : Hid (b13 < V5.heap.size) := Lib.hid (xp_lt Fv5_13.out)
      clear hge h0 hb
      simp only [ptr, Act.put, List.setIfInBounds_toArray, List.set_cons_zero, List.set_cons_succ]
      refine wpList_storeW b13 #[.int .i64 0, .int .i64 0, .int .i64 0, .slice none 0 0] #[.int .i64 1, .int .i64 0, .int .i64 0, .slice AA nA cA] 24 (by kernel_rfl) Fv5_13.out (xo_storeW b13 #[.int .i64 0, .int .i64 0, .int .i64 0, .slice none 0 0] #[.int .i64 1, .int .i64 0, .int .i64 0, .slice AA nA cA] Fv5_13.out (by kernel_rfl) rfl (by simp [Value.oneCell']) rfl rfl rfl) ?_
      intro X5_7 h1 hfar hbel hsz
      have hbr := hbel _ _ Ge4.out B4.out
      clear B4
      have B4 := Lib.hid hbr
      clear hbr
      clear Fv5_13
      have Fv5_13 : Hid (X5_7.heap[b13]? = some (.cells #[.int .i64 1, .int .i64 0, .int .i64 0, .slice AA nA cA] 24 (0, 0))) := Lib.hid (h1)
      have HszX5_7 := Lib.hid hsz
      clear h1 hfar hbel hsz
      simp only [ptr, Act.put, List.setIfInBounds_toArray, List.set_cons_zero, List.set_cons_succ]
      refine wpList_run (by kernel_rfl) (.int .i64 0) X5_7 rfl ?_
      simp only [Act.put, List.setIfInBounds_toArray, List.set_cons_zero, List.set_cons_succ]
      refine wpList_run (by kernel_rfl) (.int .i64 0) X5_7 rfl ?_
      simp only [Act.put, List.setIfInBounds_toArray, List.set_cons_zero, List.set_cons_succ]
      refine wpList_nil ?_
      obtain ⟨hn, hsA, hfr⟩ := FsOwn.fsR (HOA.out.keep B4.out)
      obtain rfl : nA = 1 := hn
      have HFA := Lib.hid hfr
      clear hfr
      go_upto_region 11 with fail
      refine wp_region_lit ?_
      refine wpList_run (by kernel_rfl) (.int .i64 (c : Int)) X5_7 rfl ?_
      simp only [Act.put, List.setIfInBounds_toArray, List.set_cons_zero, List.set_cons_succ]
      refine wpList_call (by kernel_rfl) 26 Tryd.func26 (by kernel_rfl) (by kernel_rfl) _ _ #[.int .i64 (c : Int)] rfl (by kernel_rfl) ?_
      refine (rcolumn_as c nm Hnm.out hc4 X5_7).mono ?_
      rintro e V6 ⟨rfl, hb⟩
      have B5 := Lib.hid hb
      clear hb 
      refine ⟨_, rfl, ?_⟩
      simp only [Act.put, List.setIfInBounds_toArray, List.set_cons_zero, List.set_cons_succ]
      refine wpList_run (by kernel_rfl) (.string (sB (([99, 111, 117, 110, 116, 32, 119, 104, 101, 114, 101, 32]) ++ nm))) V6 (xs_add ([99, 111, 117, 110, 116, 32, 119, 104, 101, 114, 101, 32]) nm (by (try simp only [List.length_append, List.length_cons, List.length_nil]); omega) Tryd.underlying9 rfl rfl rfl) ?_
      simp only [Act.put, List.setIfInBounds_toArray, List.set_cons_zero, List.set_cons_succ]
      refine wpList_run (by kernel_rfl) (.string (sB ((([99, 111, 117, 110, 116, 32, 119, 104, 101, 114, 101, 32]) ++ nm) ++ ([32, 105, 110, 32])))) V6 (xs_add (([99, 111, 117, 110, 116, 32, 119, 104, 101, 114, 101, 32]) ++ nm) ([32, 105, 110, 32]) (by (try simp only [List.length_append, List.length_cons, List.length_nil]); omega) Tryd.underlying9 rfl rfl rfl) ?_
      simp only [Act.put, List.setIfInBounds_toArray, List.set_cons_zero, List.set_cons_succ]
      refine wpList_run (by kernel_rfl) (.int .i64 (v : Int)) V6 rfl ?_
      simp only [Act.put, List.setIfInBounds_toArray, List.set_cons_zero, List.set_cons_succ]
      refine wpList_call (by kernel_rfl) 25 Tryd.func25 (by kernel_rfl) (by kernel_rfl) _ _ #[.int .i64 (v : Int)] rfl (by kernel_rfl) ?_
      refine (rdigits_as v dd Hdd.out (by omega) V6).mono ?_
      rintro e V7 ⟨rfl, hb⟩
      have B6 := Lib.hid hb
      clear hb 
      refine ⟨_, rfl, ?_⟩
      simp only [Act.put, List.setIfInBounds_toArray, List.set_cons_zero, List.set_cons_succ]
      refine wpList_run (by kernel_rfl) (.string (sB (((([99, 111, 117, 110, 116, 32, 119, 104, 101, 114, 101, 32]) ++ nm) ++ ([32, 105, 110, 32])) ++ dd))) V7 (xs_add ((([99, 111, 117, 110, 116, 32, 119, 104, 101, 114, 101, 32]) ++ nm) ++ ([32, 105, 110, 32])) dd (by (try simp only [List.length_append, List.length_cons, List.length_nil]); omega) Tryd.underlying9 rfl rfl rfl) ?_
      simp only [Act.put, List.setIfInBounds_toArray, List.set_cons_zero, List.set_cons_succ]
      refine wpList_run (by kernel_rfl) (.string (sB ((((([99, 111, 117, 110, 116, 32, 119, 104, 101, 114, 101, 32]) ++ nm) ++ ([32, 105, 110, 32])) ++ dd) ++ ([46, 46])))) V7 (xs_add (((([99, 111, 117, 110, 116, 32, 119, 104, 101, 114, 101, 32]) ++ nm) ++ ([32, 105, 110, 32])) ++ dd) ([46, 46]) (by (try simp only [List.length_append, List.length_cons, List.length_nil]); omega) Tryd.underlying9 rfl rfl rfl) ?_
      simp only [Act.put, List.setIfInBounds_toArray, List.set_cons_zero, List.set_cons_succ]
      refine wpList_run (by kernel_rfl) (.string (sB (pd ++ dd))) V7 rfl ?_
      simp only [Act.put, List.setIfInBounds_toArray, List.set_cons_zero, List.set_cons_succ]
      refine wpList_run (by kernel_rfl) (.string (sB (((((([99, 111, 117, 110, 116, 32, 119, 104, 101, 114, 101, 32]) ++ nm) ++ ([32, 105, 110, 32])) ++ dd) ++ ([46, 46])) ++ (pd ++ dd)))) V7 (xs_add ((((([99, 111, 117, 110, 116, 32, 119, 104, 101, 114, 101, 32]) ++ nm) ++ ([32, 105, 110, 32])) ++ dd) ++ ([46, 46])) (pd ++ dd) (by (try simp only [List.length_append, List.length_cons, List.length_nil]); omega) Tryd.underlying9 rfl rfl rfl) ?_
      simp only [Act.put, List.setIfInBounds_toArray, List.set_cons_zero, List.set_cons_succ]
      have C0_4 := Lib.hid (bel_step C0_3.out B3.out)
      have C0_5 := Lib.hid (bel_step C0_4.out B4.out)
      have C0_6 := Lib.hid (bel_step C0_5.out B5.out)
      have C0_7 := Lib.hid (bel_step C0_6.out B6.out)
      refine wpList_call (by kernel_rfl) 20 Tryd.func20 (by kernel_rfl) (by kernel_rfl) _ _ #[.string (sB (((((([99, 111, 117, 110, 116, 32, 119, 104, 101, 114, 101, 32]) ++ nm) ++ ([32, 105, 110, 32])) ++ dd) ++ ([46, 46])) ++ (pd ++ dd)))] rfl (by kernel_rfl) ?_
      refine (parse_as (((((([99, 111, 117, 110, 116, 32, 119, 104, 101, 114, 101, 32]) ++ nm) ++ ([32, 105, 110, 32])) ++ dd) ++ ([46, 46])) ++ (pd ++ dd)) V7 (HG.out.keep C0_7.out) ⟨1, 0, 0, [[⟨c, v, v⟩]]⟩ 0 0 HPB2.out).mono ?_
      rintro e V8 ⟨AB, nB, cB, rfl, hfo, hb⟩
      have B7 := Lib.hid hb
      have HOB := Lib.hid hfo
      clear hb hfo
      refine ⟨_, rfl, ?_⟩
      simp only [Act.put, List.setIfInBounds_toArray, List.set_cons_zero, List.set_cons_succ]
      refine wpList_run (by kernel_rfl) (.tuple #[.agg #[.int .i64 1, .int .i64 0, .int .i64 0, .slice AB nB cB], .int .i64 0, .int .i64 0]) V8 rfl ?_
      simp only [Act.put, List.setIfInBounds_toArray, List.set_cons_zero, List.set_cons_succ]
      refine wpList_run (by kernel_rfl) (.agg #[.int .i64 1, .int .i64 0, .int .i64 0, .slice AB nB cB]) V8 rfl ?_
      simp only [Act.put, List.setIfInBounds_toArray, List.set_cons_zero, List.set_cons_succ]
      refine wpList_run (by kernel_rfl) (.int .i64 0) V8 rfl ?_
      simp only [Act.put, List.setIfInBounds_toArray, List.set_cons_zero, List.set_cons_succ]
      refine wpList_run (by kernel_rfl) (.int .i64 0) V8 rfl ?_
      simp only [Act.put, List.setIfInBounds_toArray, List.set_cons_zero, List.set_cons_succ]
      refine wpList_new #[.int .i64 0, .int .i64 0, .int .i64 0, .slice none 0 0] 24 (by kernel_rfl) (xo_alloc #[.int .i64 0, .int .i64 0, .int .i64 0, .slice none 0 0] (by kernel_rfl) rfl) ?_
      intro b16 V9 hge h0 hb
      have C5_7 := Lib.hid (bel_step B5.out B6.out)
      have C5_8 := Lib.hid (bel_step C5_7.out B7.out)
      have N8_0 : Hid (b13 ≠ b16) := Lib.hid (xp_lt0 (heap_keep Fv5_13.out C5_8.out) hge)
      have Ge9 : Hid (V8.heap.size ≤ b16) := Lib.hid hge
      have B8 := Lib.hid hb
      have Fv10_16 : Hid (V9.heap[b16]? = some (.cells #[.int .i64 0, .int .i64 0, .int .i64 0, .slice none 0 0] 24 (0, 0))) := Lib.hid (h0)
      have Lt11 : Hid (b16 < V9.heap.size) := Lib.hid (xp_lt Fv10_16.out)
      clear hge h0 hb
      simp only [ptr, Act.put, List.setIfInBounds_toArray, List.set_cons_zero, List.set_cons_succ]
      refine wpList_storeW b16 #[.int .i64 0, .int .i64 0, .int .i64 0, .slice none 0 0] #[.int .i64 1, .int .i64 0, .int .i64 0, .slice AB nB cB] 24 (by kernel_rfl) Fv10_16.out (xo_storeW b16 #[.int .i64 0, .int .i64 0, .int .i64 0, .slice none 0 0] #[.int .i64 1, .int .i64 0, .int .i64 0, .slice AB nB cB] Fv10_16.out (by kernel_rfl) rfl (by simp [Value.oneCell']) rfl rfl rfl) ?_
      intro X9_12 h1 hfar hbel hsz
      have hbr := hbel _ _ Ge9.out B8.out
      clear B8
      have B8 := Lib.hid hbr
      clear hbr
      clear Fv10_16
      have Fv10_16 : Hid (X9_12.heap[b16]? = some (.cells #[.int .i64 1, .int .i64 0, .int .i64 0, .slice AB nB cB] 24 (0, 0))) := Lib.hid (h1)
      have HszX9_12 := Lib.hid hsz
      clear h1 hfar hbel hsz
      simp only [ptr, Act.put, List.setIfInBounds_toArray, List.set_cons_zero, List.set_cons_succ]
      refine wpList_run (by kernel_rfl) (.int .i64 0) X9_12 rfl ?_
      simp only [Act.put, List.setIfInBounds_toArray, List.set_cons_zero, List.set_cons_succ]
      refine wpList_run (by kernel_rfl) (.int .i64 0) X9_12 rfl ?_
      simp only [Act.put, List.setIfInBounds_toArray, List.set_cons_zero, List.set_cons_succ]
      refine wpList_nil ?_
      obtain ⟨hn, hsB, hfr⟩ := FsOwn.fsR (HOB.out.keep B8.out)
      obtain rfl : nB = 1 := hn
      have HFB := Lib.hid hfr
      clear hfr
      go_upto_region 12 with fail
      refine wp_region_lit ?_
      refine wpList_run (by kernel_rfl) (.int .i64 (c : Int)) X9_12 rfl ?_
      simp only [Act.put, List.setIfInBounds_toArray, List.set_cons_zero, List.set_cons_succ]
      refine wpList_run (by kernel_rfl) (.int .i64 (v : Int)) X9_12 rfl ?_
      simp only [Act.put, List.setIfInBounds_toArray, List.set_cons_zero, List.set_cons_succ]
      refine wpList_run (by kernel_rfl) (.int .i64 (v : Int)) X9_12 rfl ?_
      simp only [Act.put, List.setIfInBounds_toArray, List.set_cons_zero, List.set_cons_succ]
      refine wpList_run (by kernel_rfl) (.agg #[.int .i64 (c : Int), .int .i64 (v : Int), .int .i64 (v : Int)]) X9_12 (by unfold execOp; go_simp <;> rfl) ?_
      simp only [Act.put, List.setIfInBounds_toArray, List.set_cons_zero, List.set_cons_succ]
      refine wpList_mk (by kernel_rfl) ([(Qu.Ci.mk (c : Int) (v : Int) (v : Int))].flatMap ciC).toArray 46 1 1 (xg_lit (E := ciC) (bytes := 24) (.agg #[.int .i64 0, .int .i64 0, .int .i64 0]) [.tmp 72] [(Qu.Ci.mk (c : Int) (v : Int) (v : Int))] 1 Tryd.underlying28 (by kernel_rfl) rfl (by decide) (by decide) rfl rfl) ?_
      intro g73 V10 hge h0 hb
      have C5_9 := Lib.hid (bel_step C5_8.out B8.out)
      have N13_0 : Hid (b13 ≠ g73) := Lib.hid (xp_lt0 (heap_keep Fv5_13.out C5_9.out) hge)
      have N14_1 : Hid (b16 ≠ g73) := Lib.hid (xp_lt0 Fv10_16.out hge)
      have Ge15 : Hid (X9_12.heap.size ≤ g73) := Lib.hid hge
      have B9 := Lib.hid hb
      have Fv16_73 : Hid (RowG ciC V10 g73 46 ([(Qu.Ci.mk (c : Int) (v : Int) (v : Int))])) := Lib.hid (h0)
      have Lt17 : Hid (g73 < V10.heap.size) := Lib.hid (xp_lt Fv16_73.out)
      clear hge h0 hb
      simp only [ptr, Act.put, List.setIfInBounds_toArray, List.set_cons_zero, List.set_cons_succ]
      refine wpList_mk (by kernel_rfl) ([(Hd.mk (some ⟨g73, 0, none⟩) 1 1)].flatMap hdC).toArray 28 1 1 (xg_lit (E := hdC) (bytes := 24) (.slice none 0 0) [.tmp 73] [(Hd.mk (some ⟨g73, 0, none⟩) 1 1)] 1 Tryd.underlying22 (by kernel_rfl) rfl (by decide) (by decide) rfl rfl) ?_
      intro g74 V11 hge h0 hb
      have C5_10 := Lib.hid (bel_step C5_9.out B9.out)
      have N18_0 : Hid (b13 ≠ g74) := Lib.hid (xp_lt0 (heap_keep Fv5_13.out C5_10.out) hge)
      have N19_1 : Hid (b16 ≠ g74) := Lib.hid (xp_lt0 (heap_keep Fv10_16.out B9.out) hge)
      have N20_2 : Hid (g73 ≠ g74) := Lib.hid (xp_lt0 Fv16_73.out hge)
      have Ge21 : Hid (V10.heap.size ≤ g74) := Lib.hid hge
      have B10 := Lib.hid hb
      have Fv22_74 : Hid (RowG hdC V11 g74 28 ([(Hd.mk (some ⟨g73, 0, none⟩) 1 1)])) := Lib.hid (h0)
      have Lt23 : Hid (g74 < V11.heap.size) := Lib.hid (xp_lt Fv22_74.out)
      clear hge h0 hb
      simp only [ptr, Act.put, List.setIfInBounds_toArray, List.set_cons_zero, List.set_cons_succ]
      have HL74 : Hid (FsR V11 (some ⟨g74, 0, none⟩) 1 1 [(Hd.mk (some ⟨g73, 0, none⟩) 1 1)] [[(Qu.Ci.mk (c : Int) (v : Int) (v : Int))]]) := Lib.hid (fsR1 (RowG.sg (n := 1) (c := 1) Fv22_74.out (show ([(Hd.mk (some ⟨g73, 0, none⟩) 1 1)]).length = 1 from rfl) (Nat.le_refl _) (by omega)) (RowG.sg (n := 1) (c := 1) (Fv16_73.out.keep B10.out) (show ([(Qu.Ci.mk (c : Int) (v : Int) (v : Int))]).length = 1 from rfl) (Nat.le_refl _) (by omega)))
      refine wpList_run (by kernel_rfl) (.agg #[.int .i64 1, .int .i64 0, .int .i64 0, .slice (some ⟨g74, 0, none⟩) 1 1]) V11 (by unfold execOp; go_simp <;> rfl) ?_
      simp only [Act.put, List.setIfInBounds_toArray, List.set_cons_zero, List.set_cons_succ]
      refine wpList_new #[.int .i64 0, .int .i64 0, .int .i64 0, .slice none 0 0] 24 (by kernel_rfl) (xo_alloc #[.int .i64 0, .int .i64 0, .int .i64 0, .slice none 0 0] (by kernel_rfl) rfl) ?_
      intro b19 V12 hge h0 hb
      have C5_11 := Lib.hid (bel_step C5_10.out B10.out)
      have N24_0 : Hid (b13 ≠ b19) := Lib.hid (xp_lt0 (heap_keep Fv5_13.out C5_11.out) hge)
      have C9_11 := Lib.hid (bel_step B9.out B10.out)
      have N25_1 : Hid (b16 ≠ b19) := Lib.hid (xp_lt0 (heap_keep Fv10_16.out C9_11.out) hge)
      have N26_2 : Hid (g73 ≠ b19) := Lib.hid (xp_lt0 (Fv16_73.out.keep B10.out) hge)
      have N27_3 : Hid (g74 ≠ b19) := Lib.hid (xp_lt0 Fv22_74.out hge)
      have Ge28 : Hid (V11.heap.size ≤ b19) := Lib.hid hge
      have B11 := Lib.hid hb
      have Fv29_19 : Hid (V12.heap[b19]? = some (.cells #[.int .i64 0, .int .i64 0, .int .i64 0, .slice none 0 0] 24 (0, 0))) := Lib.hid (h0)
      have Lt30 : Hid (b19 < V12.heap.size) := Lib.hid (xp_lt Fv29_19.out)
      clear hge h0 hb
      simp only [ptr, Act.put, List.setIfInBounds_toArray, List.set_cons_zero, List.set_cons_succ]
      refine wpList_storeW b19 #[.int .i64 0, .int .i64 0, .int .i64 0, .slice none 0 0] #[.int .i64 1, .int .i64 0, .int .i64 0, .slice (some ⟨g74, 0, none⟩) 1 1] 24 (by kernel_rfl) Fv29_19.out (xo_storeW b19 #[.int .i64 0, .int .i64 0, .int .i64 0, .slice none 0 0] #[.int .i64 1, .int .i64 0, .int .i64 0, .slice (some ⟨g74, 0, none⟩) 1 1] Fv29_19.out (by kernel_rfl) rfl (by simp [Value.oneCell']) rfl rfl rfl) ?_
      intro X12_31 h1 hfar hbel hsz
      have hbr := hbel _ _ Ge28.out B11.out
      clear B11
      have B11 := Lib.hid hbr
      clear hbr
      clear Fv29_19
      have Fv29_19 : Hid (X12_31.heap[b19]? = some (.cells #[.int .i64 1, .int .i64 0, .int .i64 0, .slice (some ⟨g74, 0, none⟩) 1 1] 24 (0, 0))) := Lib.hid (h1)
      have HszX12_31 := Lib.hid hsz
      clear h1 hfar hbel hsz
      simp only [ptr, Act.put, List.setIfInBounds_toArray, List.set_cons_zero, List.set_cons_succ]
      refine wpList_nil ?_
      go_upto_region 13 with fail
      refine wp_region_lit ?_
      refine wpList_run (by kernel_rfl) (.int .i64 0) X12_31 rfl ?_
      simp only [Act.put, List.setIfInBounds_toArray, List.set_cons_zero, List.set_cons_succ]
      refine wpList_run (by kernel_rfl) (.bool true) X12_31 (xo_eqlT .i64 0 0 (by omega) rfl rfl rfl) ?_
      simp only [Act.put, List.setIfInBounds_toArray, List.set_cons_zero, List.set_cons_succ]
      refine wpList_run (by kernel_rfl) (.bool true) X12_31 rfl ?_
      simp only [Act.put, List.setIfInBounds_toArray, List.set_cons_zero, List.set_cons_succ]
      refine wpList_run (by kernel_rfl) (.int .i64 0) X12_31 rfl ?_
      simp only [Act.put, List.setIfInBounds_toArray, List.set_cons_zero, List.set_cons_succ]
      refine wpList_run (by kernel_rfl) (.bool true) X12_31 (xo_eqlT .i64 0 0 (by omega) rfl rfl rfl) ?_
      simp only [Act.put, List.setIfInBounds_toArray, List.set_cons_zero, List.set_cons_succ]
      refine wpList_run (by kernel_rfl) (.bool true) X12_31 rfl ?_
      simp only [Act.put, List.setIfInBounds_toArray, List.set_cons_zero, List.set_cons_succ]
      refine wpList_run (by kernel_rfl) (.bool true) X12_31 rfl ?_
      simp only [Act.put, List.setIfInBounds_toArray, List.set_cons_zero, List.set_cons_succ]
      have C5_12 := Lib.hid (bel_step C5_11.out B11.out)
      refine wpList_run (by kernel_rfl) (.agg #[.int .i64 1, .int .i64 0, .int .i64 0, .slice AA 1 cA]) X12_31 (xo_loadW b13 _ (heap_keep Fv5_13.out C5_12.out) Tryd.underlying24 rfl (by kernel_rfl) rfl rfl) ?_
      simp only [Act.put, List.setIfInBounds_toArray, List.set_cons_zero, List.set_cons_succ]
      refine wpList_run (by kernel_rfl) (.agg #[.int .i64 1, .int .i64 0, .int .i64 0, .slice (some ⟨g74, 0, none⟩) 1 1]) X12_31 (xo_loadW b19 _ Fv29_19.out Tryd.underlying24 rfl (by kernel_rfl) rfl rfl) ?_
      simp only [Act.put, List.setIfInBounds_toArray, List.set_cons_zero, List.set_cons_succ]
      refine wpList_call (by kernel_rfl) 22 Tryd.func22 (by kernel_rfl) (by kernel_rfl) _ _ #[.agg #[.int .i64 1, .int .i64 0, .int .i64 0, .slice AA 1 cA], .agg #[.int .i64 1, .int .i64 0, .int .i64 0, .slice (some ⟨g74, 0, none⟩) 1 1]] rfl (by kernel_rfl) ?_
      refine (same_yes 1 0 0 AA 1 cA hsA (some ⟨g74, 0, none⟩) 1 [(Hd.mk (some ⟨g73, 0, none⟩) 1 1)] [[Qu.Ci.mk (c : Int) (v : Int) (v : Int)]] X12_31 (HFA.out.keep C5_12.out) (HL74.out.keep B11.out)).mono ?_
      rintro e V13 ⟨rfl, hb⟩
      have B12 := Lib.hid hb
      clear hb 
      refine ⟨_, rfl, ?_⟩
      simp only [Act.put, List.setIfInBounds_toArray, List.set_cons_zero, List.set_cons_succ]
      refine wpList_run (by kernel_rfl) (.bool true) V13 rfl ?_
      simp only [Act.put, List.setIfInBounds_toArray, List.set_cons_zero, List.set_cons_succ]
      refine wpList_run (by kernel_rfl) (.bool true) V13 rfl ?_
      simp only [Act.put, List.setIfInBounds_toArray, List.set_cons_zero, List.set_cons_succ]
      have C9_12 := Lib.hid (bel_step C9_11.out B11.out)
      have C9_13 := Lib.hid (bel_step C9_12.out B12.out)
      refine wpList_run (by kernel_rfl) (.agg #[.int .i64 1, .int .i64 0, .int .i64 0, .slice AB 1 cB]) V13 (xo_loadW b16 _ (heap_keep Fv10_16.out C9_13.out) Tryd.underlying24 rfl (by kernel_rfl) rfl rfl) ?_
      simp only [Act.put, List.setIfInBounds_toArray, List.set_cons_zero, List.set_cons_succ]
      refine wpList_run (by kernel_rfl) (.agg #[.int .i64 1, .int .i64 0, .int .i64 0, .slice (some ⟨g74, 0, none⟩) 1 1]) V13 (xo_loadW b19 _ (heap_keep Fv29_19.out B12.out) Tryd.underlying24 rfl (by kernel_rfl) rfl rfl) ?_
      simp only [Act.put, List.setIfInBounds_toArray, List.set_cons_zero, List.set_cons_succ]
      have C11_13 := Lib.hid (bel_step B11.out B12.out)
      refine wpList_call (by kernel_rfl) 22 Tryd.func22 (by kernel_rfl) (by kernel_rfl) _ _ #[.agg #[.int .i64 1, .int .i64 0, .int .i64 0, .slice AB 1 cB], .agg #[.int .i64 1, .int .i64 0, .int .i64 0, .slice (some ⟨g74, 0, none⟩) 1 1]] rfl (by kernel_rfl) ?_
      refine (same_yes 1 0 0 AB 1 cB hsB (some ⟨g74, 0, none⟩) 1 [(Hd.mk (some ⟨g73, 0, none⟩) 1 1)] [[Qu.Ci.mk (c : Int) (v : Int) (v : Int)]] V13 (HFB.out.keep C9_13.out) (HL74.out.keep C11_13.out)).mono ?_
      rintro e V14 ⟨rfl, hb⟩
      have B13 := Lib.hid hb
      clear hb 
      refine ⟨_, rfl, ?_⟩
      simp only [Act.put, List.setIfInBounds_toArray, List.set_cons_zero, List.set_cons_succ]
      refine wpList_run (by kernel_rfl) (.bool true) V14 rfl ?_
      simp only [Act.put, List.setIfInBounds_toArray, List.set_cons_zero, List.set_cons_succ]
      refine wpList_run (by kernel_rfl) (.bool true) V14 rfl ?_
      simp only [Act.put, List.setIfInBounds_toArray, List.set_cons_zero, List.set_cons_succ]
      refine wpList_run (by kernel_rfl) (.bool true) V14 rfl ?_
      simp only [Act.put, List.setIfInBounds_toArray, List.set_cons_zero, List.set_cons_succ]
      refine wpList_run (by kernel_rfl) (.bool true) V14 rfl ?_
      simp only [Act.put, List.setIfInBounds_toArray, List.set_cons_zero, List.set_cons_succ]
      refine wpList_run (by kernel_rfl) (.bool true) V14 rfl ?_
      simp only [Act.put, List.setIfInBounds_toArray, List.set_cons_zero, List.set_cons_succ]
      refine wpList_nil ?_
      have C0_8 := Lib.hid (bel_step C0_7.out B7.out)
      have C0_9 := Lib.hid (bel_step C0_8.out B8.out)
      have C0_10 := Lib.hid (bel_step C0_9.out B9.out)
      have C0_11 := Lib.hid (bel_step C0_10.out B10.out)
      have C0_12 := Lib.hid (bel_step C0_11.out B11.out)
      have C0_13 := Lib.hid (bel_step C0_12.out B12.out)
      have C0_14 := Lib.hid (bel_step C0_13.out B13.out)
      have hbf := C0_14.out
      go_wp2_with fail
      go_ret
      exact ⟨rfl, hbf⟩
end Go.Proofs.YtbcgfjlbjfkfmaaDoor
