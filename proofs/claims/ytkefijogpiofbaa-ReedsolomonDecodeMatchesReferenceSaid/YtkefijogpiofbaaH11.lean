/- Several texts in one: Sq9, Sr9. -/
import Derived.Test.YtkefijogpiofbaaH10
namespace Go.Proofs.Ytkefijogpiofbaa
set_option linter.unusedVariables false
set_option linter.unusedSimpArgs false
set_option linter.unusedSectionVars false
set_option maxRecDepth 8000
open Go.RowKit Go.Proofs.Ytkefijogpiofbaa.K
attribute [local irreducible] wpList wpQuiet
/-- what Decode answers -/
def decPost (w : World) (n k M : Nat) (xs : List Gold.F) (e : Ending) (w' : World) : Prop := ∃ (v : Value) (dd er : Nat), e = .returned (.tuple #[v, .int .i64 (dd : Int), .int .i64 (er : Int)]) ∧
  ((er = 0 ∧ ∃ f, Gold.Trm f ∧ f.length ≤ k ∧ (Gold.differF n M (Gold.cfF xs) f).length ≤ (n - k) / 2 ∧ dd = (Gold.differF n M (Gold.cfF xs) f).length ∧ ∃ g, v = .slice (some ⟨g, 0, none⟩) k k ∧ Sg feC 1 w' (some ⟨g, 0, none⟩) k k (Gold.tbF k (Gold.cfF f))) ∨
    (er = 4 ∧ dd = 0 ∧ v = .slice none 0 0 ∧ ∀ f, f.length ≤ k → (n - k) / 2 < (Gold.differF n M (Gold.cfF xs) f).length)) ∧ Below w.heap.size w w'
theorem evL_pad {f : List Gold.F} {k : Nat} (h : f.length ≤ k) (x : Gold.F) : Gold.evL (Gold.tbF k (Gold.cfF f)) x = Gold.evL f x := Gold.evL_congr (fun i => by
  rw [Gold.cfF_tbF]
  by_cases hi : i < k
  · rw [if_pos hi]
  · rw [if_neg hi, Gold.cfF_none (by omega)]) x
theorem dst_differ {n k M : Nat} {xs f : List Gold.F} (hn : n = 2 ^ M) (hx : xs.length = n) (hf : f.length ≤ k) (_hk : k ≤ n) : dstF xs (Gold.cwF (Gold.tbF k (Gold.cfF f)) M) = (Gold.differF n M (Gold.cfF xs) f).length := by
  have hl : (Gold.cwF (Gold.tbF k (Gold.cfF f)) M).length = n := by unfold Gold.cwF; rw [Gold.tbF_length, hn]
  unfold dstF cntF Gold.differF
  rw [hx, hl, Nat.max_self, Nat.min_self, Nat.sub_self, Nat.zero_add]
  congr 1
  refine List.filter_congr fun i hi => ?_
  have hi := List.mem_range.1 hi
  unfold Gold.cwF
  rw [Gold.cfF_tbF, if_pos (by omega), evL_pad hf]
  congr 1
  exact decide_eq_decide.2 ⟨fun h => h.symm, fun h => h.symm⟩
set_option maxRecDepth 100000 in
set_option maxHeartbeats 8000000 in
theorem decode_yes (A : Option Addr) (n c : Nat) (xs : List Gold.F) (z K L : Nat) (hn : n = 2 ^ (K + L)) (hz : z = 2 ^ L) (hL1 : 1 ≤ L) (hL4 : L ≤ 4) (hM : K + L ≤ 13) (w : World) (hX : Sg feC 1 w A n c xs) :
    Calls Try.prog 25 #[.slice A n c, .int .i64 (z : Int)] w fun e w' => decPost w n (2 ^ K) (K + L) xs e w' := by
  have HX := Lib.hid hX
  have hxl := hX.len
  have hcp := hX.cap
  have htp := hX.top
  clear hX
  have hr := wB_pow (M := K + L) (L := L) hL1 hL4 (by omega) (by omega)
  rw [← hn, ← hz] at hr
  have HR := Lib.hid hr
  have hn13 : n ≤ 8192 := by rw [hn]; exact Nat.pow_le_pow_right (n := 2) (by omega) hM
  have hz16 : z ≤ 16 := by rw [hz]; exact Nat.pow_le_pow_right (n := 2) (by omega) hL4
  have hz0 : 0 < z := by rw [hz]; exact Nat.two_pow_pos L
  obtain ⟨k, hk⟩ : ∃ k, 2 ^ K = k := ⟨_, rfl⟩
  have hk1 : 1 ≤ k := by rw [← hk]; exact Nat.two_pow_pos K
  have hqz : n / z = k := by rw [hn, hz, ← hk, Nat.pow_add, Nat.mul_div_cancel _ (Nat.two_pow_pos L)]
  have hkn : k ≤ n := by rw [← hqz]; exact Nat.div_le_self _ _
  have HN := Lib.hid hn
  have HZ := Lib.hid hz
  have HK := Lib.hid hk
  clear hr hn hz hk
  rw [HK.out]
  go_enter Try.func25, Try.ntmps25
  go_upto_region 1 with fail
  refine wp_region_lit ?_
  refine wpList_run (by kernel_rfl) (.slice A n c) w rfl ?_
  simp only [Act.put, List.setIfInBounds_toArray, List.set_cons_zero, List.set_cons_succ]
  refine wpList_run (by kernel_rfl) (.int .i64 (n : Int)) w (xo_len A n c Try.underlying22 rfl rfl) ?_
  simp only [Act.put, List.setIfInBounds_toArray, List.set_cons_zero, List.set_cons_succ]
  refine wpList_run (by kernel_rfl) (.int .i64 (z : Int)) w rfl ?_
  simp only [Act.put, List.setIfInBounds_toArray, List.set_cons_zero, List.set_cons_succ]
  refine wpList_call (by kernel_rfl) 47 Try.func47 (by kernel_rfl) (by kernel_rfl) _ _ #[.int .i64 (n : Int), .int .i64 (z : Int)] rfl (by kernel_rfl) ?_
  refine (isWord_any n (z : Int) (by omega) w).mono ?_
  rintro e V1 ⟨rfl, hb⟩
  have B0 := Lib.hid hb
  rw [HR.out]
  clear hb 
  refine ⟨_, rfl, ?_⟩
  simp only [Act.put, List.setIfInBounds_toArray, List.set_cons_zero, List.set_cons_succ]
  refine wpList_run (by kernel_rfl) (.bool false) V1 rfl ?_
  simp only [Act.put, List.setIfInBounds_toArray, List.set_cons_zero, List.set_cons_succ]
  refine wpList_nil ?_
  go_upto_region 3 with fail
  refine wp_region_lit ?_
  refine wpList_run (by kernel_rfl) (.slice A n c) V1 rfl ?_
  simp only [Act.put, List.setIfInBounds_toArray, List.set_cons_zero, List.set_cons_succ]
  refine wpList_run (by kernel_rfl) (.slice A n c) V1 rfl ?_
  simp only [Act.put, List.setIfInBounds_toArray, List.set_cons_zero, List.set_cons_succ]
  refine wpList_run (by kernel_rfl) (.int .i64 (n : Int)) V1 (xo_len A n c Try.underlying22 rfl rfl) ?_
  simp only [Act.put, List.setIfInBounds_toArray, List.set_cons_zero, List.set_cons_succ]
  refine wpList_run (by kernel_rfl) (.int .i64 (z : Int)) V1 rfl ?_
  simp only [Act.put, List.setIfInBounds_toArray, List.set_cons_zero, List.set_cons_succ]
  refine wpList_run (by kernel_rfl) (.int .i64 (k : Int)) V1 (xo_quoN .i64 n z k (by omega) hqz (by rw [IntKind.wrap_i64]; omega) rfl rfl rfl) ?_
  simp only [Act.put, List.setIfInBounds_toArray, List.set_cons_zero, List.set_cons_succ]
  refine wpList_call (by kernel_rfl) 50 Try.func50 (by kernel_rfl) (by kernel_rfl) _ _ #[.slice A n c, .int .i64 (k : Int)] rfl (by kernel_rfl) ?_
  refine (nearest_any A n c xs k (K + L) HN.out hM hk1 hkn V1 (HX.out.keep B0.out)).mono ?_
  rintro e V2 ⟨v, bz, rfl, hcase, hb⟩
  have B1 := Lib.hid hb
  clear hb 
  refine ⟨_, rfl, ?_⟩
  simp only [Act.put, List.setIfInBounds_toArray, List.set_cons_zero, List.set_cons_succ]
  refine wpList_run (by kernel_rfl) (.tuple #[v, .bool bz]) V2 rfl ?_
  simp only [Act.put, List.setIfInBounds_toArray, List.set_cons_zero, List.set_cons_succ]
  refine wpList_run (by kernel_rfl) (v) V2 rfl ?_
  simp only [Act.put, List.setIfInBounds_toArray, List.set_cons_zero, List.set_cons_succ]
  refine wpList_run (by kernel_rfl) (.bool bz) V2 rfl ?_
  simp only [Act.put, List.setIfInBounds_toArray, List.set_cons_zero, List.set_cons_succ]
  refine wpList_run (by kernel_rfl) (v) V2 rfl ?_
  simp only [Act.put, List.setIfInBounds_toArray, List.set_cons_zero, List.set_cons_succ]
  refine wpList_run (by kernel_rfl) (.bool bz) V2 rfl ?_
  simp only [Act.put, List.setIfInBounds_toArray, List.set_cons_zero, List.set_cons_succ]
  refine wpList_nil ?_
  rcases hcase with ⟨rfl, f, hft, hfl, hfd, gv, rfl, ho⟩ | ⟨rfl, rfl, hno⟩
  · have HS := Lib.hid (Sg.ownS ho)
    clear ho
    obtain ⟨row, hrow⟩ : ∃ row, Gold.tbF k (Gold.cfF f) = row := ⟨_, rfl⟩
    have hS2 := HS.out
    rw [hrow] at hS2
    clear HS
    have HS := Lib.hid hS2
    clear hS2
    have HRW := Lib.hid hrow
    clear hrow
    go_upto_region 4 with fail
    refine wp_region_lit ?_
    refine wpList_run (by kernel_rfl) (.bool true) V2 rfl ?_
    simp only [Act.put, List.setIfInBounds_toArray, List.set_cons_zero, List.set_cons_succ]
    refine wpList_run (by kernel_rfl) (.bool false) V2 rfl ?_
    simp only [Act.put, List.setIfInBounds_toArray, List.set_cons_zero, List.set_cons_succ]
    refine wpList_nil ?_
    go_upto_region 6 with fail
    refine wp_region_lit ?_
    refine wpList_run (by kernel_rfl) (.slice (some ⟨gv, 0, none⟩) k k) V2 rfl ?_
    simp only [Act.put, List.setIfInBounds_toArray, List.set_cons_zero, List.set_cons_succ]
    refine wpList_run (by kernel_rfl) (.int .i64 (z : Int)) V2 rfl ?_
    simp only [Act.put, List.setIfInBounds_toArray, List.set_cons_zero, List.set_cons_succ]
    refine wpList_call (by kernel_rfl) 9 Try.func9 (by kernel_rfl) (by kernel_rfl) _ _ #[.slice (some ⟨gv, 0, none⟩) k k, .int .i64 (z : Int)] rfl (by kernel_rfl) ?_
    refine (encode_yes (some ⟨gv, 0, none⟩) k k row z K L HK.out.symm HZ.out hL1 hL4 (by omega) V2 HS.out).mono ?_
    rintro e V3 ⟨ge, rfl, hse, hb⟩
    have B2 := Lib.hid hb
    rw [← HN.out] at hse ⊢
    have HE := Lib.hid hse
    clear hb hse
    refine ⟨_, rfl, ?_⟩
    simp only [Act.put, List.setIfInBounds_toArray, List.set_cons_zero, List.set_cons_succ]
    refine wpList_run (by kernel_rfl) (.tuple #[.slice (some ⟨ge, 0, none⟩) n n, .int .i64 0]) V3 rfl ?_
    simp only [Act.put, List.setIfInBounds_toArray, List.set_cons_zero, List.set_cons_succ]
    refine wpList_run (by kernel_rfl) (.slice (some ⟨ge, 0, none⟩) n n) V3 rfl ?_
    simp only [Act.put, List.setIfInBounds_toArray, List.set_cons_zero, List.set_cons_succ]
    refine wpList_run (by kernel_rfl) (.int .i64 0) V3 rfl ?_
    simp only [Act.put, List.setIfInBounds_toArray, List.set_cons_zero, List.set_cons_succ]
    refine wpList_run (by kernel_rfl) (.slice (some ⟨ge, 0, none⟩) n n) V3 rfl ?_
    simp only [Act.put, List.setIfInBounds_toArray, List.set_cons_zero, List.set_cons_succ]
    refine wpList_run (by kernel_rfl) (.int .i64 0) V3 rfl ?_
    simp only [Act.put, List.setIfInBounds_toArray, List.set_cons_zero, List.set_cons_succ]
    refine wpList_nil ?_
    obtain ⟨ds, hds⟩ : ∃ ds, dstF xs (Gold.cwF row (K + L)) = ds := ⟨_, rfl⟩
    go_upto_region 7 with fail
    refine wp_region_lit ?_
    refine wpList_run (by kernel_rfl) (.slice (some ⟨gv, 0, none⟩) k k) V3 rfl ?_
    simp only [Act.put, List.setIfInBounds_toArray, List.set_cons_zero, List.set_cons_succ]
    refine wpList_run (by kernel_rfl) (.slice A n c) V3 rfl ?_
    simp only [Act.put, List.setIfInBounds_toArray, List.set_cons_zero, List.set_cons_succ]
    refine wpList_run (by kernel_rfl) (.slice (some ⟨ge, 0, none⟩) n n) V3 rfl ?_
    simp only [Act.put, List.setIfInBounds_toArray, List.set_cons_zero, List.set_cons_succ]
    have C0_2 := Lib.hid (bel_step B0.out B1.out)
    have C0_3 := Lib.hid (bel_step C0_2.out B2.out)
    refine wpList_call (by kernel_rfl) 19 Try.func19 (by kernel_rfl) (by kernel_rfl) _ _ #[.slice A n c, .slice (some ⟨ge, 0, none⟩) n n] rfl (by kernel_rfl) ?_
    refine (distance_any A n c xs (some ⟨ge, 0, none⟩) n n (Gold.cwF row (K + L)) (by omega) (by omega) V3 (HX.out.keep C0_3.out) HE.out).mono ?_
    rintro e V4 ⟨rfl, hb⟩
    have B3 := Lib.hid hb
    rw [hds]
    clear hb 
    refine ⟨_, rfl, ?_⟩
    simp only [Act.put, List.setIfInBounds_toArray, List.set_cons_zero, List.set_cons_succ]
    refine wpList_run (by kernel_rfl) (.slice (some ⟨gv, 0, none⟩) k k) V4 rfl ?_
    simp only [Act.put, List.setIfInBounds_toArray, List.set_cons_zero, List.set_cons_succ]
    refine wpList_run (by kernel_rfl) (.int .i64 (ds : Int)) V4 rfl ?_
    simp only [Act.put, List.setIfInBounds_toArray, List.set_cons_zero, List.set_cons_succ]
    refine wpList_run (by kernel_rfl) (.int .i64 0) V4 rfl ?_
    simp only [Act.put, List.setIfInBounds_toArray, List.set_cons_zero, List.set_cons_succ]
    refine wpList_nil ?_
    have hdd : ds = (Gold.differF n (K + L) (Gold.cfF xs) f).length := by rw [← hds, ← HRW.out]; exact dst_differ HN.out hxl hfl hkn
    go_wp2_with fail
    refine bodyPost_ret (v := .tuple #[.slice (some ⟨gv, 0, none⟩) k k, .int .i64 (ds : Int), .int .i64 0]) (by simp [results, Try.results25, go_sem]) rfl ?_
    have C2_4 := Lib.hid (bel_step B2.out B3.out)
    have C0_4 := Lib.hid (bel_step C0_3.out B3.out)
    exact ⟨_, ds, 0, rfl, .inl ⟨rfl, f, hft, hfl, hfd, hdd, gv, rfl, by rw [HRW.out]; exact (HS.out.keep C2_4.out)⟩, C0_4.out⟩
  · go_upto_region 4 with fail
    refine wp_region_lit ?_
    refine wpList_run (by kernel_rfl) (.bool false) V2 rfl ?_
    simp only [Act.put, List.setIfInBounds_toArray, List.set_cons_zero, List.set_cons_succ]
    refine wpList_run (by kernel_rfl) (.bool true) V2 rfl ?_
    simp only [Act.put, List.setIfInBounds_toArray, List.set_cons_zero, List.set_cons_succ]
    refine wpList_nil ?_
    go_upto_region 5 with fail
    refine wp_region_lit ?_
    refine wpList_run (by kernel_rfl) (.slice none 0 0) V2 rfl ?_
    simp only [Act.put, List.setIfInBounds_toArray, List.set_cons_zero, List.set_cons_succ]
    refine wpList_run (by kernel_rfl) (.int .i64 0) V2 rfl ?_
    simp only [Act.put, List.setIfInBounds_toArray, List.set_cons_zero, List.set_cons_succ]
    refine wpList_run (by kernel_rfl) (.int .i64 4) V2 rfl ?_
    simp only [Act.put, List.setIfInBounds_toArray, List.set_cons_zero, List.set_cons_succ]
    refine wpList_nil ?_
    go_wp2_with fail
    refine bodyPost_ret (v := .tuple #[.slice none 0 0, .int .i64 0, .int .i64 4]) (by simp [results, Try.results25, go_sem]) rfl ?_
    have C0_2 := Lib.hid (bel_step B0.out B1.out)
    exact ⟨_, 0, 4, rfl, .inr ⟨rfl, rfl, rfl, hno⟩, C0_2.out⟩
end Go.Proofs.Ytkefijogpiofbaa

namespace Go.Proofs.Ytkefijogpiofbaa
set_option linter.unusedVariables false
set_option linter.unusedSimpArgs false
set_option linter.unusedSectionVars false
set_option maxRecDepth 8000
open Go.RowKit Go.Proofs.Ytkefijogpiofbaa.K
attribute [local irreducible] wpList wpQuiet
theorem dst_zero {xs ys : List Gold.F} (hl : xs.length = ys.length) : dstF xs ys = 0 ↔ xs = ys := by
  unfold dstF cntF
  rw [hl, Nat.max_self, Nat.min_self, Nat.sub_self, Nat.zero_add]
  constructor
  · intro h
    have h := List.eq_nil_of_length_eq_zero h
    refine Gold.F_ext hl fun i hi => ?_
    have := List.filter_eq_nil_iff.1 h i (List.mem_range.2 (by omega))
    simpa using this
  · rintro rfl
    simp
end Go.Proofs.Ytkefijogpiofbaa
namespace Gold
set_option linter.unusedVariables false
set_option linter.unusedSimpArgs false
set_option linter.unusedSectionVars false
/-- numbers made to field elements, N of them -/
def mdF (zs : List Nat) (N : Nat) : List F := tbF N fun i => toF ((zs.getD i 0 : Nat) : Int)
theorem mdF_succ (zs : List Nat) (i : Nat) : mdF zs (i + 1) = mdF zs i ++ [toF ((zs.getD i 0 : Nat) : Int)] := by simp [mdF, tbF, List.range_succ]
theorem mdF_length (zs : List Nat) (N : Nat) : (mdF zs N).length = N := tbF_length _ _
end Gold
namespace Go.Proofs.Ytkefijogpiofbaa
set_option linter.unusedVariables false
set_option linter.unusedSimpArgs false
set_option linter.unusedSectionVars false
open Go.RowKit Go.Proofs.Ytkefijogpiofbaa.K
attribute [local irreducible] wpList wpQuiet
set_option maxRecDepth 100000 in
set_option maxHeartbeats 8000000 in
theorem rdistance_any (A : Option Addr) (n c : Nat) (xs : List Gold.F) (E : Option Addr) (m d : Nat) (ys : List Gold.F) (hn : n ≤ 1048576) (hm : m ≤ 1048576) (w : World) (hX : Sg feC 1 w A n c xs) (hY : Sg feC 1 w E m d ys) :
    Calls Try.prog 20 #[.slice A n c, .slice E m d] w fun e w' => e = .returned (.int .i64 ((dstF xs ys : Nat) : Int)) ∧ Below w.heap.size w w' := by
  have HX := Lib.hid hX
  have HY := Lib.hid hY
  have hxl := hX.len
  have hyl := hY.len
  have hc1 := hX.cap
  have ht1 := hX.top
  have hc2 := hY.cap
  have ht2 := hY.top
  clear hX hY
  obtain ⟨cm, hcm⟩ : ∃ cm, min n m = cm := ⟨_, rfl⟩
  obtain ⟨mx, hmx⟩ : ∃ mx, max n m = mx := ⟨_, rfl⟩
  obtain ⟨bs, hbs⟩ : ∃ bs, mx - cm = bs := ⟨_, rfl⟩
  go_enter Try.func20, Try.ntmps20
  go_upto_region 1 with fail
  refine wp_region_lit ?_
  refine wpList_run (by kernel_rfl) (.slice A n c) w rfl ?_
  simp only [Act.put, List.setIfInBounds_toArray, List.set_cons_zero, List.set_cons_succ]
  refine wpList_run (by kernel_rfl) (.int .i64 (n : Int)) w (xo_len A n c Try.underlying22 rfl rfl) ?_
  simp only [Act.put, List.setIfInBounds_toArray, List.set_cons_zero, List.set_cons_succ]
  refine wpList_run (by kernel_rfl) (.slice E m d) w rfl ?_
  simp only [Act.put, List.setIfInBounds_toArray, List.set_cons_zero, List.set_cons_succ]
  refine wpList_run (by kernel_rfl) (.int .i64 (m : Int)) w (xo_len E m d Try.underlying22 rfl rfl) ?_
  simp only [Act.put, List.setIfInBounds_toArray, List.set_cons_zero, List.set_cons_succ]
  refine wpList_run (by kernel_rfl) (.int .i64 (mx : Int)) w (xo_max .i64 (n : Int) (m : Int) (mx : Int) (by split <;> omega) rfl rfl rfl) ?_
  simp only [Act.put, List.setIfInBounds_toArray, List.set_cons_zero, List.set_cons_succ]
  refine wpList_run (by kernel_rfl) (.slice A n c) w rfl ?_
  simp only [Act.put, List.setIfInBounds_toArray, List.set_cons_zero, List.set_cons_succ]
  refine wpList_run (by kernel_rfl) (.int .i64 (n : Int)) w (xo_len A n c Try.underlying22 rfl rfl) ?_
  simp only [Act.put, List.setIfInBounds_toArray, List.set_cons_zero, List.set_cons_succ]
  refine wpList_run (by kernel_rfl) (.slice E m d) w rfl ?_
  simp only [Act.put, List.setIfInBounds_toArray, List.set_cons_zero, List.set_cons_succ]
  refine wpList_run (by kernel_rfl) (.int .i64 (m : Int)) w (xo_len E m d Try.underlying22 rfl rfl) ?_
  simp only [Act.put, List.setIfInBounds_toArray, List.set_cons_zero, List.set_cons_succ]
  refine wpList_run (by kernel_rfl) (.int .i64 (cm : Int)) w (xo_min .i64 (n : Int) (m : Int) (cm : Int) (by split <;> omega) rfl rfl rfl) ?_
  simp only [Act.put, List.setIfInBounds_toArray, List.set_cons_zero, List.set_cons_succ]
  refine wpList_run (by kernel_rfl) (.int .i64 (bs : Int)) w (xo_subI (mx : Int) (cm : Int) (bs : Int) (by omega) (by omega) (by omega) rfl rfl rfl) ?_
  simp only [Act.put, List.setIfInBounds_toArray, List.set_cons_zero, List.set_cons_succ]
  refine wpList_run (by kernel_rfl) (.int .i64 (bs : Int)) w rfl ?_
  simp only [Act.put, List.setIfInBounds_toArray, List.set_cons_zero, List.set_cons_succ]
  refine wpList_nil ?_
  go_upto_region 2 with fail
  refine wp_region_lit ?_
  refine wpList_run (by kernel_rfl) (.int .i64 0) w rfl ?_
  simp only [Act.put, List.setIfInBounds_toArray, List.set_cons_zero, List.set_cons_succ]
  refine wpList_nil ?_
  have O0 := (Below.refl w.heap.size w)
  have B0 := Lib.hid (Below.refl w.heap.size w)
  go_wp2_with fail
  go_loopw [5, 6] (fun dv p wr => ∃ i : Nat, i ≤ cm ∧ p = .int .i64 i ∧ dv = .int .i64 ((bs + cntF xs ys i : Nat) : Int) ∧ Below w.heap.size w wr) (fun _ p _ => cm - (intOf p).toNat)
  case atStart => exact ⟨0, Nat.zero_le _, rfl, rfl, O0⟩
  case round =>
    clear O0
    obtain ⟨wo, rfl⟩ : ∃ wo : World, wo = wr := ⟨_, rfl⟩
    obtain ⟨i, hi, rfl, hhdv, hb0⟩ := hrel
    have hbr := hb0
    clear B0
    have B0 := Lib.hid hbr
    clear hbr
    have hdv := Lib.hid hhdv
    clear hb0 hhdv
    have hdve := hdv.out
    subst hdve
    have hcl := cntF_le xs ys i
    obtain ⟨dn, hdn⟩ : ∃ dn, bs + cntF xs ys i = dn := ⟨_, rfl⟩
    rw [hdn]
    by_cases hi1 : i < cm
    · have hci2 : ((i : Int) < (n : Int)) := by omega
      have hci3 : ((i : Int) < (m : Int)) := by omega
      go_upto_region 3 with fail
      refine wp_region_lit ?_
      refine wpList_run (by kernel_rfl) (.int .i64 (i : Int)) wo rfl ?_
      simp only [Act.put, List.setIfInBounds_toArray, List.set_cons_zero, List.set_cons_succ]
      refine wpList_run (by kernel_rfl) (.slice A n c) wo rfl ?_
      simp only [Act.put, List.setIfInBounds_toArray, List.set_cons_zero, List.set_cons_succ]
      refine wpList_run (by kernel_rfl) (.int .i64 (n : Int)) wo (xo_len A n c Try.underlying22 rfl rfl) ?_
      simp only [Act.put, List.setIfInBounds_toArray, List.set_cons_zero, List.set_cons_succ]
      refine wpList_run (by kernel_rfl) (.bool true) wo (xo_lssT .i64 (i : Int) (n : Int) (by omega) rfl rfl rfl) ?_
      simp only [Act.put, List.setIfInBounds_toArray, List.set_cons_zero, List.set_cons_succ]
      refine wpList_run (by kernel_rfl) (.bool true) wo rfl ?_
      simp only [Act.put, List.setIfInBounds_toArray, List.set_cons_zero, List.set_cons_succ]
      refine wpList_run (by kernel_rfl) (.int .i64 (i : Int)) wo rfl ?_
      simp only [Act.put, List.setIfInBounds_toArray, List.set_cons_zero, List.set_cons_succ]
      refine wpList_run (by kernel_rfl) (.slice E m d) wo rfl ?_
      simp only [Act.put, List.setIfInBounds_toArray, List.set_cons_zero, List.set_cons_succ]
      refine wpList_run (by kernel_rfl) (.int .i64 (m : Int)) wo (xo_len E m d Try.underlying22 rfl rfl) ?_
      simp only [Act.put, List.setIfInBounds_toArray, List.set_cons_zero, List.set_cons_succ]
      refine wpList_run (by kernel_rfl) (.bool true) wo (xo_lssT .i64 (i : Int) (m : Int) (by omega) rfl rfl rfl) ?_
      simp only [Act.put, List.setIfInBounds_toArray, List.set_cons_zero, List.set_cons_succ]
      refine wpList_run (by kernel_rfl) (.bool true) wo rfl ?_
      simp only [Act.put, List.setIfInBounds_toArray, List.set_cons_zero, List.set_cons_succ]
      refine wpList_nil ?_
      obtain ⟨x, hx⟩ : ∃ x, xs[i]? = some x := ⟨_, List.getElem?_eq_getElem (by omega)⟩
      have HEx := Lib.hid hx
      clear hx
      obtain ⟨y, hy⟩ : ∃ y, ys[i]? = some y := ⟨_, List.getElem?_eq_getElem (by omega)⟩
      have HEy := Lib.hid hy
      clear hy
      by_cases hxy : x = y
      · have hvv : Gold.vF x = Gold.vF y := by rw [hxy]
        go_upto_region 5 with fail
        refine wp_later_lex (by kernel_rfl) (lexOK_of (by kernel_rfl) (by kernel_rfl)) ?_
        refine wpQuiet_val (by kernel_rfl) (.slice A n c) (fun v hv => rfl) ?_
        simp only [Act.put, List.setIfInBounds_toArray, List.set_cons_zero, List.set_cons_succ]
        refine wpQuiet_val (by kernel_rfl) (.int .i64 (i : Int)) (fun v hv => rfl) ?_
        simp only [Act.put, List.setIfInBounds_toArray, List.set_cons_zero, List.set_cons_succ]
        refine wpQuiet_val (by kernel_rfl) (.pointer (some (gad A (i * 1)))) (fun v hv => (xg_idx .i64 ((HX.out.keep B0.out).keep (later_bel hv)) HEx.out Try.underlying22 (by kernel_rfl) rfl rfl rfl)) ?_
        simp only [Act.put, List.setIfInBounds_toArray, List.set_cons_zero, List.set_cons_succ]
        refine wpQuiet_val (by kernel_rfl) (.int .u64 (Gold.vF x)) (fun v hv => (xg_load1 (E := feC) (i := i) (j := 0) ((HX.out.keep B0.out).keep (later_bel hv)) HEx.out rfl rfl Try.underlying29 rfl rfl rfl)) ?_
        simp only [Act.put, List.setIfInBounds_toArray, List.set_cons_zero, List.set_cons_succ]
        refine wpQuiet_val (by kernel_rfl) (.slice E m d) (fun v hv => rfl) ?_
        simp only [Act.put, List.setIfInBounds_toArray, List.set_cons_zero, List.set_cons_succ]
        refine wpQuiet_val (by kernel_rfl) (.int .i64 (i : Int)) (fun v hv => rfl) ?_
        simp only [Act.put, List.setIfInBounds_toArray, List.set_cons_zero, List.set_cons_succ]
        refine wpQuiet_val (by kernel_rfl) (.pointer (some (gad E (i * 1)))) (fun v hv => (xg_idx .i64 ((HY.out.keep B0.out).keep (later_bel hv)) HEy.out Try.underlying22 (by kernel_rfl) rfl rfl rfl)) ?_
        simp only [Act.put, List.setIfInBounds_toArray, List.set_cons_zero, List.set_cons_succ]
        refine wpQuiet_val (by kernel_rfl) (.int .u64 (Gold.vF y)) (fun v hv => (xg_load1 (E := feC) (i := i) (j := 0) ((HY.out.keep B0.out).keep (later_bel hv)) HEy.out rfl rfl Try.underlying29 rfl rfl rfl)) ?_
        simp only [Act.put, List.setIfInBounds_toArray, List.set_cons_zero, List.set_cons_succ]
        refine wpQuiet_val (by kernel_rfl) (.bool false) (fun v hv => (xo_neqF .u64 (Gold.vF x) (Gold.vF y) hvv rfl rfl rfl)) ?_
        simp only [Act.put, List.setIfInBounds_toArray, List.set_cons_zero, List.set_cons_succ]
        refine wpQuiet_nil ?_
        intro X1_4
        have hb := X1_4.below
        generalize X1_4.at = V2 at *
        have B1 := Lib.hid hb
        clear hb
        go_upto_region 4 with fail
        refine wp_region_lit ?_
        refine wpList_run (by kernel_rfl) (.int .i64 (i : Int)) V2 rfl ?_
        simp only [Act.put, List.setIfInBounds_toArray, List.set_cons_zero, List.set_cons_succ]
        refine wpList_run (by kernel_rfl) (.int .i64 ((i + 1 : Nat) : Int)) V2 (xo_addI (i : Int) 1 ((i + 1 : Nat) : Int) (by omega) (by omega) (by omega) rfl rfl rfl) ?_
        simp only [Act.put, List.setIfInBounds_toArray, List.set_cons_zero, List.set_cons_succ]
        refine wpList_run (by kernel_rfl) (.int .i64 ((i + 1 : Nat) : Int)) V2 rfl ?_
        simp only [Act.put, List.setIfInBounds_toArray, List.set_cons_zero, List.set_cons_succ]
        refine wpList_nil ?_
        have hcs := cntF_succ HEx.out HEy.out
        rw [if_pos hxy] at hcs
        have C0_2 := Lib.hid (bel_step B0.out B1.out)
        have hq5 := C0_2.out
        go_wp2_with fail
        go_roundw
        case rel => exact ⟨i + 1, by omega, by go_num, (by rw [hcs, ← hdn] <;> rfl), hq5⟩
        case measure => simp [intOf]; omega
      · have hvv : Gold.vF x ≠ Gold.vF y := fun h => hxy (Gold.vF_inj h)
        go_upto_region 5 with fail
        refine wp_later_lex (by kernel_rfl) (lexOK_of (by kernel_rfl) (by kernel_rfl)) ?_
        refine wpQuiet_val (by kernel_rfl) (.slice A n c) (fun v hv => rfl) ?_
        simp only [Act.put, List.setIfInBounds_toArray, List.set_cons_zero, List.set_cons_succ]
        refine wpQuiet_val (by kernel_rfl) (.int .i64 (i : Int)) (fun v hv => rfl) ?_
        simp only [Act.put, List.setIfInBounds_toArray, List.set_cons_zero, List.set_cons_succ]
        refine wpQuiet_val (by kernel_rfl) (.pointer (some (gad A (i * 1)))) (fun v hv => (xg_idx .i64 ((HX.out.keep B0.out).keep (later_bel hv)) HEx.out Try.underlying22 (by kernel_rfl) rfl rfl rfl)) ?_
        simp only [Act.put, List.setIfInBounds_toArray, List.set_cons_zero, List.set_cons_succ]
        refine wpQuiet_val (by kernel_rfl) (.int .u64 (Gold.vF x)) (fun v hv => (xg_load1 (E := feC) (i := i) (j := 0) ((HX.out.keep B0.out).keep (later_bel hv)) HEx.out rfl rfl Try.underlying29 rfl rfl rfl)) ?_
        simp only [Act.put, List.setIfInBounds_toArray, List.set_cons_zero, List.set_cons_succ]
        refine wpQuiet_val (by kernel_rfl) (.slice E m d) (fun v hv => rfl) ?_
        simp only [Act.put, List.setIfInBounds_toArray, List.set_cons_zero, List.set_cons_succ]
        refine wpQuiet_val (by kernel_rfl) (.int .i64 (i : Int)) (fun v hv => rfl) ?_
        simp only [Act.put, List.setIfInBounds_toArray, List.set_cons_zero, List.set_cons_succ]
        refine wpQuiet_val (by kernel_rfl) (.pointer (some (gad E (i * 1)))) (fun v hv => (xg_idx .i64 ((HY.out.keep B0.out).keep (later_bel hv)) HEy.out Try.underlying22 (by kernel_rfl) rfl rfl rfl)) ?_
        simp only [Act.put, List.setIfInBounds_toArray, List.set_cons_zero, List.set_cons_succ]
        refine wpQuiet_val (by kernel_rfl) (.int .u64 (Gold.vF y)) (fun v hv => (xg_load1 (E := feC) (i := i) (j := 0) ((HY.out.keep B0.out).keep (later_bel hv)) HEy.out rfl rfl Try.underlying29 rfl rfl rfl)) ?_
        simp only [Act.put, List.setIfInBounds_toArray, List.set_cons_zero, List.set_cons_succ]
        refine wpQuiet_val (by kernel_rfl) (.bool true) (fun v hv => (xo_neqT .u64 (Gold.vF x) (Gold.vF y) hvv rfl rfl rfl)) ?_
        simp only [Act.put, List.setIfInBounds_toArray, List.set_cons_zero, List.set_cons_succ]
        refine wpQuiet_nil ?_
        intro X1_4
        have hb := X1_4.below
        generalize X1_4.at = V2 at *
        have B1 := Lib.hid hb
        clear hb
        go_upto_region 6 with fail
        refine wp_region_lit ?_
        refine wpList_run (by kernel_rfl) (.int .i64 (dn : Int)) V2 rfl ?_
        simp only [Act.put, List.setIfInBounds_toArray, List.set_cons_zero, List.set_cons_succ]
        refine wpList_run (by kernel_rfl) (.int .i64 ((dn + 1 : Nat) : Int)) V2 (xo_addI (dn : Int) 1 ((dn + 1 : Nat) : Int) (by omega) (by omega) (by omega) rfl rfl rfl) ?_
        simp only [Act.put, List.setIfInBounds_toArray, List.set_cons_zero, List.set_cons_succ]
        refine wpList_run (by kernel_rfl) (.int .i64 ((dn + 1 : Nat) : Int)) V2 rfl ?_
        simp only [Act.put, List.setIfInBounds_toArray, List.set_cons_zero, List.set_cons_succ]
        refine wpList_nil ?_
        go_upto_region 4 with fail
        refine wp_region_lit ?_
        refine wpList_run (by kernel_rfl) (.int .i64 (i : Int)) V2 rfl ?_
        simp only [Act.put, List.setIfInBounds_toArray, List.set_cons_zero, List.set_cons_succ]
        refine wpList_run (by kernel_rfl) (.int .i64 ((i + 1 : Nat) : Int)) V2 (xo_addI (i : Int) 1 ((i + 1 : Nat) : Int) (by omega) (by omega) (by omega) rfl rfl rfl) ?_
        simp only [Act.put, List.setIfInBounds_toArray, List.set_cons_zero, List.set_cons_succ]
        refine wpList_run (by kernel_rfl) (.int .i64 ((i + 1 : Nat) : Int)) V2 rfl ?_
        simp only [Act.put, List.setIfInBounds_toArray, List.set_cons_zero, List.set_cons_succ]
        refine wpList_nil ?_
        have hcs := cntF_succ HEx.out HEy.out
        rw [if_neg hxy] at hcs
        have C0_2 := Lib.hid (bel_step B0.out B1.out)
        have hq5 := C0_2.out
        go_wp2_with fail
        go_roundw
        case rel => exact ⟨i + 1, by omega, by go_num, (by rw [hcs, ← hdn] <;> rfl), hq5⟩
        case measure => simp [intOf]; omega
    · obtain rfl : cm = i := by omega
      by_cases hin : cm < n
      · have hci2 : ((cm : Int) < (n : Int)) := by omega
        have hci3 : ¬ ((cm : Int) < (m : Int)) := by omega
        go_upto_region 3 with fail
        refine wp_region_lit ?_
        refine wpList_run (by kernel_rfl) (.int .i64 (cm : Int)) wo rfl ?_
        simp only [Act.put, List.setIfInBounds_toArray, List.set_cons_zero, List.set_cons_succ]
        refine wpList_run (by kernel_rfl) (.slice A n c) wo rfl ?_
        simp only [Act.put, List.setIfInBounds_toArray, List.set_cons_zero, List.set_cons_succ]
        refine wpList_run (by kernel_rfl) (.int .i64 (n : Int)) wo (xo_len A n c Try.underlying22 rfl rfl) ?_
        simp only [Act.put, List.setIfInBounds_toArray, List.set_cons_zero, List.set_cons_succ]
        refine wpList_run (by kernel_rfl) (.bool true) wo (xo_lssT .i64 (cm : Int) (n : Int) (by omega) rfl rfl rfl) ?_
        simp only [Act.put, List.setIfInBounds_toArray, List.set_cons_zero, List.set_cons_succ]
        refine wpList_run (by kernel_rfl) (.bool true) wo rfl ?_
        simp only [Act.put, List.setIfInBounds_toArray, List.set_cons_zero, List.set_cons_succ]
        refine wpList_run (by kernel_rfl) (.int .i64 (cm : Int)) wo rfl ?_
        simp only [Act.put, List.setIfInBounds_toArray, List.set_cons_zero, List.set_cons_succ]
        refine wpList_run (by kernel_rfl) (.slice E m d) wo rfl ?_
        simp only [Act.put, List.setIfInBounds_toArray, List.set_cons_zero, List.set_cons_succ]
        refine wpList_run (by kernel_rfl) (.int .i64 (m : Int)) wo (xo_len E m d Try.underlying22 rfl rfl) ?_
        simp only [Act.put, List.setIfInBounds_toArray, List.set_cons_zero, List.set_cons_succ]
        refine wpList_run (by kernel_rfl) (.bool false) wo (xo_lssF .i64 (cm : Int) (m : Int) (by omega) rfl rfl rfl) ?_
        simp only [Act.put, List.setIfInBounds_toArray, List.set_cons_zero, List.set_cons_succ]
        refine wpList_run (by kernel_rfl) (.bool false) wo rfl ?_
        simp only [Act.put, List.setIfInBounds_toArray, List.set_cons_zero, List.set_cons_succ]
        refine wpList_nil ?_
        go_upto_region 7 with fail
        refine wp_region_lit ?_
        refine wpList_run (by kernel_rfl) (.int .i64 (dn : Int)) wo rfl ?_
        simp only [Act.put, List.setIfInBounds_toArray, List.set_cons_zero, List.set_cons_succ]
        refine wpList_run (by kernel_rfl) (.int .i64 (dn : Int)) wo rfl ?_
        simp only [Act.put, List.setIfInBounds_toArray, List.set_cons_zero, List.set_cons_succ]
        refine wpList_nil ?_
        go_wp2_with fail
        go_ret
        exact ⟨by unfold dstF; rw [hxl, hyl, hcm, hmx, hbs, hdn] <;> rfl, B0.out⟩
      · have hci2 : ¬ ((cm : Int) < (n : Int)) := by omega
        go_upto_region 3 with fail
        refine wp_region_lit ?_
        refine wpList_run (by kernel_rfl) (.int .i64 (cm : Int)) wo rfl ?_
        simp only [Act.put, List.setIfInBounds_toArray, List.set_cons_zero, List.set_cons_succ]
        refine wpList_run (by kernel_rfl) (.slice A n c) wo rfl ?_
        simp only [Act.put, List.setIfInBounds_toArray, List.set_cons_zero, List.set_cons_succ]
        refine wpList_run (by kernel_rfl) (.int .i64 (n : Int)) wo (xo_len A n c Try.underlying22 rfl rfl) ?_
        simp only [Act.put, List.setIfInBounds_toArray, List.set_cons_zero, List.set_cons_succ]
        refine wpList_run (by kernel_rfl) (.bool false) wo (xo_lssF .i64 (cm : Int) (n : Int) (by omega) rfl rfl rfl) ?_
        simp only [Act.put, List.setIfInBounds_toArray, List.set_cons_zero, List.set_cons_succ]
        refine wpList_run (by kernel_rfl) (.bool false) wo rfl ?_
        simp only [Act.put, List.setIfInBounds_toArray, List.set_cons_zero, List.set_cons_succ]
        refine wpList_skip (by kernel_rfl) ?_
        try simp only [Act.put, List.setIfInBounds_toArray, List.set_cons_zero, List.set_cons_succ]
        refine wpList_skip (by kernel_rfl) ?_
        try simp only [Act.put, List.setIfInBounds_toArray, List.set_cons_zero, List.set_cons_succ]
        refine wpList_skip (by kernel_rfl) ?_
        try simp only [Act.put, List.setIfInBounds_toArray, List.set_cons_zero, List.set_cons_succ]
        refine wpList_skip (by kernel_rfl) ?_
        try simp only [Act.put, List.setIfInBounds_toArray, List.set_cons_zero, List.set_cons_succ]
        refine wpList_run (by kernel_rfl) (.bool false) wo rfl ?_
        simp only [Act.put, List.setIfInBounds_toArray, List.set_cons_zero, List.set_cons_succ]
        refine wpList_nil ?_
        go_upto_region 7 with fail
        refine wp_region_lit ?_
        refine wpList_run (by kernel_rfl) (.int .i64 (dn : Int)) wo rfl ?_
        simp only [Act.put, List.setIfInBounds_toArray, List.set_cons_zero, List.set_cons_succ]
        refine wpList_run (by kernel_rfl) (.int .i64 (dn : Int)) wo rfl ?_
        simp only [Act.put, List.setIfInBounds_toArray, List.set_cons_zero, List.set_cons_succ]
        refine wpList_nil ?_
        go_wp2_with fail
        go_ret
        exact ⟨by unfold dstF; rw [hxl, hyl, hcm, hmx, hbs, hdn] <;> rfl, B0.out⟩
set_option maxRecDepth 100000 in
set_option maxHeartbeats 8000000 in
theorem rsame_any (A : Option Addr) (n c : Nat) (xs : List Gold.F) (E : Option Addr) (m d : Nat) (ys : List Gold.F) (hn : n ≤ 1048576) (hm : m ≤ 1048576) (w : World) (hX : Sg feC 1 w A n c xs) (hY : Sg feC 1 w E m d ys) :
    Calls Try.prog 17 #[.slice A n c, .slice E m d] w fun e w' => e = .returned (.bool (decide (xs = ys))) ∧ Below w.heap.size w w' := by
  have HX := Lib.hid hX
  have HY := Lib.hid hY
  have hxl := hX.len
  have hyl := hY.len
  have hc1 := hX.cap
  have ht1 := hX.top
  have hc2 := hY.cap
  have ht2 := hY.top
  clear hX hY
  go_enter Try.func17, Try.ntmps17
  go_upto_region 1 with fail
  by_cases hnm : n = m
  · have hci0 : ((n : Int) = (m : Int)) := by omega
    obtain ⟨ds, hds⟩ : ∃ ds, dstF xs ys = ds := ⟨_, rfl⟩
    have hd0 := dst_zero (hxl.trans (hnm.trans hyl.symm))
    rw [hds] at hd0
    by_cases hz : ds = 0
    · have hci1 : ((ds : Int) = 0) := by omega
      have hxy := hd0.1 hz
      refine wp_region_lit ?_
      refine wpList_run (by kernel_rfl) (.slice A n c) w rfl ?_
      simp only [Act.put, List.setIfInBounds_toArray, List.set_cons_zero, List.set_cons_succ]
      refine wpList_run (by kernel_rfl) (.int .i64 (n : Int)) w (xo_len A n c Try.underlying22 rfl rfl) ?_
      simp only [Act.put, List.setIfInBounds_toArray, List.set_cons_zero, List.set_cons_succ]
      refine wpList_run (by kernel_rfl) (.slice E m d) w rfl ?_
      simp only [Act.put, List.setIfInBounds_toArray, List.set_cons_zero, List.set_cons_succ]
      refine wpList_run (by kernel_rfl) (.int .i64 (m : Int)) w (xo_len E m d Try.underlying22 rfl rfl) ?_
      simp only [Act.put, List.setIfInBounds_toArray, List.set_cons_zero, List.set_cons_succ]
      refine wpList_run (by kernel_rfl) (.bool true) w (xo_eqlT .i64 (n : Int) (m : Int) (by omega) rfl rfl rfl) ?_
      simp only [Act.put, List.setIfInBounds_toArray, List.set_cons_zero, List.set_cons_succ]
      refine wpList_run (by kernel_rfl) (.bool true) w rfl ?_
      simp only [Act.put, List.setIfInBounds_toArray, List.set_cons_zero, List.set_cons_succ]
      refine wpList_run (by kernel_rfl) (.slice A n c) w rfl ?_
      simp only [Act.put, List.setIfInBounds_toArray, List.set_cons_zero, List.set_cons_succ]
      refine wpList_run (by kernel_rfl) (.slice E m d) w rfl ?_
      simp only [Act.put, List.setIfInBounds_toArray, List.set_cons_zero, List.set_cons_succ]
      refine wpList_call (by kernel_rfl) 20 Try.func20 (by kernel_rfl) (by kernel_rfl) _ _ #[.slice A n c, .slice E m d] rfl (by kernel_rfl) ?_
      refine (rdistance_any A n c xs E m d ys hn hm w HX.out HY.out).mono ?_
      rintro e V1 ⟨rfl, hb⟩
      have B0 := Lib.hid hb
      rw [hds]
      clear hb 
      refine ⟨_, rfl, ?_⟩
      simp only [Act.put, List.setIfInBounds_toArray, List.set_cons_zero, List.set_cons_succ]
      refine wpList_run (by kernel_rfl) (.bool true) V1 (xo_eqlT .i64 (ds : Int) 0 (by omega) rfl rfl rfl) ?_
      simp only [Act.put, List.setIfInBounds_toArray, List.set_cons_zero, List.set_cons_succ]
      refine wpList_run (by kernel_rfl) (.bool true) V1 rfl ?_
      simp only [Act.put, List.setIfInBounds_toArray, List.set_cons_zero, List.set_cons_succ]
      refine wpList_run (by kernel_rfl) (.bool true) V1 rfl ?_
      simp only [Act.put, List.setIfInBounds_toArray, List.set_cons_zero, List.set_cons_succ]
      refine wpList_nil ?_
      go_wp2_with fail
      go_ret
      exact ⟨by rw [decide_eq_true hxy]; rfl, B0.out⟩
    · have hci1 : ¬ ((ds : Int) = 0) := by omega
      have hxy : ¬ xs = ys := fun h => hz (hd0.2 h)
      refine wp_region_lit ?_
      refine wpList_run (by kernel_rfl) (.slice A n c) w rfl ?_
      simp only [Act.put, List.setIfInBounds_toArray, List.set_cons_zero, List.set_cons_succ]
      refine wpList_run (by kernel_rfl) (.int .i64 (n : Int)) w (xo_len A n c Try.underlying22 rfl rfl) ?_
      simp only [Act.put, List.setIfInBounds_toArray, List.set_cons_zero, List.set_cons_succ]
      refine wpList_run (by kernel_rfl) (.slice E m d) w rfl ?_
      simp only [Act.put, List.setIfInBounds_toArray, List.set_cons_zero, List.set_cons_succ]
      refine wpList_run (by kernel_rfl) (.int .i64 (m : Int)) w (xo_len E m d Try.underlying22 rfl rfl) ?_
      simp only [Act.put, List.setIfInBounds_toArray, List.set_cons_zero, List.set_cons_succ]
      refine wpList_run (by kernel_rfl) (.bool true) w (xo_eqlT .i64 (n : Int) (m : Int) (by omega) rfl rfl rfl) ?_
      simp only [Act.put, List.setIfInBounds_toArray, List.set_cons_zero, List.set_cons_succ]
      refine wpList_run (by kernel_rfl) (.bool true) w rfl ?_
      simp only [Act.put, List.setIfInBounds_toArray, List.set_cons_zero, List.set_cons_succ]
      refine wpList_run (by kernel_rfl) (.slice A n c) w rfl ?_
      simp only [Act.put, List.setIfInBounds_toArray, List.set_cons_zero, List.set_cons_succ]
      refine wpList_run (by kernel_rfl) (.slice E m d) w rfl ?_
      simp only [Act.put, List.setIfInBounds_toArray, List.set_cons_zero, List.set_cons_succ]
      refine wpList_call (by kernel_rfl) 20 Try.func20 (by kernel_rfl) (by kernel_rfl) _ _ #[.slice A n c, .slice E m d] rfl (by kernel_rfl) ?_
      refine (rdistance_any A n c xs E m d ys hn hm w HX.out HY.out).mono ?_
      rintro e V1 ⟨rfl, hb⟩
      have B0 := Lib.hid hb
      rw [hds]
      clear hb 
      refine ⟨_, rfl, ?_⟩
      simp only [Act.put, List.setIfInBounds_toArray, List.set_cons_zero, List.set_cons_succ]
      refine wpList_run (by kernel_rfl) (.bool false) V1 (xo_eqlF .i64 (ds : Int) 0 (by omega) rfl rfl rfl) ?_
      simp only [Act.put, List.setIfInBounds_toArray, List.set_cons_zero, List.set_cons_succ]
      refine wpList_run (by kernel_rfl) (.bool false) V1 rfl ?_
      simp only [Act.put, List.setIfInBounds_toArray, List.set_cons_zero, List.set_cons_succ]
      refine wpList_run (by kernel_rfl) (.bool false) V1 rfl ?_
      simp only [Act.put, List.setIfInBounds_toArray, List.set_cons_zero, List.set_cons_succ]
      refine wpList_nil ?_
      go_wp2_with fail
      go_ret
      exact ⟨by rw [decide_eq_false hxy]; rfl, B0.out⟩
  · have hci0 : ¬ ((n : Int) = (m : Int)) := by omega
    have hxy : ¬ xs = ys := fun h => hnm (by rw [← hxl, ← hyl, h])
    refine wp_region_lit ?_
    refine wpList_run (by kernel_rfl) (.slice A n c) w rfl ?_
    simp only [Act.put, List.setIfInBounds_toArray, List.set_cons_zero, List.set_cons_succ]
    refine wpList_run (by kernel_rfl) (.int .i64 (n : Int)) w (xo_len A n c Try.underlying22 rfl rfl) ?_
    simp only [Act.put, List.setIfInBounds_toArray, List.set_cons_zero, List.set_cons_succ]
    refine wpList_run (by kernel_rfl) (.slice E m d) w rfl ?_
    simp only [Act.put, List.setIfInBounds_toArray, List.set_cons_zero, List.set_cons_succ]
    refine wpList_run (by kernel_rfl) (.int .i64 (m : Int)) w (xo_len E m d Try.underlying22 rfl rfl) ?_
    simp only [Act.put, List.setIfInBounds_toArray, List.set_cons_zero, List.set_cons_succ]
    refine wpList_run (by kernel_rfl) (.bool false) w (xo_eqlF .i64 (n : Int) (m : Int) (by omega) rfl rfl rfl) ?_
    simp only [Act.put, List.setIfInBounds_toArray, List.set_cons_zero, List.set_cons_succ]
    refine wpList_run (by kernel_rfl) (.bool false) w rfl ?_
    simp only [Act.put, List.setIfInBounds_toArray, List.set_cons_zero, List.set_cons_succ]
    refine wpList_skip (by kernel_rfl) ?_
    try simp only [Act.put, List.setIfInBounds_toArray, List.set_cons_zero, List.set_cons_succ]
    refine wpList_skip (by kernel_rfl) ?_
    try simp only [Act.put, List.setIfInBounds_toArray, List.set_cons_zero, List.set_cons_succ]
    refine wpList_skip (by kernel_rfl) ?_
    try simp only [Act.put, List.setIfInBounds_toArray, List.set_cons_zero, List.set_cons_succ]
    refine wpList_skip (by kernel_rfl) ?_
    try simp only [Act.put, List.setIfInBounds_toArray, List.set_cons_zero, List.set_cons_succ]
    refine wpList_run (by kernel_rfl) (.bool false) w rfl ?_
    simp only [Act.put, List.setIfInBounds_toArray, List.set_cons_zero, List.set_cons_succ]
    refine wpList_run (by kernel_rfl) (.bool false) w rfl ?_
    simp only [Act.put, List.setIfInBounds_toArray, List.set_cons_zero, List.set_cons_succ]
    refine wpList_nil ?_
    go_wp2_with fail
    go_ret
    exact ⟨by rw [decide_eq_false hxy]; rfl, (Below.refl w.heap.size w)⟩
set_option maxRecDepth 100000 in
set_option maxHeartbeats 8000000 in
theorem rminDistance_any (n b : Nat) (hb1 : 1 ≤ b) (hbn : b * n ≤ 1048576) (w : World) : Calls Try.prog 51 #[.int .i64 (n : Int), .int .i64 (b : Int)] w fun e w' => e = .returned (.int .i64 ((b * n - n + 1 : Nat) : Int)) ∧ Below w.heap.size w w' := by
  go_enter Try.func51, Try.ntmps51
  go_upto_region 1 with fail
  obtain ⟨p, hp⟩ : ∃ p, b * n = p := ⟨_, rfl⟩
  have hpl : n ≤ p ∧ p ≤ 1048576 := by rw [← hp]; exact ⟨Nat.le_mul_of_pos_left _ (by omega), hbn⟩
  refine wp_region_lit ?_
  refine wpList_run (by kernel_rfl) (.int .i64 (b : Int)) w rfl ?_
  simp only [Act.put, List.setIfInBounds_toArray, List.set_cons_zero, List.set_cons_succ]
  refine wpList_run (by kernel_rfl) (.int .i64 (n : Int)) w rfl ?_
  simp only [Act.put, List.setIfInBounds_toArray, List.set_cons_zero, List.set_cons_succ]
  refine wpList_run (by kernel_rfl) (.int .i64 (p : Int)) w (xo_mulI (b : Int) (n : Int) (p : Int) (by rw [← hp]; simp) (by omega) (by omega) rfl rfl rfl) ?_
  simp only [Act.put, List.setIfInBounds_toArray, List.set_cons_zero, List.set_cons_succ]
  refine wpList_run (by kernel_rfl) (.int .i64 (n : Int)) w rfl ?_
  simp only [Act.put, List.setIfInBounds_toArray, List.set_cons_zero, List.set_cons_succ]
  refine wpList_run (by kernel_rfl) (.int .i64 ((p - n : Nat) : Int)) w (xo_subI (p : Int) (n : Int) ((p - n : Nat) : Int) (by omega) (by omega) (by omega) rfl rfl rfl) ?_
  simp only [Act.put, List.setIfInBounds_toArray, List.set_cons_zero, List.set_cons_succ]
  refine wpList_run (by kernel_rfl) (.int .i64 (((p - n) + 1 : Nat) : Int)) w (xo_addI ((p - n : Nat) : Int) 1 (((p - n) + 1 : Nat) : Int) (by omega) (by omega) (by omega) rfl rfl rfl) ?_
  simp only [Act.put, List.setIfInBounds_toArray, List.set_cons_zero, List.set_cons_succ]
  refine wpList_run (by kernel_rfl) (.int .i64 (((p - n) + 1 : Nat) : Int)) w rfl ?_
  simp only [Act.put, List.setIfInBounds_toArray, List.set_cons_zero, List.set_cons_succ]
  refine wpList_nil ?_
  go_wp2_with fail
  go_ret
  exact ⟨by rw [hp]; rfl, (Below.refl w.heap.size w)⟩
set_option maxRecDepth 100000 in
set_option maxHeartbeats 8000000 in
theorem blowup_any (q : Nat) (hq : q < 256) (w : World) : Calls Try.prog 21 #[.int .u8 (q : Int)] w fun e w' => e = .returned (.int .i64 ((2 ^ (q % 3 + 1) : Nat) : Int)) ∧ Below w.heap.size w w' := by
  go_enter Try.func21, Try.ntmps21
  go_upto_region 1 with fail
  obtain ⟨r, hr⟩ : ∃ r, q % 3 = r := ⟨_, rfl⟩
  have hr3 : r < 3 := by omega
  obtain ⟨b, hb⟩ : ∃ b, 2 * 2 ^ r = b := ⟨_, rfl⟩
  have hb8 : b ≤ 8 := by rw [← hb]; have h3 : 2 ^ r ≤ 2 ^ 2 := Nat.pow_le_pow_right (by omega) (by omega); omega
  refine wp_region_lit ?_
  refine wpList_run (by kernel_rfl) (.int .u8 (q : Int)) w rfl ?_
  simp only [Act.put, List.setIfInBounds_toArray, List.set_cons_zero, List.set_cons_succ]
  refine wpList_run (by kernel_rfl) (.int .u8 (r : Int)) w (xo_remN .u8 q 3 r (by omega) hr rfl rfl rfl) ?_
  simp only [Act.put, List.setIfInBounds_toArray, List.set_cons_zero, List.set_cons_succ]
  refine wpList_run (by kernel_rfl) (.int .i64 (b : Int)) w (xo_shlI .u8 2 r b hb (by omega) rfl rfl rfl) ?_
  simp only [Act.put, List.setIfInBounds_toArray, List.set_cons_zero, List.set_cons_succ]
  refine wpList_run (by kernel_rfl) (.int .i64 (b : Int)) w rfl ?_
  simp only [Act.put, List.setIfInBounds_toArray, List.set_cons_zero, List.set_cons_succ]
  refine wpList_nil ?_
  go_wp2_with fail
  go_ret
  exact ⟨by rw [hr, Nat.pow_succ, Nat.mul_comm, hb]; rfl, (Below.refl w.heap.size w)⟩
set_option maxRecDepth 100000 in
set_option maxHeartbeats 8000000 in
theorem rmade_any (A : Option Addr) (n c : Nat) (zs : List Nat) (lg : Nat) (hlg : lg ≤ 10) (hb : ∀ z ∈ zs, z < 18446744073709551616) (w : World) (hX : Sg wdC 1 w A n c zs) :
    Calls Try.prog 22 #[.slice A n c, .int .i64 (lg : Int)] w fun e w' => ∃ A' c', e = .returned (.slice A' (2 ^ lg) c') ∧ w'.ownsRow w.heap.size 29 1 (.slice A' (2 ^ lg) c') (2 ^ lg) (fl feC (Gold.mdF zs (2 ^ lg))) ∧ Below w.heap.size w w' := by
  have HX := Lib.hid hX
  have hxl := hX.len
  have hcp := hX.cap
  have htp := hX.top
  have HB := Lib.hid hb
  have hN64 : 2 ^ lg ≤ 1024 := Nat.pow_le_pow_right (n := 2) (by omega) hlg
  clear hX hb
  obtain ⟨N, hN⟩ : ∃ N, 2 ^ lg = N := ⟨_, rfl⟩
  rw [hN] at hN64 ⊢
  go_enter Try.func22, Try.ntmps22
  go_upto_region 1 with fail
  refine wp_region_lit ?_
  refine wpList_mk (by kernel_rfl) #[] 29 0 0 (xo_empty (size := 1) Try.underlying22 (by kernel_rfl) rfl w) ?_
  intro g8 V1 hge h0 hb
  have hge2 := Nat.le_trans (Below.refl w.heap.size w).size hge
  have B0 := Lib.hid hb
  have Ow8 : Hid (V1.ownsRow w.heap.size 29 1 (.slice (some ⟨g8, 0, none⟩) 0 0) 0 (fl feC [])) := Lib.hid (own_new h0 hge2)
  clear hge hge2 h0 hb
  simp only [ptr, Act.put, List.setIfInBounds_toArray, List.set_cons_zero, List.set_cons_succ]
  refine wpList_run (by kernel_rfl) (.slice (some ⟨g8, 0, none⟩) 0 0) V1 rfl ?_
  simp only [Act.put, List.setIfInBounds_toArray, List.set_cons_zero, List.set_cons_succ]
  refine wpList_nil ?_
  go_upto_region 2 with fail
  refine wp_region_lit ?_
  refine wpList_run (by kernel_rfl) (.int .i64 0) V1 rfl ?_
  simp only [Act.put, List.setIfInBounds_toArray, List.set_cons_zero, List.set_cons_succ]
  refine wpList_nil ?_
  have O0 := Ow8.out
  have O1 := B0.out
  go_wp2_with fail
  go_loopw [5, 6, 7] (fun v p xv wr => ∃ i : Nat, i ≤ N ∧ p = .int .i64 i ∧ wr.ownsRow w.heap.size 29 1 v i (fl feC (Gold.mdF zs i)) ∧ Below w.heap.size w wr) (fun _ p _ _ => N - (intOf p).toNat)
  case atStart => exact ⟨0, Nat.zero_le _, rfl, O0, O1⟩
  case round =>
    clear O1 O0
    obtain ⟨wo, rfl⟩ : ∃ wo : World, wo = wr := ⟨_, rfl⟩
    obtain ⟨i, hi, rfl, hOW, hb0⟩ := hrel
    have hbr := hb0
    clear B0
    have B0 := Lib.hid hbr
    clear hbr
    have OW := Lib.hid hOW
    clear hb0 hOW
    by_cases hi1 : i < N
    · have hci3 : ((i : Int) < (N : Int)) := by omega
      go_upto_region 3 with fail
      refine wp_region_lit ?_
      refine wpList_run (by kernel_rfl) (.int .i64 (i : Int)) wo rfl ?_
      simp only [Act.put, List.setIfInBounds_toArray, List.set_cons_zero, List.set_cons_succ]
      refine wpList_run (by kernel_rfl) (.int .i64 (lg : Int)) wo rfl ?_
      simp only [Act.put, List.setIfInBounds_toArray, List.set_cons_zero, List.set_cons_succ]
      refine wpList_run (by kernel_rfl) (.int .i64 (N : Int)) wo (xo_shlI .i64 1 lg N (by rw [Nat.one_mul]; exact hN) (by omega) rfl rfl rfl) ?_
      simp only [Act.put, List.setIfInBounds_toArray, List.set_cons_zero, List.set_cons_succ]
      refine wpList_run (by kernel_rfl) (.bool true) wo (xo_lssT .i64 (i : Int) (N : Int) (by omega) rfl rfl rfl) ?_
      simp only [Act.put, List.setIfInBounds_toArray, List.set_cons_zero, List.set_cons_succ]
      refine wpList_nil ?_
      go_upto_region 5 with fail
      refine wp_region_lit ?_
      refine wpList_run (by kernel_rfl) (.int .u64 0) wo rfl ?_
      simp only [Act.put, List.setIfInBounds_toArray, List.set_cons_zero, List.set_cons_succ]
      refine wpList_nil ?_
      by_cases hin : i < n
      · have hci4 : ((i : Int) < (n : Int)) := by omega
        go_upto_region 6 with fail
        refine wp_region_lit ?_
        refine wpList_run (by kernel_rfl) (.int .i64 (i : Int)) wo rfl ?_
        simp only [Act.put, List.setIfInBounds_toArray, List.set_cons_zero, List.set_cons_succ]
        refine wpList_run (by kernel_rfl) (.slice A n c) wo rfl ?_
        simp only [Act.put, List.setIfInBounds_toArray, List.set_cons_zero, List.set_cons_succ]
        refine wpList_run (by kernel_rfl) (.int .i64 (n : Int)) wo (xo_len A n c Try.underlying22 rfl rfl) ?_
        simp only [Act.put, List.setIfInBounds_toArray, List.set_cons_zero, List.set_cons_succ]
        refine wpList_run (by kernel_rfl) (.bool true) wo (xo_lssT .i64 (i : Int) (n : Int) (by omega) rfl rfl rfl) ?_
        simp only [Act.put, List.setIfInBounds_toArray, List.set_cons_zero, List.set_cons_succ]
        refine wpList_nil ?_
        obtain ⟨z, hz⟩ : ∃ z, zs[i]? = some z := ⟨_, List.getElem?_eq_getElem (by omega)⟩
        have HZL := Lib.hid (HB.out z (List.mem_of_getElem? hz))
        have HZE := Lib.hid (show zs.getD i 0 = z by rw [List.getD_eq_getElem?_getD, hz]; rfl)
        have HZX := Lib.hid hz
        clear hz
        go_upto_region 7 with fail
        refine wp_region_lit ?_
        refine wpList_run (by kernel_rfl) (.slice A n c) wo rfl ?_
        simp only [Act.put, List.setIfInBounds_toArray, List.set_cons_zero, List.set_cons_succ]
        refine wpList_run (by kernel_rfl) (.int .i64 (i : Int)) wo rfl ?_
        simp only [Act.put, List.setIfInBounds_toArray, List.set_cons_zero, List.set_cons_succ]
        refine wpList_run (by kernel_rfl) (.pointer (some (gad A (i * 1)))) wo (xg_idx .i64 (HX.out.keep B0.out) HZX.out Try.underlying22 (by kernel_rfl) rfl rfl rfl) ?_
        simp only [Act.put, List.setIfInBounds_toArray, List.set_cons_zero, List.set_cons_succ]
        refine wpList_run (by kernel_rfl) (.int .u64 (z : Int)) wo (xg_load1 (E := wdC) (i := i) (j := 0) (HX.out.keep B0.out) HZX.out rfl rfl Try.underlying29 rfl rfl rfl) ?_
        simp only [Act.put, List.setIfInBounds_toArray, List.set_cons_zero, List.set_cons_succ]
        refine wpList_call (by kernel_rfl) 37 Try.func37 (by kernel_rfl) (by kernel_rfl) _ _ #[.int .u64 (z : Int)] rfl (by kernel_rfl) ?_
        refine (J.rreduceF (z : Int) wo ⟨by omega, by have := HZL.out; omega⟩).mono ?_
        rintro e W1 ⟨rfl, hw1⟩
        rw [hw1]
        clear hw1 W1
        refine ⟨_, rfl, ?_⟩
        simp only [Act.put, List.setIfInBounds_toArray, List.set_cons_zero, List.set_cons_succ]
        refine wpList_run (by kernel_rfl) (.int .u64 (Gold.vF (Gold.toF (z : Int)))) wo rfl ?_
        simp only [Act.put, List.setIfInBounds_toArray, List.set_cons_zero, List.set_cons_succ]
        refine wpList_nil ?_
        go_upto_region 8 with fail
        refine wp_region_lit ?_
        refine wpList_run (by kernel_rfl) (u5) wo rfl ?_
        simp only [Act.put, List.setIfInBounds_toArray, List.set_cons_zero, List.set_cons_succ]
        refine wpList_run (by kernel_rfl) (.int .u64 (Gold.vF (Gold.toF (z : Int)))) wo rfl ?_
        simp only [Act.put, List.setIfInBounds_toArray, List.set_cons_zero, List.set_cons_succ]
        refine wpList_mk (by kernel_rfl) ([(Gold.toF (z : Int))].flatMap feC).toArray 29 1 1 (xg_lit (E := feC) (bytes := 8) (.int .u64 0) [.tmp 25] [(Gold.toF (z : Int))] 1 Try.underlying22 (by kernel_rfl) rfl (by decide) (by decide) rfl rfl) ?_
        intro g26 V2 hge h0 hb
        have Ge5 : Hid (wo.heap.size ≤ g26) := Lib.hid hge
        have B1 := Lib.hid hb
        have Fv6_26 : Hid (RowG feC V2 g26 29 ([(Gold.toF (z : Int))])) := Lib.hid (h0)
        have Lt7 : Hid (g26 < V2.heap.size) := Lib.hid (xp_lt Fv6_26.out)
        clear hge h0 hb
        simp only [ptr, Act.put, List.setIfInBounds_toArray, List.set_cons_zero, List.set_cons_succ]
        have C0_2 := Lib.hid (bel_step B0.out B1.out)
        refine wpList_app2 (size := 1) (by kernel_rfl) (.tmp 24) (.tmp 26) 22 rfl (.int .u64 0) 8 Try.underlying22 (by kernel_rfl) rfl (by decide) rfl (own_keep OW.out B1.out) (some ⟨g26, 0, none⟩) 1 1 (fl feC ([(Gold.toF (z : Int))])) rfl (RowG.sg (n := 1) (c := 1) Fv6_26.out (show ([(Gold.toF (z : Int))]).length = 1 from rfl) (Nat.le_refl _) (by omega)).src (by unfold maxLen; omega) (by omega) C0_2.out.size ?_
        intro v27 X2_8 ho hb1 hg hloc
        have hox : X2_8.ownsRow w.heap.size 29 1 v27 (i + 1) (fl feC ((Gold.mdF zs i) ++ ([(Gold.toF (z : Int))]))) := by rw [fl_append]; exact ho
        have hbr := C0_2.out.trans hb1
        clear B0
        have B0 := Lib.hid hbr
        clear hbr
        have Ow27_9 := Lib.hid hox
        clear ho hox hb1 hg hloc
        simp only [ptr, Act.put, List.setIfInBounds_toArray, List.set_cons_zero, List.set_cons_succ]
        refine wpList_run (by kernel_rfl) (v27) X2_8 rfl ?_
        simp only [Act.put, List.setIfInBounds_toArray, List.set_cons_zero, List.set_cons_succ]
        refine wpList_nil ?_
        have hko := Ow27_9.out
        have hme : Gold.mdF zs i ++ [(Gold.toF (z : Int))] = Gold.mdF zs (i + 1) := by rw [Gold.mdF_succ, HZE.out] <;> rfl
        rw [hme] at hko
        go_upto_region 4 with fail
        refine wp_region_lit ?_
        refine wpList_run (by kernel_rfl) (.int .i64 (i : Int)) X2_8 rfl ?_
        simp only [Act.put, List.setIfInBounds_toArray, List.set_cons_zero, List.set_cons_succ]
        refine wpList_run (by kernel_rfl) (.int .i64 ((i + 1 : Nat) : Int)) X2_8 (xo_addI (i : Int) 1 ((i + 1 : Nat) : Int) (by omega) (by omega) (by omega) rfl rfl rfl) ?_
        simp only [Act.put, List.setIfInBounds_toArray, List.set_cons_zero, List.set_cons_succ]
        refine wpList_run (by kernel_rfl) (.int .i64 ((i + 1 : Nat) : Int)) X2_8 rfl ?_
        simp only [Act.put, List.setIfInBounds_toArray, List.set_cons_zero, List.set_cons_succ]
        refine wpList_nil ?_
        have hq10 := B0.out
        go_wp2_with fail
        go_roundw
        case rel => exact ⟨i + 1, by omega, by go_num, hko, hq10⟩
        case measure => simp [intOf]; omega
      · have hci4 : ¬ ((i : Int) < (n : Int)) := by omega
        go_upto_region 6 with fail
        refine wp_region_lit ?_
        refine wpList_run (by kernel_rfl) (.int .i64 (i : Int)) wo rfl ?_
        simp only [Act.put, List.setIfInBounds_toArray, List.set_cons_zero, List.set_cons_succ]
        refine wpList_run (by kernel_rfl) (.slice A n c) wo rfl ?_
        simp only [Act.put, List.setIfInBounds_toArray, List.set_cons_zero, List.set_cons_succ]
        refine wpList_run (by kernel_rfl) (.int .i64 (n : Int)) wo (xo_len A n c Try.underlying22 rfl rfl) ?_
        simp only [Act.put, List.setIfInBounds_toArray, List.set_cons_zero, List.set_cons_succ]
        refine wpList_run (by kernel_rfl) (.bool false) wo (xo_lssF .i64 (i : Int) (n : Int) (by omega) rfl rfl rfl) ?_
        simp only [Act.put, List.setIfInBounds_toArray, List.set_cons_zero, List.set_cons_succ]
        refine wpList_nil ?_
        have HZN := Lib.hid (show zs.getD i 0 = 0 by rw [List.getD_eq_getElem?_getD, List.getElem?_eq_none (by omega)]; rfl)
        go_upto_region 8 with fail
        refine wp_region_lit ?_
        refine wpList_run (by kernel_rfl) (u5) wo rfl ?_
        simp only [Act.put, List.setIfInBounds_toArray, List.set_cons_zero, List.set_cons_succ]
        refine wpList_run (by kernel_rfl) (.int .u64 0) wo rfl ?_
        simp only [Act.put, List.setIfInBounds_toArray, List.set_cons_zero, List.set_cons_succ]
        refine wpList_mk (by kernel_rfl) ([(0 : Gold.F)].flatMap feC).toArray 29 1 1 (xg_lit (E := feC) (bytes := 8) (.int .u64 0) [.tmp 25] [(0 : Gold.F)] 1 Try.underlying22 (by kernel_rfl) rfl (by decide) (by decide) rfl rfl) ?_
        intro g26 V2 hge h0 hb
        have Ge5 : Hid (wo.heap.size ≤ g26) := Lib.hid hge
        have B1 := Lib.hid hb
        have Fv6_26 : Hid (RowG feC V2 g26 29 ([(0 : Gold.F)])) := Lib.hid (h0)
        have Lt7 : Hid (g26 < V2.heap.size) := Lib.hid (xp_lt Fv6_26.out)
        clear hge h0 hb
        simp only [ptr, Act.put, List.setIfInBounds_toArray, List.set_cons_zero, List.set_cons_succ]
        have C0_2 := Lib.hid (bel_step B0.out B1.out)
        refine wpList_app2 (size := 1) (by kernel_rfl) (.tmp 24) (.tmp 26) 22 rfl (.int .u64 0) 8 Try.underlying22 (by kernel_rfl) rfl (by decide) rfl (own_keep OW.out B1.out) (some ⟨g26, 0, none⟩) 1 1 (fl feC ([(0 : Gold.F)])) rfl (RowG.sg (n := 1) (c := 1) Fv6_26.out (show ([(0 : Gold.F)]).length = 1 from rfl) (Nat.le_refl _) (by omega)).src (by unfold maxLen; omega) (by omega) C0_2.out.size ?_
        intro v27 X2_8 ho hb1 hg hloc
        have hox : X2_8.ownsRow w.heap.size 29 1 v27 (i + 1) (fl feC ((Gold.mdF zs i) ++ ([(0 : Gold.F)]))) := by rw [fl_append]; exact ho
        have hbr := C0_2.out.trans hb1
        clear B0
        have B0 := Lib.hid hbr
        clear hbr
        have Ow27_9 := Lib.hid hox
        clear ho hox hb1 hg hloc
        simp only [ptr, Act.put, List.setIfInBounds_toArray, List.set_cons_zero, List.set_cons_succ]
        refine wpList_run (by kernel_rfl) (v27) X2_8 rfl ?_
        simp only [Act.put, List.setIfInBounds_toArray, List.set_cons_zero, List.set_cons_succ]
        refine wpList_nil ?_
        have hko := Ow27_9.out
        have hme : Gold.mdF zs i ++ [(0 : Gold.F)] = Gold.mdF zs (i + 1) := by rw [Gold.mdF_succ, HZN.out] <;> rfl
        rw [hme] at hko
        go_upto_region 4 with fail
        refine wp_region_lit ?_
        refine wpList_run (by kernel_rfl) (.int .i64 (i : Int)) X2_8 rfl ?_
        simp only [Act.put, List.setIfInBounds_toArray, List.set_cons_zero, List.set_cons_succ]
        refine wpList_run (by kernel_rfl) (.int .i64 ((i + 1 : Nat) : Int)) X2_8 (xo_addI (i : Int) 1 ((i + 1 : Nat) : Int) (by omega) (by omega) (by omega) rfl rfl rfl) ?_
        simp only [Act.put, List.setIfInBounds_toArray, List.set_cons_zero, List.set_cons_succ]
        refine wpList_run (by kernel_rfl) (.int .i64 ((i + 1 : Nat) : Int)) X2_8 rfl ?_
        simp only [Act.put, List.setIfInBounds_toArray, List.set_cons_zero, List.set_cons_succ]
        refine wpList_nil ?_
        have hq10 := B0.out
        go_wp2_with fail
        go_roundw
        case rel => exact ⟨i + 1, by omega, by go_num, hko, hq10⟩
        case measure => simp [intOf]; omega
    · have hci3 : ¬ ((i : Int) < (N : Int)) := by omega
      go_upto_region 3 with fail
      refine wp_region_lit ?_
      refine wpList_run (by kernel_rfl) (.int .i64 (i : Int)) wo rfl ?_
      simp only [Act.put, List.setIfInBounds_toArray, List.set_cons_zero, List.set_cons_succ]
      refine wpList_run (by kernel_rfl) (.int .i64 (lg : Int)) wo rfl ?_
      simp only [Act.put, List.setIfInBounds_toArray, List.set_cons_zero, List.set_cons_succ]
      refine wpList_run (by kernel_rfl) (.int .i64 (N : Int)) wo (xo_shlI .i64 1 lg N (by rw [Nat.one_mul]; exact hN) (by omega) rfl rfl rfl) ?_
      simp only [Act.put, List.setIfInBounds_toArray, List.set_cons_zero, List.set_cons_succ]
      refine wpList_run (by kernel_rfl) (.bool false) wo (xo_lssF .i64 (i : Int) (N : Int) (by omega) rfl rfl rfl) ?_
      simp only [Act.put, List.setIfInBounds_toArray, List.set_cons_zero, List.set_cons_succ]
      refine wpList_nil ?_
      go_upto_region 9 with fail
      refine wp_region_lit ?_
      refine wpList_run (by kernel_rfl) (u5) wo rfl ?_
      simp only [Act.put, List.setIfInBounds_toArray, List.set_cons_zero, List.set_cons_succ]
      refine wpList_run (by kernel_rfl) (u5) wo rfl ?_
      simp only [Act.put, List.setIfInBounds_toArray, List.set_cons_zero, List.set_cons_succ]
      refine wpList_nil ?_
      obtain rfl : N = i := by omega
      obtain ⟨Ar, cr, hvr⟩ := own_form OW.out
      subst hvr
      have hfin := OW.out
      go_wp2_with fail
      go_ret
      exact ⟨Ar, cr, rfl, hfin, B0.out⟩
end Go.Proofs.Ytkefijogpiofbaa

