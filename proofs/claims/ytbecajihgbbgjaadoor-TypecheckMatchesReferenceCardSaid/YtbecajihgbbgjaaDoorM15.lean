/- Several texts in one: Yct. -/
import Derived.Test.YtbecajihgbbgjaaDoorM07
import Derived.Test.YtbecajihgbbgjaaDoorM14
import Derived.Test.YtbecajihgbbgjaaDoorM13
set_option linter.unusedVariables false
set_option linter.unusedSimpArgs false
set_option linter.unusedSectionVars false
namespace Go.Proofs.YtbecajihgbbgjaaDoor
set_option maxRecDepth 8000
open Go.RowKit Go.Proofs.YtbecajihgbbgjaaDoor.K
attribute [local irreducible] wpList wpQuiet
namespace Ty
theorem ru_of {q : Qu.Qy} {v : Nat} {l : List Qu.Cd} (hl : q.fs[v / 16]? = some l) : ruN q v = l := by unfold ruN; rw [List.getD_eq_getElem?_getD, hl]; rfl
theorem cn_bk (l : List Qu.Cd) (c v rows : Nat) : (if satN l = true ∧ posN l c v = true then (rows : Int) else 0) = ((if satN l = true then rows * cnN l c v ^ 1 else 0 : Nat) : Int) := by
 unfold cnN
 by_cases h1 : satN l = true
 ·by_cases h2 : posN l c v = true
  ·rw [if_pos ⟨h1, h2⟩, if_pos h1, if_pos h2, Nat.pow_one, Nat.mul_one]
  ·rw [if_neg (fun e => h2 e.2), if_pos h1, if_neg h2, Nat.pow_one, Nat.mul_zero]
   rfl
 ·rw [if_neg (fun e => h1 e.1), if_neg h1]
  rfl
theorem bk_g {q : Qu.Qy} {rows v : Nat} {l : List Qu.Cd} (h4 : 4 ≤ q.kind) (h6 : q.kind ≤ 6) (hl : q.fs[0]? = some l) (hv : v < 16) : (if satN l = true ∧ posN l q.col v = true then (rows : Int) else 0) = ((bdN q rows v : Nat) : Int) := by
 rw [cn_bk]
 unfold bdN
 rw [ru_of (l := l) (by rw [show v / 16 = 0 by omega]; exact hl), mo_g l v h4 h6]
theorem bk_7 {q : Qu.Qy} {rows v u : Nat} {l : List Qu.Cd} (h7 : q.kind = 7) (hl : q.fs[v / 16]? = some l) (hu : v % 16 = u) : (if satN l = true ∧ posN l 0 u = true then (rows : Int) else 0) = ((bdN q rows v : Nat) : Int) := by
 rw [cn_bk]
 unfold bdN
 rw [ru_of hl, mo_7 l v h7, hu]
theorem zs_map (f : Nat → Nat) (n : Nat) : zs ((List.range n).map f) = (List.range n).map fun v => ((f v : Nat) : Int) := by unfold zs; rw [List.map_map]; rfl
theorem zs_two (f : Nat → Nat) : zs ((List.range 32).map f) = ((List.range 16).map fun v => ((f v : Nat) : Int)) ++ (List.range 16).map fun v => ((f (16 + v) : Nat) : Int) := by
 rw [zs_map, show (32 : Nat) = 16 + 16 from rfl, List.range_add, List.map_append, List.map_map]
 rfl
theorem ck_all {q : Qu.Qy} {rows : Nat} (ht : ¬ (4 ≤ q.kind ∧ q.kind ≤ 6 ∧ q.col % 2 = 1)) (h3 : q.kind ≠ 3) (hr : rows ≤ 65536) : ckN q rows = ((List.range (suN q.kind)).map (bdN q rows), 0) := ck_ok ht fun v _ => bd_lt h3 hr v
theorem pw_yes {rows m k p : Nat} (h : rows * m ^ k = p) (hl : p < 2 ^ 62) : pwN rows m k = (p, true) := by unfold pwN; rw [h, if_pos hl]
theorem pw_no {rows m k p : Nat} (h : rows * m ^ k = p) (hl : ¬ p < 2 ^ 62) : pwN rows m k = (0, false) := by unfold pwN; rw [h, if_neg hl]
theorem lg_sat {l : List Qu.Cd} (h : satN l = true) {c : Nat} (hc : c < 4) : lgN l c = ((spC l c).2 : Int) := by
 unfold lgN
 rw [if_pos ((sat_iff l).1 h c hc)]
/-- one sum -/
theorem ck_one {q : Qu.Qy} {rows p : Nat} (hk : 1 ≤ q.kind) (hk3 : q.kind ≤ 3) (hp : bdN q rows 0 = p) (hl : p < 2 ^ 62) : ckN q rows = ([p], 0) := by
 have hs : suN q.kind = 1 := by rcases (show q.kind = 1 ∨ q.kind = 2 ∨ q.kind = 3 by omega) with h | h | h <;> rw [h] <;> rfl
 rw [ck_ok (by omega) (fun v hv => by rw [hs] at hv; rw [show v = 0 by omega, hp]; exact hl), hs]
 show ([bdN q rows 0], 0) = _
 rw [hp]
theorem ck_big {q : Qu.Qy} {rows p : Nat} (hk3 : q.kind = 3) (hp : bdN q rows 0 = p) (hl : ¬ p < 2 ^ 62) : ckN q rows = ([], 141) :=
 ck_bad (v := 0) (by omega) (by rw [hk3]; decide) (by rw [hp]; exact hl)
end Ty
set_option maxRecDepth 100000 in
set_option maxHeartbeats 32000000 in
theorem rcheck_ok (kd col k : Nat) (A : Option Addr) (n c : Nat) (hs : List Hd) (fs : List (List Qu.Cd)) (hq : OkQ ⟨kd, col, k, fs⟩) (rows : Nat) (hrows : rows ≤ 65536) (r : List Nat × Nat) (hr : Ty.ckN ⟨kd, col, k, fs⟩ rows = r) (w : World) (hF : FsR w A n c hs (fs.map (List.map Qu.Cd.ci))) :
  Calls Tryd.prog 12 #[.agg #[.int .i64 (kd : Int), .int .i64 (col : Int), .int .i64 (k : Int), .slice A n c], .int .i64 (rows : Int)] w fun e w' => ∃ A2 n2 c2, e = .returned (.tuple #[.agg #[.slice A2 n2 c2], .int .i64 (r.2 : Int)]) ∧ Sg zzC 1 w' A2 n2 c2 (Ty.zs r.1) ∧ Below w.heap.size w w' := by
 have HFR := zh hF
 have HR := zh hr
 have HOK := zh hq
 have HV := zh (vQ_of ⟨kd, col, k, fs⟩ hq)
 have hk1 : 1 ≤ kd := hq.k1
 have hk7 : kd ≤ 7 := hq.k7
 have hcol : col < 4 := okQ_col hq
 have hkk : k ≤ 65536 := okQ_k hq
 have hnf : fs.length = Qu.numF kd := hq.nf
 have hnf1 : 0 < fs.length := by rw [hnf]; unfold Qu.numF; split <;> decide
 have hln := hF.sg.len
 have hlc := hF.sg.cap
 have hlt := hF.sg.top
 have hfl := hF.len
 rw [List.length_map] at hfl
 clear hF hr hq
 obtain ⟨l0, hl0⟩ : ∃ l, fs[0]? = some l := ⟨_, List.getElem?_eq_getElem hnf1⟩
 obtain ⟨h0, hh0⟩ : ∃ h, hs[0]? = some h := ⟨_, List.getElem?_eq_getElem (by omega)⟩
 have HL0 := zh hl0
 have HH0 := zh hh0
 clear hl0 hh0
 have HLM0 : Hid ((fs.map (List.map Qu.Cd.ci))[0]? = some (l0.map Qu.Cd.ci)) := zh (by rw [List.getElem?_map, HL0.out]; rfl)
 go_enter Tryd.func12, Tryd.ntmps12
 go_upto_region 1 with fail
 refine wp_named2 (fun V1 hb g0 g1 hlt => ?_)
 have B0 := zh hb
 have Fv0_2 : Hid (V1.heap[w.heap.size]? = some (.cells #[.int .i64 (kd : Int), .int .i64 (col : Int), .int .i64 (k : Int), .slice A n c] 24 (0, 0))) := zh (g0)
 have Fv1_4 : Hid (V1.heap[(w.heap.size + 1)]? = some (.cells #[.slice none 0 0] 29 (0, 0))) := zh (g1)
 have Nb0_1 : Hid (w.heap.size ≠ (w.heap.size + 1)) := zh (by omega)
 have Gb0 : Hid (w.heap.size ≤ w.heap.size) := zh (by omega)
 have Gb1 : Hid (w.heap.size ≤ (w.heap.size + 1)) := zh (by omega)
 clear hb g0 g1 hlt
 have Lt0 : Hid (w.heap.size < V1.heap.size) := zh (xp_lt Fv0_2.out)
 have Lt1 : Hid ((w.heap.size + 1) < V1.heap.size) := zh (xp_lt Fv1_4.out)
 have hci2 : ¬ ((rows : Int) < 0) := by omega
 have hci3 : ¬ ((rows : Int) > 65536) := by omega
 refine wp_region_lit ?_
 refine zr (.agg #[.int .i64 (kd : Int), .int .i64 (col : Int), .int .i64 (k : Int), .slice A n c]) V1 (xo_loadW w.heap.size _ Fv0_2.out Tryd.underlying24 rfl (by kernel_rfl) rfl rfl) ?_
 simp only [Act.put, zA]
 refine wpList_call (by kernel_rfl) 33 Tryd.func33 (by kernel_rfl) (by kernel_rfl) _ _ #[.agg #[.int .i64 (kd : Int), .int .i64 (col : Int), .int .i64 (k : Int), .slice A n c]] rfl (by kernel_rfl) ?_
 refine (rvalid_as13 (kd : Int) (col : Int) (k : Int) A n c hs (fs.map (List.map Qu.Cd.ci)) true HV.out V1 (HFR.out.keep B0.out)).mono ?_
 rintro e V2 ⟨rfl, hb⟩
 have B1 := zh hb
 clear hb 
 refine ⟨_, rfl, ?_⟩
 simp only [Act.put, zA]
 refine zr (.bool false) V2 rfl ?_
 simp only [Act.put, zA]
 refine zr (.bool false) V2 rfl ?_
 simp only [Act.put, zA]
 refine zr (.int .i64 (rows : Int)) V2 rfl ?_
 simp only [Act.put, zA]
 refine zr (.bool false) V2 (xo_lssF .i64 (rows : Int) 0 (by omega) rfl rfl rfl) ?_
 simp only [Act.put, zA]
 refine zr (.bool false) V2 rfl ?_
 simp only [Act.put, zA]
 refine zr (.bool false) V2 rfl ?_
 simp only [Act.put, zA]
 refine zr (.int .i64 (rows : Int)) V2 rfl ?_
 simp only [Act.put, zA]
 refine zr (.bool false) V2 (xo_gtrF .i64 (rows : Int) 65536 (by omega) rfl rfl rfl) ?_
 simp only [Act.put, zA]
 refine zr (.bool false) V2 rfl ?_
 simp only [Act.put, zA]
 refine wpList_nil ?_
 by_cases ht : 4 ≤ kd ∧ kd ≤ 6 ∧ col % 2 = 1
 ·have hci4 : ((kd : Int) ≥ 4) := by omega
  have hci5 : ((kd : Int) ≤ 6) := by omega
  have hci6 : (8 = 8) := by omega
  go_upto_region 3 with fail
  refine wp_region_lit ?_
  refine zr (.pointer (some ⟨w.heap.size, 0, none⟩)) V2 (xo_fld0 0 w.heap.size 0 (by kernel_rfl) rfl rfl) ?_
  simp only [Act.put, zA]
  refine zr (.int .i64 (kd : Int)) V2 (xo_load1 ⟨w.heap.size, 0, none⟩ _ (cells_at (heap_keep Fv0_2.out B1.out) 0 rfl) Tryd.underlying3 rfl rfl rfl) ?_
  simp only [Act.put, zA]
  refine zr (.bool true) V2 (xo_geqT .i64 (kd : Int) 4 (by omega) rfl rfl rfl) ?_
  simp only [Act.put, zA]
  refine zr (.bool true) V2 rfl ?_
  simp only [Act.put, zA]
  refine zr (.pointer (some ⟨w.heap.size, 0, none⟩)) V2 (xo_fld0 0 w.heap.size 0 (by kernel_rfl) rfl rfl) ?_
  simp only [Act.put, zA]
  refine zr (.int .i64 (kd : Int)) V2 (xo_load1 ⟨w.heap.size, 0, none⟩ _ (cells_at (heap_keep Fv0_2.out B1.out) 0 rfl) Tryd.underlying3 rfl rfl rfl) ?_
  simp only [Act.put, zA]
  refine zr (.bool true) V2 (xo_leqT .i64 (kd : Int) 6 (by omega) rfl rfl rfl) ?_
  simp only [Act.put, zA]
  refine zr (.bool true) V2 rfl ?_
  simp only [Act.put, zA]
  refine zr (.bool true) V2 rfl ?_
  simp only [Act.put, zA]
  refine zr (.pointer (some ⟨w.heap.size, 1, none⟩)) V2 (xo_fld0 1 w.heap.size 1 (by kernel_rfl) rfl rfl) ?_
  simp only [Act.put, zA]
  refine zr (.int .i64 (col : Int)) V2 (xo_load1 ⟨w.heap.size, 1, none⟩ _ (cells_at (heap_keep Fv0_2.out B1.out) 1 rfl) Tryd.underlying3 rfl rfl rfl) ?_
  simp only [Act.put, zA]
  refine wpList_call (by kernel_rfl) 18 Tryd.func18 (by kernel_rfl) (by kernel_rfl) _ _ #[.int .i64 (col : Int)] rfl (by kernel_rfl) ?_
  refine (rbits_as (col : Int) 8 (Ty.bt_odd hcol (by omega)) V2).mono ?_
  rintro e W1 ⟨rfl, hw1⟩
  rw [hw1]
  clear hw1 W1
  refine ⟨_, rfl, ?_⟩
  simp only [Act.put, zA]
  refine zr (.bool true) V2 (xo_eqlT .i64 8 8 (by omega) rfl rfl rfl) ?_
  simp only [Act.put, zA]
  refine zr (.bool true) V2 rfl ?_
  simp only [Act.put, zA]
  refine wpList_nil ?_
  go_upto_region 4 with fail
  refine wp_region_lit ?_
  refine zr (.agg #[.slice none 0 0]) V2 (by unfold execOp; go_simp <;> rfl) ?_
  simp only [Act.put, zA]
  refine wpList_storeW (w.heap.size + 1) #[.slice none 0 0] #[.slice none 0 0] 29 (by kernel_rfl) (heap_keep Fv1_4.out B1.out) (xo_storeW (w.heap.size + 1) #[.slice none 0 0] #[.slice none 0 0] (heap_keep Fv1_4.out B1.out) (by kernel_rfl) rfl (by simp [Value.oneCell']) rfl rfl rfl) ?_
  intro X2_7 h1 hfar hbel hsz
  have YFv0_2 : X2_7.heap[w.heap.size]? = some (.cells #[.int .i64 (kd : Int), .int .i64 (col : Int), .int .i64 (k : Int), .slice A n c] 24 (0, 0)) := hfar _ _ Nb0_1.out (heap_keep Fv0_2.out B1.out)
  have C0_2 := zb B0 B1
  have hbr := hbel _ _ Gb1.out C0_2.out
  clear B0
  have B0 := zh hbr
  clear hbr
  clear Fv0_2
  have Fv0_2 : Hid (X2_7.heap[w.heap.size]? = some (.cells #[.int .i64 (kd : Int), .int .i64 (col : Int), .int .i64 (k : Int), .slice A n c] 24 (0, 0))) := zh YFv0_2
  clear YFv0_2
  clear Fv1_4
  have Fv1_4 : Hid (X2_7.heap[(w.heap.size + 1)]? = some (.cells #[.slice none 0 0] 29 (0, 0))) := zh (h1)
  have HszX2_7 := zh hsz
  clear h1 hfar hbel hsz
  simp only [ptr, Act.put, zA]
  refine zr (.int .i64 140) X2_7 rfl ?_
  simp only [Act.put, zA]
  refine wpList_nil ?_
  have hck : r = ([], 140) := by rw [← HR.out]; exact Ty.ck_type ht
  subst hck
  have hbf := B0.out
  go_wp2_with fail
  refine bodyPost_ret (v := .tuple #[.agg #[.slice none 0 0], .int .i64 140]) ?_ rfl ⟨none, 0, 0, rfl, (show Sg zzC 1 _ none 0 0 [] from Sg.nil_ _), hbf⟩
  exact results_row_tmp rfl _ _ (w.heap.size + 1) 29 _ (0, 0) _ _ rfl rfl Fv1_4.out Tryd.underlying29 rfl (by kernel_rfl)
 ·by_cases hj : kd = 4
  ·have hj4 : kd = 4 := hj
   have hnt : col % 2 = 0 := by omega
   have hci4 : ((kd : Int) ≥ 4) := by omega
   have hci5 : ((kd : Int) ≤ 6) := by omega
   have hci6 : ¬ (4 = 8) := by omega
   go_upto_region 3 with fail
   refine wp_region_lit ?_
   refine zr (.pointer (some ⟨w.heap.size, 0, none⟩)) V2 (xo_fld0 0 w.heap.size 0 (by kernel_rfl) rfl rfl) ?_
   simp only [Act.put, zA]
   refine zr (.int .i64 (kd : Int)) V2 (xo_load1 ⟨w.heap.size, 0, none⟩ _ (cells_at (heap_keep Fv0_2.out B1.out) 0 rfl) Tryd.underlying3 rfl rfl rfl) ?_
   simp only [Act.put, zA]
   refine zr (.bool true) V2 (xo_geqT .i64 (kd : Int) 4 (by omega) rfl rfl rfl) ?_
   simp only [Act.put, zA]
   refine zr (.bool true) V2 rfl ?_
   simp only [Act.put, zA]
   refine zr (.pointer (some ⟨w.heap.size, 0, none⟩)) V2 (xo_fld0 0 w.heap.size 0 (by kernel_rfl) rfl rfl) ?_
   simp only [Act.put, zA]
   refine zr (.int .i64 (kd : Int)) V2 (xo_load1 ⟨w.heap.size, 0, none⟩ _ (cells_at (heap_keep Fv0_2.out B1.out) 0 rfl) Tryd.underlying3 rfl rfl rfl) ?_
   simp only [Act.put, zA]
   refine zr (.bool true) V2 (xo_leqT .i64 (kd : Int) 6 (by omega) rfl rfl rfl) ?_
   simp only [Act.put, zA]
   refine zr (.bool true) V2 rfl ?_
   simp only [Act.put, zA]
   refine zr (.bool true) V2 rfl ?_
   simp only [Act.put, zA]
   refine zr (.pointer (some ⟨w.heap.size, 1, none⟩)) V2 (xo_fld0 1 w.heap.size 1 (by kernel_rfl) rfl rfl) ?_
   simp only [Act.put, zA]
   refine zr (.int .i64 (col : Int)) V2 (xo_load1 ⟨w.heap.size, 1, none⟩ _ (cells_at (heap_keep Fv0_2.out B1.out) 1 rfl) Tryd.underlying3 rfl rfl rfl) ?_
   simp only [Act.put, zA]
   refine wpList_call (by kernel_rfl) 18 Tryd.func18 (by kernel_rfl) (by kernel_rfl) _ _ #[.int .i64 (col : Int)] rfl (by kernel_rfl) ?_
   refine (rbits_as (col : Int) 4 (Ty.bt_even hcol (by omega)) V2).mono ?_
   rintro e W1 ⟨rfl, hw1⟩
   rw [hw1]
   clear hw1 W1
   refine ⟨_, rfl, ?_⟩
   simp only [Act.put, zA]
   refine zr (.bool false) V2 (xo_eqlF .i64 4 8 (by omega) rfl rfl rfl) ?_
   simp only [Act.put, zA]
   refine zr (.bool false) V2 rfl ?_
   simp only [Act.put, zA]
   refine wpList_nil ?_
   go_upto_region 5 with fail
   refine wp_region_lit ?_
   refine zr (.pointer (some ⟨w.heap.size, 3, none⟩)) V2 (xo_fld0 3 w.heap.size 3 (by kernel_rfl) rfl rfl) ?_
   simp only [Act.put, zA]
   refine zr (.slice A n c) V2 (xo_load1 ⟨w.heap.size, 3, none⟩ _ (cells_at (heap_keep Fv0_2.out B1.out) 3 rfl) Tryd.underlying22 rfl rfl rfl) ?_
   simp only [Act.put, zA]
   have C0_2 := zb B0 B1
   refine zr (.pointer (some (gad A (0 * 1)))) V2 (xg_idx .i64 (HFR.out.keep C0_2.out).sg HH0.out Tryd.underlying22 (by kernel_rfl) rfl rfl rfl) ?_
   simp only [Act.put, zA]
   refine zr (.slice h0.A h0.n h0.c) V2 (xg_load1 (E := hdC) (i := 0) (j := 0) (HFR.out.keep C0_2.out).sg HH0.out rfl rfl Tryd.underlying44 rfl rfl rfl) ?_
   simp only [Act.put, zA]
   refine zr (.slice h0.A h0.n h0.c) V2 rfl ?_
   simp only [Act.put, zA]
   refine wpList_nil ?_
   go_upto_region 6 with fail
   refine wp_region_lit ?_
   refine zr (.pointer (some ⟨w.heap.size, 0, none⟩)) V2 (xo_fld0 0 w.heap.size 0 (by kernel_rfl) rfl rfl) ?_
   simp only [Act.put, zA]
   refine zr (.int .i64 (kd : Int)) V2 (xo_load1 ⟨w.heap.size, 0, none⟩ _ (cells_at (heap_keep Fv0_2.out B1.out) 0 rfl) Tryd.underlying3 rfl rfl rfl) ?_
   simp only [Act.put, zA]
   refine wpList_nil ?_
   have hci7 : ((kd : Int) = 4) := by omega
   go_upto_region 7 with fail
   refine wp_region_lit ?_
   refine zr (.bool true) V2 (xo_eqlT .i64 (kd : Int) 4 (by omega) rfl rfl rfl) ?_
   simp only [Act.put, zA]
   refine zr (.bool true) V2 rfl ?_
   simp only [Act.put, zA]
   refine wpList_nil ?_
   go_upto_region 8 with fail
   refine wp_region_lit ?_
   refine zr (.slice h0.A h0.n h0.c) V2 rfl ?_
   simp only [Act.put, zA]
   refine zr (.pointer (some ⟨w.heap.size, 1, none⟩)) V2 (xo_fld0 1 w.heap.size 1 (by kernel_rfl) rfl rfl) ?_
   simp only [Act.put, zA]
   refine zr (.int .i64 (col : Int)) V2 (xo_load1 ⟨w.heap.size, 1, none⟩ _ (cells_at (heap_keep Fv0_2.out B1.out) 1 rfl) Tryd.underlying3 rfl rfl rfl) ?_
   simp only [Act.put, zA]
   refine zr (.int .i64 (rows : Int)) V2 rfl ?_
   simp only [Act.put, zA]
   refine wpList_call (by kernel_rfl) 34 Tryd.func34 (by kernel_rfl) (by kernel_rfl) _ _ #[.slice h0.A h0.n h0.c, .int .i64 (col : Int), .int .i64 (rows : Int)] rfl (by kernel_rfl) ?_
   refine (buckets_as h0.A h0.n h0.c l0 col rows hcol hrows (fun v => ((Ty.bdN ⟨kd, col, k, fs⟩ rows v : Nat) : Int)) (fun v hv => Ty.bk_g (q := ⟨kd, col, k, fs⟩) (by show 4 ≤ kd; omega) (by show kd ≤ 6; omega) HL0.out hv) V2 ((HFR.out.keep C0_2.out).row 0 h0 (l0.map Qu.Cd.ci) HH0.out HLM0.out)).mono ?_
   rintro e V3 ⟨va, rfl, hoa, hb⟩
   have B2 := zh hb
   have OWBa := zh hoa
   clear hb hoa
   refine ⟨_, rfl, ?_⟩
   simp only [Act.put, zA]
   obtain ⟨A8, c8, rfl⟩ := own_form OWBa.out
   refine zr (.agg #[.slice A8 16 c8]) V3 (by unfold execOp; go_simp <;> rfl) ?_
   simp only [Act.put, zA]
   have C1_3 := zb B1 B2
   refine wpList_storeW (w.heap.size + 1) #[.slice none 0 0] #[.slice A8 16 c8] 29 (by kernel_rfl) (heap_keep Fv1_4.out C1_3.out) (xo_storeW (w.heap.size + 1) #[.slice none 0 0] #[.slice A8 16 c8] (heap_keep Fv1_4.out C1_3.out) (by kernel_rfl) rfl (by simp [Value.oneCell']) rfl rfl rfl) ?_
   intro X3_9 h1 hfar hbel hsz
   have YOWBa : X3_9.ownsRow V2.heap.size 2 1 (.slice A8 16 c8) 16 (fl zzC ((List.range 16).map (fun v => ((Ty.bdN ⟨kd, col, k, fs⟩ rows v : Nat) : Int)))) := own_farT OWBa.out (heap_keep Fv1_4.out C1_3.out) (by decide) hfar
   have YFv0_2 : X3_9.heap[w.heap.size]? = some (.cells #[.int .i64 (kd : Int), .int .i64 (col : Int), .int .i64 (k : Int), .slice A n c] 24 (0, 0)) := hfar _ _ Nb0_1.out (heap_keep Fv0_2.out C1_3.out)
   have C0_3 := zb C0_2 B2
   have hbr := hbel _ _ Gb1.out C0_3.out
   clear B0
   have B0 := zh hbr
   clear hbr
   clear Fv0_2
   have Fv0_2 : Hid (X3_9.heap[w.heap.size]? = some (.cells #[.int .i64 (kd : Int), .int .i64 (col : Int), .int .i64 (k : Int), .slice A n c] 24 (0, 0))) := zh YFv0_2
   clear YFv0_2
   clear OWBa
   have OWBa := zh YOWBa
   clear YOWBa
   clear Fv1_4
   have Fv1_4 : Hid (X3_9.heap[(w.heap.size + 1)]? = some (.cells #[.slice A8 16 c8] 29 (0, 0))) := zh (h1)
   have HszX3_9 := zh hsz
   clear h1 hfar hbel hsz
   simp only [ptr, Act.put, zA]
   refine zr (.int .i64 0) X3_9 rfl ?_
   simp only [Act.put, zA]
   refine wpList_nil ?_
   obtain ⟨xs, hxs⟩ : ∃ xs, (List.range 16).map (Ty.bdN ⟨kd, col, k, fs⟩ rows) = xs := ⟨_, rfl⟩
   have hck : r = (xs, 0) := by rw [← HR.out, Ty.ck_all ht (by show kd ≠ 3; omega) hrows, ← hxs]; show ((List.range (Ty.suN kd)).map (Ty.bdN ⟨kd, col, k, fs⟩ rows), 0) = _; rw [hj4]; rfl
   have hbf := B0.out
   have hsg := Sg.ownS OWBa.out
   have hsg2 := hsg
   rw [← Ty.zs_map (Ty.bdN ⟨kd, col, k, fs⟩ rows) 16, hxs] at hsg2
   clear hxs hsg
   subst hck
   go_wp2_with fail
   refine bodyPost_ret (v := .tuple #[.agg #[.slice A8 16 c8], .int .i64 0]) ?_ rfl ⟨_, _, _, rfl, hsg2, hbf⟩
   exact results_row_tmp rfl _ _ (w.heap.size + 1) 29 _ (0, 0) _ _ rfl rfl Fv1_4.out Tryd.underlying29 rfl (by kernel_rfl)
  ·by_cases hj : kd = 5
   ·have hj4 : kd = 5 := hj
    have hnt : col % 2 = 0 := by omega
    have hci4 : ((kd : Int) ≥ 4) := by omega
    have hci5 : ((kd : Int) ≤ 6) := by omega
    have hci6 : ¬ (4 = 8) := by omega
    go_upto_region 3 with fail
    refine wp_region_lit ?_
    refine zr (.pointer (some ⟨w.heap.size, 0, none⟩)) V2 (xo_fld0 0 w.heap.size 0 (by kernel_rfl) rfl rfl) ?_
    simp only [Act.put, zA]
    refine zr (.int .i64 (kd : Int)) V2 (xo_load1 ⟨w.heap.size, 0, none⟩ _ (cells_at (heap_keep Fv0_2.out B1.out) 0 rfl) Tryd.underlying3 rfl rfl rfl) ?_
    simp only [Act.put, zA]
    refine zr (.bool true) V2 (xo_geqT .i64 (kd : Int) 4 (by omega) rfl rfl rfl) ?_
    simp only [Act.put, zA]
    refine zr (.bool true) V2 rfl ?_
    simp only [Act.put, zA]
    refine zr (.pointer (some ⟨w.heap.size, 0, none⟩)) V2 (xo_fld0 0 w.heap.size 0 (by kernel_rfl) rfl rfl) ?_
    simp only [Act.put, zA]
    refine zr (.int .i64 (kd : Int)) V2 (xo_load1 ⟨w.heap.size, 0, none⟩ _ (cells_at (heap_keep Fv0_2.out B1.out) 0 rfl) Tryd.underlying3 rfl rfl rfl) ?_
    simp only [Act.put, zA]
    refine zr (.bool true) V2 (xo_leqT .i64 (kd : Int) 6 (by omega) rfl rfl rfl) ?_
    simp only [Act.put, zA]
    refine zr (.bool true) V2 rfl ?_
    simp only [Act.put, zA]
    refine zr (.bool true) V2 rfl ?_
    simp only [Act.put, zA]
    refine zr (.pointer (some ⟨w.heap.size, 1, none⟩)) V2 (xo_fld0 1 w.heap.size 1 (by kernel_rfl) rfl rfl) ?_
    simp only [Act.put, zA]
    refine zr (.int .i64 (col : Int)) V2 (xo_load1 ⟨w.heap.size, 1, none⟩ _ (cells_at (heap_keep Fv0_2.out B1.out) 1 rfl) Tryd.underlying3 rfl rfl rfl) ?_
    simp only [Act.put, zA]
    refine wpList_call (by kernel_rfl) 18 Tryd.func18 (by kernel_rfl) (by kernel_rfl) _ _ #[.int .i64 (col : Int)] rfl (by kernel_rfl) ?_
    refine (rbits_as (col : Int) 4 (Ty.bt_even hcol (by omega)) V2).mono ?_
    rintro e W1 ⟨rfl, hw1⟩
    rw [hw1]
    clear hw1 W1
    refine ⟨_, rfl, ?_⟩
    simp only [Act.put, zA]
    refine zr (.bool false) V2 (xo_eqlF .i64 4 8 (by omega) rfl rfl rfl) ?_
    simp only [Act.put, zA]
    refine zr (.bool false) V2 rfl ?_
    simp only [Act.put, zA]
    refine wpList_nil ?_
    go_upto_region 5 with fail
    refine wp_region_lit ?_
    refine zr (.pointer (some ⟨w.heap.size, 3, none⟩)) V2 (xo_fld0 3 w.heap.size 3 (by kernel_rfl) rfl rfl) ?_
    simp only [Act.put, zA]
    refine zr (.slice A n c) V2 (xo_load1 ⟨w.heap.size, 3, none⟩ _ (cells_at (heap_keep Fv0_2.out B1.out) 3 rfl) Tryd.underlying22 rfl rfl rfl) ?_
    simp only [Act.put, zA]
    have C0_2 := zb B0 B1
    refine zr (.pointer (some (gad A (0 * 1)))) V2 (xg_idx .i64 (HFR.out.keep C0_2.out).sg HH0.out Tryd.underlying22 (by kernel_rfl) rfl rfl rfl) ?_
    simp only [Act.put, zA]
    refine zr (.slice h0.A h0.n h0.c) V2 (xg_load1 (E := hdC) (i := 0) (j := 0) (HFR.out.keep C0_2.out).sg HH0.out rfl rfl Tryd.underlying44 rfl rfl rfl) ?_
    simp only [Act.put, zA]
    refine zr (.slice h0.A h0.n h0.c) V2 rfl ?_
    simp only [Act.put, zA]
    refine wpList_nil ?_
    go_upto_region 6 with fail
    refine wp_region_lit ?_
    refine zr (.pointer (some ⟨w.heap.size, 0, none⟩)) V2 (xo_fld0 0 w.heap.size 0 (by kernel_rfl) rfl rfl) ?_
    simp only [Act.put, zA]
    refine zr (.int .i64 (kd : Int)) V2 (xo_load1 ⟨w.heap.size, 0, none⟩ _ (cells_at (heap_keep Fv0_2.out B1.out) 0 rfl) Tryd.underlying3 rfl rfl rfl) ?_
    simp only [Act.put, zA]
    refine wpList_nil ?_
    have hci7 : ¬ ((kd : Int) = 4) := by omega
    go_upto_region 7 with fail
    refine wp_region_lit ?_
    refine zr (.bool false) V2 (xo_eqlF .i64 (kd : Int) 4 (by omega) rfl rfl rfl) ?_
    simp only [Act.put, zA]
    refine zr (.bool false) V2 rfl ?_
    simp only [Act.put, zA]
    refine wpList_nil ?_
    have hci8 : ((kd : Int) = 5) := by omega
    go_upto_region 9 with fail
    refine wp_region_lit ?_
    refine zr (.bool true) V2 (xo_eqlT .i64 (kd : Int) 5 (by omega) rfl rfl rfl) ?_
    simp only [Act.put, zA]
    refine zr (.bool true) V2 rfl ?_
    simp only [Act.put, zA]
    refine wpList_nil ?_
    go_upto_region 10 with fail
    refine wp_region_lit ?_
    refine zr (.slice h0.A h0.n h0.c) V2 rfl ?_
    simp only [Act.put, zA]
    refine zr (.pointer (some ⟨w.heap.size, 1, none⟩)) V2 (xo_fld0 1 w.heap.size 1 (by kernel_rfl) rfl rfl) ?_
    simp only [Act.put, zA]
    refine zr (.int .i64 (col : Int)) V2 (xo_load1 ⟨w.heap.size, 1, none⟩ _ (cells_at (heap_keep Fv0_2.out B1.out) 1 rfl) Tryd.underlying3 rfl rfl rfl) ?_
    simp only [Act.put, zA]
    refine zr (.int .i64 (rows : Int)) V2 rfl ?_
    simp only [Act.put, zA]
    refine wpList_call (by kernel_rfl) 34 Tryd.func34 (by kernel_rfl) (by kernel_rfl) _ _ #[.slice h0.A h0.n h0.c, .int .i64 (col : Int), .int .i64 (rows : Int)] rfl (by kernel_rfl) ?_
    refine (buckets_as h0.A h0.n h0.c l0 col rows hcol hrows (fun v => ((Ty.bdN ⟨kd, col, k, fs⟩ rows v : Nat) : Int)) (fun v hv => Ty.bk_g (q := ⟨kd, col, k, fs⟩) (by show 4 ≤ kd; omega) (by show kd ≤ 6; omega) HL0.out hv) V2 ((HFR.out.keep C0_2.out).row 0 h0 (l0.map Qu.Cd.ci) HH0.out HLM0.out)).mono ?_
    rintro e V3 ⟨va, rfl, hoa, hb⟩
    have B2 := zh hb
    have OWBa := zh hoa
    clear hb hoa
    refine ⟨_, rfl, ?_⟩
    simp only [Act.put, zA]
    obtain ⟨A9, c9, rfl⟩ := own_form OWBa.out
    refine zr (.agg #[.slice A9 16 c9]) V3 (by unfold execOp; go_simp <;> rfl) ?_
    simp only [Act.put, zA]
    have C1_3 := zb B1 B2
    refine wpList_storeW (w.heap.size + 1) #[.slice none 0 0] #[.slice A9 16 c9] 29 (by kernel_rfl) (heap_keep Fv1_4.out C1_3.out) (xo_storeW (w.heap.size + 1) #[.slice none 0 0] #[.slice A9 16 c9] (heap_keep Fv1_4.out C1_3.out) (by kernel_rfl) rfl (by simp [Value.oneCell']) rfl rfl rfl) ?_
    intro X3_10 h1 hfar hbel hsz
    have YOWBa : X3_10.ownsRow V2.heap.size 2 1 (.slice A9 16 c9) 16 (fl zzC ((List.range 16).map (fun v => ((Ty.bdN ⟨kd, col, k, fs⟩ rows v : Nat) : Int)))) := own_farT OWBa.out (heap_keep Fv1_4.out C1_3.out) (by decide) hfar
    have YFv0_2 : X3_10.heap[w.heap.size]? = some (.cells #[.int .i64 (kd : Int), .int .i64 (col : Int), .int .i64 (k : Int), .slice A n c] 24 (0, 0)) := hfar _ _ Nb0_1.out (heap_keep Fv0_2.out C1_3.out)
    have C0_3 := zb C0_2 B2
    have hbr := hbel _ _ Gb1.out C0_3.out
    clear B0
    have B0 := zh hbr
    clear hbr
    clear Fv0_2
    have Fv0_2 : Hid (X3_10.heap[w.heap.size]? = some (.cells #[.int .i64 (kd : Int), .int .i64 (col : Int), .int .i64 (k : Int), .slice A n c] 24 (0, 0))) := zh YFv0_2
    clear YFv0_2
    clear OWBa
    have OWBa := zh YOWBa
    clear YOWBa
    clear Fv1_4
    have Fv1_4 : Hid (X3_10.heap[(w.heap.size + 1)]? = some (.cells #[.slice A9 16 c9] 29 (0, 0))) := zh (h1)
    have HszX3_10 := zh hsz
    clear h1 hfar hbel hsz
    simp only [ptr, Act.put, zA]
    refine zr (.int .i64 0) X3_10 rfl ?_
    simp only [Act.put, zA]
    refine wpList_nil ?_
    obtain ⟨xs, hxs⟩ : ∃ xs, (List.range 16).map (Ty.bdN ⟨kd, col, k, fs⟩ rows) = xs := ⟨_, rfl⟩
    have hck : r = (xs, 0) := by rw [← HR.out, Ty.ck_all ht (by show kd ≠ 3; omega) hrows, ← hxs]; show ((List.range (Ty.suN kd)).map (Ty.bdN ⟨kd, col, k, fs⟩ rows), 0) = _; rw [hj4]; rfl
    have hbf := B0.out
    have hsg := Sg.ownS OWBa.out
    have hsg2 := hsg
    rw [← Ty.zs_map (Ty.bdN ⟨kd, col, k, fs⟩ rows) 16, hxs] at hsg2
    clear hxs hsg
    subst hck
    go_wp2_with fail
    refine bodyPost_ret (v := .tuple #[.agg #[.slice A9 16 c9], .int .i64 0]) ?_ rfl ⟨_, _, _, rfl, hsg2, hbf⟩
    exact results_row_tmp rfl _ _ (w.heap.size + 1) 29 _ (0, 0) _ _ rfl rfl Fv1_4.out Tryd.underlying29 rfl (by kernel_rfl)
   ·by_cases hj : kd = 6
    ·have hj4 : kd = 6 := hj
     have hnt : col % 2 = 0 := by omega
     have hci4 : ((kd : Int) ≥ 4) := by omega
     have hci5 : ((kd : Int) ≤ 6) := by omega
     have hci6 : ¬ (4 = 8) := by omega
     go_upto_region 3 with fail
     refine wp_region_lit ?_
     refine zr (.pointer (some ⟨w.heap.size, 0, none⟩)) V2 (xo_fld0 0 w.heap.size 0 (by kernel_rfl) rfl rfl) ?_
     simp only [Act.put, zA]
     refine zr (.int .i64 (kd : Int)) V2 (xo_load1 ⟨w.heap.size, 0, none⟩ _ (cells_at (heap_keep Fv0_2.out B1.out) 0 rfl) Tryd.underlying3 rfl rfl rfl) ?_
     simp only [Act.put, zA]
     refine zr (.bool true) V2 (xo_geqT .i64 (kd : Int) 4 (by omega) rfl rfl rfl) ?_
     simp only [Act.put, zA]
     refine zr (.bool true) V2 rfl ?_
     simp only [Act.put, zA]
     refine zr (.pointer (some ⟨w.heap.size, 0, none⟩)) V2 (xo_fld0 0 w.heap.size 0 (by kernel_rfl) rfl rfl) ?_
     simp only [Act.put, zA]
     refine zr (.int .i64 (kd : Int)) V2 (xo_load1 ⟨w.heap.size, 0, none⟩ _ (cells_at (heap_keep Fv0_2.out B1.out) 0 rfl) Tryd.underlying3 rfl rfl rfl) ?_
     simp only [Act.put, zA]
     refine zr (.bool true) V2 (xo_leqT .i64 (kd : Int) 6 (by omega) rfl rfl rfl) ?_
     simp only [Act.put, zA]
     refine zr (.bool true) V2 rfl ?_
     simp only [Act.put, zA]
     refine zr (.bool true) V2 rfl ?_
     simp only [Act.put, zA]
     refine zr (.pointer (some ⟨w.heap.size, 1, none⟩)) V2 (xo_fld0 1 w.heap.size 1 (by kernel_rfl) rfl rfl) ?_
     simp only [Act.put, zA]
     refine zr (.int .i64 (col : Int)) V2 (xo_load1 ⟨w.heap.size, 1, none⟩ _ (cells_at (heap_keep Fv0_2.out B1.out) 1 rfl) Tryd.underlying3 rfl rfl rfl) ?_
     simp only [Act.put, zA]
     refine wpList_call (by kernel_rfl) 18 Tryd.func18 (by kernel_rfl) (by kernel_rfl) _ _ #[.int .i64 (col : Int)] rfl (by kernel_rfl) ?_
     refine (rbits_as (col : Int) 4 (Ty.bt_even hcol (by omega)) V2).mono ?_
     rintro e W1 ⟨rfl, hw1⟩
     rw [hw1]
     clear hw1 W1
     refine ⟨_, rfl, ?_⟩
     simp only [Act.put, zA]
     refine zr (.bool false) V2 (xo_eqlF .i64 4 8 (by omega) rfl rfl rfl) ?_
     simp only [Act.put, zA]
     refine zr (.bool false) V2 rfl ?_
     simp only [Act.put, zA]
     refine wpList_nil ?_
     go_upto_region 5 with fail
     refine wp_region_lit ?_
     refine zr (.pointer (some ⟨w.heap.size, 3, none⟩)) V2 (xo_fld0 3 w.heap.size 3 (by kernel_rfl) rfl rfl) ?_
     simp only [Act.put, zA]
     refine zr (.slice A n c) V2 (xo_load1 ⟨w.heap.size, 3, none⟩ _ (cells_at (heap_keep Fv0_2.out B1.out) 3 rfl) Tryd.underlying22 rfl rfl rfl) ?_
     simp only [Act.put, zA]
     have C0_2 := zb B0 B1
     refine zr (.pointer (some (gad A (0 * 1)))) V2 (xg_idx .i64 (HFR.out.keep C0_2.out).sg HH0.out Tryd.underlying22 (by kernel_rfl) rfl rfl rfl) ?_
     simp only [Act.put, zA]
     refine zr (.slice h0.A h0.n h0.c) V2 (xg_load1 (E := hdC) (i := 0) (j := 0) (HFR.out.keep C0_2.out).sg HH0.out rfl rfl Tryd.underlying44 rfl rfl rfl) ?_
     simp only [Act.put, zA]
     refine zr (.slice h0.A h0.n h0.c) V2 rfl ?_
     simp only [Act.put, zA]
     refine wpList_nil ?_
     go_upto_region 6 with fail
     refine wp_region_lit ?_
     refine zr (.pointer (some ⟨w.heap.size, 0, none⟩)) V2 (xo_fld0 0 w.heap.size 0 (by kernel_rfl) rfl rfl) ?_
     simp only [Act.put, zA]
     refine zr (.int .i64 (kd : Int)) V2 (xo_load1 ⟨w.heap.size, 0, none⟩ _ (cells_at (heap_keep Fv0_2.out B1.out) 0 rfl) Tryd.underlying3 rfl rfl rfl) ?_
     simp only [Act.put, zA]
     refine wpList_nil ?_
     have hci7 : ¬ ((kd : Int) = 4) := by omega
     go_upto_region 7 with fail
     refine wp_region_lit ?_
     refine zr (.bool false) V2 (xo_eqlF .i64 (kd : Int) 4 (by omega) rfl rfl rfl) ?_
     simp only [Act.put, zA]
     refine zr (.bool false) V2 rfl ?_
     simp only [Act.put, zA]
     refine wpList_nil ?_
     have hci8 : ¬ ((kd : Int) = 5) := by omega
     go_upto_region 9 with fail
     refine wp_region_lit ?_
     refine zr (.bool false) V2 (xo_eqlF .i64 (kd : Int) 5 (by omega) rfl rfl rfl) ?_
     simp only [Act.put, zA]
     refine zr (.bool false) V2 rfl ?_
     simp only [Act.put, zA]
     refine wpList_nil ?_
     have hci9 : ((kd : Int) = 6) := by omega
     go_upto_region 11 with fail
     refine wp_region_lit ?_
     refine zr (.bool true) V2 (xo_eqlT .i64 (kd : Int) 6 (by omega) rfl rfl rfl) ?_
     simp only [Act.put, zA]
     refine zr (.bool true) V2 rfl ?_
     simp only [Act.put, zA]
     refine wpList_nil ?_
     go_upto_region 12 with fail
     refine wp_region_lit ?_
     refine zr (.slice h0.A h0.n h0.c) V2 rfl ?_
     simp only [Act.put, zA]
     refine zr (.pointer (some ⟨w.heap.size, 1, none⟩)) V2 (xo_fld0 1 w.heap.size 1 (by kernel_rfl) rfl rfl) ?_
     simp only [Act.put, zA]
     refine zr (.int .i64 (col : Int)) V2 (xo_load1 ⟨w.heap.size, 1, none⟩ _ (cells_at (heap_keep Fv0_2.out B1.out) 1 rfl) Tryd.underlying3 rfl rfl rfl) ?_
     simp only [Act.put, zA]
     refine zr (.int .i64 (rows : Int)) V2 rfl ?_
     simp only [Act.put, zA]
     refine wpList_call (by kernel_rfl) 34 Tryd.func34 (by kernel_rfl) (by kernel_rfl) _ _ #[.slice h0.A h0.n h0.c, .int .i64 (col : Int), .int .i64 (rows : Int)] rfl (by kernel_rfl) ?_
     refine (buckets_as h0.A h0.n h0.c l0 col rows hcol hrows (fun v => ((Ty.bdN ⟨kd, col, k, fs⟩ rows v : Nat) : Int)) (fun v hv => Ty.bk_g (q := ⟨kd, col, k, fs⟩) (by show 4 ≤ kd; omega) (by show kd ≤ 6; omega) HL0.out hv) V2 ((HFR.out.keep C0_2.out).row 0 h0 (l0.map Qu.Cd.ci) HH0.out HLM0.out)).mono ?_
     rintro e V3 ⟨va, rfl, hoa, hb⟩
     have B2 := zh hb
     have OWBa := zh hoa
     clear hb hoa
     refine ⟨_, rfl, ?_⟩
     simp only [Act.put, zA]
     obtain ⟨A10, c10, rfl⟩ := own_form OWBa.out
     refine zr (.agg #[.slice A10 16 c10]) V3 (by unfold execOp; go_simp <;> rfl) ?_
     simp only [Act.put, zA]
     have C1_3 := zb B1 B2
     refine wpList_storeW (w.heap.size + 1) #[.slice none 0 0] #[.slice A10 16 c10] 29 (by kernel_rfl) (heap_keep Fv1_4.out C1_3.out) (xo_storeW (w.heap.size + 1) #[.slice none 0 0] #[.slice A10 16 c10] (heap_keep Fv1_4.out C1_3.out) (by kernel_rfl) rfl (by simp [Value.oneCell']) rfl rfl rfl) ?_
     intro X3_11 h1 hfar hbel hsz
     have YOWBa : X3_11.ownsRow V2.heap.size 2 1 (.slice A10 16 c10) 16 (fl zzC ((List.range 16).map (fun v => ((Ty.bdN ⟨kd, col, k, fs⟩ rows v : Nat) : Int)))) := own_farT OWBa.out (heap_keep Fv1_4.out C1_3.out) (by decide) hfar
     have YFv0_2 : X3_11.heap[w.heap.size]? = some (.cells #[.int .i64 (kd : Int), .int .i64 (col : Int), .int .i64 (k : Int), .slice A n c] 24 (0, 0)) := hfar _ _ Nb0_1.out (heap_keep Fv0_2.out C1_3.out)
     have C0_3 := zb C0_2 B2
     have hbr := hbel _ _ Gb1.out C0_3.out
     clear B0
     have B0 := zh hbr
     clear hbr
     clear Fv0_2
     have Fv0_2 : Hid (X3_11.heap[w.heap.size]? = some (.cells #[.int .i64 (kd : Int), .int .i64 (col : Int), .int .i64 (k : Int), .slice A n c] 24 (0, 0))) := zh YFv0_2
     clear YFv0_2
     clear OWBa
     have OWBa := zh YOWBa
     clear YOWBa
     clear Fv1_4
     have Fv1_4 : Hid (X3_11.heap[(w.heap.size + 1)]? = some (.cells #[.slice A10 16 c10] 29 (0, 0))) := zh (h1)
     have HszX3_11 := zh hsz
     clear h1 hfar hbel hsz
     simp only [ptr, Act.put, zA]
     refine zr (.int .i64 0) X3_11 rfl ?_
     simp only [Act.put, zA]
     refine wpList_nil ?_
     obtain ⟨xs, hxs⟩ : ∃ xs, (List.range 16).map (Ty.bdN ⟨kd, col, k, fs⟩ rows) = xs := ⟨_, rfl⟩
     have hck : r = (xs, 0) := by rw [← HR.out, Ty.ck_all ht (by show kd ≠ 3; omega) hrows, ← hxs]; show ((List.range (Ty.suN kd)).map (Ty.bdN ⟨kd, col, k, fs⟩ rows), 0) = _; rw [hj4]; rfl
     have hbf := B0.out
     have hsg := Sg.ownS OWBa.out
     have hsg2 := hsg
     rw [← Ty.zs_map (Ty.bdN ⟨kd, col, k, fs⟩ rows) 16, hxs] at hsg2
     clear hxs hsg
     subst hck
     go_wp2_with fail
     refine bodyPost_ret (v := .tuple #[.agg #[.slice A10 16 c10], .int .i64 0]) ?_ rfl ⟨_, _, _, rfl, hsg2, hbf⟩
     exact results_row_tmp rfl _ _ (w.heap.size + 1) 29 _ (0, 0) _ _ rfl rfl Fv1_4.out Tryd.underlying29 rfl (by kernel_rfl)
    ·by_cases hj : kd = 7
     ·have hj7 : kd = 7 := hj
      have hnf2 : fs.length = 2 := by rw [hnf, hj7]; rfl
      obtain ⟨l1, hl1⟩ : ∃ l, fs[1]? = some l := ⟨_, List.getElem?_eq_getElem (by omega)⟩
      obtain ⟨h1, hh1⟩ : ∃ h, hs[1]? = some h := ⟨_, List.getElem?_eq_getElem (by omega)⟩
      have HL1 := zh hl1
      have HH1 := zh hh1
      clear hl1 hh1
      have HLM1 : Hid ((fs.map (List.map Qu.Cd.ci))[1]? = some (l1.map Qu.Cd.ci)) := zh (by rw [List.getElem?_map, HL1.out]; rfl)
      have hci4 : ((kd : Int) ≥ 4) := by omega
      have hci5 : ¬ ((kd : Int) ≤ 6) := by omega
      go_upto_region 3 with fail
      refine wp_region_lit ?_
      refine zr (.pointer (some ⟨w.heap.size, 0, none⟩)) V2 (xo_fld0 0 w.heap.size 0 (by kernel_rfl) rfl rfl) ?_
      simp only [Act.put, zA]
      refine zr (.int .i64 (kd : Int)) V2 (xo_load1 ⟨w.heap.size, 0, none⟩ _ (cells_at (heap_keep Fv0_2.out B1.out) 0 rfl) Tryd.underlying3 rfl rfl rfl) ?_
      simp only [Act.put, zA]
      refine zr (.bool true) V2 (xo_geqT .i64 (kd : Int) 4 (by omega) rfl rfl rfl) ?_
      simp only [Act.put, zA]
      refine zr (.bool true) V2 rfl ?_
      simp only [Act.put, zA]
      refine zr (.pointer (some ⟨w.heap.size, 0, none⟩)) V2 (xo_fld0 0 w.heap.size 0 (by kernel_rfl) rfl rfl) ?_
      simp only [Act.put, zA]
      refine zr (.int .i64 (kd : Int)) V2 (xo_load1 ⟨w.heap.size, 0, none⟩ _ (cells_at (heap_keep Fv0_2.out B1.out) 0 rfl) Tryd.underlying3 rfl rfl rfl) ?_
      simp only [Act.put, zA]
      refine zr (.bool false) V2 (xo_leqF .i64 (kd : Int) 6 (by omega) rfl rfl rfl) ?_
      simp only [Act.put, zA]
      refine zr (.bool false) V2 rfl ?_
      simp only [Act.put, zA]
      refine zr (.bool false) V2 rfl ?_
      simp only [Act.put, zA]
      refine zl ?_
      try simp only [Act.put, zA]
      refine zl ?_
      try simp only [Act.put, zA]
      refine zl ?_
      try simp only [Act.put, zA]
      refine zl ?_
      try simp only [Act.put, zA]
      refine zr (.bool false) V2 rfl ?_
      simp only [Act.put, zA]
      refine wpList_nil ?_
      go_upto_region 5 with fail
      refine wp_region_lit ?_
      refine zr (.pointer (some ⟨w.heap.size, 3, none⟩)) V2 (xo_fld0 3 w.heap.size 3 (by kernel_rfl) rfl rfl) ?_
      simp only [Act.put, zA]
      refine zr (.slice A n c) V2 (xo_load1 ⟨w.heap.size, 3, none⟩ _ (cells_at (heap_keep Fv0_2.out B1.out) 3 rfl) Tryd.underlying22 rfl rfl rfl) ?_
      simp only [Act.put, zA]
      have C0_2 := zb B0 B1
      refine zr (.pointer (some (gad A (0 * 1)))) V2 (xg_idx .i64 (HFR.out.keep C0_2.out).sg HH0.out Tryd.underlying22 (by kernel_rfl) rfl rfl rfl) ?_
      simp only [Act.put, zA]
      refine zr (.slice h0.A h0.n h0.c) V2 (xg_load1 (E := hdC) (i := 0) (j := 0) (HFR.out.keep C0_2.out).sg HH0.out rfl rfl Tryd.underlying44 rfl rfl rfl) ?_
      simp only [Act.put, zA]
      refine zr (.slice h0.A h0.n h0.c) V2 rfl ?_
      simp only [Act.put, zA]
      refine wpList_nil ?_
      go_upto_region 6 with fail
      refine wp_region_lit ?_
      refine zr (.pointer (some ⟨w.heap.size, 0, none⟩)) V2 (xo_fld0 0 w.heap.size 0 (by kernel_rfl) rfl rfl) ?_
      simp only [Act.put, zA]
      refine zr (.int .i64 (kd : Int)) V2 (xo_load1 ⟨w.heap.size, 0, none⟩ _ (cells_at (heap_keep Fv0_2.out B1.out) 0 rfl) Tryd.underlying3 rfl rfl rfl) ?_
      simp only [Act.put, zA]
      refine wpList_nil ?_
      have hci6 : ¬ ((kd : Int) = 4) := by omega
      go_upto_region 7 with fail
      refine wp_region_lit ?_
      refine zr (.bool false) V2 (xo_eqlF .i64 (kd : Int) 4 (by omega) rfl rfl rfl) ?_
      simp only [Act.put, zA]
      refine zr (.bool false) V2 rfl ?_
      simp only [Act.put, zA]
      refine wpList_nil ?_
      have hci7 : ¬ ((kd : Int) = 5) := by omega
      go_upto_region 9 with fail
      refine wp_region_lit ?_
      refine zr (.bool false) V2 (xo_eqlF .i64 (kd : Int) 5 (by omega) rfl rfl rfl) ?_
      simp only [Act.put, zA]
      refine zr (.bool false) V2 rfl ?_
      simp only [Act.put, zA]
      refine wpList_nil ?_
      have hci8 : ¬ ((kd : Int) = 6) := by omega
      go_upto_region 11 with fail
      refine wp_region_lit ?_
      refine zr (.bool false) V2 (xo_eqlF .i64 (kd : Int) 6 (by omega) rfl rfl rfl) ?_
      simp only [Act.put, zA]
      refine zr (.bool false) V2 rfl ?_
      simp only [Act.put, zA]
      refine wpList_nil ?_
      have hci9 : ((kd : Int) = 7) := by omega
      go_upto_region 13 with fail
      refine wp_region_lit ?_
      refine zr (.bool true) V2 (xo_eqlT .i64 (kd : Int) 7 (by omega) rfl rfl rfl) ?_
      simp only [Act.put, zA]
      refine zr (.bool true) V2 rfl ?_
      simp only [Act.put, zA]
      refine wpList_nil ?_
      go_upto_region 14 with fail
      refine wp_region_lit ?_
      refine zr (.slice h0.A h0.n h0.c) V2 rfl ?_
      simp only [Act.put, zA]
      refine zr (.int .i64 (rows : Int)) V2 rfl ?_
      simp only [Act.put, zA]
      refine wpList_call (by kernel_rfl) 34 Tryd.func34 (by kernel_rfl) (by kernel_rfl) _ _ #[.slice h0.A h0.n h0.c, .int .i64 0, .int .i64 (rows : Int)] rfl (by kernel_rfl) ?_
      refine (buckets_as h0.A h0.n h0.c l0 0 rows (by decide) hrows (fun v => ((Ty.bdN ⟨kd, col, k, fs⟩ rows v : Nat) : Int)) (fun v hv => Ty.bk_7 (q := ⟨kd, col, k, fs⟩) hj7 (by rw [show v / 16 = 0 by omega]; exact HL0.out) (by omega)) V2 ((HFR.out.keep C0_2.out).row 0 h0 (l0.map Qu.Cd.ci) HH0.out HLM0.out)).mono ?_
      rintro e V3 ⟨va, rfl, hoa, hb⟩
      have B2 := zh hb
      have OWBa := zh hoa
      clear hb hoa
      refine ⟨_, rfl, ?_⟩
      simp only [Act.put, zA]
      refine zr (va) V3 rfl ?_
      simp only [Act.put, zA]
      refine wpList_nil ?_
      go_upto_region 15 with fail
      refine wp_region_lit ?_
      refine zr (va) V3 rfl ?_
      simp only [Act.put, zA]
      refine zr (.pointer (some ⟨w.heap.size, 3, none⟩)) V3 (xo_fld0 3 w.heap.size 3 (by kernel_rfl) rfl rfl) ?_
      simp only [Act.put, zA]
      have C1_3 := zb B1 B2
      refine zr (.slice A n c) V3 (xo_load1 ⟨w.heap.size, 3, none⟩ _ (cells_at (heap_keep Fv0_2.out C1_3.out) 3 rfl) Tryd.underlying22 rfl rfl rfl) ?_
      simp only [Act.put, zA]
      have C0_3 := zb C0_2 B2
      refine zr (.pointer (some (gad A (1 * 1)))) V3 (xg_idx .i64 (HFR.out.keep C0_3.out).sg HH1.out Tryd.underlying22 (by kernel_rfl) rfl rfl rfl) ?_
      simp only [Act.put, zA]
      refine zr (.slice h1.A h1.n h1.c) V3 (xg_load1 (E := hdC) (i := 1) (j := 0) (HFR.out.keep C0_3.out).sg HH1.out rfl rfl Tryd.underlying44 rfl rfl rfl) ?_
      simp only [Act.put, zA]
      refine zr (.int .i64 (rows : Int)) V3 rfl ?_
      simp only [Act.put, zA]
      refine wpList_call (by kernel_rfl) 34 Tryd.func34 (by kernel_rfl) (by kernel_rfl) _ _ #[.slice h1.A h1.n h1.c, .int .i64 0, .int .i64 (rows : Int)] rfl (by kernel_rfl) ?_
      refine (buckets_as h1.A h1.n h1.c l1 0 rows (by decide) hrows (fun v => ((Ty.bdN ⟨kd, col, k, fs⟩ rows (16 + v) : Nat) : Int)) (fun v hv => Ty.bk_7 (q := ⟨kd, col, k, fs⟩) (v := 16 + v) hj7 (by rw [show (16 + v) / 16 = 1 by omega]; exact HL1.out) (by omega)) V3 ((HFR.out.keep C0_3.out).row 1 h1 (l1.map Qu.Cd.ci) HH1.out HLM1.out)).mono ?_
      rintro e V4 ⟨vb, rfl, hob, hb⟩
      have B3 := zh hb
      obtain ⟨Ab, cb, rfl, hsb⟩ := Sg.own hob
      clear hob
      have SGB := zh hsb
      clear hb hsb
      refine ⟨_, rfl, ?_⟩
      simp only [Act.put, zA]
      have C2_4 := zb B2 B3
      refine wpList_app2 (size := 1) (by kernel_rfl) (.tmp 73) (.tmp 79) 27 rfl (.int .i64 0) 8 Tryd.underlying27 (by kernel_rfl) rfl (by decide) rfl (own_keep OWBa.out B3.out) Ab 16 cb (fl zzC ((List.range 16).map (fun v => ((Ty.bdN ⟨kd, col, k, fs⟩ rows (16 + v) : Nat) : Int)))) rfl SGB.out.src (by unfold maxLen; omega) (by omega) C2_4.out.size ?_
      intro v80 X4_10 ho hb1 hg hloc
      have hox : X4_10.ownsRow V2.heap.size 2 1 v80 32 (fl zzC (((List.range 16).map (fun v => ((Ty.bdN ⟨kd, col, k, fs⟩ rows v : Nat) : Int))) ++ ((List.range 16).map (fun v => ((Ty.bdN ⟨kd, col, k, fs⟩ rows (16 + v) : Nat) : Int))))) := by rw [fl_append]; exact ho
      have hbr := C2_4.out.trans hb1
      clear B2
      have B2 := zh hbr
      clear hbr
      have Ow80_11 := zh hox
      clear ho hox hb1 hg hloc
      simp only [ptr, Act.put, zA]
      obtain ⟨A12, c12, rfl⟩ := own_form Ow80_11.out
      refine zr (.agg #[.slice A12 32 c12]) X4_10 (by unfold execOp; go_simp <;> rfl) ?_
      simp only [Act.put, zA]
      have C1_3 := zb B1 B2
      refine wpList_storeW (w.heap.size + 1) #[.slice none 0 0] #[.slice A12 32 c12] 29 (by kernel_rfl) (heap_keep Fv1_4.out C1_3.out) (xo_storeW (w.heap.size + 1) #[.slice none 0 0] #[.slice A12 32 c12] (heap_keep Fv1_4.out C1_3.out) (by kernel_rfl) rfl (by simp [Value.oneCell']) rfl rfl rfl) ?_
      intro X3_13 h1 hfar hbel hsz
      have YOw80_11 : X3_13.ownsRow V2.heap.size 2 1 (.slice A12 32 c12) 32 (fl zzC (((List.range 16).map (fun v => ((Ty.bdN ⟨kd, col, k, fs⟩ rows v : Nat) : Int))) ++ ((List.range 16).map (fun v => ((Ty.bdN ⟨kd, col, k, fs⟩ rows (16 + v) : Nat) : Int))))) := own_farT Ow80_11.out (heap_keep Fv1_4.out C1_3.out) (by decide) hfar
      have YOw80_11 : X3_13.ownsRow V2.heap.size 2 1 (.slice A12 32 c12) 32 (fl zzC (((List.range 16).map (fun v => ((Ty.bdN ⟨kd, col, k, fs⟩ rows v : Nat) : Int))) ++ ((List.range 16).map (fun v => ((Ty.bdN ⟨kd, col, k, fs⟩ rows (16 + v) : Nat) : Int))))) := own_farT Ow80_11.out (heap_keep Fv1_4.out C1_3.out) (by decide) hfar
      have YFv0_2 : X3_13.heap[w.heap.size]? = some (.cells #[.int .i64 (kd : Int), .int .i64 (col : Int), .int .i64 (k : Int), .slice A n c] 24 (0, 0)) := hfar _ _ Nb0_1.out (heap_keep Fv0_2.out C1_3.out)
      have C0_3 := zb C0_2 B2
      have hbr := hbel _ _ Gb1.out C0_3.out
      clear B0
      have B0 := zh hbr
      clear hbr
      clear Fv0_2
      have Fv0_2 : Hid (X3_13.heap[w.heap.size]? = some (.cells #[.int .i64 (kd : Int), .int .i64 (col : Int), .int .i64 (k : Int), .slice A n c] 24 (0, 0))) := zh YFv0_2
      clear YFv0_2
      clear Ow80_11
      have Ow80_11 := zh YOw80_11
      clear YOw80_11
      clear Ow80_11
      have Ow80_11 := zh YOw80_11
      clear YOw80_11
      clear Fv1_4
      have Fv1_4 : Hid (X3_13.heap[(w.heap.size + 1)]? = some (.cells #[.slice A12 32 c12] 29 (0, 0))) := zh (h1)
      have HszX3_13 := zh hsz
      clear h1 hfar hbel hsz
      simp only [ptr, Act.put, zA]
      refine zr (.int .i64 0) X3_13 rfl ?_
      simp only [Act.put, zA]
      refine wpList_nil ?_
      obtain ⟨xs, hxs⟩ : ∃ xs, (List.range 32).map (Ty.bdN ⟨kd, col, k, fs⟩ rows) = xs := ⟨_, rfl⟩
      have hck : r = (xs, 0) := by rw [← HR.out, Ty.ck_all ht (by show kd ≠ 3; omega) hrows, ← hxs]; show ((List.range (Ty.suN kd)).map (Ty.bdN ⟨kd, col, k, fs⟩ rows), 0) = _; rw [hj7]; rfl
      have hbf := B0.out
      have hsg := Sg.ownS Ow80_11.out
      have hsg2 := hsg
      rw [← Ty.zs_two (Ty.bdN ⟨kd, col, k, fs⟩ rows), hxs] at hsg2
      clear hxs hsg
      subst hck
      go_wp2_with fail
      refine bodyPost_ret (v := .tuple #[.agg #[.slice A12 32 c12], .int .i64 0]) ?_ rfl ⟨_, _, _, rfl, hsg2, hbf⟩
      exact results_row_tmp rfl _ _ (w.heap.size + 1) 29 _ (0, 0) _ _ rfl rfl Fv1_4.out Tryd.underlying29 rfl (by kernel_rfl)
     ·have hj3 : kd ≤ 3 := by omega
      have hci4 : ¬ ((kd : Int) ≥ 4) := by omega
      go_upto_region 3 with fail
      refine wp_region_lit ?_
      refine zr (.pointer (some ⟨w.heap.size, 0, none⟩)) V2 (xo_fld0 0 w.heap.size 0 (by kernel_rfl) rfl rfl) ?_
      simp only [Act.put, zA]
      refine zr (.int .i64 (kd : Int)) V2 (xo_load1 ⟨w.heap.size, 0, none⟩ _ (cells_at (heap_keep Fv0_2.out B1.out) 0 rfl) Tryd.underlying3 rfl rfl rfl) ?_
      simp only [Act.put, zA]
      refine zr (.bool false) V2 (xo_geqF .i64 (kd : Int) 4 (by omega) rfl rfl rfl) ?_
      simp only [Act.put, zA]
      refine zr (.bool false) V2 rfl ?_
      simp only [Act.put, zA]
      refine zl ?_
      try simp only [Act.put, zA]
      refine zl ?_
      try simp only [Act.put, zA]
      refine zl ?_
      try simp only [Act.put, zA]
      refine zr (.bool false) V2 rfl ?_
      simp only [Act.put, zA]
      refine zr (.bool false) V2 rfl ?_
      simp only [Act.put, zA]
      refine zl ?_
      try simp only [Act.put, zA]
      refine zl ?_
      try simp only [Act.put, zA]
      refine zl ?_
      try simp only [Act.put, zA]
      refine zl ?_
      try simp only [Act.put, zA]
      refine zr (.bool false) V2 rfl ?_
      simp only [Act.put, zA]
      refine wpList_nil ?_
      go_upto_region 5 with fail
      refine wp_region_lit ?_
      refine zr (.pointer (some ⟨w.heap.size, 3, none⟩)) V2 (xo_fld0 3 w.heap.size 3 (by kernel_rfl) rfl rfl) ?_
      simp only [Act.put, zA]
      refine zr (.slice A n c) V2 (xo_load1 ⟨w.heap.size, 3, none⟩ _ (cells_at (heap_keep Fv0_2.out B1.out) 3 rfl) Tryd.underlying22 rfl rfl rfl) ?_
      simp only [Act.put, zA]
      have C0_2 := zb B0 B1
      refine zr (.pointer (some (gad A (0 * 1)))) V2 (xg_idx .i64 (HFR.out.keep C0_2.out).sg HH0.out Tryd.underlying22 (by kernel_rfl) rfl rfl rfl) ?_
      simp only [Act.put, zA]
      refine zr (.slice h0.A h0.n h0.c) V2 (xg_load1 (E := hdC) (i := 0) (j := 0) (HFR.out.keep C0_2.out).sg HH0.out rfl rfl Tryd.underlying44 rfl rfl rfl) ?_
      simp only [Act.put, zA]
      refine zr (.slice h0.A h0.n h0.c) V2 rfl ?_
      simp only [Act.put, zA]
      refine wpList_nil ?_
      go_upto_region 6 with fail
      refine wp_region_lit ?_
      refine zr (.pointer (some ⟨w.heap.size, 0, none⟩)) V2 (xo_fld0 0 w.heap.size 0 (by kernel_rfl) rfl rfl) ?_
      simp only [Act.put, zA]
      refine zr (.int .i64 (kd : Int)) V2 (xo_load1 ⟨w.heap.size, 0, none⟩ _ (cells_at (heap_keep Fv0_2.out B1.out) 0 rfl) Tryd.underlying3 rfl rfl rfl) ?_
      simp only [Act.put, zA]
      refine wpList_nil ?_
      have hci5 : ¬ ((kd : Int) = 4) := by omega
      go_upto_region 7 with fail
      refine wp_region_lit ?_
      refine zr (.bool false) V2 (xo_eqlF .i64 (kd : Int) 4 (by omega) rfl rfl rfl) ?_
      simp only [Act.put, zA]
      refine zr (.bool false) V2 rfl ?_
      simp only [Act.put, zA]
      refine wpList_nil ?_
      have hci6 : ¬ ((kd : Int) = 5) := by omega
      go_upto_region 9 with fail
      refine wp_region_lit ?_
      refine zr (.bool false) V2 (xo_eqlF .i64 (kd : Int) 5 (by omega) rfl rfl rfl) ?_
      simp only [Act.put, zA]
      refine zr (.bool false) V2 rfl ?_
      simp only [Act.put, zA]
      refine wpList_nil ?_
      have hci7 : ¬ ((kd : Int) = 6) := by omega
      go_upto_region 11 with fail
      refine wp_region_lit ?_
      refine zr (.bool false) V2 (xo_eqlF .i64 (kd : Int) 6 (by omega) rfl rfl rfl) ?_
      simp only [Act.put, zA]
      refine zr (.bool false) V2 rfl ?_
      simp only [Act.put, zA]
      refine wpList_nil ?_
      have hci8 : ¬ ((kd : Int) = 7) := by omega
      go_upto_region 13 with fail
      refine wp_region_lit ?_
      refine zr (.bool false) V2 (xo_eqlF .i64 (kd : Int) 7 (by omega) rfl rfl rfl) ?_
      simp only [Act.put, zA]
      refine zr (.bool false) V2 rfl ?_
      simp only [Act.put, zA]
      refine wpList_nil ?_
      cases HST : Ty.satN l0 with
      | false =>
       go_upto_region 16 with fail
       refine wp_region_lit ?_
       refine zr (.slice h0.A h0.n h0.c) V2 rfl ?_
       simp only [Act.put, zA]
       refine wpList_call (by kernel_rfl) 25 Tryd.func25 (by kernel_rfl) (by kernel_rfl) _ _ #[.slice h0.A h0.n h0.c] rfl (by kernel_rfl) ?_
       refine (satisfiable_as h0.A h0.n h0.c l0 false HST V2 ((HFR.out.keep C0_2.out).row 0 h0 (l0.map Qu.Cd.ci) HH0.out HLM0.out)).mono ?_
       rintro e V3 ⟨rfl, hb⟩
       have B2 := zh hb
       clear hb 
       refine ⟨_, rfl, ?_⟩
       simp only [Act.put, zA]
       refine zr (.bool true) V3 rfl ?_
       simp only [Act.put, zA]
       refine wpList_nil ?_
       go_upto_region 17 with fail
       refine wp_region_lit ?_
       refine wpList_mk (by kernel_rfl) ([0].flatMap zzC).toArray 2 1 1 (xg_lit (E := zzC) (bytes := 8) (.int .i64 0) [.const (.int .i64 0)] [0] 1 Tryd.underlying27 (by kernel_rfl) rfl (by decide) (by decide) rfl rfl) ?_
       intro g85 V4 hge h0 hb
       have C1_3 := zb B1 B2
       have N9_0 : Hid (w.heap.size ≠ g85) := zh (xp_lt0 (heap_keep Fv0_2.out C1_3.out) hge)
       have N10_1 : Hid ((w.heap.size + 1) ≠ g85) := zh (xp_lt0 (heap_keep Fv1_4.out C1_3.out) hge)
       have Ge11 : Hid (V3.heap.size ≤ g85) := zh hge
       have B3 := zh hb
       have Fv12_85 : Hid (RowG zzC V4 g85 2 ([0])) := zh (h0)
       have Lt13 : Hid (g85 < V4.heap.size) := zh (xp_lt Fv12_85.out)
       clear hge h0 hb
       simp only [ptr, Act.put, zA]
       refine zr (.agg #[.slice (some ⟨g85, 0, none⟩) 1 1]) V4 (by unfold execOp; go_simp <;> rfl) ?_
       simp only [Act.put, zA]
       have C1_4 := zb C1_3 B3
       refine wpList_storeW (w.heap.size + 1) #[.slice none 0 0] #[.slice (some ⟨g85, 0, none⟩) 1 1] 29 (by kernel_rfl) (heap_keep Fv1_4.out C1_4.out) (xo_storeW (w.heap.size + 1) #[.slice none 0 0] #[.slice (some ⟨g85, 0, none⟩) 1 1] (heap_keep Fv1_4.out C1_4.out) (by kernel_rfl) rfl (by simp [Value.oneCell']) rfl rfl rfl) ?_
       intro X4_14 h1 hfar hbel hsz
       have YFv0_2 : X4_14.heap[w.heap.size]? = some (.cells #[.int .i64 (kd : Int), .int .i64 (col : Int), .int .i64 (k : Int), .slice A n c] 24 (0, 0)) := hfar _ _ Nb0_1.out (heap_keep Fv0_2.out C1_4.out)
       have YFv12_85 : RowG zzC X4_14 g85 2 ([0]) := hfar _ _ (Ne.symm N10_1.out) Fv12_85.out
       have C0_3 := zb C0_2 B2
       have Gs15 : Hid (w.heap.size ≤ g85) := zh (Nat.le_trans C0_3.out.size Ge11.out)
       have C0_4 := zb C0_3 B3
       have hbr := hbel _ _ Gb1.out C0_4.out
       clear B0
       have B0 := zh hbr
       clear hbr
       clear Fv0_2
       have Fv0_2 : Hid (X4_14.heap[w.heap.size]? = some (.cells #[.int .i64 (kd : Int), .int .i64 (col : Int), .int .i64 (k : Int), .slice A n c] 24 (0, 0))) := zh YFv0_2
       clear YFv0_2
       clear Fv12_85
       have Fv12_85 : Hid (RowG zzC X4_14 g85 2 ([0])) := zh YFv12_85
       clear YFv12_85
       clear Fv1_4
       have Fv1_4 : Hid (X4_14.heap[(w.heap.size + 1)]? = some (.cells #[.slice (some ⟨g85, 0, none⟩) 1 1] 29 (0, 0))) := zh (h1)
       have HszX4_14 := zh hsz
       clear h1 hfar hbel hsz
       simp only [ptr, Act.put, zA]
       refine zr (.int .i64 0) X4_14 rfl ?_
       simp only [Act.put, zA]
       refine wpList_nil ?_
       have hck : r = ([0], 0) := by rw [← HR.out]; exact Ty.ck_one (q := ⟨kd, col, k, fs⟩) hk1 hj3 (Ty.bd_un (q := ⟨kd, col, k, fs⟩) rows HL0.out HST) (by decide)
       subst hck
       have hbf := B0.out
       have hsg := (show Sg zzC 1 _ _ 1 1 (Ty.zs [0]) from (RowG.sg (n := 1) (c := 1) Fv12_85.out (show ([0]).length = 1 from rfl) (Nat.le_refl _) (by omega)))
       go_wp2_with fail
       refine bodyPost_ret (v := .tuple #[.agg #[.slice (some ⟨g85, 0, none⟩) 1 1], .int .i64 0]) ?_ rfl ⟨_, _, _, rfl, hsg, hbf⟩
       exact results_row_tmp rfl _ _ (w.heap.size + 1) 29 _ (0, 0) _ _ rfl rfl Fv1_4.out Tryd.underlying29 rfl (by kernel_rfl)
      | true =>
       go_upto_region 16 with fail
       refine wp_region_lit ?_
       refine zr (.slice h0.A h0.n h0.c) V2 rfl ?_
       simp only [Act.put, zA]
       refine wpList_call (by kernel_rfl) 25 Tryd.func25 (by kernel_rfl) (by kernel_rfl) _ _ #[.slice h0.A h0.n h0.c] rfl (by kernel_rfl) ?_
       refine (satisfiable_as h0.A h0.n h0.c l0 true HST V2 ((HFR.out.keep C0_2.out).row 0 h0 (l0.map Qu.Cd.ci) HH0.out HLM0.out)).mono ?_
       rintro e V3 ⟨rfl, hb⟩
       have B2 := zh hb
       clear hb 
       refine ⟨_, rfl, ?_⟩
       simp only [Act.put, zA]
       refine zr (.bool false) V3 rfl ?_
       simp only [Act.put, zA]
       refine wpList_nil ?_
       go_upto_region 18 with fail
       refine wp_region_lit ?_
       refine zr (.int .i64 0) V3 rfl ?_
       simp only [Act.put, zA]
       refine wpList_nil ?_
       obtain ⟨m0, hm0⟩ : ∃ z, (Ty.spC l0 col).2 = z := ⟨_, rfl⟩
       have HM0 := zh hm0
       clear hm0
       have hm5 : m0 ≤ 255 := by rw [← HM0.out]; exact Nat.le_trans (Ty.hi_le l0 col) (Ty.maxN_le col)
       obtain ⟨p0, hp0⟩ : ∃ z, Ty.bdN ⟨kd, col, k, fs⟩ rows 0 = z := ⟨_, rfl⟩
       have HP0 := zh hp0
       clear hp0
       by_cases hj1 : kd = 1
       ·have hz2 : ¬ kd = 2 := by omega
        have hz3 : ¬ kd = 3 := by omega
        have hci9 : ¬ ((kd : Int) = 2) := by omega
        go_upto_region 19 with fail
        refine wp_region_lit ?_
        refine zr (.pointer (some ⟨w.heap.size, 0, none⟩)) V3 (xo_fld0 0 w.heap.size 0 (by kernel_rfl) rfl rfl) ?_
        simp only [Act.put, zA]
        have C1_3 := zb B1 B2
        refine zr (.int .i64 (kd : Int)) V3 (xo_load1 ⟨w.heap.size, 0, none⟩ _ (cells_at (heap_keep Fv0_2.out C1_3.out) 0 rfl) Tryd.underlying3 rfl rfl rfl) ?_
        simp only [Act.put, zA]
        refine zr (.bool false) V3 (xo_eqlF .i64 (kd : Int) 2 (by omega) rfl rfl rfl) ?_
        simp only [Act.put, zA]
        refine wpList_nil ?_
        have hci10 : ¬ ((kd : Int) = 3) := by omega
        go_upto_region 21 with fail
        refine wp_region_lit ?_
        refine zr (.pointer (some ⟨w.heap.size, 0, none⟩)) V3 (xo_fld0 0 w.heap.size 0 (by kernel_rfl) rfl rfl) ?_
        simp only [Act.put, zA]
        refine zr (.int .i64 (kd : Int)) V3 (xo_load1 ⟨w.heap.size, 0, none⟩ _ (cells_at (heap_keep Fv0_2.out C1_3.out) 0 rfl) Tryd.underlying3 rfl rfl rfl) ?_
        simp only [Act.put, zA]
        refine zr (.bool false) V3 (xo_eqlF .i64 (kd : Int) 3 (by omega) rfl rfl rfl) ?_
        simp only [Act.put, zA]
        refine wpList_nil ?_
        have hpw : rows * m0 ^ 0 = p0 := by rw [← HP0.out, Ty.bd_of (q := ⟨kd, col, k, fs⟩) HL0.out HST (Ty.mo_1 l0 0 hj1)]; exact (show rows * 1 ^ 1 = rows * m0 ^ 0 from by simp).symm
        have HPW := zh hpw
        clear hpw
        have hlim : p0 < 2 ^ 62 := by rw [← HP0.out]; exact Ty.bd_lt (q := ⟨kd, col, k, fs⟩) (by show kd ≠ 3; omega) hrows 0
        go_upto_region 23 with fail
        refine wp_region_lit ?_
        refine zr (.int .i64 (rows : Int)) V3 rfl ?_
        simp only [Act.put, zA]
        refine zr (.slice h0.A h0.n h0.c) V3 rfl ?_
        simp only [Act.put, zA]
        refine zr (.pointer (some ⟨w.heap.size, 1, none⟩)) V3 (xo_fld0 1 w.heap.size 1 (by kernel_rfl) rfl rfl) ?_
        simp only [Act.put, zA]
        refine zr (.int .i64 (col : Int)) V3 (xo_load1 ⟨w.heap.size, 1, none⟩ _ (cells_at (heap_keep Fv0_2.out C1_3.out) 1 rfl) Tryd.underlying3 rfl rfl rfl) ?_
        simp only [Act.put, zA]
        have C0_3 := zb C0_2 B2
        refine wpList_call (by kernel_rfl) 24 Tryd.func24 (by kernel_rfl) (by kernel_rfl) _ _ #[.slice h0.A h0.n h0.c, .int .i64 (col : Int)] rfl (by kernel_rfl) ?_
        refine (largest_as h0.A h0.n h0.c l0 col hcol (m0 : Int) (by rw [Ty.lg_sat HST hcol, HM0.out]) V3 ((HFR.out.keep C0_3.out).row 0 h0 (l0.map Qu.Cd.ci) HH0.out HLM0.out)).mono ?_
        rintro e V4 ⟨rfl, hb⟩
        have B3 := zh hb
        clear hb 
        refine ⟨_, rfl, ?_⟩
        simp only [Act.put, zA]
        refine zr (.int .i64 0) V4 rfl ?_
        simp only [Act.put, zA]
        refine wpList_call (by kernel_rfl) 35 Tryd.func35 (by kernel_rfl) (by kernel_rfl) _ _ #[.int .i64 (rows : Int), .int .i64 (m0 : Int), .int .i64 0] rfl (by kernel_rfl) ?_
        refine (power_as rows m0 0 (by omega) (by omega) (by omega) (p0, true) (Ty.pw_yes HPW.out hlim) V4).mono ?_
        rintro e V5 ⟨rfl, hb⟩
        have B4 := zh hb
        clear hb 
        refine ⟨_, rfl, ?_⟩
        simp only [Act.put, zA]
        refine zr (.tuple #[.int .i64 (p0 : Int), .bool true]) V5 rfl ?_
        simp only [Act.put, zA]
        refine zr (.int .i64 (p0 : Int)) V5 rfl ?_
        simp only [Act.put, zA]
        refine zr (.bool true) V5 rfl ?_
        simp only [Act.put, zA]
        refine zr (.int .i64 (p0 : Int)) V5 rfl ?_
        simp only [Act.put, zA]
        refine zr (.bool true) V5 rfl ?_
        simp only [Act.put, zA]
        refine wpList_nil ?_
        go_upto_region 24 with fail
        refine wp_region_lit ?_
        refine zr (.bool true) V5 rfl ?_
        simp only [Act.put, zA]
        refine zr (.bool false) V5 rfl ?_
        simp only [Act.put, zA]
        refine wpList_nil ?_
        go_upto_region 26 with fail
        refine wp_region_lit ?_
        refine zr (.int .i64 (p0 : Int)) V5 rfl ?_
        simp only [Act.put, zA]
        refine wpList_mk (by kernel_rfl) ([(p0 : Int)].flatMap zzC).toArray 2 1 1 (xg_lit (E := zzC) (bytes := 8) (.int .i64 0) [.tmp 108] [(p0 : Int)] 1 Tryd.underlying27 (by kernel_rfl) rfl (by decide) (by decide) rfl rfl) ?_
        intro g109 V6 hge h0 hb
        have C1_4 := zb C1_3 B3
        have C1_5 := zb C1_4 B4
        have N11_0 : Hid (w.heap.size ≠ g109) := zh (xp_lt0 (heap_keep Fv0_2.out C1_5.out) hge)
        have N12_1 : Hid ((w.heap.size + 1) ≠ g109) := zh (xp_lt0 (heap_keep Fv1_4.out C1_5.out) hge)
        have Ge13 : Hid (V5.heap.size ≤ g109) := zh hge
        have B5 := zh hb
        have Fv14_109 : Hid (RowG zzC V6 g109 2 ([(p0 : Int)])) := zh (h0)
        have Lt15 : Hid (g109 < V6.heap.size) := zh (xp_lt Fv14_109.out)
        clear hge h0 hb
        simp only [ptr, Act.put, zA]
        refine zr (.agg #[.slice (some ⟨g109, 0, none⟩) 1 1]) V6 (by unfold execOp; go_simp <;> rfl) ?_
        simp only [Act.put, zA]
        have C1_6 := zb C1_5 B5
        refine wpList_storeW (w.heap.size + 1) #[.slice none 0 0] #[.slice (some ⟨g109, 0, none⟩) 1 1] 29 (by kernel_rfl) (heap_keep Fv1_4.out C1_6.out) (xo_storeW (w.heap.size + 1) #[.slice none 0 0] #[.slice (some ⟨g109, 0, none⟩) 1 1] (heap_keep Fv1_4.out C1_6.out) (by kernel_rfl) rfl (by simp [Value.oneCell']) rfl rfl rfl) ?_
        intro X6_16 h1 hfar hbel hsz
        have YFv0_2 : X6_16.heap[w.heap.size]? = some (.cells #[.int .i64 (kd : Int), .int .i64 (col : Int), .int .i64 (k : Int), .slice A n c] 24 (0, 0)) := hfar _ _ Nb0_1.out (heap_keep Fv0_2.out C1_6.out)
        have YFv14_109 : RowG zzC X6_16 g109 2 ([(p0 : Int)]) := hfar _ _ (Ne.symm N12_1.out) Fv14_109.out
        have C0_4 := zb C0_3 B3
        have C0_5 := zb C0_4 B4
        have Gs17 : Hid (w.heap.size ≤ g109) := zh (Nat.le_trans C0_5.out.size Ge13.out)
        have C0_6 := zb C0_5 B5
        have hbr := hbel _ _ Gb1.out C0_6.out
        clear B0
        have B0 := zh hbr
        clear hbr
        clear Fv0_2
        have Fv0_2 : Hid (X6_16.heap[w.heap.size]? = some (.cells #[.int .i64 (kd : Int), .int .i64 (col : Int), .int .i64 (k : Int), .slice A n c] 24 (0, 0))) := zh YFv0_2
        clear YFv0_2
        clear Fv14_109
        have Fv14_109 : Hid (RowG zzC X6_16 g109 2 ([(p0 : Int)])) := zh YFv14_109
        clear YFv14_109
        clear Fv1_4
        have Fv1_4 : Hid (X6_16.heap[(w.heap.size + 1)]? = some (.cells #[.slice (some ⟨g109, 0, none⟩) 1 1] 29 (0, 0))) := zh (h1)
        have HszX6_16 := zh hsz
        clear h1 hfar hbel hsz
        simp only [ptr, Act.put, zA]
        refine zr (.int .i64 0) X6_16 rfl ?_
        simp only [Act.put, zA]
        refine wpList_nil ?_
        have hck : r = ([p0], 0) := by rw [← HR.out]; exact Ty.ck_one (q := ⟨kd, col, k, fs⟩) hk1 hj3 HP0.out hlim
        subst hck
        have hbf := B0.out
        have hsg := (show Sg zzC 1 _ _ 1 1 (Ty.zs [p0]) from (RowG.sg (n := 1) (c := 1) Fv14_109.out (show ([(p0 : Int)]).length = 1 from rfl) (Nat.le_refl _) (by omega)))
        go_wp2_with fail
        refine bodyPost_ret (v := .tuple #[.agg #[.slice (some ⟨g109, 0, none⟩) 1 1], .int .i64 0]) ?_ rfl ⟨_, _, _, rfl, hsg, hbf⟩
        exact results_row_tmp rfl _ _ (w.heap.size + 1) 29 _ (0, 0) _ _ rfl rfl Fv1_4.out Tryd.underlying29 rfl (by kernel_rfl)
       ·by_cases hj2 : kd = 2
        ·have hz3 : ¬ kd = 3 := by omega
         have hci9 : ((kd : Int) = 2) := by omega
         go_upto_region 19 with fail
         refine wp_region_lit ?_
         refine zr (.pointer (some ⟨w.heap.size, 0, none⟩)) V3 (xo_fld0 0 w.heap.size 0 (by kernel_rfl) rfl rfl) ?_
         simp only [Act.put, zA]
         have C1_3 := zb B1 B2
         refine zr (.int .i64 (kd : Int)) V3 (xo_load1 ⟨w.heap.size, 0, none⟩ _ (cells_at (heap_keep Fv0_2.out C1_3.out) 0 rfl) Tryd.underlying3 rfl rfl rfl) ?_
         simp only [Act.put, zA]
         refine zr (.bool true) V3 (xo_eqlT .i64 (kd : Int) 2 (by omega) rfl rfl rfl) ?_
         simp only [Act.put, zA]
         refine wpList_nil ?_
         go_upto_region 20 with fail
         refine wp_region_lit ?_
         refine zr (.int .i64 1) V3 rfl ?_
         simp only [Act.put, zA]
         refine wpList_nil ?_
         have hci10 : ¬ ((kd : Int) = 3) := by omega
         go_upto_region 21 with fail
         refine wp_region_lit ?_
         refine zr (.pointer (some ⟨w.heap.size, 0, none⟩)) V3 (xo_fld0 0 w.heap.size 0 (by kernel_rfl) rfl rfl) ?_
         simp only [Act.put, zA]
         refine zr (.int .i64 (kd : Int)) V3 (xo_load1 ⟨w.heap.size, 0, none⟩ _ (cells_at (heap_keep Fv0_2.out C1_3.out) 0 rfl) Tryd.underlying3 rfl rfl rfl) ?_
         simp only [Act.put, zA]
         refine zr (.bool false) V3 (xo_eqlF .i64 (kd : Int) 3 (by omega) rfl rfl rfl) ?_
         simp only [Act.put, zA]
         refine wpList_nil ?_
         have hpw : rows * m0 ^ 1 = p0 := by rw [← HP0.out, Ty.bd_of (q := ⟨kd, col, k, fs⟩) HL0.out HST (Ty.mo_2 l0 0 hj2)]; exact (show rows * (Ty.spC l0 col).2 ^ 1 = rows * m0 ^ 1 from by rw [HM0.out]).symm
         have HPW := zh hpw
         clear hpw
         have hlim : p0 < 2 ^ 62 := by rw [← HP0.out]; exact Ty.bd_lt (q := ⟨kd, col, k, fs⟩) (by show kd ≠ 3; omega) hrows 0
         go_upto_region 23 with fail
         refine wp_region_lit ?_
         refine zr (.int .i64 (rows : Int)) V3 rfl ?_
         simp only [Act.put, zA]
         refine zr (.slice h0.A h0.n h0.c) V3 rfl ?_
         simp only [Act.put, zA]
         refine zr (.pointer (some ⟨w.heap.size, 1, none⟩)) V3 (xo_fld0 1 w.heap.size 1 (by kernel_rfl) rfl rfl) ?_
         simp only [Act.put, zA]
         refine zr (.int .i64 (col : Int)) V3 (xo_load1 ⟨w.heap.size, 1, none⟩ _ (cells_at (heap_keep Fv0_2.out C1_3.out) 1 rfl) Tryd.underlying3 rfl rfl rfl) ?_
         simp only [Act.put, zA]
         have C0_3 := zb C0_2 B2
         refine wpList_call (by kernel_rfl) 24 Tryd.func24 (by kernel_rfl) (by kernel_rfl) _ _ #[.slice h0.A h0.n h0.c, .int .i64 (col : Int)] rfl (by kernel_rfl) ?_
         refine (largest_as h0.A h0.n h0.c l0 col hcol (m0 : Int) (by rw [Ty.lg_sat HST hcol, HM0.out]) V3 ((HFR.out.keep C0_3.out).row 0 h0 (l0.map Qu.Cd.ci) HH0.out HLM0.out)).mono ?_
         rintro e V4 ⟨rfl, hb⟩
         have B3 := zh hb
         clear hb 
         refine ⟨_, rfl, ?_⟩
         simp only [Act.put, zA]
         refine zr (.int .i64 1) V4 rfl ?_
         simp only [Act.put, zA]
         refine wpList_call (by kernel_rfl) 35 Tryd.func35 (by kernel_rfl) (by kernel_rfl) _ _ #[.int .i64 (rows : Int), .int .i64 (m0 : Int), .int .i64 1] rfl (by kernel_rfl) ?_
         refine (power_as rows m0 1 (by omega) (by omega) (by omega) (p0, true) (Ty.pw_yes HPW.out hlim) V4).mono ?_
         rintro e V5 ⟨rfl, hb⟩
         have B4 := zh hb
         clear hb 
         refine ⟨_, rfl, ?_⟩
         simp only [Act.put, zA]
         refine zr (.tuple #[.int .i64 (p0 : Int), .bool true]) V5 rfl ?_
         simp only [Act.put, zA]
         refine zr (.int .i64 (p0 : Int)) V5 rfl ?_
         simp only [Act.put, zA]
         refine zr (.bool true) V5 rfl ?_
         simp only [Act.put, zA]
         refine zr (.int .i64 (p0 : Int)) V5 rfl ?_
         simp only [Act.put, zA]
         refine zr (.bool true) V5 rfl ?_
         simp only [Act.put, zA]
         refine wpList_nil ?_
         go_upto_region 24 with fail
         refine wp_region_lit ?_
         refine zr (.bool true) V5 rfl ?_
         simp only [Act.put, zA]
         refine zr (.bool false) V5 rfl ?_
         simp only [Act.put, zA]
         refine wpList_nil ?_
         go_upto_region 26 with fail
         refine wp_region_lit ?_
         refine zr (.int .i64 (p0 : Int)) V5 rfl ?_
         simp only [Act.put, zA]
         refine wpList_mk (by kernel_rfl) ([(p0 : Int)].flatMap zzC).toArray 2 1 1 (xg_lit (E := zzC) (bytes := 8) (.int .i64 0) [.tmp 108] [(p0 : Int)] 1 Tryd.underlying27 (by kernel_rfl) rfl (by decide) (by decide) rfl rfl) ?_
         intro g109 V6 hge h0 hb
         have C1_4 := zb C1_3 B3
         have C1_5 := zb C1_4 B4
         have N11_0 : Hid (w.heap.size ≠ g109) := zh (xp_lt0 (heap_keep Fv0_2.out C1_5.out) hge)
         have N12_1 : Hid ((w.heap.size + 1) ≠ g109) := zh (xp_lt0 (heap_keep Fv1_4.out C1_5.out) hge)
         have Ge13 : Hid (V5.heap.size ≤ g109) := zh hge
         have B5 := zh hb
         have Fv14_109 : Hid (RowG zzC V6 g109 2 ([(p0 : Int)])) := zh (h0)
         have Lt15 : Hid (g109 < V6.heap.size) := zh (xp_lt Fv14_109.out)
         clear hge h0 hb
         simp only [ptr, Act.put, zA]
         refine zr (.agg #[.slice (some ⟨g109, 0, none⟩) 1 1]) V6 (by unfold execOp; go_simp <;> rfl) ?_
         simp only [Act.put, zA]
         have C1_6 := zb C1_5 B5
         refine wpList_storeW (w.heap.size + 1) #[.slice none 0 0] #[.slice (some ⟨g109, 0, none⟩) 1 1] 29 (by kernel_rfl) (heap_keep Fv1_4.out C1_6.out) (xo_storeW (w.heap.size + 1) #[.slice none 0 0] #[.slice (some ⟨g109, 0, none⟩) 1 1] (heap_keep Fv1_4.out C1_6.out) (by kernel_rfl) rfl (by simp [Value.oneCell']) rfl rfl rfl) ?_
         intro X6_16 h1 hfar hbel hsz
         have YFv0_2 : X6_16.heap[w.heap.size]? = some (.cells #[.int .i64 (kd : Int), .int .i64 (col : Int), .int .i64 (k : Int), .slice A n c] 24 (0, 0)) := hfar _ _ Nb0_1.out (heap_keep Fv0_2.out C1_6.out)
         have YFv14_109 : RowG zzC X6_16 g109 2 ([(p0 : Int)]) := hfar _ _ (Ne.symm N12_1.out) Fv14_109.out
         have C0_4 := zb C0_3 B3
         have C0_5 := zb C0_4 B4
         have Gs17 : Hid (w.heap.size ≤ g109) := zh (Nat.le_trans C0_5.out.size Ge13.out)
         have C0_6 := zb C0_5 B5
         have hbr := hbel _ _ Gb1.out C0_6.out
         clear B0
         have B0 := zh hbr
         clear hbr
         clear Fv0_2
         have Fv0_2 : Hid (X6_16.heap[w.heap.size]? = some (.cells #[.int .i64 (kd : Int), .int .i64 (col : Int), .int .i64 (k : Int), .slice A n c] 24 (0, 0))) := zh YFv0_2
         clear YFv0_2
         clear Fv14_109
         have Fv14_109 : Hid (RowG zzC X6_16 g109 2 ([(p0 : Int)])) := zh YFv14_109
         clear YFv14_109
         clear Fv1_4
         have Fv1_4 : Hid (X6_16.heap[(w.heap.size + 1)]? = some (.cells #[.slice (some ⟨g109, 0, none⟩) 1 1] 29 (0, 0))) := zh (h1)
         have HszX6_16 := zh hsz
         clear h1 hfar hbel hsz
         simp only [ptr, Act.put, zA]
         refine zr (.int .i64 0) X6_16 rfl ?_
         simp only [Act.put, zA]
         refine wpList_nil ?_
         have hck : r = ([p0], 0) := by rw [← HR.out]; exact Ty.ck_one (q := ⟨kd, col, k, fs⟩) hk1 hj3 HP0.out hlim
         subst hck
         have hbf := B0.out
         have hsg := (show Sg zzC 1 _ _ 1 1 (Ty.zs [p0]) from (RowG.sg (n := 1) (c := 1) Fv14_109.out (show ([(p0 : Int)]).length = 1 from rfl) (Nat.le_refl _) (by omega)))
         go_wp2_with fail
         refine bodyPost_ret (v := .tuple #[.agg #[.slice (some ⟨g109, 0, none⟩) 1 1], .int .i64 0]) ?_ rfl ⟨_, _, _, rfl, hsg, hbf⟩
         exact results_row_tmp rfl _ _ (w.heap.size + 1) 29 _ (0, 0) _ _ rfl rfl Fv1_4.out Tryd.underlying29 rfl (by kernel_rfl)
        ·have hj3e : kd = 3 := by omega
         have hci9 : ¬ ((kd : Int) = 2) := by omega
         go_upto_region 19 with fail
         refine wp_region_lit ?_
         refine zr (.pointer (some ⟨w.heap.size, 0, none⟩)) V3 (xo_fld0 0 w.heap.size 0 (by kernel_rfl) rfl rfl) ?_
         simp only [Act.put, zA]
         have C1_3 := zb B1 B2
         refine zr (.int .i64 (kd : Int)) V3 (xo_load1 ⟨w.heap.size, 0, none⟩ _ (cells_at (heap_keep Fv0_2.out C1_3.out) 0 rfl) Tryd.underlying3 rfl rfl rfl) ?_
         simp only [Act.put, zA]
         refine zr (.bool false) V3 (xo_eqlF .i64 (kd : Int) 2 (by omega) rfl rfl rfl) ?_
         simp only [Act.put, zA]
         refine wpList_nil ?_
         have hci10 : ((kd : Int) = 3) := by omega
         go_upto_region 21 with fail
         refine wp_region_lit ?_
         refine zr (.pointer (some ⟨w.heap.size, 0, none⟩)) V3 (xo_fld0 0 w.heap.size 0 (by kernel_rfl) rfl rfl) ?_
         simp only [Act.put, zA]
         refine zr (.int .i64 (kd : Int)) V3 (xo_load1 ⟨w.heap.size, 0, none⟩ _ (cells_at (heap_keep Fv0_2.out C1_3.out) 0 rfl) Tryd.underlying3 rfl rfl rfl) ?_
         simp only [Act.put, zA]
         refine zr (.bool true) V3 (xo_eqlT .i64 (kd : Int) 3 (by omega) rfl rfl rfl) ?_
         simp only [Act.put, zA]
         refine wpList_nil ?_
         go_upto_region 22 with fail
         refine wp_region_lit ?_
         refine zr (.pointer (some ⟨w.heap.size, 2, none⟩)) V3 (xo_fld0 2 w.heap.size 2 (by kernel_rfl) rfl rfl) ?_
         simp only [Act.put, zA]
         refine zr (.int .i64 (k : Int)) V3 (xo_load1 ⟨w.heap.size, 2, none⟩ _ (cells_at (heap_keep Fv0_2.out C1_3.out) 2 rfl) Tryd.underlying3 rfl rfl rfl) ?_
         simp only [Act.put, zA]
         refine zr (.int .i64 (k : Int)) V3 rfl ?_
         simp only [Act.put, zA]
         refine wpList_nil ?_
         have hpw : rows * m0 ^ k = p0 := by rw [← HP0.out, Ty.bd_of (q := ⟨kd, col, k, fs⟩) HL0.out HST (Ty.mo_3 l0 0 hj3e)]; exact (show rows * (Ty.spC l0 col).2 ^ k = rows * m0 ^ k from by rw [HM0.out]).symm
         have HPW := zh hpw
         clear hpw
         by_cases hlim : p0 < 2 ^ 62
         ·go_upto_region 23 with fail
          refine wp_region_lit ?_
          refine zr (.int .i64 (rows : Int)) V3 rfl ?_
          simp only [Act.put, zA]
          refine zr (.slice h0.A h0.n h0.c) V3 rfl ?_
          simp only [Act.put, zA]
          refine zr (.pointer (some ⟨w.heap.size, 1, none⟩)) V3 (xo_fld0 1 w.heap.size 1 (by kernel_rfl) rfl rfl) ?_
          simp only [Act.put, zA]
          refine zr (.int .i64 (col : Int)) V3 (xo_load1 ⟨w.heap.size, 1, none⟩ _ (cells_at (heap_keep Fv0_2.out C1_3.out) 1 rfl) Tryd.underlying3 rfl rfl rfl) ?_
          simp only [Act.put, zA]
          have C0_3 := zb C0_2 B2
          refine wpList_call (by kernel_rfl) 24 Tryd.func24 (by kernel_rfl) (by kernel_rfl) _ _ #[.slice h0.A h0.n h0.c, .int .i64 (col : Int)] rfl (by kernel_rfl) ?_
          refine (largest_as h0.A h0.n h0.c l0 col hcol (m0 : Int) (by rw [Ty.lg_sat HST hcol, HM0.out]) V3 ((HFR.out.keep C0_3.out).row 0 h0 (l0.map Qu.Cd.ci) HH0.out HLM0.out)).mono ?_
          rintro e V4 ⟨rfl, hb⟩
          have B3 := zh hb
          clear hb 
          refine ⟨_, rfl, ?_⟩
          simp only [Act.put, zA]
          refine zr (.int .i64 (k : Int)) V4 rfl ?_
          simp only [Act.put, zA]
          refine wpList_call (by kernel_rfl) 35 Tryd.func35 (by kernel_rfl) (by kernel_rfl) _ _ #[.int .i64 (rows : Int), .int .i64 (m0 : Int), .int .i64 (k : Int)] rfl (by kernel_rfl) ?_
          refine (power_as rows m0 k (by omega) (by omega) (by omega) (p0, true) (Ty.pw_yes HPW.out hlim) V4).mono ?_
          rintro e V5 ⟨rfl, hb⟩
          have B4 := zh hb
          clear hb 
          refine ⟨_, rfl, ?_⟩
          simp only [Act.put, zA]
          refine zr (.tuple #[.int .i64 (p0 : Int), .bool true]) V5 rfl ?_
          simp only [Act.put, zA]
          refine zr (.int .i64 (p0 : Int)) V5 rfl ?_
          simp only [Act.put, zA]
          refine zr (.bool true) V5 rfl ?_
          simp only [Act.put, zA]
          refine zr (.int .i64 (p0 : Int)) V5 rfl ?_
          simp only [Act.put, zA]
          refine zr (.bool true) V5 rfl ?_
          simp only [Act.put, zA]
          refine wpList_nil ?_
          go_upto_region 24 with fail
          refine wp_region_lit ?_
          refine zr (.bool true) V5 rfl ?_
          simp only [Act.put, zA]
          refine zr (.bool false) V5 rfl ?_
          simp only [Act.put, zA]
          refine wpList_nil ?_
          go_upto_region 26 with fail
          refine wp_region_lit ?_
          refine zr (.int .i64 (p0 : Int)) V5 rfl ?_
          simp only [Act.put, zA]
          refine wpList_mk (by kernel_rfl) ([(p0 : Int)].flatMap zzC).toArray 2 1 1 (xg_lit (E := zzC) (bytes := 8) (.int .i64 0) [.tmp 108] [(p0 : Int)] 1 Tryd.underlying27 (by kernel_rfl) rfl (by decide) (by decide) rfl rfl) ?_
          intro g109 V6 hge h0 hb
          have C1_4 := zb C1_3 B3
          have C1_5 := zb C1_4 B4
          have N11_0 : Hid (w.heap.size ≠ g109) := zh (xp_lt0 (heap_keep Fv0_2.out C1_5.out) hge)
          have N12_1 : Hid ((w.heap.size + 1) ≠ g109) := zh (xp_lt0 (heap_keep Fv1_4.out C1_5.out) hge)
          have Ge13 : Hid (V5.heap.size ≤ g109) := zh hge
          have B5 := zh hb
          have Fv14_109 : Hid (RowG zzC V6 g109 2 ([(p0 : Int)])) := zh (h0)
          have Lt15 : Hid (g109 < V6.heap.size) := zh (xp_lt Fv14_109.out)
          clear hge h0 hb
          simp only [ptr, Act.put, zA]
          refine zr (.agg #[.slice (some ⟨g109, 0, none⟩) 1 1]) V6 (by unfold execOp; go_simp <;> rfl) ?_
          simp only [Act.put, zA]
          have C1_6 := zb C1_5 B5
          refine wpList_storeW (w.heap.size + 1) #[.slice none 0 0] #[.slice (some ⟨g109, 0, none⟩) 1 1] 29 (by kernel_rfl) (heap_keep Fv1_4.out C1_6.out) (xo_storeW (w.heap.size + 1) #[.slice none 0 0] #[.slice (some ⟨g109, 0, none⟩) 1 1] (heap_keep Fv1_4.out C1_6.out) (by kernel_rfl) rfl (by simp [Value.oneCell']) rfl rfl rfl) ?_
          intro X6_16 h1 hfar hbel hsz
          have YFv0_2 : X6_16.heap[w.heap.size]? = some (.cells #[.int .i64 (kd : Int), .int .i64 (col : Int), .int .i64 (k : Int), .slice A n c] 24 (0, 0)) := hfar _ _ Nb0_1.out (heap_keep Fv0_2.out C1_6.out)
          have YFv14_109 : RowG zzC X6_16 g109 2 ([(p0 : Int)]) := hfar _ _ (Ne.symm N12_1.out) Fv14_109.out
          have C0_4 := zb C0_3 B3
          have C0_5 := zb C0_4 B4
          have Gs17 : Hid (w.heap.size ≤ g109) := zh (Nat.le_trans C0_5.out.size Ge13.out)
          have C0_6 := zb C0_5 B5
          have hbr := hbel _ _ Gb1.out C0_6.out
          clear B0
          have B0 := zh hbr
          clear hbr
          clear Fv0_2
          have Fv0_2 : Hid (X6_16.heap[w.heap.size]? = some (.cells #[.int .i64 (kd : Int), .int .i64 (col : Int), .int .i64 (k : Int), .slice A n c] 24 (0, 0))) := zh YFv0_2
          clear YFv0_2
          clear Fv14_109
          have Fv14_109 : Hid (RowG zzC X6_16 g109 2 ([(p0 : Int)])) := zh YFv14_109
          clear YFv14_109
          clear Fv1_4
          have Fv1_4 : Hid (X6_16.heap[(w.heap.size + 1)]? = some (.cells #[.slice (some ⟨g109, 0, none⟩) 1 1] 29 (0, 0))) := zh (h1)
          have HszX6_16 := zh hsz
          clear h1 hfar hbel hsz
          simp only [ptr, Act.put, zA]
          refine zr (.int .i64 0) X6_16 rfl ?_
          simp only [Act.put, zA]
          refine wpList_nil ?_
          have hck : r = ([p0], 0) := by rw [← HR.out]; exact Ty.ck_one (q := ⟨kd, col, k, fs⟩) hk1 hj3 HP0.out hlim
          subst hck
          have hbf := B0.out
          have hsg := (show Sg zzC 1 _ _ 1 1 (Ty.zs [p0]) from (RowG.sg (n := 1) (c := 1) Fv14_109.out (show ([(p0 : Int)]).length = 1 from rfl) (Nat.le_refl _) (by omega)))
          go_wp2_with fail
          refine bodyPost_ret (v := .tuple #[.agg #[.slice (some ⟨g109, 0, none⟩) 1 1], .int .i64 0]) ?_ rfl ⟨_, _, _, rfl, hsg, hbf⟩
          exact results_row_tmp rfl _ _ (w.heap.size + 1) 29 _ (0, 0) _ _ rfl rfl Fv1_4.out Tryd.underlying29 rfl (by kernel_rfl)
         ·go_upto_region 23 with fail
          refine wp_region_lit ?_
          refine zr (.int .i64 (rows : Int)) V3 rfl ?_
          simp only [Act.put, zA]
          refine zr (.slice h0.A h0.n h0.c) V3 rfl ?_
          simp only [Act.put, zA]
          refine zr (.pointer (some ⟨w.heap.size, 1, none⟩)) V3 (xo_fld0 1 w.heap.size 1 (by kernel_rfl) rfl rfl) ?_
          simp only [Act.put, zA]
          refine zr (.int .i64 (col : Int)) V3 (xo_load1 ⟨w.heap.size, 1, none⟩ _ (cells_at (heap_keep Fv0_2.out C1_3.out) 1 rfl) Tryd.underlying3 rfl rfl rfl) ?_
          simp only [Act.put, zA]
          have C0_3 := zb C0_2 B2
          refine wpList_call (by kernel_rfl) 24 Tryd.func24 (by kernel_rfl) (by kernel_rfl) _ _ #[.slice h0.A h0.n h0.c, .int .i64 (col : Int)] rfl (by kernel_rfl) ?_
          refine (largest_as h0.A h0.n h0.c l0 col hcol (m0 : Int) (by rw [Ty.lg_sat HST hcol, HM0.out]) V3 ((HFR.out.keep C0_3.out).row 0 h0 (l0.map Qu.Cd.ci) HH0.out HLM0.out)).mono ?_
          rintro e V4 ⟨rfl, hb⟩
          have B3 := zh hb
          clear hb 
          refine ⟨_, rfl, ?_⟩
          simp only [Act.put, zA]
          refine zr (.int .i64 (k : Int)) V4 rfl ?_
          simp only [Act.put, zA]
          refine wpList_call (by kernel_rfl) 35 Tryd.func35 (by kernel_rfl) (by kernel_rfl) _ _ #[.int .i64 (rows : Int), .int .i64 (m0 : Int), .int .i64 (k : Int)] rfl (by kernel_rfl) ?_
          refine (power_as rows m0 k (by omega) (by omega) (by omega) (0, false) (Ty.pw_no HPW.out hlim) V4).mono ?_
          rintro e V5 ⟨rfl, hb⟩
          have B4 := zh hb
          clear hb 
          refine ⟨_, rfl, ?_⟩
          simp only [Act.put, zA]
          refine zr (.tuple #[.int .i64 0, .bool false]) V5 rfl ?_
          simp only [Act.put, zA]
          refine zr (.int .i64 0) V5 rfl ?_
          simp only [Act.put, zA]
          refine zr (.bool false) V5 rfl ?_
          simp only [Act.put, zA]
          refine zr (.int .i64 0) V5 rfl ?_
          simp only [Act.put, zA]
          refine zr (.bool false) V5 rfl ?_
          simp only [Act.put, zA]
          refine wpList_nil ?_
          go_upto_region 24 with fail
          refine wp_region_lit ?_
          refine zr (.bool false) V5 rfl ?_
          simp only [Act.put, zA]
          refine zr (.bool true) V5 rfl ?_
          simp only [Act.put, zA]
          refine wpList_nil ?_
          go_upto_region 25 with fail
          refine wp_region_lit ?_
          refine zr (.agg #[.slice none 0 0]) V5 (by unfold execOp; go_simp <;> rfl) ?_
          simp only [Act.put, zA]
          have C1_4 := zb C1_3 B3
          have C1_5 := zb C1_4 B4
          refine wpList_storeW (w.heap.size + 1) #[.slice none 0 0] #[.slice none 0 0] 29 (by kernel_rfl) (heap_keep Fv1_4.out C1_5.out) (xo_storeW (w.heap.size + 1) #[.slice none 0 0] #[.slice none 0 0] (heap_keep Fv1_4.out C1_5.out) (by kernel_rfl) rfl (by simp [Value.oneCell']) rfl rfl rfl) ?_
          intro X5_11 h1 hfar hbel hsz
          have YFv0_2 : X5_11.heap[w.heap.size]? = some (.cells #[.int .i64 (kd : Int), .int .i64 (col : Int), .int .i64 (k : Int), .slice A n c] 24 (0, 0)) := hfar _ _ Nb0_1.out (heap_keep Fv0_2.out C1_5.out)
          have C0_4 := zb C0_3 B3
          have C0_5 := zb C0_4 B4
          have hbr := hbel _ _ Gb1.out C0_5.out
          clear B0
          have B0 := zh hbr
          clear hbr
          clear Fv0_2
          have Fv0_2 : Hid (X5_11.heap[w.heap.size]? = some (.cells #[.int .i64 (kd : Int), .int .i64 (col : Int), .int .i64 (k : Int), .slice A n c] 24 (0, 0))) := zh YFv0_2
          clear YFv0_2
          clear Fv1_4
          have Fv1_4 : Hid (X5_11.heap[(w.heap.size + 1)]? = some (.cells #[.slice none 0 0] 29 (0, 0))) := zh (h1)
          have HszX5_11 := zh hsz
          clear h1 hfar hbel hsz
          simp only [ptr, Act.put, zA]
          refine zr (.int .i64 141) X5_11 rfl ?_
          simp only [Act.put, zA]
          refine wpList_nil ?_
          have hck : r = ([], 141) := by rw [← HR.out]; exact Ty.ck_big (q := ⟨kd, col, k, fs⟩) hj3e HP0.out hlim
          subst hck
          have hbf := B0.out
          go_wp2_with fail
          refine bodyPost_ret (v := .tuple #[.agg #[.slice none 0 0], .int .i64 141]) ?_ rfl ⟨none, 0, 0, rfl, (show Sg zzC 1 _ none 0 0 [] from Sg.nil_ _), hbf⟩
          exact results_row_tmp rfl _ _ (w.heap.size + 1) 29 _ (0, 0) _ _ rfl rfl Fv1_4.out Tryd.underlying29 rfl (by kernel_rfl)
set_option maxRecDepth 100000 in
set_option maxHeartbeats 16000000 in
theorem rcheck_bad (kd col k : Int) (A : Option Addr) (n c : Nat) (hs : List Hd) (fs : List (List Qu.Ci)) (rows : Int) (hbad : Qu.vQ kd col k fs = false ∨ rows < 0 ∨ rows > 65536) (w : World) (hF : FsR w A n c hs fs) :
  Calls Tryd.prog 12 #[.agg #[.int .i64 kd, .int .i64 col, .int .i64 k, .slice A n c], .int .i64 rows] w fun e w' => e = .returned (.tuple #[.agg #[.slice none 0 0], .int .i64 1]) ∧ Below w.heap.size w w' := by
 have HFR := zh hF
 clear hF
 go_enter Tryd.func12, Tryd.ntmps12
 go_upto_region 1 with fail
 refine wp_named2 (fun V1 hb g0 g1 hlt => ?_)
 have B0 := zh hb
 have Fv0_2 : Hid (V1.heap[w.heap.size]? = some (.cells #[.int .i64 kd, .int .i64 col, .int .i64 k, .slice A n c] 24 (0, 0))) := zh (g0)
 have Fv1_4 : Hid (V1.heap[(w.heap.size + 1)]? = some (.cells #[.slice none 0 0] 29 (0, 0))) := zh (g1)
 have Nb0_1 : Hid (w.heap.size ≠ (w.heap.size + 1)) := zh (by omega)
 have Gb0 : Hid (w.heap.size ≤ w.heap.size) := zh (by omega)
 have Gb1 : Hid (w.heap.size ≤ (w.heap.size + 1)) := zh (by omega)
 clear hb g0 g1 hlt
 have Lt0 : Hid (w.heap.size < V1.heap.size) := zh (xp_lt Fv0_2.out)
 have Lt1 : Hid ((w.heap.size + 1) < V1.heap.size) := zh (xp_lt Fv1_4.out)
 cases hvq : Qu.vQ kd col k fs with
 | false =>
  refine wp_region_lit ?_
  refine zr (.agg #[.int .i64 kd, .int .i64 col, .int .i64 k, .slice A n c]) V1 (xo_loadW w.heap.size _ Fv0_2.out Tryd.underlying24 rfl (by kernel_rfl) rfl rfl) ?_
  simp only [Act.put, zA]
  refine wpList_call (by kernel_rfl) 33 Tryd.func33 (by kernel_rfl) (by kernel_rfl) _ _ #[.agg #[.int .i64 kd, .int .i64 col, .int .i64 k, .slice A n c]] rfl (by kernel_rfl) ?_
  refine (rvalid_as13 kd col k A n c hs fs false hvq V1 (HFR.out.keep B0.out)).mono ?_
  rintro e V2 ⟨rfl, hb⟩
  have B1 := zh hb
  clear hb 
  refine ⟨_, rfl, ?_⟩
  simp only [Act.put, zA]
  refine zr (.bool true) V2 rfl ?_
  simp only [Act.put, zA]
  refine zr (.bool true) V2 rfl ?_
  simp only [Act.put, zA]
  refine zl ?_
  try simp only [Act.put, zA]
  refine zl ?_
  try simp only [Act.put, zA]
  refine zr (.bool true) V2 rfl ?_
  simp only [Act.put, zA]
  refine zr (.bool true) V2 rfl ?_
  simp only [Act.put, zA]
  refine zl ?_
  try simp only [Act.put, zA]
  refine zl ?_
  try simp only [Act.put, zA]
  refine zr (.bool true) V2 rfl ?_
  simp only [Act.put, zA]
  refine wpList_nil ?_
  go_upto_region 2 with fail
  refine wp_region_lit ?_
  refine zr (.agg #[.slice none 0 0]) V2 (by unfold execOp; go_simp <;> rfl) ?_
  simp only [Act.put, zA]
  refine wpList_storeW (w.heap.size + 1) #[.slice none 0 0] #[.slice none 0 0] 29 (by kernel_rfl) (heap_keep Fv1_4.out B1.out) (xo_storeW (w.heap.size + 1) #[.slice none 0 0] #[.slice none 0 0] (heap_keep Fv1_4.out B1.out) (by kernel_rfl) rfl (by simp [Value.oneCell']) rfl rfl rfl) ?_
  intro X2_2 h1 hfar hbel hsz
  have YFv0_2 : X2_2.heap[w.heap.size]? = some (.cells #[.int .i64 kd, .int .i64 col, .int .i64 k, .slice A n c] 24 (0, 0)) := hfar _ _ Nb0_1.out (heap_keep Fv0_2.out B1.out)
  have C0_2 := zb B0 B1
  have hbr := hbel _ _ Gb1.out C0_2.out
  clear B0
  have B0 := zh hbr
  clear hbr
  clear Fv0_2
  have Fv0_2 : Hid (X2_2.heap[w.heap.size]? = some (.cells #[.int .i64 kd, .int .i64 col, .int .i64 k, .slice A n c] 24 (0, 0))) := zh YFv0_2
  clear YFv0_2
  clear Fv1_4
  have Fv1_4 : Hid (X2_2.heap[(w.heap.size + 1)]? = some (.cells #[.slice none 0 0] 29 (0, 0))) := zh (h1)
  have HszX2_2 := zh hsz
  clear h1 hfar hbel hsz
  simp only [ptr, Act.put, zA]
  refine zr (.int .i64 1) X2_2 rfl ?_
  simp only [Act.put, zA]
  refine wpList_nil ?_
  have hbf := B0.out
  go_wp2_with fail
  refine bodyPost_ret (v := .tuple #[.agg #[.slice none 0 0], .int .i64 1]) ?_ rfl ⟨rfl, hbf⟩
  exact results_row_tmp rfl _ _ (w.heap.size + 1) 29 _ (0, 0) _ _ rfl rfl Fv1_4.out Tryd.underlying29 rfl (by kernel_rfl)
 | true =>
  by_cases hlt0 : rows < 0
  ·refine wp_region_lit ?_
   refine zr (.agg #[.int .i64 kd, .int .i64 col, .int .i64 k, .slice A n c]) V1 (xo_loadW w.heap.size _ Fv0_2.out Tryd.underlying24 rfl (by kernel_rfl) rfl rfl) ?_
   simp only [Act.put, zA]
   refine wpList_call (by kernel_rfl) 33 Tryd.func33 (by kernel_rfl) (by kernel_rfl) _ _ #[.agg #[.int .i64 kd, .int .i64 col, .int .i64 k, .slice A n c]] rfl (by kernel_rfl) ?_
   refine (rvalid_as13 kd col k A n c hs fs true hvq V1 (HFR.out.keep B0.out)).mono ?_
   rintro e V2 ⟨rfl, hb⟩
   have B1 := zh hb
   clear hb 
   refine ⟨_, rfl, ?_⟩
   simp only [Act.put, zA]
   refine zr (.bool false) V2 rfl ?_
   simp only [Act.put, zA]
   refine zr (.bool false) V2 rfl ?_
   simp only [Act.put, zA]
   refine zr (.int .i64 rows) V2 rfl ?_
   simp only [Act.put, zA]
   refine zr (.bool true) V2 (xo_lssT .i64 rows 0 (by omega) rfl rfl rfl) ?_
   simp only [Act.put, zA]
   refine zr (.bool true) V2 rfl ?_
   simp only [Act.put, zA]
   refine zr (.bool true) V2 rfl ?_
   simp only [Act.put, zA]
   refine zl ?_
   try simp only [Act.put, zA]
   refine zl ?_
   try simp only [Act.put, zA]
   refine zr (.bool true) V2 rfl ?_
   simp only [Act.put, zA]
   refine wpList_nil ?_
   go_upto_region 2 with fail
   refine wp_region_lit ?_
   refine zr (.agg #[.slice none 0 0]) V2 (by unfold execOp; go_simp <;> rfl) ?_
   simp only [Act.put, zA]
   refine wpList_storeW (w.heap.size + 1) #[.slice none 0 0] #[.slice none 0 0] 29 (by kernel_rfl) (heap_keep Fv1_4.out B1.out) (xo_storeW (w.heap.size + 1) #[.slice none 0 0] #[.slice none 0 0] (heap_keep Fv1_4.out B1.out) (by kernel_rfl) rfl (by simp [Value.oneCell']) rfl rfl rfl) ?_
   intro X2_2 h1 hfar hbel hsz
   have YFv0_2 : X2_2.heap[w.heap.size]? = some (.cells #[.int .i64 kd, .int .i64 col, .int .i64 k, .slice A n c] 24 (0, 0)) := hfar _ _ Nb0_1.out (heap_keep Fv0_2.out B1.out)
   have C0_2 := zb B0 B1
   have hbr := hbel _ _ Gb1.out C0_2.out
   clear B0
   have B0 := zh hbr
   clear hbr
   clear Fv0_2
   have Fv0_2 : Hid (X2_2.heap[w.heap.size]? = some (.cells #[.int .i64 kd, .int .i64 col, .int .i64 k, .slice A n c] 24 (0, 0))) := zh YFv0_2
   clear YFv0_2
   clear Fv1_4
   have Fv1_4 : Hid (X2_2.heap[(w.heap.size + 1)]? = some (.cells #[.slice none 0 0] 29 (0, 0))) := zh (h1)
   have HszX2_2 := zh hsz
   clear h1 hfar hbel hsz
   simp only [ptr, Act.put, zA]
   refine zr (.int .i64 1) X2_2 rfl ?_
   simp only [Act.put, zA]
   refine wpList_nil ?_
   have hbf := B0.out
   go_wp2_with fail
   refine bodyPost_ret (v := .tuple #[.agg #[.slice none 0 0], .int .i64 1]) ?_ rfl ⟨rfl, hbf⟩
   exact results_row_tmp rfl _ _ (w.heap.size + 1) 29 _ (0, 0) _ _ rfl rfl Fv1_4.out Tryd.underlying29 rfl (by kernel_rfl)
  ·have hgt : rows > 65536 := by
       rcases hbad with h | h | h
       ·rw [hvq] at h; cases h
       ·omega
       ·exact h
   refine wp_region_lit ?_
   refine zr (.agg #[.int .i64 kd, .int .i64 col, .int .i64 k, .slice A n c]) V1 (xo_loadW w.heap.size _ Fv0_2.out Tryd.underlying24 rfl (by kernel_rfl) rfl rfl) ?_
   simp only [Act.put, zA]
   refine wpList_call (by kernel_rfl) 33 Tryd.func33 (by kernel_rfl) (by kernel_rfl) _ _ #[.agg #[.int .i64 kd, .int .i64 col, .int .i64 k, .slice A n c]] rfl (by kernel_rfl) ?_
   refine (rvalid_as13 kd col k A n c hs fs true hvq V1 (HFR.out.keep B0.out)).mono ?_
   rintro e V2 ⟨rfl, hb⟩
   have B1 := zh hb
   clear hb 
   refine ⟨_, rfl, ?_⟩
   simp only [Act.put, zA]
   refine zr (.bool false) V2 rfl ?_
   simp only [Act.put, zA]
   refine zr (.bool false) V2 rfl ?_
   simp only [Act.put, zA]
   refine zr (.int .i64 rows) V2 rfl ?_
   simp only [Act.put, zA]
   refine zr (.bool false) V2 (xo_lssF .i64 rows 0 (by omega) rfl rfl rfl) ?_
   simp only [Act.put, zA]
   refine zr (.bool false) V2 rfl ?_
   simp only [Act.put, zA]
   refine zr (.bool false) V2 rfl ?_
   simp only [Act.put, zA]
   refine zr (.int .i64 rows) V2 rfl ?_
   simp only [Act.put, zA]
   refine zr (.bool true) V2 (xo_gtrT .i64 rows 65536 (by omega) rfl rfl rfl) ?_
   simp only [Act.put, zA]
   refine zr (.bool true) V2 rfl ?_
   simp only [Act.put, zA]
   refine wpList_nil ?_
   go_upto_region 2 with fail
   refine wp_region_lit ?_
   refine zr (.agg #[.slice none 0 0]) V2 (by unfold execOp; go_simp <;> rfl) ?_
   simp only [Act.put, zA]
   refine wpList_storeW (w.heap.size + 1) #[.slice none 0 0] #[.slice none 0 0] 29 (by kernel_rfl) (heap_keep Fv1_4.out B1.out) (xo_storeW (w.heap.size + 1) #[.slice none 0 0] #[.slice none 0 0] (heap_keep Fv1_4.out B1.out) (by kernel_rfl) rfl (by simp [Value.oneCell']) rfl rfl rfl) ?_
   intro X2_2 h1 hfar hbel hsz
   have YFv0_2 : X2_2.heap[w.heap.size]? = some (.cells #[.int .i64 kd, .int .i64 col, .int .i64 k, .slice A n c] 24 (0, 0)) := hfar _ _ Nb0_1.out (heap_keep Fv0_2.out B1.out)
   have C0_2 := zb B0 B1
   have hbr := hbel _ _ Gb1.out C0_2.out
   clear B0
   have B0 := zh hbr
   clear hbr
   clear Fv0_2
   have Fv0_2 : Hid (X2_2.heap[w.heap.size]? = some (.cells #[.int .i64 kd, .int .i64 col, .int .i64 k, .slice A n c] 24 (0, 0))) := zh YFv0_2
   clear YFv0_2
   clear Fv1_4
   have Fv1_4 : Hid (X2_2.heap[(w.heap.size + 1)]? = some (.cells #[.slice none 0 0] 29 (0, 0))) := zh (h1)
   have HszX2_2 := zh hsz
   clear h1 hfar hbel hsz
   simp only [ptr, Act.put, zA]
   refine zr (.int .i64 1) X2_2 rfl ?_
   simp only [Act.put, zA]
   refine wpList_nil ?_
   have hbf := B0.out
   go_wp2_with fail
   refine bodyPost_ret (v := .tuple #[.agg #[.slice none 0 0], .int .i64 1]) ?_ rfl ⟨rfl, hbf⟩
   exact results_row_tmp rfl _ _ (w.heap.size + 1) 29 _ (0, 0) _ _ rfl rfl Fv1_4.out Tryd.underlying29 rfl (by kernel_rfl)
end Go.Proofs.YtbecajihgbbgjaaDoor

