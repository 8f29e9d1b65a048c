/- Stage 14: what the laws share; law TypecheckMatchesReference. -/
import Derived.Test.YtbecajihgbbgjaaDoorM06
import Derived.Test.YtbecajihgbbgjaaDoorM17
namespace Go.Proofs.YtbecajihgbbgjaaDoor
set_option linter.unusedVariables false
set_option linter.unusedSimpArgs false
set_option linter.unusedSectionVars false
set_option maxRecDepth 8000
open Go.RowKit Go.Proofs.YtbecajihgbbgjaaDoor.K
attribute [local irreducible] wpList wpQuiet
namespace Ty
set_option linter.unusedVariables false
set_option linter.unusedSimpArgs false
set_option linter.unusedSectionVars false
theorem zs_len (l : List Nat) : (zs l).length = l.length := by unfold zs; rw [List.length_map]
theorem ck_len {q : Qu.Qy} {rows co : Nat} {xs : List Nat} (h : ckN q rows = (xs, co)) : xs.length ≤ 32 := by
 unfold ckN at h
 split at h
 ·injection h with h1 _
  rw [← h1]
  exact Nat.zero_le _
 ·split at h
  ·injection h with h1 _
   rw [← h1, List.length_map, List.length_range]
   exact su_le q.kind
  ·injection h with h1 _
   rw [← h1]
   exact Nat.zero_le _
/-- what Check says of a raw query -/
def CkR (kind col k : Int) (fs : List (List Qu.Ci)) (rows : Int) (r : List Nat × Nat) : Prop := ((Qu.vQ kind col k fs = false ∨ rows < 0 ∨ rows > 65536) ∧ r = ([], 1)) ∨ ∃ (q : Qu.Qy) (m : Nat), OkQ q ∧ kind = (q.kind : Int) ∧ col = (q.col : Int) ∧ k = (q.k : Int) ∧ fs = q.fs.map (List.map Qu.Cd.ci) ∧ rows = (m : Int) ∧ m ≤ 65536 ∧ ckN q m = r
theorem ckR_ex (kind col k : Int) (fs : List (List Qu.Ci)) (rows : Int) : ∃ r, CkR kind col k fs rows r := by
 by_cases hb : Qu.vQ kind col k fs = false ∨ rows < 0 ∨ rows > 65536
 ·exact ⟨_, .inl ⟨hb, rfl⟩⟩
 ·have hv : Qu.vQ kind col k fs = true := by
   cases h : Qu.vQ kind col k fs with
   | true => rfl
   | false => exact absurd (.inl h) hb
  obtain ⟨q, h1, h2, h3, h4, h5⟩ := okQ_of_vQ hv
  exact ⟨_, .inr ⟨q, rows.toNat, h1, h2, h3, h4, h5, by omega, by omega, rfl⟩⟩
theorem ckR_len {kind col k : Int} {fs : List (List Qu.Ci)} {rows : Int} {r : List Nat × Nat} (h : CkR kind col k fs rows r) : r.1.length ≤ 32 := by
 rcases h with ⟨_, rfl⟩ | ⟨q, m, _, _, _, _, _, _, _, h⟩
 ·exact Nat.zero_le _
 ·exact ck_len (co := r.2) h
end Ty
theorem check_raw (kind col k : Int) (A : Option Addr) (n c : Nat) (hs : List Hd) (fs : List (List Qu.Ci)) (rows : Int) (r : List Nat × Nat) (h : Ty.CkR kind col k fs rows r) (w : World) (hF : FsR w A n c hs fs) (hG : Gw5 w) (hC : Gc w) :
  Calls Tryd.prog 11 #[.agg #[.int .i64 kind, .int .i64 col, .int .i64 k, .slice A n c], .int .i64 rows] w fun e w' => ∃ A2 n2 c2, e = .returned (.tuple #[.agg #[.slice A2 n2 c2], .int .i64 (r.2 : Int)]) ∧ Sg zzC 1 w' A2 n2 c2 (Ty.zs r.1) ∧ Below w.heap.size w w' := by
 rcases h with ⟨hb, rfl⟩ | ⟨q, m, hq, rfl, rfl, rfl, rfl, rfl, hm, hr⟩
 ·exact (check_bad kind col k A n c hs fs rows hb w hF hC).mono fun e w' h => ⟨none, 0, 0, h.1, Sg.nil_ _, h.2⟩
 ·exact check_ok q.kind q.col q.k A n c hs q.fs hq m hm r hr w hF hG hC
theorem rcheck_raw (kind col k : Int) (A : Option Addr) (n c : Nat) (hs : List Hd) (fs : List (List Qu.Ci)) (rows : Int) (r : List Nat × Nat) (h : Ty.CkR kind col k fs rows r) (w : World) (hF : FsR w A n c hs fs) :
  Calls Tryd.prog 12 #[.agg #[.int .i64 kind, .int .i64 col, .int .i64 k, .slice A n c], .int .i64 rows] w fun e w' => ∃ A2 n2 c2, e = .returned (.tuple #[.agg #[.slice A2 n2 c2], .int .i64 (r.2 : Int)]) ∧ Sg zzC 1 w' A2 n2 c2 (Ty.zs r.1) ∧ Below w.heap.size w w' := by
 rcases h with ⟨hb, rfl⟩ | ⟨q, m, hq, rfl, rfl, rfl, rfl, rfl, hm, hr⟩
 ·exact (rcheck_bad kind col k A n c hs fs rows hb w hF).mono fun e w' h => ⟨none, 0, 0, h.1, Sg.nil_ _, h.2⟩
 ·exact rcheck_ok q.kind q.col q.k A n c hs q.fs hq m hm r hr w hF
set_option maxRecDepth 100000 in
set_option maxHeartbeats 32000000 in
theorem tMatches_any (kind col k : Int) (A : Option Addr) (n c : Nat) (hs : List Hd) (fs : List (List Qu.Ci)) (rows : Int) (vl : Nat) (hvl : vl < 65536) (w : World) (hG : Gw5 w) (hC : Gc w) (hF : FsR w A n c hs fs) :
  Calls Tryd.prog 3 #[.agg #[.int .i64 kind, .int .i64 col, .int .i64 k, .slice A n c], .int .i64 rows, .int .u16 (vl : Int)] w fun e w' => e = .returned (.bool true) ∧ Below w.heap.size w w' := by
 have HFR := zh hF
 have HG := zh hG
 have HGC := zh hC
 have hln := hF.sg.len
 have hlc := hF.sg.cap
 have hlt := hF.sg.top
 clear hF hG hC
 obtain ⟨⟨kd, cl, kk, qf⟩, hq0⟩ : ∃ q, mdQ kind col k fs = q := ⟨_, rfl⟩
 have HOK : Hid (OkQ ⟨kd, cl, kk, qf⟩) := zh (by rw [← hq0]; exact mdQ_ok kind col k fs)
 have HQ0 := zh hq0
 clear hq0
 have hk1 : 1 ≤ kd := HOK.out.k1
 have hk7 : kd ≤ 7 := HOK.out.k7
 have hcl : cl < 4 := okQ_col HOK.out
 have hkk : kk ≤ 65536 := okQ_k HOK.out
 have HNF : Hid (qf.length = Qu.numF kd) := zh HOK.out.nf
 have hnf1 : 0 < qf.length := by rw [HNF.out]; unfold Qu.numF; split <;> decide
 obtain ⟨⟨xr, cr⟩, HCR⟩ := Ty.ckR_ex kind col k fs rows
 have HCR := zh HCR
 obtain ⟨rlr, hrlr⟩ : ∃ z, (Ty.zs xr).length = z := ⟨_, rfl⟩
 have HRLR := zh hrlr
 clear hrlr
 have hr32r : rlr ≤ 32 := by rw [← HRLR.out, Ty.zs_len]; exact Ty.ckR_len HCR.out
 obtain ⟨⟨xsq, coq⟩, hck⟩ : ∃ r, Ty.ckN ⟨kd, cl, kk, qf⟩ vl = r := ⟨_, rfl⟩
 have HCKq := zh hck
 clear hck
 obtain ⟨rlq, hrl⟩ : ∃ z, (Ty.zs xsq).length = z := ⟨_, rfl⟩
 have HRLq := zh hrl
 have HRXq : Hid (xsq.length = rlq) := zh (by rw [← hrl, Ty.zs_len])
 have hr32q : rlq ≤ 32 := by rw [← HRXq.out]; exact Ty.ck_len HCKq.out
 clear hrl
 obtain ⟨sz, hsz⟩ : ∃ z, Ty.suZ kind = z := ⟨_, rfl⟩
 have HSZ := zh hsz
 clear hsz
 obtain ⟨bt, hbt⟩ : ∃ z, Ty.btN col = z := ⟨_, rfl⟩
 have HBT := zh hbt
 clear hbt
 go_enter Tryd.func3, Tryd.ntmps3
 go_upto_region 1 with fail
 refine wp_named1 (fun V1 hb g0 hlt => ?_)
 have B0 := zh hb
 have Fv0_3 : Hid (V1.heap[w.heap.size]? = some (.cells #[.int .i64 kind, .int .i64 col, .int .i64 k, .slice A n c] 24 (0, 0))) := zh (g0)
 have Gb0 : Hid (w.heap.size ≤ w.heap.size) := zh (by omega)
 clear hb g0 hlt
 have Lt0 : Hid (w.heap.size < V1.heap.size) := zh (xp_lt Fv0_3.out)
 refine wp_region_lit ?_
 refine wpList_call (by kernel_rfl) 10 Tryd.func10 (by kernel_rfl) (by kernel_rfl) _ _ #[] rfl (by kernel_rfl) ?_
 refine (sanity14_as V1 (HG.out.keep B0.out) (HGC.out.keep B0.out)).mono ?_
 rintro e V2 ⟨rfl, hb⟩
 have B1 := zh hb
 clear hb 
 refine ⟨_, rfl, ?_⟩
 simp only [Act.put, zA]
 refine zr (.bool true) V2 rfl ?_
 simp only [Act.put, zA]
 refine wpList_nil ?_
 by_cases hn4 : n > 4
 ·have hci1 : ((n : Int) > 4) := by omega
  go_upto_region 2 with fail
  refine wp_region_lit ?_
  refine zr (.pointer (some ⟨w.heap.size, 3, none⟩)) V2 (xo_fld0 3 w.heap.size 3 (by kernel_rfl) rfl rfl) ?_
  simp only [Act.put, zA]
  refine zr (.slice A n c) V2 (xo_load1 ⟨w.heap.size, 3, none⟩ _ (cells_at (heap_keep Fv0_3.out B1.out) 3 rfl) Tryd.underlying22 rfl rfl rfl) ?_
  simp only [Act.put, zA]
  refine zr (.int .i64 (n : Int)) V2 (xo_len A n c Tryd.underlying22 rfl rfl) ?_
  simp only [Act.put, zA]
  refine zr (.bool true) V2 (xo_gtrT .i64 (n : Int) 4 (by omega) rfl rfl rfl) ?_
  simp only [Act.put, zA]
  refine wpList_nil ?_
  go_upto_region 3 with fail
  refine wp_region_lit ?_
  refine zr (.bool true) V2 rfl ?_
  simp only [Act.put, zA]
  refine zr (.bool true) V2 rfl ?_
  simp only [Act.put, zA]
  refine wpList_nil ?_
  have C0_2 := zb B0 B1
  have hbf := C0_2.out
  go_wp2_with fail
  go_ret
  exact ⟨rfl, hbf⟩
 ·have hci1 : ¬ ((n : Int) > 4) := by omega
  go_upto_region 2 with fail
  refine wp_region_lit ?_
  refine zr (.pointer (some ⟨w.heap.size, 3, none⟩)) V2 (xo_fld0 3 w.heap.size 3 (by kernel_rfl) rfl rfl) ?_
  simp only [Act.put, zA]
  refine zr (.slice A n c) V2 (xo_load1 ⟨w.heap.size, 3, none⟩ _ (cells_at (heap_keep Fv0_3.out B1.out) 3 rfl) Tryd.underlying22 rfl rfl rfl) ?_
  simp only [Act.put, zA]
  refine zr (.int .i64 (n : Int)) V2 (xo_len A n c Tryd.underlying22 rfl rfl) ?_
  simp only [Act.put, zA]
  refine zr (.bool false) V2 (xo_gtrF .i64 (n : Int) 4 (by omega) rfl rfl rfl) ?_
  simp only [Act.put, zA]
  refine wpList_nil ?_
  go_upto_region 4 with fail
  refine wp_region_lit ?_
  refine zr (.agg #[.int .i64 kind, .int .i64 col, .int .i64 k, .slice A n c]) V2 (xo_loadW w.heap.size _ (heap_keep Fv0_3.out B1.out) Tryd.underlying24 rfl (by kernel_rfl) rfl rfl) ?_
  simp only [Act.put, zA]
  refine zr (.int .i64 rows) V2 rfl ?_
  simp only [Act.put, zA]
  have C0_2 := zb B0 B1
  refine wpList_call (by kernel_rfl) 11 Tryd.func11 (by kernel_rfl) (by kernel_rfl) _ _ #[.agg #[.int .i64 kind, .int .i64 col, .int .i64 k, .slice A n c], .int .i64 rows] rfl (by kernel_rfl) ?_
  refine (check_raw kind col k A n c hs fs rows (xr, cr) HCR.out V2 (HFR.out.keep C0_2.out) (HG.out.keep C0_2.out) (HGC.out.keep C0_2.out)).mono ?_
  rintro e V3 ⟨Aa, na, ca, rfl, hsg, hb⟩
  have B2 := zh hb
  obtain rfl : rlr = na := HRLR.out.symm.trans hsg.len
  have HSa := zh hsg
  clear hb hsg
  refine ⟨_, rfl, ?_⟩
  simp only [Act.put, zA]
  refine zr (.tuple #[.agg #[.slice Aa rlr ca], .int .i64 (cr : Int)]) V3 rfl ?_
  simp only [Act.put, zA]
  refine zr (.agg #[.slice Aa rlr ca]) V3 rfl ?_
  simp only [Act.put, zA]
  refine zr (.int .i64 (cr : Int)) V3 rfl ?_
  simp only [Act.put, zA]
  refine wpList_new #[.slice none 0 0] 29 (by kernel_rfl) (xo_alloc #[.slice none 0 0] (by kernel_rfl) rfl) ?_
  intro b8 V4 hge h0 hb
  have C1_3 := zb B1 B2
  have N2_0 : Hid (w.heap.size ≠ b8) := zh (xp_lt0 (heap_keep Fv0_3.out C1_3.out) hge)
  have Ge3 : Hid (V3.heap.size ≤ b8) := zh hge
  have B3 := zh hb
  have Fv4_8 : Hid (V4.heap[b8]? = some (.cells #[.slice none 0 0] 29 (0, 0))) := zh (h0)
  have Lt5 : Hid (b8 < V4.heap.size) := zh (xp_lt Fv4_8.out)
  clear hge h0 hb
  simp only [ptr, Act.put, zA]
  refine wpList_storeW b8 #[.slice none 0 0] #[.slice Aa rlr ca] 29 (by kernel_rfl) Fv4_8.out (xo_storeW b8 #[.slice none 0 0] #[.slice Aa rlr ca] Fv4_8.out (by kernel_rfl) rfl (by simp [Value.oneCell']) rfl rfl rfl) ?_
  intro X4_6 h1 hfar hbel hsz
  have hbr := hbel _ _ Ge3.out B3.out
  clear B3
  have B3 := zh hbr
  clear hbr
  clear Fv4_8
  have Fv4_8 : Hid (X4_6.heap[b8]? = some (.cells #[.slice Aa rlr ca] 29 (0, 0))) := zh (h1)
  have HszX4_6 := zh hsz
  clear h1 hfar hbel hsz
  simp only [ptr, Act.put, zA]
  refine zr (.int .i64 (cr : Int)) X4_6 rfl ?_
  simp only [Act.put, zA]
  refine wpList_nil ?_
  go_upto_region 5 with fail
  refine wp_region_lit ?_
  have C1_4 := zb C1_3 B3
  refine zr (.agg #[.int .i64 kind, .int .i64 col, .int .i64 k, .slice A n c]) X4_6 (xo_loadW w.heap.size _ (heap_keep Fv0_3.out C1_4.out) Tryd.underlying24 rfl (by kernel_rfl) rfl rfl) ?_
  simp only [Act.put, zA]
  refine zr (.int .i64 rows) X4_6 rfl ?_
  simp only [Act.put, zA]
  have C0_3 := zb C0_2 B2
  have C0_4 := zb C0_3 B3
  refine wpList_call (by kernel_rfl) 12 Tryd.func12 (by kernel_rfl) (by kernel_rfl) _ _ #[.agg #[.int .i64 kind, .int .i64 col, .int .i64 k, .slice A n c], .int .i64 rows] rfl (by kernel_rfl) ?_
  refine (rcheck_raw kind col k A n c hs fs rows (xr, cr) HCR.out X4_6 (HFR.out.keep C0_4.out)).mono ?_
  rintro e V5 ⟨Ab, nb, cb, rfl, hsg, hb⟩
  have B4 := zh hb
  obtain rfl : rlr = nb := HRLR.out.symm.trans hsg.len
  have HSb := zh hsg
  clear hb hsg
  refine ⟨_, rfl, ?_⟩
  simp only [Act.put, zA]
  refine zr (.tuple #[.agg #[.slice Ab rlr cb], .int .i64 (cr : Int)]) V5 rfl ?_
  simp only [Act.put, zA]
  refine zr (.agg #[.slice Ab rlr cb]) V5 rfl ?_
  simp only [Act.put, zA]
  refine zr (.int .i64 (cr : Int)) V5 rfl ?_
  simp only [Act.put, zA]
  refine wpList_new #[.slice none 0 0] 29 (by kernel_rfl) (xo_alloc #[.slice none 0 0] (by kernel_rfl) rfl) ?_
  intro b10 V6 hge h0 hb
  have C1_5 := zb C1_4 B4
  have N7_0 : Hid (w.heap.size ≠ b10) := zh (xp_lt0 (heap_keep Fv0_3.out C1_5.out) hge)
  have N8_1 : Hid (b8 ≠ b10) := zh (xp_lt0 (heap_keep Fv4_8.out B4.out) hge)
  have Ge9 : Hid (V5.heap.size ≤ b10) := zh hge
  have B5 := zh hb
  have Fv10_10 : Hid (V6.heap[b10]? = some (.cells #[.slice none 0 0] 29 (0, 0))) := zh (h0)
  have Lt11 : Hid (b10 < V6.heap.size) := zh (xp_lt Fv10_10.out)
  clear hge h0 hb
  simp only [ptr, Act.put, zA]
  refine wpList_storeW b10 #[.slice none 0 0] #[.slice Ab rlr cb] 29 (by kernel_rfl) Fv10_10.out (xo_storeW b10 #[.slice none 0 0] #[.slice Ab rlr cb] Fv10_10.out (by kernel_rfl) rfl (by simp [Value.oneCell']) rfl rfl rfl) ?_
  intro X6_12 h1 hfar hbel hsz
  have hbr := hbel _ _ Ge9.out B5.out
  clear B5
  have B5 := zh hbr
  clear hbr
  clear Fv10_10
  have Fv10_10 : Hid (X6_12.heap[b10]? = some (.cells #[.slice Ab rlr cb] 29 (0, 0))) := zh (h1)
  have HszX6_12 := zh hsz
  clear h1 hfar hbel hsz
  simp only [ptr, Act.put, zA]
  refine zr (.int .i64 (cr : Int)) X6_12 rfl ?_
  simp only [Act.put, zA]
  refine wpList_nil ?_
  go_upto_region 6 with fail
  refine wp_region_lit ?_
  have C1_6 := zb C1_5 B5
  refine zr (.agg #[.int .i64 kind, .int .i64 col, .int .i64 k, .slice A n c]) X6_12 (xo_loadW w.heap.size _ (heap_keep Fv0_3.out C1_6.out) Tryd.underlying24 rfl (by kernel_rfl) rfl rfl) ?_
  simp only [Act.put, zA]
  have C0_5 := zb C0_4 B4
  have C0_6 := zb C0_5 B5
  refine wpList_call (by kernel_rfl) 13 Tryd.func13 (by kernel_rfl) (by kernel_rfl) _ _ #[.agg #[.int .i64 kind, .int .i64 col, .int .i64 k, .slice A n c]] rfl (by kernel_rfl) ?_
  refine (made_as kind col k A n c hs fs ⟨kd, cl, kk, qf⟩ HQ0.out X6_12 (HFR.out.keep C0_6.out)).mono ?_
  rintro e V7 ⟨A2, n2, c2, rfl, hfo0, hb⟩
  have B6 := zh hb
  have hn2 := (FsOwn.fsR hfo0).1
  subst hn2
  have hfo := FsOwn.mono hfo0 C0_6.out.size
  clear hfo0
  have HFO := zh hfo
  clear hb hfo
  refine ⟨_, rfl, ?_⟩
  simp only [Act.put, zA]
  refine zr (.int .u16 (vl : Int)) V7 rfl ?_
  simp only [Act.put, zA]
  refine zr (.int .i64 (vl : Int)) V7 (xo_cvt .u16 .i64 (vl : Int) (vl : Int) (by rw [IntKind.wrap_i64]; omega) Tryd.underlying3 Tryd.underlying25 rfl rfl) ?_
  simp only [Act.put, zA]
  refine wpList_new #[.int .i64 0, .int .i64 0, .int .i64 0, .slice none 0 0] 24 (by kernel_rfl) (xo_alloc #[.int .i64 0, .int .i64 0, .int .i64 0, .slice none 0 0] (by kernel_rfl) rfl) ?_
  intro b12 V8 hge h0 hb
  have C1_7 := zb C1_6 B6
  have N13_0 : Hid (w.heap.size ≠ b12) := zh (xp_lt0 (heap_keep Fv0_3.out C1_7.out) hge)
  have C4_6 := zb B4 B5
  have C4_7 := zb C4_6 B6
  have N14_1 : Hid (b8 ≠ b12) := zh (xp_lt0 (heap_keep Fv4_8.out C4_7.out) hge)
  have N15_2 : Hid (b10 ≠ b12) := zh (xp_lt0 (heap_keep Fv10_10.out B6.out) hge)
  have Ge16 : Hid (V7.heap.size ≤ b12) := zh hge
  have B7 := zh hb
  have Fv17_12 : Hid (V8.heap[b12]? = some (.cells #[.int .i64 0, .int .i64 0, .int .i64 0, .slice none 0 0] 24 (0, 0))) := zh (h0)
  have Lt18 : Hid (b12 < V8.heap.size) := zh (xp_lt Fv17_12.out)
  clear hge h0 hb
  simp only [ptr, Act.put, zA]
  refine wpList_storeW b12 #[.int .i64 0, .int .i64 0, .int .i64 0, .slice none 0 0] #[.int .i64 (kd : Int), .int .i64 (cl : Int), .int .i64 (kk : Int), .slice A2 qf.length c2] 24 (by kernel_rfl) Fv17_12.out (xo_storeW b12 #[.int .i64 0, .int .i64 0, .int .i64 0, .slice none 0 0] #[.int .i64 (kd : Int), .int .i64 (cl : Int), .int .i64 (kk : Int), .slice A2 qf.length c2] Fv17_12.out (by kernel_rfl) rfl (by simp [Value.oneCell']) rfl rfl rfl) ?_
  intro X8_19 h1 hfar hbel hsz
  have hbr := hbel _ _ Ge16.out B7.out
  clear B7
  have B7 := zh hbr
  clear hbr
  clear Fv17_12
  have Fv17_12 : Hid (X8_19.heap[b12]? = some (.cells #[.int .i64 (kd : Int), .int .i64 (cl : Int), .int .i64 (kk : Int), .slice A2 qf.length c2] 24 (0, 0))) := zh (h1)
  have HszX8_19 := zh hsz
  clear h1 hfar hbel hsz
  simp only [ptr, Act.put, zA]
  refine zr (.int .i64 (vl : Int)) X8_19 rfl ?_
  simp only [Act.put, zA]
  refine wpList_nil ?_
  obtain ⟨_, hs2, hfr⟩ := FsOwn.fsR (HFO.out.keep B7.out)
  have HFR2 := zh hfr
  clear hfr
  clear HFO
  go_upto_region 7 with fail
  refine wp_region_lit ?_
  refine zr (.agg #[.int .i64 (kd : Int), .int .i64 (cl : Int), .int .i64 (kk : Int), .slice A2 qf.length c2]) X8_19 (xo_loadW b12 _ Fv17_12.out Tryd.underlying24 rfl (by kernel_rfl) rfl rfl) ?_
  simp only [Act.put, zA]
  refine zr (.int .i64 (vl : Int)) X8_19 rfl ?_
  simp only [Act.put, zA]
  have C0_7 := zb C0_6 B6
  have C0_8 := zb C0_7 B7
  refine wpList_call (by kernel_rfl) 11 Tryd.func11 (by kernel_rfl) (by kernel_rfl) _ _ #[.agg #[.int .i64 (kd : Int), .int .i64 (cl : Int), .int .i64 (kk : Int), .slice A2 qf.length c2], .int .i64 (vl : Int)] rfl (by kernel_rfl) ?_
  refine (check_ok kd cl kk A2 qf.length c2 hs2 qf HOK.out vl (by omega) (xsq, coq) HCKq.out X8_19 HFR2.out (HG.out.keep C0_8.out) (HGC.out.keep C0_8.out)).mono ?_
  rintro e V9 ⟨Ad, nd, cd, rfl, hsg, hb⟩
  have B8 := zh hb
  obtain rfl : rlq = nd := (HRLq.out).symm.trans hsg.len
  have HSd := zh hsg
  clear hb hsg
  refine ⟨_, rfl, ?_⟩
  simp only [Act.put, zA]
  refine zr (.tuple #[.agg #[.slice Ad rlq cd], .int .i64 (coq : Int)]) V9 rfl ?_
  simp only [Act.put, zA]
  refine zr (.agg #[.slice Ad rlq cd]) V9 rfl ?_
  simp only [Act.put, zA]
  refine zr (.int .i64 (coq : Int)) V9 rfl ?_
  simp only [Act.put, zA]
  refine wpList_new #[.slice none 0 0] 29 (by kernel_rfl) (xo_alloc #[.slice none 0 0] (by kernel_rfl) rfl) ?_
  intro b14 V10 hge h0 hb
  have C1_8 := zb C1_7 B7
  have C1_9 := zb C1_8 B8
  have N20_0 : Hid (w.heap.size ≠ b14) := zh (xp_lt0 (heap_keep Fv0_3.out C1_9.out) hge)
  have C4_8 := zb C4_7 B7
  have C4_9 := zb C4_8 B8
  have N21_1 : Hid (b8 ≠ b14) := zh (xp_lt0 (heap_keep Fv4_8.out C4_9.out) hge)
  have C6_8 := zb B6 B7
  have C6_9 := zb C6_8 B8
  have N22_2 : Hid (b10 ≠ b14) := zh (xp_lt0 (heap_keep Fv10_10.out C6_9.out) hge)
  have N23_3 : Hid (b12 ≠ b14) := zh (xp_lt0 (heap_keep Fv17_12.out B8.out) hge)
  have Ge24 : Hid (V9.heap.size ≤ b14) := zh hge
  have B9 := zh hb
  have Fv25_14 : Hid (V10.heap[b14]? = some (.cells #[.slice none 0 0] 29 (0, 0))) := zh (h0)
  have Lt26 : Hid (b14 < V10.heap.size) := zh (xp_lt Fv25_14.out)
  clear hge h0 hb
  simp only [ptr, Act.put, zA]
  refine wpList_storeW b14 #[.slice none 0 0] #[.slice Ad rlq cd] 29 (by kernel_rfl) Fv25_14.out (xo_storeW b14 #[.slice none 0 0] #[.slice Ad rlq cd] Fv25_14.out (by kernel_rfl) rfl (by simp [Value.oneCell']) rfl rfl rfl) ?_
  intro X10_27 h1 hfar hbel hsz
  have hbr := hbel _ _ Ge24.out B9.out
  clear B9
  have B9 := zh hbr
  clear hbr
  clear Fv25_14
  have Fv25_14 : Hid (X10_27.heap[b14]? = some (.cells #[.slice Ad rlq cd] 29 (0, 0))) := zh (h1)
  have HszX10_27 := zh hsz
  clear h1 hfar hbel hsz
  simp only [ptr, Act.put, zA]
  refine zr (.int .i64 (coq : Int)) X10_27 rfl ?_
  simp only [Act.put, zA]
  refine wpList_nil ?_
  go_upto_region 8 with fail
  refine wp_region_lit ?_
  have C8_10 := zb B8 B9
  refine zr (.agg #[.int .i64 (kd : Int), .int .i64 (cl : Int), .int .i64 (kk : Int), .slice A2 qf.length c2]) X10_27 (xo_loadW b12 _ (heap_keep Fv17_12.out C8_10.out) Tryd.underlying24 rfl (by kernel_rfl) rfl rfl) ?_
  simp only [Act.put, zA]
  refine zr (.int .i64 (vl : Int)) X10_27 rfl ?_
  simp only [Act.put, zA]
  refine wpList_call (by kernel_rfl) 12 Tryd.func12 (by kernel_rfl) (by kernel_rfl) _ _ #[.agg #[.int .i64 (kd : Int), .int .i64 (cl : Int), .int .i64 (kk : Int), .slice A2 qf.length c2], .int .i64 (vl : Int)] rfl (by kernel_rfl) ?_
  refine (rcheck_ok kd cl kk A2 qf.length c2 hs2 qf HOK.out vl (by omega) (xsq, coq) HCKq.out X10_27 (HFR2.out.keep C8_10.out)).mono ?_
  rintro e V11 ⟨Ae, ne, ce, rfl, hsg, hb⟩
  have B10 := zh hb
  obtain rfl : rlq = ne := (HRLq.out).symm.trans hsg.len
  have HSe := zh hsg
  clear hb hsg
  refine ⟨_, rfl, ?_⟩
  simp only [Act.put, zA]
  refine zr (.tuple #[.agg #[.slice Ae rlq ce], .int .i64 (coq : Int)]) V11 rfl ?_
  simp only [Act.put, zA]
  refine zr (.agg #[.slice Ae rlq ce]) V11 rfl ?_
  simp only [Act.put, zA]
  refine zr (.int .i64 (coq : Int)) V11 rfl ?_
  simp only [Act.put, zA]
  refine wpList_new #[.slice none 0 0] 29 (by kernel_rfl) (xo_alloc #[.slice none 0 0] (by kernel_rfl) rfl) ?_
  intro b16 V12 hge h0 hb
  have C1_10 := zb C1_9 B9
  have C1_11 := zb C1_10 B10
  have N28_0 : Hid (w.heap.size ≠ b16) := zh (xp_lt0 (heap_keep Fv0_3.out C1_11.out) hge)
  have C4_10 := zb C4_9 B9
  have C4_11 := zb C4_10 B10
  have N29_1 : Hid (b8 ≠ b16) := zh (xp_lt0 (heap_keep Fv4_8.out C4_11.out) hge)
  have C6_10 := zb C6_9 B9
  have C6_11 := zb C6_10 B10
  have N30_2 : Hid (b10 ≠ b16) := zh (xp_lt0 (heap_keep Fv10_10.out C6_11.out) hge)
  have C8_11 := zb C8_10 B10
  have N31_3 : Hid (b12 ≠ b16) := zh (xp_lt0 (heap_keep Fv17_12.out C8_11.out) hge)
  have N32_4 : Hid (b14 ≠ b16) := zh (xp_lt0 (heap_keep Fv25_14.out B10.out) hge)
  have Ge33 : Hid (V11.heap.size ≤ b16) := zh hge
  have B11 := zh hb
  have Fv34_16 : Hid (V12.heap[b16]? = some (.cells #[.slice none 0 0] 29 (0, 0))) := zh (h0)
  have Lt35 : Hid (b16 < V12.heap.size) := zh (xp_lt Fv34_16.out)
  clear hge h0 hb
  simp only [ptr, Act.put, zA]
  refine wpList_storeW b16 #[.slice none 0 0] #[.slice Ae rlq ce] 29 (by kernel_rfl) Fv34_16.out (xo_storeW b16 #[.slice none 0 0] #[.slice Ae rlq ce] Fv34_16.out (by kernel_rfl) rfl (by simp [Value.oneCell']) rfl rfl rfl) ?_
  intro X12_36 h1 hfar hbel hsz
  have hbr := hbel _ _ Ge33.out B11.out
  clear B11
  have B11 := zh hbr
  clear hbr
  clear Fv34_16
  have Fv34_16 : Hid (X12_36.heap[b16]? = some (.cells #[.slice Ae rlq ce] 29 (0, 0))) := zh (h1)
  have HszX12_36 := zh hsz
  clear h1 hfar hbel hsz
  simp only [ptr, Act.put, zA]
  refine zr (.int .i64 (coq : Int)) X12_36 rfl ?_
  simp only [Act.put, zA]
  refine wpList_nil ?_
  go_upto_region 9 with fail
  refine wp_floatP [0, 1, 2, 3, 4, 5, 6, 7, 8, 9, 10, 11, 12, 13, 14, 15, 16, 17, 18, 19, 20, 21, 22, 23, 24, 25, 26, 27, 28, 29, 30, 31, 32, 33, 34, 35, 36, 37, 38, 39, 40, 41] (l' := [_, _, _, _, _, _, _, _, _, _, _, _, _, _, _, _, _, _, _, _, _, _, _, _, _, _, _, _, _, _, _, _, _, _, _, _, _, _, _, _, _, _]) (by kernel_rfl) (lexOK_of (by kernel_rfl) (by kernel_rfl)) (ordOK_of (by kernel_rfl) (by kernel_rfl)) rfl rfl ?_
  simp only [List.getElem_toArray, List.getElem_cons_succ, List.getElem_cons_zero]
  intro V13 hb hSW
  have B12 := zh hb
  have HF13 := zh hSW
  clear hb hSW
  refine wpF_seg 4 (by kernel_rfl) ?_
  simp only [List.take_succ_cons, List.take_zero, List.drop_succ_cons, List.drop_zero]
  refine zv (.pointer (some ⟨b8, 0, none⟩)) (fun v hv => (xo_fld0 0 b8 0 (by kernel_rfl) rfl rfl)) ?_
  simp only [Act.put, zA]
  have C4_12 := zb C4_11 B11
  refine zv (.slice Aa rlr ca) (fun v hv => (xo_load1 ⟨b8, 0, none⟩ _ (cells_at (heap_keep (heap_keep Fv4_8.out C4_12.out) (laterF hv)) 0 rfl) Tryd.underlying27 rfl rfl rfl)) ?_
  simp only [Act.put, zA]
  refine zv (.pointer (some ⟨b10, 0, none⟩)) (fun v hv => (xo_fld0 0 b10 0 (by kernel_rfl) rfl rfl)) ?_
  simp only [Act.put, zA]
  have C6_12 := zb C6_11 B11
  refine zv (.slice Ab rlr cb) (fun v hv => (xo_load1 ⟨b10, 0, none⟩ _ (cells_at (heap_keep (heap_keep Fv10_10.out C6_12.out) (laterF hv)) 0 rfl) Tryd.underlying27 rfl rfl rfl)) ?_
  simp only [Act.put, zA]
  refine wpQuiet_nil ?_
  refine wpF_call 14 Tryd.func14 (by kernel_rfl) (by kernel_rfl) _ _ #[.slice Aa rlr ca, .slice Ab rlr cb] rfl (by kernel_rfl) (by kernel_rfl) HF13.out (fun V14 hb => ?_)
  have B13 := zh hb
  have HF14 := zh (HF13.out.ext hb)
  clear hb
  have C3_5 := zb B3 B4
  have C3_6 := zb C3_5 B5
  have C3_7 := zb C3_6 B6
  have C3_8 := zb C3_7 B7
  have C3_9 := zb C3_8 B8
  have C3_10 := zb C3_9 B9
  have C3_11 := zb C3_10 B10
  have C3_12 := zb C3_11 B11
  have C3_13 := zb C3_12 B12
  have C3_14 := zb C3_13 B13
  have C5_7 := zb B5 B6
  have C5_8 := zb C5_7 B7
  have C5_9 := zb C5_8 B8
  have C5_10 := zb C5_9 B9
  have C5_11 := zb C5_10 B10
  have C5_12 := zb C5_11 B11
  have C5_13 := zb C5_12 B12
  have C5_14 := zb C5_13 B13
  refine (same14_yes Aa Ab rlr ca cb (Ty.zs xr) V14 (HSa.out.keep C3_14.out) (HSb.out.keep C5_14.out)).mono ?_
  rintro e V15 ⟨rfl, hb⟩
  have B14 := zh hb
  have HF15 := zh (HF14.out.ext hb)
  refine ⟨_, rfl, hb, ?_⟩
  clear hb 
  simp only [Act.put, zA]
  refine wpF_seg 10 (by kernel_rfl) ?_
  simp only [List.take_succ_cons, List.take_zero, List.drop_succ_cons, List.drop_zero]
  refine zv (.bool true) (fun v hv => rfl) ?_
  simp only [Act.put, zA]
  refine zv (.int .i64 (cr : Int)) (fun v hv => rfl) ?_
  simp only [Act.put, zA]
  refine zv (.int .i64 (cr : Int)) (fun v hv => rfl) ?_
  simp only [Act.put, zA]
  refine zv (.bool true) (fun v hv => (xo_eqlT .i64 (cr : Int) (cr : Int) (by omega) rfl rfl rfl)) ?_
  simp only [Act.put, zA]
  refine zv (.bool true) (fun v hv => rfl) ?_
  simp only [Act.put, zA]
  refine zv (.bool true) (fun v hv => rfl) ?_
  simp only [Act.put, zA]
  refine zv (.pointer (some ⟨b14, 0, none⟩)) (fun v hv => (xo_fld0 0 b14 0 (by kernel_rfl) rfl rfl)) ?_
  simp only [Act.put, zA]
  have C10_12 := zb B10 B11
  refine zv (.slice Ad rlq cd) (fun v hv => (xo_load1 ⟨b14, 0, none⟩ _ (cells_at (heap_keep (heap_keep Fv25_14.out C10_12.out) (laterF hv)) 0 rfl) Tryd.underlying27 rfl rfl rfl)) ?_
  simp only [Act.put, zA]
  refine zv (.pointer (some ⟨b16, 0, none⟩)) (fun v hv => (xo_fld0 0 b16 0 (by kernel_rfl) rfl rfl)) ?_
  simp only [Act.put, zA]
  refine zv (.slice Ae rlq ce) (fun v hv => (xo_load1 ⟨b16, 0, none⟩ _ (cells_at (heap_keep Fv34_16.out (laterF hv)) 0 rfl) Tryd.underlying27 rfl rfl rfl)) ?_
  simp only [Act.put, zA]
  refine wpQuiet_nil ?_
  refine wpF_call 14 Tryd.func14 (by kernel_rfl) (by kernel_rfl) _ _ #[.slice Ad rlq cd, .slice Ae rlq ce] rfl (by kernel_rfl) (by kernel_rfl) HF15.out (fun V16 hb => ?_)
  have B15 := zh hb
  have HF16 := zh (HF15.out.ext hb)
  clear hb
  have C9_11 := zb B9 B10
  have C9_12 := zb C9_11 B11
  have C9_13 := zb C9_12 B12
  have C9_14 := zb C9_13 B13
  have C9_15 := zb C9_14 B14
  have C9_16 := zb C9_15 B15
  have C11_13 := zb B11 B12
  have C11_14 := zb C11_13 B13
  have C11_15 := zb C11_14 B14
  have C11_16 := zb C11_15 B15
  refine (same14_yes Ad Ae rlq cd ce (Ty.zs xsq) V16 (HSd.out.keep C9_16.out) (HSe.out.keep C11_16.out)).mono ?_
  rintro e V17 ⟨rfl, hb⟩
  have B16 := zh hb
  have HF17 := zh (HF16.out.ext hb)
  refine ⟨_, rfl, hb, ?_⟩
  clear hb 
  simp only [Act.put, zA]
  refine wpF_seg 8 (by kernel_rfl) ?_
  simp only [List.take_succ_cons, List.take_zero, List.drop_succ_cons, List.drop_zero]
  refine zv (.bool true) (fun v hv => rfl) ?_
  simp only [Act.put, zA]
  refine zv (.bool true) (fun v hv => rfl) ?_
  simp only [Act.put, zA]
  refine zv (.int .i64 (coq : Int)) (fun v hv => rfl) ?_
  simp only [Act.put, zA]
  refine zv (.int .i64 (coq : Int)) (fun v hv => rfl) ?_
  simp only [Act.put, zA]
  refine zv (.bool true) (fun v hv => (xo_eqlT .i64 (coq : Int) (coq : Int) (by omega) rfl rfl rfl)) ?_
  simp only [Act.put, zA]
  refine zv (.bool true) (fun v hv => rfl) ?_
  simp only [Act.put, zA]
  refine zv (.bool true) (fun v hv => rfl) ?_
  simp only [Act.put, zA]
  have C1_12 := zb C1_11 B11
  refine zv (.agg #[.int .i64 kind, .int .i64 col, .int .i64 k, .slice A n c]) (fun v hv => (xo_loadW w.heap.size _ (heap_keep (heap_keep Fv0_3.out C1_12.out) (laterF hv)) Tryd.underlying24 rfl (by kernel_rfl) rfl rfl)) ?_
  simp only [Act.put, zA]
  refine wpQuiet_nil ?_
  refine wpF_call 15 Tryd.func15 (by kernel_rfl) (by kernel_rfl) _ _ #[.agg #[.int .i64 kind, .int .i64 col, .int .i64 k, .slice A n c]] rfl (by kernel_rfl) (by kernel_rfl) HF17.out (fun V18 hb => ?_)
  have B17 := zh hb
  have HF18 := zh (HF17.out.ext hb)
  clear hb
  refine (sums_as kind col k A n c sz HSZ.out V18).mono ?_
  rintro e V19 ⟨rfl, hb⟩
  have B18 := zh hb
  have HF19 := zh (HF18.out.ext hb)
  refine ⟨_, rfl, hb, ?_⟩
  clear hb 
  simp only [Act.put, zA]
  refine wpF_seg 1 (by kernel_rfl) ?_
  simp only [List.take_succ_cons, List.take_zero, List.drop_succ_cons, List.drop_zero]
  refine zv (.agg #[.int .i64 kind, .int .i64 col, .int .i64 k, .slice A n c]) (fun v hv => (xo_loadW w.heap.size _ (heap_keep (heap_keep Fv0_3.out C1_12.out) (laterF hv)) Tryd.underlying24 rfl (by kernel_rfl) rfl rfl)) ?_
  simp only [Act.put, zA]
  refine wpQuiet_nil ?_
  refine wpF_call 16 Tryd.func16 (by kernel_rfl) (by kernel_rfl) _ _ #[.agg #[.int .i64 kind, .int .i64 col, .int .i64 k, .slice A n c]] rfl (by kernel_rfl) (by kernel_rfl) HF19.out (fun V20 hb => ?_)
  have B19 := zh hb
  have HF20 := zh (HF19.out.ext hb)
  clear hb
  refine (rsums_as kind col k A n c sz HSZ.out V20).mono ?_
  rintro e V21 ⟨rfl, hb⟩
  have B20 := zh hb
  have HF21 := zh (HF20.out.ext hb)
  refine ⟨_, rfl, hb, ?_⟩
  clear hb 
  simp only [Act.put, zA]
  refine wpF_seg 5 (by kernel_rfl) ?_
  simp only [List.take_succ_cons, List.take_zero, List.drop_succ_cons, List.drop_zero]
  refine zv (.bool true) (fun v hv => (xo_eqlT .i64 (sz : Int) (sz : Int) (by omega) rfl rfl rfl)) ?_
  simp only [Act.put, zA]
  refine zv (.bool true) (fun v hv => rfl) ?_
  simp only [Act.put, zA]
  refine zv (.bool true) (fun v hv => rfl) ?_
  simp only [Act.put, zA]
  refine zv (.pointer (some ⟨w.heap.size, 1, none⟩)) (fun v hv => (xo_fld0 1 w.heap.size 1 (by kernel_rfl) rfl rfl)) ?_
  simp only [Act.put, zA]
  refine zv (.int .i64 col) (fun v hv => (xo_load1 ⟨w.heap.size, 1, none⟩ _ (cells_at (heap_keep (heap_keep Fv0_3.out C1_12.out) (laterF hv)) 1 rfl) Tryd.underlying3 rfl rfl rfl)) ?_
  simp only [Act.put, zA]
  refine wpQuiet_nil ?_
  refine wpF_call 17 Tryd.func17 (by kernel_rfl) (by kernel_rfl) _ _ #[.int .i64 col] rfl (by kernel_rfl) (by kernel_rfl) HF21.out (fun V22 hb => ?_)
  have B21 := zh hb
  have HF22 := zh (HF21.out.ext hb)
  clear hb
  have C0_9 := zb C0_8 B8
  have C0_10 := zb C0_9 B9
  have C0_11 := zb C0_10 B10
  have C0_12 := zb C0_11 B11
  have C0_13 := zb C0_12 B12
  have C0_14 := zb C0_13 B13
  have C0_15 := zb C0_14 B14
  have C0_16 := zb C0_15 B15
  have C0_17 := zb C0_16 B16
  have C0_18 := zb C0_17 B17
  have C0_19 := zb C0_18 B18
  have C0_20 := zb C0_19 B19
  have C0_21 := zb C0_20 B20
  have C0_22 := zb C0_21 B21
  refine (bits_as col bt HBT.out V22 (HG.out.keep C0_22.out)).mono ?_
  rintro e _ ⟨rfl, rfl⟩
  refine ⟨_, rfl, Below.refl _ _, ?_⟩
  simp only [Act.put, zA]
  refine wpF_seg 2 (by kernel_rfl) ?_
  simp only [List.take_succ_cons, List.take_zero, List.drop_succ_cons, List.drop_zero]
  refine zv (.pointer (some ⟨w.heap.size, 1, none⟩)) (fun v hv => (xo_fld0 1 w.heap.size 1 (by kernel_rfl) rfl rfl)) ?_
  simp only [Act.put, zA]
  refine zv (.int .i64 col) (fun v hv => (xo_load1 ⟨w.heap.size, 1, none⟩ _ (cells_at (heap_keep (heap_keep Fv0_3.out C1_12.out) (laterF hv)) 1 rfl) Tryd.underlying3 rfl rfl rfl)) ?_
  simp only [Act.put, zA]
  refine wpQuiet_nil ?_
  refine wpF_call 18 Tryd.func18 (by kernel_rfl) (by kernel_rfl) _ _ #[.int .i64 col] rfl (by kernel_rfl) (by kernel_rfl) HF22.out (fun V23 hb => ?_)
  have B22 := zh hb
  have HF23 := zh (HF22.out.ext hb)
  clear hb
  refine (rbits_as col bt HBT.out V23).mono ?_
  rintro e _ ⟨rfl, rfl⟩
  refine ⟨_, rfl, Below.refl _ _, ?_⟩
  simp only [Act.put, zA]
  refine wpF_seg 6 (by kernel_rfl) ?_
  simp only [List.take_succ_cons, List.take_zero, List.drop_succ_cons, List.drop_zero]
  refine zv (.bool true) (fun v hv => (xo_eqlT .i64 (bt : Int) (bt : Int) (by omega) rfl rfl rfl)) ?_
  simp only [Act.put, zA]
  refine zv (.bool true) (fun v hv => rfl) ?_
  simp only [Act.put, zA]
  refine zv (.bool true) (fun v hv => rfl) ?_
  simp only [Act.put, zA]
  refine zv (.bool true) (fun v hv => rfl) ?_
  simp only [Act.put, zA]
  refine zv (.bool true) (fun v hv => rfl) ?_
  simp only [Act.put, zA]
  refine zv (.bool true) (fun v hv => rfl) ?_
  simp only [Act.put, zA]
  refine wpQuiet_nil ?_
  refine wpF_nil (fun V24 hb => ?_)
  have B23 := zh hb
  clear hb
  clear HF13
  clear HF14
  clear HF15
  clear HF16
  clear HF17
  clear HF18
  clear HF19
  clear HF20
  clear HF21
  clear HF22
  clear HF23
  have C0_23 := zb C0_22 B22
  have C0_24 := zb C0_23 B23
  have hbf := C0_24.out
  go_wp2_with fail
  go_ret
  exact ⟨rfl, hbf⟩
end Go.Proofs.YtbecajihgbbgjaaDoor
