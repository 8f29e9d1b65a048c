/- Several texts in one: Yam. -/
import Derived.Test.YtbecajihgbbgjaaDoorG05
set_option linter.unusedVariables false
set_option linter.unusedSimpArgs false
set_option linter.unusedSectionVars false
namespace Go.Proofs.YtbecajihgbbgjaaDoor
set_option maxRecDepth 8000
open Go.RowKit Go.Proofs.YtbecajihgbbgjaaDoor.K
attribute [local irreducible] wpList wpQuiet
theorem OwnsC.farT {w w' : World} {b base : Nat} {t u : TypeId} {hs : List Hd} {fs : List (List Qu.Cd)} {ds : Array Value} (h : OwnsC w t base hs fs) (hb : w.heap[b]? = some (.cells ds u (0, 0))) (hne : u ≠ t) (hfar : ∀ k o, k ≠ b → w.heap[k]? = some o → w'.heap[k]? = some o) : OwnsC w' t base hs fs :=
 ⟨h.len, fun i d xs hi hx => ⟨(h.row i d xs hi hx).1, own_farT (h.row i d xs hi hx).2 hb hne hfar⟩⟩
theorem map_take1 {α β : Type} (f : α → β) {l : List α} {i : Nat} {x : α} (h : l[i]? = some x) : (l.take (i + 1)).map f = (l.take i).map f ++ [f x] := by
 rw [List.take_add_one, h, List.map_append]
 rfl
theorem map_range1 {β : Type} (f : Nat → β) (i : Nat) : (List.range (i + 1)).map f = (List.range i).map f ++ [f i] := by
 rw [List.range_succ, List.map_append]
 rfl
theorem mdF_len (fs : List (List Qu.Ci)) (i : Nat) (l : List Qu.Ci) (h : (fs.getD i []).take 3 = l) : mdF fs i = l.map Qu.mdC := by
 unfold mdF
 rw [h]
set_option maxRecDepth 100000 in
set_option maxHeartbeats 64000000 in
theorem made_as (kind col k : Int) (A : Option Addr) (n c : Nat) (hs : List Hd) (fs : List (List Qu.Ci)) (q : Qu.Qy) (hq : mdQ kind col k fs = q) (w : World) (hF : FsR w A n c hs fs) :
  Calls Tryd.prog 13 #[.agg #[.int .i64 kind, .int .i64 col, .int .i64 k, .slice A n c]] w fun e w' => ∃ A2 n2 c2, e = .returned (.agg #[.int .i64 (q.kind : Int), .int .i64 (q.col : Int), .int .i64 (q.k : Int), .slice A2 n2 c2]) ∧ FsOwn w' w.heap.size (.slice A2 n2 c2) q.fs ∧ Below w.heap.size w w' := by
 have HFR := zh hF
 have hln := hF.sg.len
 have hlc := hF.sg.cap
 have hlt := hF.sg.top
 have hfl := hF.len
 clear hF
 obtain ⟨a0, ha0⟩ : ∃ x, andN kind 255 = x := ⟨_, rfl⟩
 obtain ⟨r0, hr0⟩ : ∃ x, a0 % 7 = x := ⟨_, rfl⟩
 have lr0 : r0 < 7 := by rw [← hr0]; exact Nat.mod_lt _ (by decide)
 obtain ⟨kd, hkd⟩ : ∃ x, 1 + r0 = x := ⟨_, rfl⟩
 obtain ⟨cc, hcc⟩ : ∃ x, andN col 3 = x := ⟨_, rfl⟩
 obtain ⟨ak, hak⟩ : ∃ x, andN k 65535 = x := ⟨_, rfl⟩
 have lcc : cc ≤ 3 := by rw [← hcc]; exact andN_le _ _ (by decide)
 have lak : ak ≤ 65535 := by rw [← hak]; exact andN_le _ _ (by decide)
 have la0 : a0 ≤ 255 := by rw [← ha0]; exact andN_le _ _ (by decide)
 obtain ⟨mk, hmk⟩ : ∃ x, Qu.maxK kd = x := ⟨_, rfl⟩
 have lmk : mk ≤ 65536 := by rw [← hmk]; exact Qu.maxK_le _
 obtain ⟨nf, hnf⟩ : ∃ x, Qu.numF kd = x := ⟨_, rfl⟩
 obtain ⟨cb, hcb⟩ : ∃ x, Qu.hasC kd = x := ⟨_, rfl⟩
 have hQ : q = ⟨kd, if cb = true then cc else 0, if 0 < mk then 1 + ak % mk else 0, (List.range nf).map (mdF fs)⟩ := by rw [← hq]; unfold mdQ; rw [ha0, hr0, hkd, hcb, hcc, hmk, hak, hnf]
 have HQ := zh hQ
 clear hQ
 have HMK := zh hmk
 clear hmk
 have HNF := zh hnf
 clear hnf
 have HCB := zh hcb
 clear hcb
 have HA0 := zh ha0
 clear ha0
 have HR0 := zh hr0
 clear hr0
 have HCC := zh hcc
 clear hcc
 have HAK := zh hak
 clear hak
 have HKD := zh hkd
 clear hkd
 have lkd : 1 ≤ kd ∧ kd ≤ 7 := by have := HKD.out; omega
 clear hq
 go_enter Tryd.func13, Tryd.ntmps13
 go_upto_region 1 with fail
 refine wp_named2 (fun V1 hb g0 g1 hlt => ?_)
 have B0 := zh hb
 have Fv0_1 : Hid (V1.heap[w.heap.size]? = some (.cells #[.int .i64 kind, .int .i64 col, .int .i64 k, .slice A n c] 24 (0, 0))) := zh (g0)
 have Fv1_2 : Hid (V1.heap[(w.heap.size + 1)]? = some (.cells #[.int .i64 0, .int .i64 0, .int .i64 0, .slice none 0 0] 24 (0, 0))) := zh (g1)
 have Nb0_1 : Hid (w.heap.size ≠ (w.heap.size + 1)) := zh (by omega)
 have Gb0 : Hid (w.heap.size ≤ w.heap.size) := zh (by omega)
 have Gb1 : Hid (w.heap.size ≤ (w.heap.size + 1)) := zh (by omega)
 clear hb g0 g1 hlt
 have Lt0 : Hid (w.heap.size < V1.heap.size) := zh (xp_lt Fv0_1.out)
 have Lt1 : Hid ((w.heap.size + 1) < V1.heap.size) := zh (xp_lt Fv1_2.out)
 refine wp_region_lit ?_
 refine zr (.pointer (some ⟨w.heap.size, 0, none⟩)) V1 (xo_fld0 0 w.heap.size 0 (by kernel_rfl) rfl rfl) ?_
 simp only [Act.put, zA]
 refine zr (.int .i64 kind) V1 (xo_load1 ⟨w.heap.size, 0, none⟩ _ (cells_at Fv0_1.out 0 rfl) Tryd.underlying3 rfl rfl rfl) ?_
 simp only [Act.put, zA]
 refine zr (.int .i64 (a0 : Int)) V1 (HA0.out ▸ xo_andI kind 255 (by decide) rfl rfl rfl) ?_
 simp only [Act.put, zA]
 refine zr (.int .i64 (r0 : Int)) V1 (xo_remN .i64 a0 7 r0 (by omega) HR0.out rfl rfl rfl) ?_
 simp only [Act.put, zA]
 refine zr (.int .i64 (kd : Int)) V1 (xo_addI 1 (r0 : Int) (kd : Int) (by have := HKD.out; omega) (by omega) (by omega) rfl rfl rfl) ?_
 simp only [Act.put, zA]
 refine zr (.agg #[.int .i64 (kd : Int), .int .i64 0, .int .i64 0, .slice none 0 0]) V1 (by unfold execOp; go_simp <;> rfl) ?_
 simp only [Act.put, zA]
 refine wpList_new #[.int .i64 0, .int .i64 0, .int .i64 0, .slice none 0 0] 24 (by kernel_rfl) (xo_alloc #[.int .i64 0, .int .i64 0, .int .i64 0, .slice none 0 0] (by kernel_rfl) rfl) ?_
 intro b3 V2 hge h0 hb
 have N2_0 : Hid (w.heap.size ≠ b3) := zh (xp_lt0 Fv0_1.out hge)
 have N3_1 : Hid ((w.heap.size + 1) ≠ b3) := zh (xp_lt0 Fv1_2.out hge)
 have Ge4 : Hid (V1.heap.size ≤ b3) := zh hge
 have B1 := zh hb
 have Fv5_3 : Hid (V2.heap[b3]? = some (.cells #[.int .i64 0, .int .i64 0, .int .i64 0, .slice none 0 0] 24 (0, 0))) := zh (h0)
 have Lt6 : Hid (b3 < V2.heap.size) := zh (xp_lt Fv5_3.out)
 clear hge h0 hb
 simp only [ptr, Act.put, zA]
 refine wpList_storeW b3 #[.int .i64 0, .int .i64 0, .int .i64 0, .slice none 0 0] #[.int .i64 (kd : Int), .int .i64 0, .int .i64 0, .slice none 0 0] 24 (by kernel_rfl) Fv5_3.out (xo_storeW b3 #[.int .i64 0, .int .i64 0, .int .i64 0, .slice none 0 0] #[.int .i64 (kd : Int), .int .i64 0, .int .i64 0, .slice none 0 0] Fv5_3.out (by kernel_rfl) rfl (by simp [Value.oneCell']) rfl rfl rfl) ?_
 intro X2_7 h1 hfar hbel hsz
 have hbr := hbel _ _ Ge4.out B1.out
 clear B1
 have B1 := zh hbr
 clear hbr
 clear Fv5_3
 have Fv5_3 : Hid (X2_7.heap[b3]? = some (.cells #[.int .i64 (kd : Int), .int .i64 0, .int .i64 0, .slice none 0 0] 24 (0, 0))) := zh (h1)
 have HszX2_7 := zh hsz
 clear h1 hfar hbel hsz
 simp only [ptr, Act.put, zA]
 refine wpList_nil ?_
 obtain ⟨cv, hcv⟩ : ∃ x, (if cb = true then cc else 0) = x := ⟨_, rfl⟩
 obtain ⟨kv, hkv⟩ : ∃ x, (if 0 < mk then 1 + ak % mk else 0) = x := ⟨_, rfl⟩
 have HCV := zh hcv
 have HKV := zh hkv
 clear hcv hkv
 go_upto_region 2 with fail
 refine wp_region_lit ?_
 refine zr (.pointer (some ⟨b3, 0, none⟩)) X2_7 (xo_fld0 0 b3 0 (by kernel_rfl) rfl rfl) ?_
 simp only [Act.put, zA]
 refine zr (.int .i64 (kd : Int)) X2_7 (xo_load1 ⟨b3, 0, none⟩ _ (cells_at Fv5_3.out 0 rfl) Tryd.underlying3 rfl rfl rfl) ?_
 simp only [Act.put, zA]
 refine wpList_call (by kernel_rfl) 36 Tryd.func36 (by kernel_rfl) (by kernel_rfl) _ _ #[.int .i64 (kd : Int)] rfl (by kernel_rfl) ?_
 refine (rhasC_as kd cb HCB.out X2_7).mono ?_
 rintro e W1 ⟨rfl, hw1⟩
 rw [hw1]
 clear hw1 W1
 refine ⟨_, rfl, ?_⟩
 simp only [Act.put, zA]
 refine wpList_nil ?_
 have Gr8 : Hid (w.heap.size ≤ b3) := zh (Nat.le_trans B0.out.size Ge4.out)
 go_upto_if 16 with fail
 go_cut [] from 14 to 22 (fun  wx => wx.heap[w.heap.size]? = some (.cells #[.int .i64 kind, .int .i64 col, .int .i64 k, .slice A n c] 24 (0, 0)) ∧ wx.heap[(w.heap.size + 1)]? = some (.cells #[.int .i64 0, .int .i64 0, .int .i64 0, .slice none 0 0] 24 (0, 0)) ∧ wx.heap[b3]? = some (.cells #[.int .i64 (kd : Int), .int .i64 (cv : Int), .int .i64 0, .slice none 0 0] 24 (0, 0)) ∧ Below w.heap.size w wx)
 case first =>
  cases cb with
  | true =>
   have e0 : cc = cv := HCV.out
   subst e0
   go_upto_region 3 with fail
   refine wp_region_lit ?_
   refine zr (.pointer (some ⟨w.heap.size, 1, none⟩)) X2_7 (xo_fld0 1 w.heap.size 1 (by kernel_rfl) rfl rfl) ?_
   simp only [Act.put, zA]
   refine zr (.int .i64 col) X2_7 (xo_load1 ⟨w.heap.size, 1, none⟩ _ (cells_at (heap_keep Fv0_1.out B1.out) 1 rfl) Tryd.underlying3 rfl rfl rfl) ?_
   simp only [Act.put, zA]
   refine zr (.int .i64 (cc : Int)) X2_7 (HCC.out ▸ xo_andI col 3 (by decide) rfl rfl rfl) ?_
   simp only [Act.put, zA]
   refine zr (.pointer (some ⟨b3, 1, none⟩)) X2_7 (xo_fld0 1 b3 1 (by kernel_rfl) rfl rfl) ?_
   simp only [Act.put, zA]
   refine wpList_store1 b3 1 #[.int .i64 (kd : Int), .int .i64 0, .int .i64 0, .slice none 0 0] (.int .i64 (cc : Int)) 24 (by kernel_rfl) Fv5_3.out (xo_store1 b3 1 #[.int .i64 (kd : Int), .int .i64 0, .int .i64 0, .slice none 0 0] _ (.int .i64 (cc : Int)) Fv5_3.out rfl (by kernel_rfl) rfl rfl rfl rfl) ?_
   intro X2_9 h1 hfar hbel hsz
   have YFv0_1 : X2_9.heap[w.heap.size]? = some (.cells #[.int .i64 kind, .int .i64 col, .int .i64 k, .slice A n c] 24 (0, 0)) := hfar _ _ N2_0.out (heap_keep Fv0_1.out B1.out)
   have YFv1_2 : X2_9.heap[(w.heap.size + 1)]? = some (.cells #[.int .i64 0, .int .i64 0, .int .i64 0, .slice none 0 0] 24 (0, 0)) := hfar _ _ N3_1.out (heap_keep Fv1_2.out B1.out)
   have C0_2 := zb B0 B1
   have hbr := hbel _ _ Gr8.out C0_2.out
   clear B0
   have B0 := zh hbr
   clear hbr
   clear Fv0_1
   have Fv0_1 : Hid (X2_9.heap[w.heap.size]? = some (.cells #[.int .i64 kind, .int .i64 col, .int .i64 k, .slice A n c] 24 (0, 0))) := zh YFv0_1
   clear YFv0_1
   clear Fv1_2
   have Fv1_2 : Hid (X2_9.heap[(w.heap.size + 1)]? = some (.cells #[.int .i64 0, .int .i64 0, .int .i64 0, .slice none 0 0] 24 (0, 0))) := zh YFv1_2
   clear YFv1_2
   clear Fv5_3
   have Fv5_3 : Hid (X2_9.heap[b3]? = some (.cells #[.int .i64 (kd : Int), .int .i64 (cc : Int), .int .i64 0, .slice none 0 0] 24 (0, 0))) := zh (h1)
   have HszX2_9 := zh hsz
   clear h1 hfar hbel hsz
   simp only [ptr, Act.put, zA]
   refine wpList_nil ?_
   have hm10 := Fv0_1.out
   have hm11 := Fv1_2.out
   have hm12 := Fv5_3.out
   have hm13 := B0.out
   go_wp2_with fail
   go_meet
   case rel => exact ⟨hm10, hm11, hm12, hm13⟩
  | false =>
   have e0 : 0 = cv := HCV.out
   subst e0
   have hm9 := (heap_keep Fv0_1.out B1.out)
   have hm10 := (heap_keep Fv1_2.out B1.out)
   have hm11 := Fv5_3.out
   have C0_2 := zb B0 B1
   have hm12 := C0_2.out
   go_wp2_with fail
   go_meet
   case rel => exact ⟨hm9, hm10, hm11, hm12⟩
 case rest =>
  obtain ⟨wc9, rfl⟩ : ∃ W, W = wc := ⟨_, rfl⟩
  obtain ⟨hr0, hr1, hr2, hb0⟩ := hcut
  have hbr := hb0
  clear B0
  have B0 := zh hbr
  clear hbr
  clear Fv0_1
  have Fv0_1 : Hid (wc9.heap[w.heap.size]? = some (.cells #[.int .i64 kind, .int .i64 col, .int .i64 k, .slice A n c] 24 (0, 0))) := zh (hr0)
  clear Fv1_2
  have Fv1_2 : Hid (wc9.heap[(w.heap.size + 1)]? = some (.cells #[.int .i64 0, .int .i64 0, .int .i64 0, .slice none 0 0] 24 (0, 0))) := zh (hr1)
  clear Fv5_3
  have Fv5_3 : Hid (wc9.heap[b3]? = some (.cells #[.int .i64 (kd : Int), .int .i64 (cv : Int), .int .i64 0, .slice none 0 0] 24 (0, 0))) := zh (hr2)
  clear hb0 hr0 hr1 hr2
  go_upto_region 4 with fail
  refine wp_region_lit ?_
  refine zr (.pointer (some ⟨b3, 0, none⟩)) wc9 (xo_fld0 0 b3 0 (by kernel_rfl) rfl rfl) ?_
  simp only [Act.put, zA]
  refine zr (.int .i64 (kd : Int)) wc9 (xo_load1 ⟨b3, 0, none⟩ _ (cells_at Fv5_3.out 0 rfl) Tryd.underlying3 rfl rfl rfl) ?_
  simp only [Act.put, zA]
  refine wpList_call (by kernel_rfl) 37 Tryd.func37 (by kernel_rfl) (by kernel_rfl) _ _ #[.int .i64 (kd : Int)] rfl (by kernel_rfl) ?_
  refine (rmaxK_as kd mk HMK.out wc9).mono ?_
  rintro e W1 ⟨rfl, hw1⟩
  rw [hw1]
  clear hw1 W1
  refine ⟨_, rfl, ?_⟩
  simp only [Act.put, zA]
  refine zr (.bool (decide (0 < mk))) wc9 (xo_cmp .gtr .i64 (mk : Int) 0 (decide (0 < mk)) (.inr (.inr (.inr (.inr (.inl ⟨rfl, (by rw [decide_eq_decide]; omega)⟩))))) rfl rfl rfl) ?_
  simp only [Act.put, zA]
  refine wpList_nil ?_
  go_upto_if 24 with fail
  go_cut [] from 23 to 33 (fun  wx => wx.heap[w.heap.size]? = some (.cells #[.int .i64 kind, .int .i64 col, .int .i64 k, .slice A n c] 24 (0, 0)) ∧ wx.heap[(w.heap.size + 1)]? = some (.cells #[.int .i64 0, .int .i64 0, .int .i64 0, .slice none 0 0] 24 (0, 0)) ∧ wx.heap[b3]? = some (.cells #[.int .i64 (kd : Int), .int .i64 (cv : Int), .int .i64 (kv : Int), .slice none 0 0] 24 (0, 0)) ∧ Below w.heap.size w wx)
  case first =>
   by_cases hmp : 0 < mk
   ·have hd : decide (0 < mk) = true := decide_eq_true hmp
    obtain ⟨rk, hrk⟩ : ∃ x, ak % mk = x := ⟨_, rfl⟩
    have HRK := zh hrk
    have lrk : rk < mk := by rw [← hrk]; exact Nat.mod_lt _ hmp
    obtain ⟨kk, hkk⟩ : ∃ x, 1 + rk = x := ⟨_, rfl⟩
    have HKK := zh hkk
    have lkk : kk ≤ 65536 := by omega
    have e0 : kk = kv := by rw [← HKV.out, if_pos hmp, hrk, hkk]
    clear hkk hrk
    subst e0
    go_upto_region 5 with fail
    try simp only [List.append_eq, List.cons_append, List.nil_append]
    refine wp_ordM 9 (.q 0 (.q 1 (.q 2 (.q 3 (.q 4 (.one 5 (.q 6 (.q 7 (.q 8 .nil))))))))) (by kernel_rfl) (by kernel_rfl) (by kernel_rfl) (by kernel_rfl) (by kernel_rfl) (by kernel_rfl) (by kernel_rfl) (fun V2 hb => ?_)
    have B1 := zh hb
    clear hb
    refine wpOT_q (.pointer (some ⟨w.heap.size, 2, none⟩)) rfl (by kernel_rfl) (fun v hW => (xo_fld0 2 w.heap.size 2 (by kernel_rfl) rfl rfl)) ?_
    simp only [ptr, Act.put, zA]
    refine wpOT_q (.int .i64 k) rfl (by kernel_rfl) (fun v hW => (xo_load1 ⟨w.heap.size, 2, none⟩ _ (cells_at (heap_keep (heap_keep Fv0_1.out B1.out) hW) 2 rfl) Tryd.underlying3 rfl rfl rfl)) ?_
    simp only [ptr, Act.put, zA]
    refine wpOT_q (.int .i64 (ak : Int)) rfl (by kernel_rfl) (fun v hW => (HAK.out ▸ xo_andI k 65535 (by decide) rfl rfl rfl)) ?_
    simp only [ptr, Act.put, zA]
    refine wpOT_q (.pointer (some ⟨b3, 0, none⟩)) rfl (by kernel_rfl) (fun v hW => (xo_fld0 0 b3 0 (by kernel_rfl) rfl rfl)) ?_
    simp only [ptr, Act.put, zA]
    refine wpOT_q (.int .i64 (kd : Int)) rfl (by kernel_rfl) (fun v hW => (xo_load1 ⟨b3, 0, none⟩ _ (cells_at (heap_keep (heap_keep Fv5_3.out B1.out) hW) 0 rfl) Tryd.underlying3 rfl rfl rfl)) ?_
    simp only [ptr, Act.put, zA]
    refine wpOT_one rfl (by kernel_rfl) ?_
    refine hOp_call 37 Tryd.func37 (by kernel_rfl) (by kernel_rfl) _ _ #[.int .i64 (kd : Int)] rfl (by kernel_rfl) ?_
    refine (rmaxK_as kd mk HMK.out V2).mono ?_
    rintro e W1 ⟨rfl, hw1⟩
    rw [hw1]
    clear hw1 W1
    refine ⟨_, rfl, (Below.refl V2.heap.size V2), ?_⟩
    simp only [ptr, Act.put, zA]
    refine wpOT_q (.int .i64 (rk : Int)) rfl (by kernel_rfl) (fun v hW => (xo_remN .i64 ak mk rk (by omega) HRK.out rfl rfl rfl)) ?_
    simp only [ptr, Act.put, zA]
    refine wpOT_q (.int .i64 (kk : Int)) rfl (by kernel_rfl) (fun v hW => (xo_addI 1 (rk : Int) (kk : Int) (by have := HKK.out; omega) (by omega) (by omega) rfl rfl rfl)) ?_
    simp only [ptr, Act.put, zA]
    refine wpOT_q (.pointer (some ⟨b3, 2, none⟩)) rfl (by kernel_rfl) (fun v hW => (xo_fld0 2 b3 2 (by kernel_rfl) rfl rfl)) ?_
    simp only [ptr, Act.put, zA]
    refine wpOT_nil ?_
    have hfs := (heap_keep Fv5_3.out B1.out)
    have hgb := Gr8.out
    have C0_2 := zb B0 B1
    have hbs := C0_2.out
    have hfar : ∀ k o, k ≠ b3 → V2.heap[k]? = some o → (V2.setRow b3 #[.int .i64 (kd : Int), .int .i64 (cv : Int), .int .i64 (kk : Int), .slice none 0 0]).heap[k]? = some o := fun k o hk h0 => heap_farRow h0 hk _
    have YFv0_1 : (V2.setRow b3 #[.int .i64 (kd : Int), .int .i64 (cv : Int), .int .i64 (kk : Int), .slice none 0 0]).heap[w.heap.size]? = some (.cells #[.int .i64 kind, .int .i64 col, .int .i64 k, .slice A n c] 24 (0, 0)) := hfar _ _ N2_0.out (heap_keep Fv0_1.out B1.out)
    have YFv1_2 : (V2.setRow b3 #[.int .i64 (kd : Int), .int .i64 (cv : Int), .int .i64 (kk : Int), .slice none 0 0]).heap[(w.heap.size + 1)]? = some (.cells #[.int .i64 0, .int .i64 0, .int .i64 0, .slice none 0 0] 24 (0, 0)) := hfar _ _ N3_1.out (heap_keep Fv1_2.out B1.out)
    refine mOp_run0 _ rfl rfl (xo_storeM b3 2 #[.int .i64 (kd : Int), .int .i64 (cv : Int), .int .i64 0, .slice none 0 0] #[.int .i64 (kd : Int), .int .i64 (cv : Int), .int .i64 (kk : Int), .slice none 0 0] [.int .i64 (kk : Int)] hfs rfl (by simp) (by kernel_rfl) (by simp [Value.oneCell']) rfl rfl rfl) ?_
    try simp only [List.getElem_toArray, List.getElem_cons_succ, List.getElem_cons_zero, ptr, Act.put, zA]
    have hfn := setRow_heap V2 b3 _ #[.int .i64 (kd : Int), .int .i64 (cv : Int), .int .i64 (kk : Int), .slice none 0 0] _ _ hfs
    have hbn := bel_setRow hbs hgb #[.int .i64 (kd : Int), .int .i64 (cv : Int), .int .i64 (kk : Int), .slice none 0 0]
    clear hfar
    generalize V2.setRow b3 #[.int .i64 (kd : Int), .int .i64 (cv : Int), .int .i64 (kk : Int), .slice none 0 0] = X11 at *
    have hbr := hbn
    clear B0
    have B0 := zh hbr
    clear hbr
    clear Fv0_1
    have Fv0_1 := zh YFv0_1
    clear YFv0_1
    clear Fv1_2
    have Fv1_2 := zh YFv1_2
    clear YFv1_2
    clear Fv5_3
    have Fv5_3 : Hid (X11.heap[b3]? = some (.cells #[.int .i64 (kd : Int), .int .i64 (cv : Int), .int .i64 (kk : Int), .slice none 0 0] 24 (0, 0))) := zh hfn
    clear hfs hgb hbs hfn hbn
    have hm12 := Fv0_1.out
    have hm13 := Fv1_2.out
    have hm14 := Fv5_3.out
    have hm15 := B0.out
    go_wp2_with fail
    go_meet
    case rel => exact ⟨hm12, hm13, hm14, hm15⟩
   ·have hd : decide (0 < mk) = false := decide_eq_false hmp
    have e0 : 0 = kv := by rw [← HKV.out, if_neg hmp]
    subst e0
    have hm11 := Fv0_1.out
    have hm12 := Fv1_2.out
    have hm13 := Fv5_3.out
    have hm14 := B0.out
    go_wp2_with fail
    go_meet
    case rel => exact ⟨hm11, hm12, hm13, hm14⟩
  case rest =>
   obtain ⟨wc11, rfl⟩ : ∃ W, W = wc := ⟨_, rfl⟩
   obtain ⟨hr0, hr1, hr2, hb0⟩ := hcut
   have hbr := hb0
   clear B0
   have B0 := zh hbr
   clear hbr
   clear Fv0_1
   have Fv0_1 : Hid (wc11.heap[w.heap.size]? = some (.cells #[.int .i64 kind, .int .i64 col, .int .i64 k, .slice A n c] 24 (0, 0))) := zh (hr0)
   clear Fv1_2
   have Fv1_2 : Hid (wc11.heap[(w.heap.size + 1)]? = some (.cells #[.int .i64 0, .int .i64 0, .int .i64 0, .slice none 0 0] 24 (0, 0))) := zh (hr1)
   clear Fv5_3
   have Fv5_3 : Hid (wc11.heap[b3]? = some (.cells #[.int .i64 (kd : Int), .int .i64 (cv : Int), .int .i64 (kv : Int), .slice none 0 0] 24 (0, 0))) := zh (hr2)
   clear hb0 hr0 hr1 hr2
   go_upto_region 6 with fail
   refine wp_region_lit ?_
   refine zr (.int .i64 1) wc11 rfl ?_
   simp only [Act.put, zA]
   refine wpList_nil ?_
   go_upto_region 7 with fail
   refine wp_region_lit ?_
   refine zr (.pointer (some ⟨b3, 0, none⟩)) wc11 (xo_fld0 0 b3 0 (by kernel_rfl) rfl rfl) ?_
   simp only [Act.put, zA]
   refine zr (.int .i64 (kd : Int)) wc11 (xo_load1 ⟨b3, 0, none⟩ _ (cells_at Fv5_3.out 0 rfl) Tryd.underlying3 rfl rfl rfl) ?_
   simp only [Act.put, zA]
   refine zr (.bool (decide (kd = 7))) wc11 (xo_cmp .eql .i64 (kd : Int) 7 (decide (kd = 7)) (.inl ⟨rfl, (by rw [Bool.eq_iff_iff, beq_iff_eq, decide_eq_true_iff]; omega)⟩) rfl rfl rfl) ?_
   simp only [Act.put, zA]
   refine wpList_nil ?_
   go_upto_if 36 with fail
   go_cut [4] from 34 to 36 (fun s4 wx => s4 = .int .i64 (nf : Int) ∧ wx.heap[w.heap.size]? = some (.cells #[.int .i64 kind, .int .i64 col, .int .i64 k, .slice A n c] 24 (0, 0)) ∧ wx.heap[(w.heap.size + 1)]? = some (.cells #[.int .i64 0, .int .i64 0, .int .i64 0, .slice none 0 0] 24 (0, 0)) ∧ wx.heap[b3]? = some (.cells #[.int .i64 (kd : Int), .int .i64 (cv : Int), .int .i64 (kv : Int), .slice none 0 0] 24 (0, 0)) ∧ Below w.heap.size w wx)
   case first =>
    by_cases h7 : kd = 7
    ·have hd : decide (kd = 7) = true := decide_eq_true h7
     have e0 : 2 = nf := by rw [← HNF.out, h7]; rfl
     subst e0
     have h8 := trivial
     go_upto_region 8 with fail
     refine wp_region_lit ?_
     refine zr (.int .i64 2) wc11 rfl ?_
     simp only [Act.put, zA]
     refine wpList_nil ?_
     clear h7
     have hm13 := Fv0_1.out
     have hm14 := Fv1_2.out
     have hm15 := Fv5_3.out
     have hm16 := B0.out
     go_wp2_with fail
     go_meet
     case rel => exact ⟨rfl, hm13, hm14, hm15, hm16⟩
    ·have hd : decide (kd = 7) = false := decide_eq_false h7
     have e0 : 1 = nf := by rw [← HNF.out]; unfold Qu.numF; split <;> simp_all
     subst e0
     have hm13 := Fv0_1.out
     have hm14 := Fv1_2.out
     have hm15 := Fv5_3.out
     have hm16 := B0.out
     go_wp2_with fail
     go_meet
     case rel => exact ⟨rfl, hm13, hm14, hm15, hm16⟩
   case rest =>
    obtain ⟨wc13, rfl⟩ : ∃ W, W = wc := ⟨_, rfl⟩
    obtain ⟨hs4, hr0, hr1, hr2, hb0⟩ := hcut
    have hbr := hb0
    clear B0
    have B0 := zh hbr
    clear hbr
    clear Fv0_1
    have Fv0_1 : Hid (wc13.heap[w.heap.size]? = some (.cells #[.int .i64 kind, .int .i64 col, .int .i64 k, .slice A n c] 24 (0, 0))) := zh (hr0)
    clear Fv1_2
    have Fv1_2 : Hid (wc13.heap[(w.heap.size + 1)]? = some (.cells #[.int .i64 0, .int .i64 0, .int .i64 0, .slice none 0 0] 24 (0, 0))) := zh (hr1)
    clear Fv5_3
    have Fv5_3 : Hid (wc13.heap[b3]? = some (.cells #[.int .i64 (kd : Int), .int .i64 (cv : Int), .int .i64 (kv : Int), .slice none 0 0] 24 (0, 0))) := zh (hr2)
    clear hb0 hr0 hr1 hr2
    subst hs4
    go_upto_region 9 with fail
    refine wp_region_lit ?_
    refine zr (.int .i64 0) wc13 rfl ?_
    simp only [Act.put, zA]
    refine wpList_nil ?_
    have lnf : nf ≤ 2 := by rw [← HNF.out]; unfold Qu.numF; split <;> omega
    have O15 := Fv0_1.out
    have O16 := Fv1_2.out
    have O17 := Fv5_3.out
    have O18 := B0.out
    go_wp2_with fail
    go_loopw [5] (fun p wr => ∃ i : Nat, ∃ (A2 : Option Addr) (c2 : Nat) (hs2 : List Hd), i ≤ nf ∧ p = .int .i64 i ∧ wr.ownsRow w.heap.size 44 1 (.slice A2 i c2) i (fl hdC hs2) ∧ OwnsC wr 49 w.heap.size hs2 ((List.range i).map (mdF fs)) ∧ wr.heap[w.heap.size]? = some (.cells #[.int .i64 kind, .int .i64 col, .int .i64 k, .slice A n c] 24 (0, 0)) ∧ wr.heap[(w.heap.size + 1)]? = some (.cells #[.int .i64 0, .int .i64 0, .int .i64 0, .slice none 0 0] 24 (0, 0)) ∧ wr.heap[b3]? = some (.cells #[.int .i64 (kd : Int), .int .i64 (cv : Int), .int .i64 (kv : Int), .slice A2 i c2] 24 (0, 0)) ∧ Below w.heap.size w wr) (fun p _ => nf - (intOf p).toNat)
    case atStart => exact ⟨0, none, 0, [], Nat.zero_le _, rfl, own_nil, OwnsC.nil, O15, O16, O17, O18⟩
    case round =>
     clear O15 O16 O17 O18
     obtain ⟨wo, rfl⟩ : ∃ wo : World, wo = wr := ⟨_, rfl⟩
     obtain ⟨i, A2, c2, hs2, hi, rfl, hHOW, hHIn, hr0, hr1, hr2, hb0⟩ := hrel
     have hbr := hb0
     clear B0
     have B0 := zh hbr
     clear hbr
     clear Fv0_1
     have Fv0_1 : Hid (wo.heap[w.heap.size]? = some (.cells #[.int .i64 kind, .int .i64 col, .int .i64 k, .slice A n c] 24 (0, 0))) := zh (hr0)
     clear Fv1_2
     have Fv1_2 : Hid (wo.heap[(w.heap.size + 1)]? = some (.cells #[.int .i64 0, .int .i64 0, .int .i64 0, .slice none 0 0] 24 (0, 0))) := zh (hr1)
     clear Fv5_3
     have Fv5_3 : Hid (wo.heap[b3]? = some (.cells #[.int .i64 (kd : Int), .int .i64 (cv : Int), .int .i64 (kv : Int), .slice A2 i c2] 24 (0, 0))) := zh (hr2)
     have HOW := zh hHOW
     have HIn := zh hHIn
     clear hb0 hr0 hr1 hr2 hHOW hHIn
     by_cases hin : i < nf
     ·have hci20 : ((i : Int) < (nf : Int)) := by omega
      go_upto_region 10 with fail
      refine wp_region_lit ?_
      refine zr (.int .i64 (i : Int)) wo rfl ?_
      simp only [Act.put, zA]
      refine zr (.int .i64 (nf : Int)) wo rfl ?_
      simp only [Act.put, zA]
      refine zr (.bool true) wo (xo_lssT .i64 (i : Int) (nf : Int) (by omega) rfl rfl rfl) ?_
      simp only [Act.put, zA]
      refine wpList_nil ?_
      have HBV21 := zh B0.out
      have YHFR := (HFR.out.keep B0.out)
      have YFv0_1 := Fv0_1.out
      have YFv1_2 := Fv1_2.out
      have YFv5_3 := Fv5_3.out
      have YHOW := HOW.out
      have YHIn := HIn.out
      clear HFR
      have HFR := zh YHFR
      clear YHFR
      clear Fv0_1
      have Fv0_1 := zh YFv0_1
      clear YFv0_1
      clear Fv1_2
      have Fv1_2 := zh YFv1_2
      clear YFv1_2
      clear Fv5_3
      have Fv5_3 := zh YFv5_3
      clear YFv5_3
      clear HOW
      have HOW := zh YHOW
      clear YHOW
      clear HIn
      have HIn := zh YHIn
      clear YHIn
      obtain ⟨VB21, rfl⟩ : ∃ VB21 : World, VB21 = wo := ⟨_, rfl⟩
      obtain ⟨l, hl⟩ : ∃ l, (fs.getD i []).take 3 = l := ⟨_, rfl⟩
      obtain ⟨m, hm⟩ : ∃ m, l.length = m := ⟨_, rfl⟩
      have lm3 : m ≤ 3 := by rw [← hm, ← hl, List.length_take]; omega
      have HL := zh hl
      have HM := zh hm
      clear hl hm
      go_upto_region 12 with fail
      refine wp_region_lit ?_
      refine wpList_mk (by kernel_rfl) #[] 49 0 0 (xo_empty (size := 3) Tryd.underlying44 (by kernel_rfl) rfl VB21) ?_
      intro g42 V1 hge h0 hb
      have hge2 := Nat.le_trans (Below.refl VB21.heap.size VB21).size hge
      have B0 := zh hb
      have Ow42 : Hid (V1.ownsRow VB21.heap.size 49 3 (.slice (some ⟨g42, 0, none⟩) 0 0) 0 (fl cdC [])) := zh (own_new h0 hge2)
      clear hge hge2 h0 hb
      simp only [ptr, Act.put, zA]
      refine zr (.slice (some ⟨g42, 0, none⟩) 0 0) V1 rfl ?_
      simp only [Act.put, zA]
      refine wpList_nil ?_
      go_upto_region 13 with fail
      refine wp_region_lit ?_
      refine zr (.int .i64 0) V1 rfl ?_
      simp only [Act.put, zA]
      refine wpList_nil ?_
      have O22 := (heap_keep Fv0_1.out B0.out)
      have O23 := (heap_keep Fv1_2.out B0.out)
      have O24 := (heap_keep Fv5_3.out B0.out)
      have O25 := Ow42.out
      have O26 := B0.out
      go_wp2_with fail
      go_loopw [7, 6] (fun p v wr => ∃ j : Nat, ∃ (A3 : Option Addr) (c3 : Nat), j ≤ m ∧ p = .int .i64 j ∧ v = .slice A3 j c3 ∧ wr.ownsRow VB21.heap.size 49 3 (.slice A3 j c3) j (fl cdC ((l.take j).map Qu.mdC)) ∧ wr.heap[w.heap.size]? = some (.cells #[.int .i64 kind, .int .i64 col, .int .i64 k, .slice A n c] 24 (0, 0)) ∧ wr.heap[(w.heap.size + 1)]? = some (.cells #[.int .i64 0, .int .i64 0, .int .i64 0, .slice none 0 0] 24 (0, 0)) ∧ wr.heap[b3]? = some (.cells #[.int .i64 (kd : Int), .int .i64 (cv : Int), .int .i64 (kv : Int), .slice A2 i c2] 24 (0, 0)) ∧ Below VB21.heap.size VB21 wr) (fun p _ _ => m - (intOf p).toNat)
      case atStart => exact ⟨0, _, _, Nat.zero_le _, rfl, rfl, O25, O22, O23, O24, O26⟩
      case round =>
       clear O22 O23 O24 O26 O25
       obtain ⟨wq, rfl⟩ : ∃ wq : World, wq = wr := ⟨_, rfl⟩
       obtain ⟨j, A3, c3, hi, rfl, hHV, hHOI, hr0, hr1, hr2, hb0⟩ := hrel
       have hbr := hb0
       clear B0
       have B0 := zh hbr
       clear hbr
       clear Fv0_1
       have Fv0_1 : Hid (wq.heap[w.heap.size]? = some (.cells #[.int .i64 kind, .int .i64 col, .int .i64 k, .slice A n c] 24 (0, 0))) := zh (hr0)
       clear Fv1_2
       have Fv1_2 : Hid (wq.heap[(w.heap.size + 1)]? = some (.cells #[.int .i64 0, .int .i64 0, .int .i64 0, .slice none 0 0] 24 (0, 0))) := zh (hr1)
       clear Fv5_3
       have Fv5_3 : Hid (wq.heap[b3]? = some (.cells #[.int .i64 (kd : Int), .int .i64 (cv : Int), .int .i64 (kv : Int), .slice A2 i c2] 24 (0, 0))) := zh (hr2)
       have HV := zh hHV
       have HOI := zh hHOI
       clear hb0 hr0 hr1 hr2 hHV hHOI
       have ev := HV.out
       subst ev
       clear HV
       by_cases hif : i < n
       ·obtain ⟨h, hh⟩ : ∃ h, hs[i]? = some h := ⟨_, List.getElem?_eq_getElem (by omega)⟩
        obtain ⟨xs, hxs⟩ : ∃ x, fs[i]? = some x := ⟨_, List.getElem?_eq_getElem (by omega)⟩
        obtain ⟨hA, hn, hc⟩ := h
        have HH := zh hh
        have HX := zh hxs
        have hgd : fs.getD i [] = xs := by rw [List.getD_eq_getElem?_getD, hxs]; rfl
        clear hh hxs
        have hrw := (HFR.out.keep B0.out).row i _ _ HH.out HX.out
        have hxl : xs.length = hn := hrw.len
        have hcp : hn ≤ hc := hrw.cap
        have htp : hc ≤ 9223372036854775807 := hrw.top
        clear hrw
        have hmm : m = min 3 hn := by rw [← HM.out, ← HL.out, hgd, List.length_take, hxl]
        have hci28 : ((i : Int) < (n : Int)) := by omega
        by_cases hjn : j < hn
        ·have hci29 : ((j : Int) < (hn : Int)) := by omega
         by_cases hj3 : j < 3
         ·have hci30 : ((j : Int) < 3) := by omega
          go_upto_region 14 with fail
          refine wp_region_lit ?_
          refine zr (.int .i64 (i : Int)) wq rfl ?_
          simp only [Act.put, zA]
          refine zr (.pointer (some ⟨w.heap.size, 3, none⟩)) wq (xo_fld0 3 w.heap.size 3 (by kernel_rfl) rfl rfl) ?_
          simp only [Act.put, zA]
          refine zr (.slice A n c) wq (xo_load1 ⟨w.heap.size, 3, none⟩ _ (cells_at Fv0_1.out 3 rfl) Tryd.underlying22 rfl rfl rfl) ?_
          simp only [Act.put, zA]
          refine zr (.int .i64 (n : Int)) wq (xo_len A n c Tryd.underlying22 rfl rfl) ?_
          simp only [Act.put, zA]
          refine zr (.bool true) wq (xo_lssT .i64 (i : Int) (n : Int) (by omega) rfl rfl rfl) ?_
          simp only [Act.put, zA]
          refine zr (.bool true) wq rfl ?_
          simp only [Act.put, zA]
          refine zr (.int .i64 (j : Int)) wq rfl ?_
          simp only [Act.put, zA]
          refine zr (.pointer (some ⟨w.heap.size, 3, none⟩)) wq (xo_fld0 3 w.heap.size 3 (by kernel_rfl) rfl rfl) ?_
          simp only [Act.put, zA]
          refine zr (.slice A n c) wq (xo_load1 ⟨w.heap.size, 3, none⟩ _ (cells_at Fv0_1.out 3 rfl) Tryd.underlying22 rfl rfl rfl) ?_
          simp only [Act.put, zA]
          refine zr (.int .i64 (i : Int)) wq rfl ?_
          simp only [Act.put, zA]
          refine zr (.pointer (some (gad A (i * 1)))) wq (xg_idx .i64 (HFR.out.keep B0.out).sg HH.out Tryd.underlying22 (by kernel_rfl) rfl rfl rfl) ?_
          simp only [Act.put, zA]
          refine zr (.slice hA hn hc) wq (xg_load1 (E := hdC) (i := i) (j := 0) (HFR.out.keep B0.out).sg HH.out rfl rfl Tryd.underlying44 rfl rfl rfl) ?_
          simp only [Act.put, zA]
          refine zr (.int .i64 (hn : Int)) wq (xo_len hA hn hc Tryd.underlying44 rfl rfl) ?_
          simp only [Act.put, zA]
          refine zr (.bool true) wq (xo_lssT .i64 (j : Int) (hn : Int) (by omega) rfl rfl rfl) ?_
          simp only [Act.put, zA]
          refine zr (.bool true) wq rfl ?_
          simp only [Act.put, zA]
          refine zr (.bool true) wq rfl ?_
          simp only [Act.put, zA]
          refine zr (.int .i64 (j : Int)) wq rfl ?_
          simp only [Act.put, zA]
          refine zr (.bool true) wq (xo_lssT .i64 (j : Int) 3 (by omega) rfl rfl rfl) ?_
          simp only [Act.put, zA]
          refine zr (.bool true) wq rfl ?_
          simp only [Act.put, zA]
          refine wpList_nil ?_
          obtain ⟨e0, he⟩ : ∃ e, xs[j]? = some e := ⟨_, List.getElem?_eq_getElem (by omega)⟩
          obtain ⟨ca, cl, ch⟩ := e0
          have HE := zh he
          have hle : l[j]? = some (Qu.Ci.mk ca cl ch) := by rw [← HL.out, hgd, List.getElem?_take, if_pos (by omega), HE.out]
          have HLE := zh hle
          clear he hle
          go_upto_region 16 with fail
          refine wp_region_lit ?_
          refine zr (.slice A3 j c3) wq rfl ?_
          simp only [Act.put, zA]
          refine zr (.pointer (some ⟨w.heap.size, 3, none⟩)) wq (xo_fld0 3 w.heap.size 3 (by kernel_rfl) rfl rfl) ?_
          simp only [Act.put, zA]
          refine zr (.slice A n c) wq (xo_load1 ⟨w.heap.size, 3, none⟩ _ (cells_at Fv0_1.out 3 rfl) Tryd.underlying22 rfl rfl rfl) ?_
          simp only [Act.put, zA]
          refine zr (.int .i64 (i : Int)) wq rfl ?_
          simp only [Act.put, zA]
          refine zr (.pointer (some (gad A (i * 1)))) wq (xg_idx .i64 (HFR.out.keep B0.out).sg HH.out Tryd.underlying22 (by kernel_rfl) rfl rfl rfl) ?_
          simp only [Act.put, zA]
          refine zr (.slice hA hn hc) wq (xg_load1 (E := hdC) (i := i) (j := 0) (HFR.out.keep B0.out).sg HH.out rfl rfl Tryd.underlying44 rfl rfl rfl) ?_
          simp only [Act.put, zA]
          refine zr (.int .i64 (j : Int)) wq rfl ?_
          simp only [Act.put, zA]
          refine zr (.pointer (some (gad hA (j * 3)))) wq (xg_idx .i64 ((HFR.out.keep B0.out).row i _ _ HH.out HX.out) HE.out Tryd.underlying44 (by kernel_rfl) rfl rfl rfl) ?_
          simp only [Act.put, zA]
          refine zr (.agg #[.int .i64 ca, .int .i64 cl, .int .i64 ch]) wq (xg_loadE (E := ciC) ((HFR.out.keep B0.out).row i _ _ HH.out HX.out) HE.out Tryd.underlying49 rfl (by kernel_rfl) rfl rfl) ?_
          simp only [Act.put, zA]
          refine wpList_call (by kernel_rfl) 23 Tryd.func23 (by kernel_rfl) (by kernel_rfl) _ _ #[.agg #[.int .i64 ca, .int .i64 cl, .int .i64 ch]] rfl (by kernel_rfl) ?_
          refine (madeCond_any ca cl ch wq).mono ?_
          rintro e V2 ⟨rfl, hb⟩
          have B1 := zh hb
          clear hb 
          refine ⟨_, rfl, ?_⟩
          simp only [Act.put, zA]
          refine wpList_mk (by kernel_rfl) ([(Qu.mdC (Qu.Ci.mk ca cl ch))].flatMap cdC).toArray 49 1 1 (xg_lit (E := cdC) (bytes := 24) (.agg #[.int .i64 0, .int .i64 0, .int .i64 0]) [.tmp 73] [(Qu.mdC (Qu.Ci.mk ca cl ch))] 1 Tryd.underlying44 (by kernel_rfl) rfl (by decide) (by decide) rfl rfl) ?_
          intro g74 V3 hge h0 hb
          have N31_0 : Hid (w.heap.size ≠ g74) := zh (xp_lt0 (heap_keep Fv0_1.out B1.out) hge)
          have N32_1 : Hid ((w.heap.size + 1) ≠ g74) := zh (xp_lt0 (heap_keep Fv1_2.out B1.out) hge)
          have N33_2 : Hid (b3 ≠ g74) := zh (xp_lt0 (heap_keep Fv5_3.out B1.out) hge)
          have Ge34 : Hid (V2.heap.size ≤ g74) := zh hge
          have B2 := zh hb
          have Fv35_74 : Hid (RowG cdC V3 g74 49 ([(Qu.mdC (Qu.Ci.mk ca cl ch))])) := zh (h0)
          have Lt36 : Hid (g74 < V3.heap.size) := zh (xp_lt Fv35_74.out)
          clear hge h0 hb
          simp only [ptr, Act.put, zA]
          have C1_3 := zb B1 B2
          have C0_2 := zb B0 B1
          have C0_3 := zb C0_2 B2
          refine wpList_app2 (size := 3) (by kernel_rfl) (.tmp 64) (.tmp 74) 44 rfl (.agg #[.int .i64 0, .int .i64 0, .int .i64 0]) 24 Tryd.underlying44 (by kernel_rfl) rfl (by decide) rfl (own_keep HOI.out C1_3.out) (some ⟨g74, 0, none⟩) 1 1 (fl cdC ([(Qu.mdC (Qu.Ci.mk ca cl ch))])) rfl (RowG.sg (n := 1) (c := 1) Fv35_74.out (show ([(Qu.mdC (Qu.Ci.mk ca cl ch))]).length = 1 from rfl) (Nat.le_refl _) (by omega)).src (by unfold maxLen; omega) (by omega) C0_3.out.size ?_
          intro v75 X3_37 ho hb1 hg hloc
          have hox : X3_37.ownsRow VB21.heap.size 49 3 v75 (j + 1) (fl cdC (((l.take j).map Qu.mdC) ++ ([(Qu.mdC (Qu.Ci.mk ca cl ch))]))) := by rw [fl_append]; exact ho
          have YFv0_1 : X3_37.heap[w.heap.size]? = some (.cells #[.int .i64 kind, .int .i64 col, .int .i64 k, .slice A n c] 24 (0, 0)) := own_rowkeep (own_keep HOI.out C1_3.out) hg (heap_keep Fv0_1.out C1_3.out) (by decide)
          have YFv1_2 : X3_37.heap[(w.heap.size + 1)]? = some (.cells #[.int .i64 0, .int .i64 0, .int .i64 0, .slice none 0 0] 24 (0, 0)) := own_rowkeep (own_keep HOI.out C1_3.out) hg (heap_keep Fv1_2.out C1_3.out) (by decide)
          have YFv5_3 : X3_37.heap[b3]? = some (.cells #[.int .i64 (kd : Int), .int .i64 (cv : Int), .int .i64 (kv : Int), .slice A2 i c2] 24 (0, 0)) := own_rowkeep (own_keep HOI.out C1_3.out) hg (heap_keep Fv5_3.out C1_3.out) (by decide)
          have hbr := C0_3.out.trans hb1
          clear B0
          have B0 := zh hbr
          clear hbr
          have Ow75_38 := zh hox
          clear Fv0_1
          have Fv0_1 : Hid (X3_37.heap[w.heap.size]? = some (.cells #[.int .i64 kind, .int .i64 col, .int .i64 k, .slice A n c] 24 (0, 0))) := zh YFv0_1
          clear YFv0_1
          have Lt39 : Hid (w.heap.size < X3_37.heap.size) := zh (xp_lt Fv0_1.out)
          clear Fv1_2
          have Fv1_2 : Hid (X3_37.heap[(w.heap.size + 1)]? = some (.cells #[.int .i64 0, .int .i64 0, .int .i64 0, .slice none 0 0] 24 (0, 0))) := zh YFv1_2
          clear YFv1_2
          have Lt40 : Hid ((w.heap.size + 1) < X3_37.heap.size) := zh (xp_lt Fv1_2.out)
          clear Fv5_3
          have Fv5_3 : Hid (X3_37.heap[b3]? = some (.cells #[.int .i64 (kd : Int), .int .i64 (cv : Int), .int .i64 (kv : Int), .slice A2 i c2] 24 (0, 0))) := zh YFv5_3
          clear YFv5_3
          have Lt41 : Hid (b3 < X3_37.heap.size) := zh (xp_lt Fv5_3.out)
          clear ho hox hb1 hg hloc
          simp only [ptr, Act.put, zA]
          refine zr (v75) X3_37 rfl ?_
          simp only [Act.put, zA]
          refine wpList_nil ?_
          go_upto_region 15 with fail
          refine wp_region_lit ?_
          refine zr (.int .i64 (j : Int)) X3_37 rfl ?_
          simp only [Act.put, zA]
          refine zr (.int .i64 ((j + 1 : Nat) : Int)) X3_37 (xo_addI (j : Int) 1 ((j + 1 : Nat) : Int) (by omega) (by omega) (by omega) rfl rfl rfl) ?_
          simp only [Act.put, zA]
          refine zr (.int .i64 ((j + 1 : Nat) : Int)) X3_37 rfl ?_
          simp only [Act.put, zA]
          refine wpList_nil ?_
          obtain ⟨A42, c42, rfl⟩ := own_form Ow75_38.out
          have ow0 : X3_37.ownsRow VB21.heap.size 49 3 (.slice A42 (j + 1) c42) (j + 1) (fl cdC ((l.take (j + 1)).map Qu.mdC)) := by rw [map_take1 Qu.mdC HLE.out]; exact Ow75_38.out
          have hq43 := Fv0_1.out
          have hq44 := Fv1_2.out
          have hq45 := Fv5_3.out
          have hq46 := B0.out
          go_wp2_with fail
          go_roundw
          case rel => exact ⟨j + 1, _, _, by omega, by go_num, rfl, ow0, hq43, hq44, hq45, hq46⟩
          case measure => simp [intOf]; omega
         ·have hci30 : ¬ ((j : Int) < 3) := by omega
          go_upto_region 14 with fail
          refine wp_region_lit ?_
          refine zr (.int .i64 (i : Int)) wq rfl ?_
          simp only [Act.put, zA]
          refine zr (.pointer (some ⟨w.heap.size, 3, none⟩)) wq (xo_fld0 3 w.heap.size 3 (by kernel_rfl) rfl rfl) ?_
          simp only [Act.put, zA]
          refine zr (.slice A n c) wq (xo_load1 ⟨w.heap.size, 3, none⟩ _ (cells_at Fv0_1.out 3 rfl) Tryd.underlying22 rfl rfl rfl) ?_
          simp only [Act.put, zA]
          refine zr (.int .i64 (n : Int)) wq (xo_len A n c Tryd.underlying22 rfl rfl) ?_
          simp only [Act.put, zA]
          refine zr (.bool true) wq (xo_lssT .i64 (i : Int) (n : Int) (by omega) rfl rfl rfl) ?_
          simp only [Act.put, zA]
          refine zr (.bool true) wq rfl ?_
          simp only [Act.put, zA]
          refine zr (.int .i64 (j : Int)) wq rfl ?_
          simp only [Act.put, zA]
          refine zr (.pointer (some ⟨w.heap.size, 3, none⟩)) wq (xo_fld0 3 w.heap.size 3 (by kernel_rfl) rfl rfl) ?_
          simp only [Act.put, zA]
          refine zr (.slice A n c) wq (xo_load1 ⟨w.heap.size, 3, none⟩ _ (cells_at Fv0_1.out 3 rfl) Tryd.underlying22 rfl rfl rfl) ?_
          simp only [Act.put, zA]
          refine zr (.int .i64 (i : Int)) wq rfl ?_
          simp only [Act.put, zA]
          refine zr (.pointer (some (gad A (i * 1)))) wq (xg_idx .i64 (HFR.out.keep B0.out).sg HH.out Tryd.underlying22 (by kernel_rfl) rfl rfl rfl) ?_
          simp only [Act.put, zA]
          refine zr (.slice hA hn hc) wq (xg_load1 (E := hdC) (i := i) (j := 0) (HFR.out.keep B0.out).sg HH.out rfl rfl Tryd.underlying44 rfl rfl rfl) ?_
          simp only [Act.put, zA]
          refine zr (.int .i64 (hn : Int)) wq (xo_len hA hn hc Tryd.underlying44 rfl rfl) ?_
          simp only [Act.put, zA]
          refine zr (.bool true) wq (xo_lssT .i64 (j : Int) (hn : Int) (by omega) rfl rfl rfl) ?_
          simp only [Act.put, zA]
          refine zr (.bool true) wq rfl ?_
          simp only [Act.put, zA]
          refine zr (.bool true) wq rfl ?_
          simp only [Act.put, zA]
          refine zr (.int .i64 (j : Int)) wq rfl ?_
          simp only [Act.put, zA]
          refine zr (.bool false) wq (xo_lssF .i64 (j : Int) 3 (by omega) rfl rfl rfl) ?_
          simp only [Act.put, zA]
          refine zr (.bool false) wq rfl ?_
          simp only [Act.put, zA]
          refine wpList_nil ?_
          obtain rfl : j = m := by omega
          have hlm : (l.take j).map Qu.mdC = mdF fs i := by rw [mdF_len fs i l HL.out, List.take_of_length_le (by have := HM.out; omega)]
          have hnw0 := HOI.out
          rw [hlm] at hnw0
          have hjl : (mdF fs i).length = j := by rw [← hlm, List.length_map, List.length_take]; have := HM.out; omega
          have HNw := zh hnw0
          clear hnw0 HOI hlm
          have hcb := HBV21.out.trans (B0.out.mono HBV21.out.size)
          have YFv0_1 := Fv0_1.out
          have YFv1_2 := Fv1_2.out
          have YFv5_3 := Fv5_3.out
          have YHOW := (own_keep HOW.out B0.out)
          have YHIn := (HIn.out.keep B0.out)
          have YHNw := HNw.out
          clear Fv0_1
          have Fv0_1 := zh YFv0_1
          clear YFv0_1
          clear Fv1_2
          have Fv1_2 := zh YFv1_2
          clear YFv1_2
          clear Fv5_3
          have Fv5_3 := zh YFv5_3
          clear YFv5_3
          clear HOW
          have HOW := zh YHOW
          clear YHOW
          clear HIn
          have HIn := zh YHIn
          clear YHIn
          clear HNw
          have HNw := zh YHNw
          clear YHNw
          have B0 := zh hcb
          clear hcb
          have hnw := own_mono HNw.out HBV21.out.size
          have hin2 := OwnsC.push HIn.out hnw hjl
          clear HIn HNw hnw
          have HIn := zh hin2
          clear hin2
          go_upto_region 17 with fail
          refine wp_region_lit ?_
          refine zr (.pointer (some ⟨b3, 3, none⟩)) wq (xo_fld0 3 b3 3 (by kernel_rfl) rfl rfl) ?_
          simp only [Act.put, zA]
          refine zr (.slice A2 i c2) wq (xo_load1 ⟨b3, 3, none⟩ _ (cells_at Fv5_3.out 3 rfl) Tryd.underlying22 rfl rfl rfl) ?_
          simp only [Act.put, zA]
          refine zr (.slice A3 j c3) wq rfl ?_
          simp only [Act.put, zA]
          refine wpList_mk (by kernel_rfl) ([(Hd.mk A3 j c3)].flatMap hdC).toArray 44 1 1 (xg_lit (E := hdC) (bytes := 24) (.slice none 0 0) [.tmp 78] [(Hd.mk A3 j c3)] 1 Tryd.underlying22 (by kernel_rfl) rfl (by decide) (by decide) rfl rfl) ?_
          intro g79 V2 hge h0 hb
          have N31_0 : Hid (w.heap.size ≠ g79) := zh (xp_lt0 Fv0_1.out hge)
          have N32_1 : Hid ((w.heap.size + 1) ≠ g79) := zh (xp_lt0 Fv1_2.out hge)
          have N33_2 : Hid (b3 ≠ g79) := zh (xp_lt0 Fv5_3.out hge)
          have Ge34 : Hid (wq.heap.size ≤ g79) := zh hge
          have B1 := zh hb
          have Fv35_79 : Hid (RowG hdC V2 g79 44 ([(Hd.mk A3 j c3)])) := zh (h0)
          have Lt36 : Hid (g79 < V2.heap.size) := zh (xp_lt Fv35_79.out)
          clear hge h0 hb
          simp only [ptr, Act.put, zA]
          have C0_2 := zb B0 B1
          refine wpList_app2 (size := 1) (by kernel_rfl) (.tmp 77) (.tmp 79) 22 rfl (.slice none 0 0) 24 Tryd.underlying22 (by kernel_rfl) rfl (by decide) rfl (own_keep HOW.out B1.out) (some ⟨g79, 0, none⟩) 1 1 (fl hdC ([(Hd.mk A3 j c3)])) rfl (RowG.sg (n := 1) (c := 1) Fv35_79.out (show ([(Hd.mk A3 j c3)]).length = 1 from rfl) (Nat.le_refl _) (by omega)).src (by unfold maxLen; omega) (by omega) C0_2.out.size ?_
          intro v80 X2_37 ho hb1 hg hloc
          have hox : X2_37.ownsRow w.heap.size 44 1 v80 (i + 1) (fl hdC (hs2 ++ ([(Hd.mk A3 j c3)]))) := by rw [fl_append]; exact ho
          have YFv0_1 : X2_37.heap[w.heap.size]? = some (.cells #[.int .i64 kind, .int .i64 col, .int .i64 k, .slice A n c] 24 (0, 0)) := own_rowkeep (own_keep HOW.out B1.out) hg (heap_keep Fv0_1.out B1.out) (by decide)
          have YFv1_2 : X2_37.heap[(w.heap.size + 1)]? = some (.cells #[.int .i64 0, .int .i64 0, .int .i64 0, .slice none 0 0] 24 (0, 0)) := own_rowkeep (own_keep HOW.out B1.out) hg (heap_keep Fv1_2.out B1.out) (by decide)
          have YFv5_3 : X2_37.heap[b3]? = some (.cells #[.int .i64 (kd : Int), .int .i64 (cv : Int), .int .i64 (kv : Int), .slice A2 i c2] 24 (0, 0)) := own_rowkeep (own_keep HOW.out B1.out) hg (heap_keep Fv5_3.out B1.out) (by decide)
          have YHIn : OwnsC X2_37 49 w.heap.size (hs2 ++ [Hd.mk A3 j c3]) ((List.range i).map (mdF fs) ++ [mdF fs i]) := OwnsC.grown (HIn.out.keep B1.out) (own_keep HOW.out B1.out) hg (by decide)
          have hbr := C0_2.out.trans hb1
          clear B0
          have B0 := zh hbr
          clear hbr
          have Ow80_38 := zh hox
          clear Fv0_1
          have Fv0_1 : Hid (X2_37.heap[w.heap.size]? = some (.cells #[.int .i64 kind, .int .i64 col, .int .i64 k, .slice A n c] 24 (0, 0))) := zh YFv0_1
          clear YFv0_1
          have Lt39 : Hid (w.heap.size < X2_37.heap.size) := zh (xp_lt Fv0_1.out)
          clear Fv1_2
          have Fv1_2 : Hid (X2_37.heap[(w.heap.size + 1)]? = some (.cells #[.int .i64 0, .int .i64 0, .int .i64 0, .slice none 0 0] 24 (0, 0))) := zh YFv1_2
          clear YFv1_2
          have Lt40 : Hid ((w.heap.size + 1) < X2_37.heap.size) := zh (xp_lt Fv1_2.out)
          clear Fv5_3
          have Fv5_3 : Hid (X2_37.heap[b3]? = some (.cells #[.int .i64 (kd : Int), .int .i64 (cv : Int), .int .i64 (kv : Int), .slice A2 i c2] 24 (0, 0))) := zh YFv5_3
          clear YFv5_3
          have Lt41 : Hid (b3 < X2_37.heap.size) := zh (xp_lt Fv5_3.out)
          clear HIn
          have HIn : Hid (OwnsC X2_37 49 w.heap.size (hs2 ++ [Hd.mk A3 j c3]) ((List.range i).map (mdF fs) ++ [mdF fs i])) := zh YHIn
          clear YHIn
          clear ho hox hb1 hg hloc
          simp only [ptr, Act.put, zA]
          obtain ⟨A42, c42, rfl⟩ := own_form Ow80_38.out
          refine zr (.pointer (some ⟨b3, 3, none⟩)) X2_37 (xo_fld0 3 b3 3 (by kernel_rfl) rfl rfl) ?_
          simp only [Act.put, zA]
          refine wpList_store1 b3 3 #[.int .i64 (kd : Int), .int .i64 (cv : Int), .int .i64 (kv : Int), .slice A2 i c2] (.slice A42 (i + 1) c42) 24 (by kernel_rfl) Fv5_3.out (xo_store1 b3 3 #[.int .i64 (kd : Int), .int .i64 (cv : Int), .int .i64 (kv : Int), .slice A2 i c2] _ (.slice A42 (i + 1) c42) Fv5_3.out rfl (by kernel_rfl) rfl rfl rfl rfl) ?_
          intro X1_43 h1 hfar hbel hsz
          have YHIn : OwnsC X1_43 49 w.heap.size (hs2 ++ [Hd.mk A3 j c3]) ((List.range i).map (mdF fs) ++ [mdF fs i]) := OwnsC.farT HIn.out Fv5_3.out (by decide) hfar
          have YOw80_38 : X1_43.ownsRow w.heap.size 44 1 (.slice A42 (i + 1) c42) (i + 1) (fl hdC (hs2 ++ ([(Hd.mk A3 j c3)]))) := own_farT Ow80_38.out Fv5_3.out (by decide) hfar
          have YFv0_1 : X1_43.heap[w.heap.size]? = some (.cells #[.int .i64 kind, .int .i64 col, .int .i64 k, .slice A n c] 24 (0, 0)) := hfar _ _ N2_0.out Fv0_1.out
          have YFv1_2 : X1_43.heap[(w.heap.size + 1)]? = some (.cells #[.int .i64 0, .int .i64 0, .int .i64 0, .slice none 0 0] 24 (0, 0)) := hfar _ _ N3_1.out Fv1_2.out
          have hbr := hbel _ _ Gr8.out B0.out
          clear B0
          have B0 := zh hbr
          clear hbr
          clear Fv0_1
          have Fv0_1 : Hid (X1_43.heap[w.heap.size]? = some (.cells #[.int .i64 kind, .int .i64 col, .int .i64 k, .slice A n c] 24 (0, 0))) := zh YFv0_1
          clear YFv0_1
          clear Fv1_2
          have Fv1_2 : Hid (X1_43.heap[(w.heap.size + 1)]? = some (.cells #[.int .i64 0, .int .i64 0, .int .i64 0, .slice none 0 0] 24 (0, 0))) := zh YFv1_2
          clear YFv1_2
          clear HIn
          have HIn := zh YHIn
          clear YHIn
          clear Ow80_38
          have Ow80_38 := zh YOw80_38
          clear YOw80_38
          clear Fv5_3
          have Fv5_3 : Hid (X1_43.heap[b3]? = some (.cells #[.int .i64 (kd : Int), .int .i64 (cv : Int), .int .i64 (kv : Int), .slice A42 (i + 1) c42] 24 (0, 0))) := zh (h1)
          have HszX1_43 := zh hsz
          clear h1 hfar hbel hsz
          simp only [ptr, Act.put, zA]
          refine wpList_nil ?_
          go_upto_region 11 with fail
          refine wp_region_lit ?_
          refine zr (.int .i64 (i : Int)) X1_43 rfl ?_
          simp only [Act.put, zA]
          refine zr (.int .i64 ((i + 1 : Nat) : Int)) X1_43 (xo_addI (i : Int) 1 ((i + 1 : Nat) : Int) (by omega) (by omega) (by omega) rfl rfl rfl) ?_
          simp only [Act.put, zA]
          refine zr (.int .i64 ((i + 1 : Nat) : Int)) X1_43 rfl ?_
          simp only [Act.put, zA]
          refine wpList_nil ?_
          have ow0 := Ow80_38.out
          have in0 := HIn.out
          rw [← map_range1] at in0
          have hq44 := Fv0_1.out
          have hq45 := Fv1_2.out
          have hq46 := Fv5_3.out
          have hq47 := B0.out
          go_wp2_with fail
          go_roundw
          case rel => exact ⟨i + 1, _, _, _, by omega, by go_num, ow0, in0, hq44, hq45, hq46, hq47⟩
          case measure => simp [intOf]; omega
        ·have hci29 : ¬ ((j : Int) < (hn : Int)) := by omega
         go_upto_region 14 with fail
         refine wp_region_lit ?_
         refine zr (.int .i64 (i : Int)) wq rfl ?_
         simp only [Act.put, zA]
         refine zr (.pointer (some ⟨w.heap.size, 3, none⟩)) wq (xo_fld0 3 w.heap.size 3 (by kernel_rfl) rfl rfl) ?_
         simp only [Act.put, zA]
         refine zr (.slice A n c) wq (xo_load1 ⟨w.heap.size, 3, none⟩ _ (cells_at Fv0_1.out 3 rfl) Tryd.underlying22 rfl rfl rfl) ?_
         simp only [Act.put, zA]
         refine zr (.int .i64 (n : Int)) wq (xo_len A n c Tryd.underlying22 rfl rfl) ?_
         simp only [Act.put, zA]
         refine zr (.bool true) wq (xo_lssT .i64 (i : Int) (n : Int) (by omega) rfl rfl rfl) ?_
         simp only [Act.put, zA]
         refine zr (.bool true) wq rfl ?_
         simp only [Act.put, zA]
         refine zr (.int .i64 (j : Int)) wq rfl ?_
         simp only [Act.put, zA]
         refine zr (.pointer (some ⟨w.heap.size, 3, none⟩)) wq (xo_fld0 3 w.heap.size 3 (by kernel_rfl) rfl rfl) ?_
         simp only [Act.put, zA]
         refine zr (.slice A n c) wq (xo_load1 ⟨w.heap.size, 3, none⟩ _ (cells_at Fv0_1.out 3 rfl) Tryd.underlying22 rfl rfl rfl) ?_
         simp only [Act.put, zA]
         refine zr (.int .i64 (i : Int)) wq rfl ?_
         simp only [Act.put, zA]
         refine zr (.pointer (some (gad A (i * 1)))) wq (xg_idx .i64 (HFR.out.keep B0.out).sg HH.out Tryd.underlying22 (by kernel_rfl) rfl rfl rfl) ?_
         simp only [Act.put, zA]
         refine zr (.slice hA hn hc) wq (xg_load1 (E := hdC) (i := i) (j := 0) (HFR.out.keep B0.out).sg HH.out rfl rfl Tryd.underlying44 rfl rfl rfl) ?_
         simp only [Act.put, zA]
         refine zr (.int .i64 (hn : Int)) wq (xo_len hA hn hc Tryd.underlying44 rfl rfl) ?_
         simp only [Act.put, zA]
         refine zr (.bool false) wq (xo_lssF .i64 (j : Int) (hn : Int) (by omega) rfl rfl rfl) ?_
         simp only [Act.put, zA]
         refine zr (.bool false) wq rfl ?_
         simp only [Act.put, zA]
         refine zr (.bool false) wq rfl ?_
         simp only [Act.put, zA]
         refine zl ?_
         try simp only [Act.put, zA]
         refine zl ?_
         try simp only [Act.put, zA]
         refine zr (.bool false) wq rfl ?_
         simp only [Act.put, zA]
         refine wpList_nil ?_
         obtain rfl : j = m := by omega
         have hlm : (l.take j).map Qu.mdC = mdF fs i := by rw [mdF_len fs i l HL.out, List.take_of_length_le (by have := HM.out; omega)]
         have hnw0 := HOI.out
         rw [hlm] at hnw0
         have hjl : (mdF fs i).length = j := by rw [← hlm, List.length_map, List.length_take]; have := HM.out; omega
         have HNw := zh hnw0
         clear hnw0 HOI hlm
         have hcb := HBV21.out.trans (B0.out.mono HBV21.out.size)
         have YFv0_1 := Fv0_1.out
         have YFv1_2 := Fv1_2.out
         have YFv5_3 := Fv5_3.out
         have YHOW := (own_keep HOW.out B0.out)
         have YHIn := (HIn.out.keep B0.out)
         have YHNw := HNw.out
         clear Fv0_1
         have Fv0_1 := zh YFv0_1
         clear YFv0_1
         clear Fv1_2
         have Fv1_2 := zh YFv1_2
         clear YFv1_2
         clear Fv5_3
         have Fv5_3 := zh YFv5_3
         clear YFv5_3
         clear HOW
         have HOW := zh YHOW
         clear YHOW
         clear HIn
         have HIn := zh YHIn
         clear YHIn
         clear HNw
         have HNw := zh YHNw
         clear YHNw
         have B0 := zh hcb
         clear hcb
         have hnw := own_mono HNw.out HBV21.out.size
         have hin2 := OwnsC.push HIn.out hnw hjl
         clear HIn HNw hnw
         have HIn := zh hin2
         clear hin2
         go_upto_region 17 with fail
         refine wp_region_lit ?_
         refine zr (.pointer (some ⟨b3, 3, none⟩)) wq (xo_fld0 3 b3 3 (by kernel_rfl) rfl rfl) ?_
         simp only [Act.put, zA]
         refine zr (.slice A2 i c2) wq (xo_load1 ⟨b3, 3, none⟩ _ (cells_at Fv5_3.out 3 rfl) Tryd.underlying22 rfl rfl rfl) ?_
         simp only [Act.put, zA]
         refine zr (.slice A3 j c3) wq rfl ?_
         simp only [Act.put, zA]
         refine wpList_mk (by kernel_rfl) ([(Hd.mk A3 j c3)].flatMap hdC).toArray 44 1 1 (xg_lit (E := hdC) (bytes := 24) (.slice none 0 0) [.tmp 78] [(Hd.mk A3 j c3)] 1 Tryd.underlying22 (by kernel_rfl) rfl (by decide) (by decide) rfl rfl) ?_
         intro g79 V2 hge h0 hb
         have N30_0 : Hid (w.heap.size ≠ g79) := zh (xp_lt0 Fv0_1.out hge)
         have N31_1 : Hid ((w.heap.size + 1) ≠ g79) := zh (xp_lt0 Fv1_2.out hge)
         have N32_2 : Hid (b3 ≠ g79) := zh (xp_lt0 Fv5_3.out hge)
         have Ge33 : Hid (wq.heap.size ≤ g79) := zh hge
         have B1 := zh hb
         have Fv34_79 : Hid (RowG hdC V2 g79 44 ([(Hd.mk A3 j c3)])) := zh (h0)
         have Lt35 : Hid (g79 < V2.heap.size) := zh (xp_lt Fv34_79.out)
         clear hge h0 hb
         simp only [ptr, Act.put, zA]
         have C0_2 := zb B0 B1
         refine wpList_app2 (size := 1) (by kernel_rfl) (.tmp 77) (.tmp 79) 22 rfl (.slice none 0 0) 24 Tryd.underlying22 (by kernel_rfl) rfl (by decide) rfl (own_keep HOW.out B1.out) (some ⟨g79, 0, none⟩) 1 1 (fl hdC ([(Hd.mk A3 j c3)])) rfl (RowG.sg (n := 1) (c := 1) Fv34_79.out (show ([(Hd.mk A3 j c3)]).length = 1 from rfl) (Nat.le_refl _) (by omega)).src (by unfold maxLen; omega) (by omega) C0_2.out.size ?_
         intro v80 X2_36 ho hb1 hg hloc
         have hox : X2_36.ownsRow w.heap.size 44 1 v80 (i + 1) (fl hdC (hs2 ++ ([(Hd.mk A3 j c3)]))) := by rw [fl_append]; exact ho
         have YFv0_1 : X2_36.heap[w.heap.size]? = some (.cells #[.int .i64 kind, .int .i64 col, .int .i64 k, .slice A n c] 24 (0, 0)) := own_rowkeep (own_keep HOW.out B1.out) hg (heap_keep Fv0_1.out B1.out) (by decide)
         have YFv1_2 : X2_36.heap[(w.heap.size + 1)]? = some (.cells #[.int .i64 0, .int .i64 0, .int .i64 0, .slice none 0 0] 24 (0, 0)) := own_rowkeep (own_keep HOW.out B1.out) hg (heap_keep Fv1_2.out B1.out) (by decide)
         have YFv5_3 : X2_36.heap[b3]? = some (.cells #[.int .i64 (kd : Int), .int .i64 (cv : Int), .int .i64 (kv : Int), .slice A2 i c2] 24 (0, 0)) := own_rowkeep (own_keep HOW.out B1.out) hg (heap_keep Fv5_3.out B1.out) (by decide)
         have YHIn : OwnsC X2_36 49 w.heap.size (hs2 ++ [Hd.mk A3 j c3]) ((List.range i).map (mdF fs) ++ [mdF fs i]) := OwnsC.grown (HIn.out.keep B1.out) (own_keep HOW.out B1.out) hg (by decide)
         have hbr := C0_2.out.trans hb1
         clear B0
         have B0 := zh hbr
         clear hbr
         have Ow80_37 := zh hox
         clear Fv0_1
         have Fv0_1 : Hid (X2_36.heap[w.heap.size]? = some (.cells #[.int .i64 kind, .int .i64 col, .int .i64 k, .slice A n c] 24 (0, 0))) := zh YFv0_1
         clear YFv0_1
         have Lt38 : Hid (w.heap.size < X2_36.heap.size) := zh (xp_lt Fv0_1.out)
         clear Fv1_2
         have Fv1_2 : Hid (X2_36.heap[(w.heap.size + 1)]? = some (.cells #[.int .i64 0, .int .i64 0, .int .i64 0, .slice none 0 0] 24 (0, 0))) := zh YFv1_2
         clear YFv1_2
         have Lt39 : Hid ((w.heap.size + 1) < X2_36.heap.size) := zh (xp_lt Fv1_2.out)
         clear Fv5_3
         have Fv5_3 : Hid (X2_36.heap[b3]? = some (.cells #[.int .i64 (kd : Int), .int .i64 (cv : Int), .int .i64 (kv : Int), .slice A2 i c2] 24 (0, 0))) := zh YFv5_3
         clear YFv5_3
         have Lt40 : Hid (b3 < X2_36.heap.size) := zh (xp_lt Fv5_3.out)
         clear HIn
         have HIn : Hid (OwnsC X2_36 49 w.heap.size (hs2 ++ [Hd.mk A3 j c3]) ((List.range i).map (mdF fs) ++ [mdF fs i])) := zh YHIn
         clear YHIn
         clear ho hox hb1 hg hloc
         simp only [ptr, Act.put, zA]
         obtain ⟨A41, c41, rfl⟩ := own_form Ow80_37.out
         refine zr (.pointer (some ⟨b3, 3, none⟩)) X2_36 (xo_fld0 3 b3 3 (by kernel_rfl) rfl rfl) ?_
         simp only [Act.put, zA]
         refine wpList_store1 b3 3 #[.int .i64 (kd : Int), .int .i64 (cv : Int), .int .i64 (kv : Int), .slice A2 i c2] (.slice A41 (i + 1) c41) 24 (by kernel_rfl) Fv5_3.out (xo_store1 b3 3 #[.int .i64 (kd : Int), .int .i64 (cv : Int), .int .i64 (kv : Int), .slice A2 i c2] _ (.slice A41 (i + 1) c41) Fv5_3.out rfl (by kernel_rfl) rfl rfl rfl rfl) ?_
         intro X1_42 h1 hfar hbel hsz
         have YHIn : OwnsC X1_42 49 w.heap.size (hs2 ++ [Hd.mk A3 j c3]) ((List.range i).map (mdF fs) ++ [mdF fs i]) := OwnsC.farT HIn.out Fv5_3.out (by decide) hfar
         have YOw80_37 : X1_42.ownsRow w.heap.size 44 1 (.slice A41 (i + 1) c41) (i + 1) (fl hdC (hs2 ++ ([(Hd.mk A3 j c3)]))) := own_farT Ow80_37.out Fv5_3.out (by decide) hfar
         have YFv0_1 : X1_42.heap[w.heap.size]? = some (.cells #[.int .i64 kind, .int .i64 col, .int .i64 k, .slice A n c] 24 (0, 0)) := hfar _ _ N2_0.out Fv0_1.out
         have YFv1_2 : X1_42.heap[(w.heap.size + 1)]? = some (.cells #[.int .i64 0, .int .i64 0, .int .i64 0, .slice none 0 0] 24 (0, 0)) := hfar _ _ N3_1.out Fv1_2.out
         have hbr := hbel _ _ Gr8.out B0.out
         clear B0
         have B0 := zh hbr
         clear hbr
         clear Fv0_1
         have Fv0_1 : Hid (X1_42.heap[w.heap.size]? = some (.cells #[.int .i64 kind, .int .i64 col, .int .i64 k, .slice A n c] 24 (0, 0))) := zh YFv0_1
         clear YFv0_1
         clear Fv1_2
         have Fv1_2 : Hid (X1_42.heap[(w.heap.size + 1)]? = some (.cells #[.int .i64 0, .int .i64 0, .int .i64 0, .slice none 0 0] 24 (0, 0))) := zh YFv1_2
         clear YFv1_2
         clear HIn
         have HIn := zh YHIn
         clear YHIn
         clear Ow80_37
         have Ow80_37 := zh YOw80_37
         clear YOw80_37
         clear Fv5_3
         have Fv5_3 : Hid (X1_42.heap[b3]? = some (.cells #[.int .i64 (kd : Int), .int .i64 (cv : Int), .int .i64 (kv : Int), .slice A41 (i + 1) c41] 24 (0, 0))) := zh (h1)
         have HszX1_42 := zh hsz
         clear h1 hfar hbel hsz
         simp only [ptr, Act.put, zA]
         refine wpList_nil ?_
         go_upto_region 11 with fail
         refine wp_region_lit ?_
         refine zr (.int .i64 (i : Int)) X1_42 rfl ?_
         simp only [Act.put, zA]
         refine zr (.int .i64 ((i + 1 : Nat) : Int)) X1_42 (xo_addI (i : Int) 1 ((i + 1 : Nat) : Int) (by omega) (by omega) (by omega) rfl rfl rfl) ?_
         simp only [Act.put, zA]
         refine zr (.int .i64 ((i + 1 : Nat) : Int)) X1_42 rfl ?_
         simp only [Act.put, zA]
         refine wpList_nil ?_
         have ow0 := Ow80_37.out
         have in0 := HIn.out
         rw [← map_range1] at in0
         have hq43 := Fv0_1.out
         have hq44 := Fv1_2.out
         have hq45 := Fv5_3.out
         have hq46 := B0.out
         go_wp2_with fail
         go_roundw
         case rel => exact ⟨i + 1, _, _, _, by omega, by go_num, ow0, in0, hq43, hq44, hq45, hq46⟩
         case measure => simp [intOf]; omega
       ·have hci28 : ¬ ((i : Int) < (n : Int)) := by omega
        have hgd : fs.getD i [] = [] := by rw [List.getD_eq_getElem?_getD, List.getElem?_eq_none (by omega)]; rfl
        have hm0 : m = 0 := by rw [← HM.out, ← HL.out, hgd]; rfl
        go_upto_region 14 with fail
        refine wp_region_lit ?_
        refine zr (.int .i64 (i : Int)) wq rfl ?_
        simp only [Act.put, zA]
        refine zr (.pointer (some ⟨w.heap.size, 3, none⟩)) wq (xo_fld0 3 w.heap.size 3 (by kernel_rfl) rfl rfl) ?_
        simp only [Act.put, zA]
        refine zr (.slice A n c) wq (xo_load1 ⟨w.heap.size, 3, none⟩ _ (cells_at Fv0_1.out 3 rfl) Tryd.underlying22 rfl rfl rfl) ?_
        simp only [Act.put, zA]
        refine zr (.int .i64 (n : Int)) wq (xo_len A n c Tryd.underlying22 rfl rfl) ?_
        simp only [Act.put, zA]
        refine zr (.bool false) wq (xo_lssF .i64 (i : Int) (n : Int) (by omega) rfl rfl rfl) ?_
        simp only [Act.put, zA]
        refine zr (.bool false) wq rfl ?_
        simp only [Act.put, zA]
        refine zl ?_
        try simp only [Act.put, zA]
        refine zl ?_
        try simp only [Act.put, zA]
        refine zl ?_
        try simp only [Act.put, zA]
        refine zl ?_
        try simp only [Act.put, zA]
        refine zl ?_
        try simp only [Act.put, zA]
        refine zl ?_
        try simp only [Act.put, zA]
        refine zl ?_
        try simp only [Act.put, zA]
        refine zl ?_
        try simp only [Act.put, zA]
        refine zr (.bool false) wq rfl ?_
        simp only [Act.put, zA]
        refine zr (.bool false) wq rfl ?_
        simp only [Act.put, zA]
        refine zl ?_
        try simp only [Act.put, zA]
        refine zl ?_
        try simp only [Act.put, zA]
        refine zr (.bool false) wq rfl ?_
        simp only [Act.put, zA]
        refine wpList_nil ?_
        obtain rfl : j = m := by omega
        have hlm : (l.take j).map Qu.mdC = mdF fs i := by rw [mdF_len fs i l HL.out, List.take_of_length_le (by have := HM.out; omega)]
        have hnw0 := HOI.out
        rw [hlm] at hnw0
        have hjl : (mdF fs i).length = j := by rw [← hlm, List.length_map, List.length_take]; have := HM.out; omega
        have HNw := zh hnw0
        clear hnw0 HOI hlm
        have hcb := HBV21.out.trans (B0.out.mono HBV21.out.size)
        have YFv0_1 := Fv0_1.out
        have YFv1_2 := Fv1_2.out
        have YFv5_3 := Fv5_3.out
        have YHOW := (own_keep HOW.out B0.out)
        have YHIn := (HIn.out.keep B0.out)
        have YHNw := HNw.out
        clear Fv0_1
        have Fv0_1 := zh YFv0_1
        clear YFv0_1
        clear Fv1_2
        have Fv1_2 := zh YFv1_2
        clear YFv1_2
        clear Fv5_3
        have Fv5_3 := zh YFv5_3
        clear YFv5_3
        clear HOW
        have HOW := zh YHOW
        clear YHOW
        clear HIn
        have HIn := zh YHIn
        clear YHIn
        clear HNw
        have HNw := zh YHNw
        clear YHNw
        have B0 := zh hcb
        clear hcb
        have hnw := own_mono HNw.out HBV21.out.size
        have hin2 := OwnsC.push HIn.out hnw hjl
        clear HIn HNw hnw
        have HIn := zh hin2
        clear hin2
        go_upto_region 17 with fail
        refine wp_region_lit ?_
        refine zr (.pointer (some ⟨b3, 3, none⟩)) wq (xo_fld0 3 b3 3 (by kernel_rfl) rfl rfl) ?_
        simp only [Act.put, zA]
        refine zr (.slice A2 i c2) wq (xo_load1 ⟨b3, 3, none⟩ _ (cells_at Fv5_3.out 3 rfl) Tryd.underlying22 rfl rfl rfl) ?_
        simp only [Act.put, zA]
        refine zr (.slice A3 j c3) wq rfl ?_
        simp only [Act.put, zA]
        refine wpList_mk (by kernel_rfl) ([(Hd.mk A3 j c3)].flatMap hdC).toArray 44 1 1 (xg_lit (E := hdC) (bytes := 24) (.slice none 0 0) [.tmp 78] [(Hd.mk A3 j c3)] 1 Tryd.underlying22 (by kernel_rfl) rfl (by decide) (by decide) rfl rfl) ?_
        intro g79 V2 hge h0 hb
        have N29_0 : Hid (w.heap.size ≠ g79) := zh (xp_lt0 Fv0_1.out hge)
        have N30_1 : Hid ((w.heap.size + 1) ≠ g79) := zh (xp_lt0 Fv1_2.out hge)
        have N31_2 : Hid (b3 ≠ g79) := zh (xp_lt0 Fv5_3.out hge)
        have Ge32 : Hid (wq.heap.size ≤ g79) := zh hge
        have B1 := zh hb
        have Fv33_79 : Hid (RowG hdC V2 g79 44 ([(Hd.mk A3 j c3)])) := zh (h0)
        have Lt34 : Hid (g79 < V2.heap.size) := zh (xp_lt Fv33_79.out)
        clear hge h0 hb
        simp only [ptr, Act.put, zA]
        have C0_2 := zb B0 B1
        refine wpList_app2 (size := 1) (by kernel_rfl) (.tmp 77) (.tmp 79) 22 rfl (.slice none 0 0) 24 Tryd.underlying22 (by kernel_rfl) rfl (by decide) rfl (own_keep HOW.out B1.out) (some ⟨g79, 0, none⟩) 1 1 (fl hdC ([(Hd.mk A3 j c3)])) rfl (RowG.sg (n := 1) (c := 1) Fv33_79.out (show ([(Hd.mk A3 j c3)]).length = 1 from rfl) (Nat.le_refl _) (by omega)).src (by unfold maxLen; omega) (by omega) C0_2.out.size ?_
        intro v80 X2_35 ho hb1 hg hloc
        have hox : X2_35.ownsRow w.heap.size 44 1 v80 (i + 1) (fl hdC (hs2 ++ ([(Hd.mk A3 j c3)]))) := by rw [fl_append]; exact ho
        have YFv0_1 : X2_35.heap[w.heap.size]? = some (.cells #[.int .i64 kind, .int .i64 col, .int .i64 k, .slice A n c] 24 (0, 0)) := own_rowkeep (own_keep HOW.out B1.out) hg (heap_keep Fv0_1.out B1.out) (by decide)
        have YFv1_2 : X2_35.heap[(w.heap.size + 1)]? = some (.cells #[.int .i64 0, .int .i64 0, .int .i64 0, .slice none 0 0] 24 (0, 0)) := own_rowkeep (own_keep HOW.out B1.out) hg (heap_keep Fv1_2.out B1.out) (by decide)
        have YFv5_3 : X2_35.heap[b3]? = some (.cells #[.int .i64 (kd : Int), .int .i64 (cv : Int), .int .i64 (kv : Int), .slice A2 i c2] 24 (0, 0)) := own_rowkeep (own_keep HOW.out B1.out) hg (heap_keep Fv5_3.out B1.out) (by decide)
        have YHIn : OwnsC X2_35 49 w.heap.size (hs2 ++ [Hd.mk A3 j c3]) ((List.range i).map (mdF fs) ++ [mdF fs i]) := OwnsC.grown (HIn.out.keep B1.out) (own_keep HOW.out B1.out) hg (by decide)
        have hbr := C0_2.out.trans hb1
        clear B0
        have B0 := zh hbr
        clear hbr
        have Ow80_36 := zh hox
        clear Fv0_1
        have Fv0_1 : Hid (X2_35.heap[w.heap.size]? = some (.cells #[.int .i64 kind, .int .i64 col, .int .i64 k, .slice A n c] 24 (0, 0))) := zh YFv0_1
        clear YFv0_1
        have Lt37 : Hid (w.heap.size < X2_35.heap.size) := zh (xp_lt Fv0_1.out)
        clear Fv1_2
        have Fv1_2 : Hid (X2_35.heap[(w.heap.size + 1)]? = some (.cells #[.int .i64 0, .int .i64 0, .int .i64 0, .slice none 0 0] 24 (0, 0))) := zh YFv1_2
        clear YFv1_2
        have Lt38 : Hid ((w.heap.size + 1) < X2_35.heap.size) := zh (xp_lt Fv1_2.out)
        clear Fv5_3
        have Fv5_3 : Hid (X2_35.heap[b3]? = some (.cells #[.int .i64 (kd : Int), .int .i64 (cv : Int), .int .i64 (kv : Int), .slice A2 i c2] 24 (0, 0))) := zh YFv5_3
        clear YFv5_3
        have Lt39 : Hid (b3 < X2_35.heap.size) := zh (xp_lt Fv5_3.out)
        clear HIn
        have HIn : Hid (OwnsC X2_35 49 w.heap.size (hs2 ++ [Hd.mk A3 j c3]) ((List.range i).map (mdF fs) ++ [mdF fs i])) := zh YHIn
        clear YHIn
        clear ho hox hb1 hg hloc
        simp only [ptr, Act.put, zA]
        obtain ⟨A40, c40, rfl⟩ := own_form Ow80_36.out
        refine zr (.pointer (some ⟨b3, 3, none⟩)) X2_35 (xo_fld0 3 b3 3 (by kernel_rfl) rfl rfl) ?_
        simp only [Act.put, zA]
        refine wpList_store1 b3 3 #[.int .i64 (kd : Int), .int .i64 (cv : Int), .int .i64 (kv : Int), .slice A2 i c2] (.slice A40 (i + 1) c40) 24 (by kernel_rfl) Fv5_3.out (xo_store1 b3 3 #[.int .i64 (kd : Int), .int .i64 (cv : Int), .int .i64 (kv : Int), .slice A2 i c2] _ (.slice A40 (i + 1) c40) Fv5_3.out rfl (by kernel_rfl) rfl rfl rfl rfl) ?_
        intro X1_41 h1 hfar hbel hsz
        have YHIn : OwnsC X1_41 49 w.heap.size (hs2 ++ [Hd.mk A3 j c3]) ((List.range i).map (mdF fs) ++ [mdF fs i]) := OwnsC.farT HIn.out Fv5_3.out (by decide) hfar
        have YOw80_36 : X1_41.ownsRow w.heap.size 44 1 (.slice A40 (i + 1) c40) (i + 1) (fl hdC (hs2 ++ ([(Hd.mk A3 j c3)]))) := own_farT Ow80_36.out Fv5_3.out (by decide) hfar
        have YFv0_1 : X1_41.heap[w.heap.size]? = some (.cells #[.int .i64 kind, .int .i64 col, .int .i64 k, .slice A n c] 24 (0, 0)) := hfar _ _ N2_0.out Fv0_1.out
        have YFv1_2 : X1_41.heap[(w.heap.size + 1)]? = some (.cells #[.int .i64 0, .int .i64 0, .int .i64 0, .slice none 0 0] 24 (0, 0)) := hfar _ _ N3_1.out Fv1_2.out
        have hbr := hbel _ _ Gr8.out B0.out
        clear B0
        have B0 := zh hbr
        clear hbr
        clear Fv0_1
        have Fv0_1 : Hid (X1_41.heap[w.heap.size]? = some (.cells #[.int .i64 kind, .int .i64 col, .int .i64 k, .slice A n c] 24 (0, 0))) := zh YFv0_1
        clear YFv0_1
        clear Fv1_2
        have Fv1_2 : Hid (X1_41.heap[(w.heap.size + 1)]? = some (.cells #[.int .i64 0, .int .i64 0, .int .i64 0, .slice none 0 0] 24 (0, 0))) := zh YFv1_2
        clear YFv1_2
        clear HIn
        have HIn := zh YHIn
        clear YHIn
        clear Ow80_36
        have Ow80_36 := zh YOw80_36
        clear YOw80_36
        clear Fv5_3
        have Fv5_3 : Hid (X1_41.heap[b3]? = some (.cells #[.int .i64 (kd : Int), .int .i64 (cv : Int), .int .i64 (kv : Int), .slice A40 (i + 1) c40] 24 (0, 0))) := zh (h1)
        have HszX1_41 := zh hsz
        clear h1 hfar hbel hsz
        simp only [ptr, Act.put, zA]
        refine wpList_nil ?_
        go_upto_region 11 with fail
        refine wp_region_lit ?_
        refine zr (.int .i64 (i : Int)) X1_41 rfl ?_
        simp only [Act.put, zA]
        refine zr (.int .i64 ((i + 1 : Nat) : Int)) X1_41 (xo_addI (i : Int) 1 ((i + 1 : Nat) : Int) (by omega) (by omega) (by omega) rfl rfl rfl) ?_
        simp only [Act.put, zA]
        refine zr (.int .i64 ((i + 1 : Nat) : Int)) X1_41 rfl ?_
        simp only [Act.put, zA]
        refine wpList_nil ?_
        have ow0 := Ow80_36.out
        have in0 := HIn.out
        rw [← map_range1] at in0
        have hq42 := Fv0_1.out
        have hq43 := Fv1_2.out
        have hq44 := Fv5_3.out
        have hq45 := B0.out
        go_wp2_with fail
        go_roundw
        case rel => exact ⟨i + 1, _, _, _, by omega, by go_num, ow0, in0, hq42, hq43, hq44, hq45⟩
        case measure => simp [intOf]; omega
     ·have hci20 : ¬ ((i : Int) < (nf : Int)) := by omega
      have ein : nf = i := by omega
      subst ein
      have hci21 : ¬ ((nf : Int) < (nf : Int)) := by omega
      go_upto_region 10 with fail
      refine wp_region_lit ?_
      refine zr (.int .i64 (nf : Int)) wo rfl ?_
      simp only [Act.put, zA]
      refine zr (.int .i64 (nf : Int)) wo rfl ?_
      simp only [Act.put, zA]
      refine zr (.bool false) wo (xo_lssF .i64 (nf : Int) (nf : Int) (by omega) rfl rfl rfl) ?_
      simp only [Act.put, zA]
      refine wpList_nil ?_
      go_upto_region 18 with fail
      refine wp_region_lit ?_
      refine zr (.agg #[.int .i64 (kd : Int), .int .i64 (cv : Int), .int .i64 (kv : Int), .slice A2 nf c2]) wo (xo_loadW b3 _ Fv5_3.out Tryd.underlying24 rfl (by kernel_rfl) rfl rfl) ?_
      simp only [Act.put, zA]
      refine wpList_storeW (w.heap.size + 1) #[.int .i64 0, .int .i64 0, .int .i64 0, .slice none 0 0] #[.int .i64 (kd : Int), .int .i64 (cv : Int), .int .i64 (kv : Int), .slice A2 nf c2] 24 (by kernel_rfl) Fv1_2.out (xo_storeW (w.heap.size + 1) #[.int .i64 0, .int .i64 0, .int .i64 0, .slice none 0 0] #[.int .i64 (kd : Int), .int .i64 (cv : Int), .int .i64 (kv : Int), .slice A2 nf c2] Fv1_2.out (by kernel_rfl) rfl (by simp [Value.oneCell']) rfl rfl rfl) ?_
      intro X1_22 h1 hfar hbel hsz
      have YHIn : OwnsC X1_22 49 w.heap.size hs2 ((List.range nf).map (mdF fs)) := OwnsC.farT HIn.out Fv1_2.out (by decide) hfar
      have YHOW : X1_22.ownsRow w.heap.size 44 1 (.slice A2 nf c2) nf (fl hdC hs2) := own_farT HOW.out Fv1_2.out (by decide) hfar
      have YFv0_1 : X1_22.heap[w.heap.size]? = some (.cells #[.int .i64 kind, .int .i64 col, .int .i64 k, .slice A n c] 24 (0, 0)) := hfar _ _ Nb0_1.out Fv0_1.out
      have YFv5_3 : X1_22.heap[b3]? = some (.cells #[.int .i64 (kd : Int), .int .i64 (cv : Int), .int .i64 (kv : Int), .slice A2 nf c2] 24 (0, 0)) := hfar _ _ (Ne.symm N3_1.out) Fv5_3.out
      have hbr := hbel _ _ Gb1.out B0.out
      clear B0
      have B0 := zh hbr
      clear hbr
      clear Fv0_1
      have Fv0_1 : Hid (X1_22.heap[w.heap.size]? = some (.cells #[.int .i64 kind, .int .i64 col, .int .i64 k, .slice A n c] 24 (0, 0))) := zh YFv0_1
      clear YFv0_1
      clear Fv5_3
      have Fv5_3 : Hid (X1_22.heap[b3]? = some (.cells #[.int .i64 (kd : Int), .int .i64 (cv : Int), .int .i64 (kv : Int), .slice A2 nf c2] 24 (0, 0))) := zh YFv5_3
      clear YFv5_3
      clear HIn
      have HIn := zh YHIn
      clear YHIn
      clear HOW
      have HOW := zh YHOW
      clear YHOW
      clear Fv1_2
      have Fv1_2 : Hid (X1_22.heap[(w.heap.size + 1)]? = some (.cells #[.int .i64 (kd : Int), .int .i64 (cv : Int), .int .i64 (kv : Int), .slice A2 nf c2] 24 (0, 0))) := zh (h1)
      have HszX1_22 := zh hsz
      clear h1 hfar hbel hsz
      simp only [ptr, Act.put, zA]
      refine wpList_nil ?_
      have hqq := HQ.out
      have hq2 : q = ⟨kd, cv, kv, (List.range nf).map (mdF fs)⟩ := by rw [hqq, HCV.out, HKV.out]
      subst hq2
      clear hqq
      have hfo : FsOwn X1_22 w.heap.size (.slice A2 nf c2) ((List.range nf).map (mdF fs)) := ⟨A2, c2, hs2, by simp, by simpa using HOW.out, HIn.out⟩
      have hbf := B0.out
      go_wp2_with fail
      refine bodyPost_ret (v := .agg #[.int .i64 (kd : Int), .int .i64 (cv : Int), .int .i64 (kv : Int), .slice A2 nf c2]) ?_ rfl ⟨_, _, _, rfl, hfo, hbf⟩
      exact results_cell_row rfl _ _ (w.heap.size + 1) 24 _ (0, 0) _ rfl Fv1_2.out Tryd.underlying24 rfl (by kernel_rfl)
end Go.Proofs.YtbecajihgbbgjaaDoor

