/- Several texts in one: Ycr. -/
import Derived.Test.YtbecajihgbbgjaaDoorG07
set_option linter.unusedVariables false
set_option linter.unusedSimpArgs false
set_option linter.unusedSectionVars false
namespace Go.Proofs.YtbecajihgbbgjaaDoor
set_option maxRecDepth 8000
open Go.RowKit Go.Proofs.YtbecajihgbbgjaaDoor.K
attribute [local irreducible] wpList wpQuiet
namespace Ty
def zs (l : List Nat) : List Int := List.map (fun x : Nat => (x : Int)) l
def filZ (f : Nat → Nat) (i n : Nat) : List Int := (List.range n).map fun j => if j < i then (f j : Int) else 0
theorem fil_len (f : Nat → Nat) (i n : Nat) : (filZ f i n).length = n := by unfold filZ; rw [List.length_map, List.length_range]
theorem fil_0 (f : Nat → Nat) (n : Nat) : List.replicate n (0 : Int) = filZ f 0 n := by
 refine List.ext_getElem? fun j => ?_
 unfold filZ
 by_cases h : j < n
 ·rw [List.getElem?_replicate, if_pos h, List.getElem?_map, List.getElem?_range h]
  rfl
 ·rw [List.getElem?_eq_none (by rw [List.length_replicate]; omega), List.getElem?_eq_none (by rw [List.length_map, List.length_range]; omega)]
theorem fil_at (f : Nat → Nat) {i n : Nat} (h : i < n) : (filZ f i n)[i]? = some 0 := by
 unfold filZ
 rw [List.getElem?_map, List.getElem?_range h]
 simp
theorem fil_set (f : Nat → Nat) {i n r : Nat} (h : i < n) (hr : f i = r) : (filZ f i n).set i (r : Int) = filZ f (i + 1) n := by
 subst hr
 refine List.ext_getElem? fun j => ?_
 rw [List.getElem?_set, fil_len]
 unfold filZ
 by_cases hj : j < n
 ·rw [List.getElem?_map, List.getElem?_map, List.getElem?_range hj]
  by_cases he : i = j
  ·subst he
   simp [h]
  ·rw [if_neg he]
   simp only [Option.map_some]
   by_cases h2 : j < i
   ·rw [if_pos h2, if_pos (by omega)]
   ·rw [if_neg h2, if_neg (by omega)]
 ·rw [List.getElem?_eq_none (by rw [List.length_map, List.length_range]; omega), List.getElem?_eq_none (by rw [List.length_map, List.length_range]; omega)]
  split
  ·omega
  ·rfl
theorem fil_end (f : Nat → Nat) (n : Nat) : filZ f n n = zs ((List.range n).map f) := by
 unfold filZ zs
 rw [List.map_map]
 refine List.map_congr_left fun j hj => ?_
 rw [if_pos (List.mem_range.1 hj)]
 rfl
theorem su_le (kd : Nat) : suN kd ≤ 32 := by unfold suN; split <;> decide
theorem su_num {kd i : Nat} (h : i < suN kd) : i / 16 < Qu.numF kd := by
 unfold suN at h
 unfold Qu.numF
 split at h <;> first | omega | (simp <;> omega)
theorem gr_iff (kd : Nat) : grN kd = true ↔ 4 ≤ kd ∧ kd ≤ 6 := by
 unfold grN
 split
 ·simp
 ·simp
 ·simp
 ·next h4 h5 h6 =>
  simp
  intro h
  rcases (show kd = 4 ∨ kd = 5 ∨ kd = 6 ∨ 6 < kd by omega) with rfl | rfl | rfl | h7
  ·exact absurd rfl h4
  ·exact absurd rfl h5
  ·exact absurd rfl h6
  ·exact h7
theorem bt_odd {col : Nat} (h : col < 4) (ho : col % 2 = 1) : btN (col : Int) = 8 := by
 rcases (show col = 1 ∨ col = 3 by omega) with rfl | rfl <;> rfl
theorem bt_even {col : Nat} (h : col < 4) (ho : ¬ col % 2 = 1) : btN (col : Int) = 4 := by
 rcases (show col = 0 ∨ col = 2 by omega) with rfl | rfl <;> rfl
end Ty
theorem okQ_col {q : Qu.Qy} (h : OkQ q) : q.col < 4 := by
 cases hc : Qu.hasC q.kind with
 | true => exact h.c1 hc
 | false => rw [h.c0 hc]; decide
theorem okQ_k {q : Qu.Qy} (h : OkQ q) : q.k ≤ 65536 := by
 by_cases hm : 0 < Qu.maxK q.kind
 ·exact Nat.le_trans (h.m1 hm).2 (Qu.maxK_le' q.kind)
 ·rw [h.m0 hm]; decide
set_option maxRecDepth 100000 in
set_option maxHeartbeats 32000000 in
theorem check_ok (kd col k : Nat) (A : Option Addr) (n c : Nat) (hs : List Hd) (fs : List (List Qu.Cd)) (hq : OkQ ⟨kd, col, k, fs⟩) (rows : Nat) (hrows : rows ≤ 65536) (r : List Nat × Nat) (hr : Ty.ckN ⟨kd, col, k, fs⟩ rows = r) (w : World) (hF : FsR w A n c hs (fs.map (List.map Qu.Cd.ci))) (hG : Gw5 w) (hC : Gc w) :
  Calls Tryd.prog 11 #[.agg #[.int .i64 (kd : Int), .int .i64 (col : Int), .int .i64 (k : Int), .slice A n c], .int .i64 (rows : Int)] w fun e w' => ∃ A2 n2 c2, e = .returned (.tuple #[.agg #[.slice A2 n2 c2], .int .i64 (r.2 : Int)]) ∧ Sg zzC 1 w' A2 n2 c2 (Ty.zs r.1) ∧ Below w.heap.size w w' := by
 have HFR := zh hF
 have HG := zh hG
 have HGC := zh hC
 have HR := zh hr
 have HOK := zh hq
 have HV := zh (vQ_of ⟨kd, col, k, fs⟩ hq)
 have hk1 : 1 ≤ kd := hq.k1
 have hk7 : kd ≤ 7 := hq.k7
 have hcol : col < 4 := okQ_col hq
 have hkk : k ≤ 65536 := okQ_k hq
 have hnf : fs.length = Qu.numF kd := hq.nf
 have hln := hF.sg.len
 have hlc := hF.sg.cap
 have hlt := hF.sg.top
 have hfl := hF.len
 rw [List.length_map] at hfl
 clear hF hG hC hr hq
 obtain ⟨sm, hsm⟩ : ∃ z, Ty.suN kd = z := ⟨_, rfl⟩
 have HSM := zh hsm
 clear hsm
 obtain ⟨gb, hgb⟩ : ∃ z, Ty.grN kd = z := ⟨_, rfl⟩
 have HGB := zh hgb
 clear hgb
 obtain ⟨f, hf⟩ : ∃ z, kfN kd = z := ⟨_, rfl⟩
 have HKF := zh hf
 clear hf
 obtain ⟨bd, hbd⟩ : ∃ f, Ty.bdN ⟨kd, col, k, fs⟩ rows = f := ⟨_, rfl⟩
 have HBD := zh hbd
 clear hbd
 have hsm : sm ≤ 32 := by rw [← HSM.out]; exact Ty.su_le kd
 have HROW : Hid (kindV kd = .agg #[.int .i64 (sm : Int), .bool gb, .func (.func f) #[] #[]]) := zh (by rw [kindV, HSM.out, HGB.out, HKF.out])
 go_enter Tryd.func11, Tryd.ntmps11
 go_upto_region 1 with fail
 refine wp_named2 (fun V1 hb g0 g1 hlt => ?_)
 have B0 := zh hb
 have Fv0_2 : Hid (V1.heap[w.heap.size]? = some (.cells #[.int .i64 (kd : Int), .int .i64 (col : Int), .int .i64 (k : Int), .slice A n c] 24 (0, 0))) := zh (g0)
 have Fv1_4 : Hid (V1.heap[(w.heap.size + 1)]? = some (.cells #[.slice none 0 0] 29 (0, 0))) := zh (g1)
 have Nb0_1 : Hid (w.heap.size ≠ (w.heap.size + 1)) := zh (by omega)
 have Gb0 : Hid (w.heap.size ≤ w.heap.size) := zh (by omega)
 have Gb1 : Hid (w.heap.size ≤ (w.heap.size + 1)) := zh (by omega)
 clear hb g0 g1 hlt
 have Lt0 : Hid (w.heap.size < V1.heap.size) := zh (xp_lt Fv0_2.out)
 have Lt1 : Hid ((w.heap.size + 1) < V1.heap.size) := zh (xp_lt Fv1_4.out)
 have hci2 : ¬ ((rows : Int) < 0) := by omega
 have hci3 : ¬ ((rows : Int) > 65536) := by omega
 refine wp_region_lit ?_
 refine zr (.agg #[.int .i64 (kd : Int), .int .i64 (col : Int), .int .i64 (k : Int), .slice A n c]) V1 (xo_loadW w.heap.size _ Fv0_2.out Tryd.underlying24 rfl (by kernel_rfl) rfl rfl) ?_
 simp only [Act.put, zA]
 refine wpList_call (by kernel_rfl) 30 Tryd.func30 (by kernel_rfl) (by kernel_rfl) _ _ #[.agg #[.int .i64 (kd : Int), .int .i64 (col : Int), .int .i64 (k : Int), .slice A n c]] rfl (by kernel_rfl) ?_
 refine (valid_as (kd : Int) (col : Int) (k : Int) A n c hs (fs.map (List.map Qu.Cd.ci)) true HV.out V1 (HGC.out.keep B0.out) (HFR.out.keep B0.out)).mono ?_
 rintro e V2 ⟨rfl, hb⟩
 have B1 := zh hb
 clear hb 
 refine ⟨_, rfl, ?_⟩
 simp only [Act.put, zA]
 refine zr (.bool false) V2 rfl ?_
 simp only [Act.put, zA]
 refine zr (.bool false) V2 rfl ?_
 simp only [Act.put, zA]
 refine zr (.int .i64 (rows : Int)) V2 rfl ?_
 simp only [Act.put, zA]
 refine zr (.bool false) V2 (xo_lssF .i64 (rows : Int) 0 (by omega) rfl rfl rfl) ?_
 simp only [Act.put, zA]
 refine zr (.bool false) V2 rfl ?_
 simp only [Act.put, zA]
 refine zr (.bool false) V2 rfl ?_
 simp only [Act.put, zA]
 refine zr (.int .i64 (rows : Int)) V2 rfl ?_
 simp only [Act.put, zA]
 refine zr (.bool false) V2 (xo_gtrF .i64 (rows : Int) 65536 (by omega) rfl rfl rfl) ?_
 simp only [Act.put, zA]
 refine zr (.bool false) V2 rfl ?_
 simp only [Act.put, zA]
 refine wpList_nil ?_
 obtain ⟨wa, rfl⟩ : ∃ W, W = V2 := ⟨_, rfl⟩
 go_upto_region 3 with fail
 refine wp_cutP (α := Nat × Nat) (fun ⟨kb, b6⟩ => [(23, .map (some kb)), (24, .pointer (some ⟨w.heap.size, 0, none⟩)), (25, .int .i64 (kd : Int)), (26, .agg #[.int .i64 (sm : Int), .bool gb, .func (.func f) #[] #[]]), (6, .pointer (some ⟨b6, 0, none⟩))]) (fun ⟨_, b6⟩ W => Below wa.heap.size wa W ∧ wa.heap.size ≤ b6 ∧ W.heap[b6]? = some (.cells #[.int .i64 (sm : Int), .bool gb, .func (.func f) #[] #[]] 63 (0, 0))) ?_ ?_
 ·have T4 := zh (heap_keep Fv0_2.out B1.out)
  have T4l : Hid (w.heap.size < wa.heap.size) := zh (xp_lt T4.out)
  try simp only [List.append_eq, List.cons_append, List.nil_append]
  refine wp_ordM 5 (.q 1 (.q 2 (.fork 0 (.fork 3 (.one 4 .nil) 4 (.one 3 .nil)) 4 (.one 0 (.one 3 .nil))))) (by kernel_rfl) (by kernel_rfl) (by kernel_rfl) (by kernel_rfl) (by kernel_rfl) (by kernel_rfl) (by kernel_rfl) (fun V1 hb => ?_)
  have B0 := zh hb
  clear hb
  refine wpOT_q (.pointer (some ⟨w.heap.size, 0, none⟩)) rfl (by kernel_rfl) (fun v hW => (xo_fld0 0 w.heap.size 0 (by kernel_rfl) rfl rfl)) ?_
  simp only [ptr, Act.put, zA]
  refine wpOT_q (.int .i64 (kd : Int)) rfl (by kernel_rfl) (fun v hW => (xo_load1 ⟨w.heap.size, 0, none⟩ _ (cells_at (heap_keep (heap_keep T4.out B0.out) hW) 0 rfl) Tryd.underlying3 rfl rfl rfl)) ?_
  simp only [ptr, Act.put, zA]
  refine wpOT_fork ?_ ?_
  ·refine wpOT_one rfl (by kernel_rfl) ?_
   refine hOp_call 31 Tryd.func31 (by kernel_rfl) (by kernel_rfl) _ _ #[] rfl (by kernel_rfl) ?_
   refine (kinds_as V1).mono ?_
   rintro e V2 ⟨kb, rfl, hge, hkm, hb⟩
   have B1 := zh hb
   clear hge
   have HKm := zh hkm
   clear hb hkm
   refine ⟨_, rfl, B1.out, ?_⟩
   simp only [ptr, Act.put, zA]
   refine wpOT_fork ?_ ?_
   ·refine wpOT_one rfl (by kernel_rfl) ?_
    refine hOp_val (.agg #[.int .i64 (sm : Int), .bool gb, .func (.func f) #[] #[]]) (xm_lookup kb [kindE 1, kindE 2, kindE 3, kindE 4, kindE 5, kindE 6, kindE 7] 7 (kd : Int) (kd - 1) (.agg #[.int .i64 (sm : Int), .bool gb, .func (.func f) #[] #[]]) HKm.out ((kinds_find kd (by omega) (by omega)).trans (by rw [HROW.out])) Tryd.underlying64 Tryd.underlying3 rfl rfl rfl) ⟨B1.out, ?_⟩
    simp only [ptr, Act.put, zA]
    refine wpOT_one rfl (by kernel_rfl) ?_
    refine hOp_new #[.int .i64 0, .bool false, .nilFunc] 63 (xo_alloc #[.int .i64 0, .bool false, .nilFunc] (by kernel_rfl) rfl) ?_
    intro b6 V3 hge h0 hb
    have C0_2 := zb B0 B1
    have N4_0 : Hid (w.heap.size ≠ b6) := zh (xp_lt0 (heap_keep T4.out C0_2.out) hge)
    have Ge5 : Hid (V2.heap.size ≤ b6) := zh hge
    have B2 := zh hb
    have Fv6_6 : Hid (V3.heap[b6]? = some (.cells #[.int .i64 0, .bool false, .nilFunc] 63 (0, 0))) := zh (h0)
    have Lt7 : Hid (b6 < V3.heap.size) := zh (xp_lt Fv6_6.out)
    clear hge h0 hb
    have C1_3 := zb B1 B2
    refine ⟨C1_3.out, ?_⟩
    try simp only [ptr, Act.put, zA]
    refine wpOT_nil ?_
    have HG6 := zh (Nat.le_trans C0_2.out.size Ge5.out)
    have hfs := Fv6_6.out
    have hgb := (Nat.le_trans C0_2.out.size Ge5.out)
    have C0_3 := zb C0_2 B2
    have hbs := C0_3.out
    have hfar : ∀ k o, k ≠ b6 → V3.heap[k]? = some o → (V3.setRow b6 #[.int .i64 (sm : Int), .bool gb, .func (.func f) #[] #[]]).heap[k]? = some o := fun k o hk h0 => heap_farRow h0 hk _
    refine mOp_run0 _ rfl rfl (xo_storeW b6 #[.int .i64 0, .bool false, .nilFunc] #[.int .i64 (sm : Int), .bool gb, .func (.func f) #[] #[]] hfs (by kernel_rfl) rfl (by simp [Value.oneCell']) rfl rfl rfl) ?_
    try simp only [List.getElem_toArray, List.getElem_cons_succ, List.getElem_cons_zero, ptr, Act.put, zA]
    have hfn := setRow_heap V3 b6 _ #[.int .i64 (sm : Int), .bool gb, .func (.func f) #[] #[]] _ _ hfs
    have hbn := bel_setRow hbs hgb #[.int .i64 (sm : Int), .bool gb, .func (.func f) #[] #[]]
    clear hfar
    generalize V3.setRow b6 #[.int .i64 (sm : Int), .bool gb, .func (.func f) #[] #[]] = X8 at *
    have Gt9 : Hid (wa.heap.size ≤ b6) := zh (Nat.le_trans C0_2.out.size Ge5.out)
    have hbr := hbn
    clear B0
    have B0 := zh hbr
    clear hbr
    clear Fv6_6
    have Fv6_6 : Hid (X8.heap[b6]? = some (.cells #[.int .i64 (sm : Int), .bool gb, .func (.func f) #[] #[]] 63 (0, 0))) := zh hfn
    clear hfs hgb hbs hfn hbn
    refine ⟨(kb, b6), ?_, B0.out, HG6.out, Fv6_6.out⟩
    simp only [putL, ptr, Act.put, zA] <;> rfl
   ·refine wpOT_one rfl (by kernel_rfl) ?_
    refine hOp_new #[.int .i64 0, .bool false, .nilFunc] 63 (xo_alloc #[.int .i64 0, .bool false, .nilFunc] (by kernel_rfl) rfl) ?_
    intro b6 V3 hge h0 hb
    have C0_2 := zb B0 B1
    have N4_0 : Hid (w.heap.size ≠ b6) := zh (xp_lt0 (heap_keep T4.out C0_2.out) hge)
    have Ge5 : Hid (V2.heap.size ≤ b6) := zh hge
    have B2 := zh hb
    have Fv6_6 : Hid (V3.heap[b6]? = some (.cells #[.int .i64 0, .bool false, .nilFunc] 63 (0, 0))) := zh (h0)
    have Lt7 : Hid (b6 < V3.heap.size) := zh (xp_lt Fv6_6.out)
    clear hge h0 hb
    have C1_3 := zb B1 B2
    refine ⟨C1_3.out, ?_⟩
    try simp only [ptr, Act.put, zA]
    refine wpOT_one rfl (by kernel_rfl) ?_
    refine hOp_val (.agg #[.int .i64 (sm : Int), .bool gb, .func (.func f) #[] #[]]) (xm_lookup kb [kindE 1, kindE 2, kindE 3, kindE 4, kindE 5, kindE 6, kindE 7] 7 (kd : Int) (kd - 1) (.agg #[.int .i64 (sm : Int), .bool gb, .func (.func f) #[] #[]]) (heap_keep HKm.out B2.out) ((kinds_find kd (by omega) (by omega)).trans (by rw [HROW.out])) Tryd.underlying64 Tryd.underlying3 rfl rfl rfl) ⟨C1_3.out, ?_⟩
    simp only [ptr, Act.put, zA]
    refine wpOT_nil ?_
    have HG6 := zh (Nat.le_trans C0_2.out.size Ge5.out)
    have hfs := Fv6_6.out
    have hgb := (Nat.le_trans C0_2.out.size Ge5.out)
    have C0_3 := zb C0_2 B2
    have hbs := C0_3.out
    have hfar : ∀ k o, k ≠ b6 → V3.heap[k]? = some o → (V3.setRow b6 #[.int .i64 (sm : Int), .bool gb, .func (.func f) #[] #[]]).heap[k]? = some o := fun k o hk h0 => heap_farRow h0 hk _
    refine mOp_run0 _ rfl rfl (xo_storeW b6 #[.int .i64 0, .bool false, .nilFunc] #[.int .i64 (sm : Int), .bool gb, .func (.func f) #[] #[]] hfs (by kernel_rfl) rfl (by simp [Value.oneCell']) rfl rfl rfl) ?_
    try simp only [List.getElem_toArray, List.getElem_cons_succ, List.getElem_cons_zero, ptr, Act.put, zA]
    have hfn := setRow_heap V3 b6 _ #[.int .i64 (sm : Int), .bool gb, .func (.func f) #[] #[]] _ _ hfs
    have hbn := bel_setRow hbs hgb #[.int .i64 (sm : Int), .bool gb, .func (.func f) #[] #[]]
    clear hfar
    generalize V3.setRow b6 #[.int .i64 (sm : Int), .bool gb, .func (.func f) #[] #[]] = X8 at *
    have Gt9 : Hid (wa.heap.size ≤ b6) := zh (Nat.le_trans C0_2.out.size Ge5.out)
    have hbr := hbn
    clear B0
    have B0 := zh hbr
    clear hbr
    clear Fv6_6
    have Fv6_6 : Hid (X8.heap[b6]? = some (.cells #[.int .i64 (sm : Int), .bool gb, .func (.func f) #[] #[]] 63 (0, 0))) := zh hfn
    clear hfs hgb hbs hfn hbn
    refine ⟨(kb, b6), ?_, B0.out, HG6.out, Fv6_6.out⟩
    simp only [putL, ptr, Act.put, zA] <;> rfl
  ·refine wpOT_one rfl (by kernel_rfl) ?_
   refine hOp_new #[.int .i64 0, .bool false, .nilFunc] 63 (xo_alloc #[.int .i64 0, .bool false, .nilFunc] (by kernel_rfl) rfl) ?_
   intro b6 V2 hge h0 hb
   have N4_0 : Hid (w.heap.size ≠ b6) := zh (xp_lt0 (heap_keep T4.out B0.out) hge)
   have Ge5 : Hid (V1.heap.size ≤ b6) := zh hge
   have B1 := zh hb
   have Fv6_6 : Hid (V2.heap[b6]? = some (.cells #[.int .i64 0, .bool false, .nilFunc] 63 (0, 0))) := zh (h0)
   have Lt7 : Hid (b6 < V2.heap.size) := zh (xp_lt Fv6_6.out)
   clear hge h0 hb
   refine ⟨B1.out, ?_⟩
   try simp only [ptr, Act.put, zA]
   refine wpOT_one rfl (by kernel_rfl) ?_
   refine hOp_call 31 Tryd.func31 (by kernel_rfl) (by kernel_rfl) _ _ #[] rfl (by kernel_rfl) ?_
   refine (kinds_as V2).mono ?_
   rintro e V3 ⟨kb, rfl, hge, hkm, hb⟩
   have B2 := zh hb
   clear hge
   have HKm := zh hkm
   clear hb hkm
   have C1_3 := zb B1 B2
   refine ⟨_, rfl, C1_3.out, ?_⟩
   simp only [ptr, Act.put, zA]
   refine wpOT_one rfl (by kernel_rfl) ?_
   refine hOp_val (.agg #[.int .i64 (sm : Int), .bool gb, .func (.func f) #[] #[]]) (xm_lookup kb [kindE 1, kindE 2, kindE 3, kindE 4, kindE 5, kindE 6, kindE 7] 7 (kd : Int) (kd - 1) (.agg #[.int .i64 (sm : Int), .bool gb, .func (.func f) #[] #[]]) HKm.out ((kinds_find kd (by omega) (by omega)).trans (by rw [HROW.out])) Tryd.underlying64 Tryd.underlying3 rfl rfl rfl) ⟨C1_3.out, ?_⟩
   simp only [ptr, Act.put, zA]
   refine wpOT_nil ?_
   have HG6 := zh (Nat.le_trans B0.out.size Ge5.out)
   have hfs := (heap_keep Fv6_6.out B2.out)
   have hgb := (Nat.le_trans B0.out.size Ge5.out)
   have C0_2 := zb B0 B1
   have C0_3 := zb C0_2 B2
   have hbs := C0_3.out
   have hfar : ∀ k o, k ≠ b6 → V3.heap[k]? = some o → (V3.setRow b6 #[.int .i64 (sm : Int), .bool gb, .func (.func f) #[] #[]]).heap[k]? = some o := fun k o hk h0 => heap_farRow h0 hk _
   refine mOp_run0 _ rfl rfl (xo_storeW b6 #[.int .i64 0, .bool false, .nilFunc] #[.int .i64 (sm : Int), .bool gb, .func (.func f) #[] #[]] hfs (by kernel_rfl) rfl (by simp [Value.oneCell']) rfl rfl rfl) ?_
   try simp only [List.getElem_toArray, List.getElem_cons_succ, List.getElem_cons_zero, ptr, Act.put, zA]
   have hfn := setRow_heap V3 b6 _ #[.int .i64 (sm : Int), .bool gb, .func (.func f) #[] #[]] _ _ hfs
   have hbn := bel_setRow hbs hgb #[.int .i64 (sm : Int), .bool gb, .func (.func f) #[] #[]]
   clear hfar
   generalize V3.setRow b6 #[.int .i64 (sm : Int), .bool gb, .func (.func f) #[] #[]] = X8 at *
   have Gt9 : Hid (wa.heap.size ≤ b6) := zh (Nat.le_trans B0.out.size Ge5.out)
   have hbr := hbn
   clear B0
   have B0 := zh hbr
   clear hbr
   clear Fv6_6
   have Fv6_6 : Hid (X8.heap[b6]? = some (.cells #[.int .i64 (sm : Int), .bool gb, .func (.func f) #[] #[]] 63 (0, 0))) := zh hfn
   clear hfs hgb hbs hfn hbn
   refine ⟨(kb, b6), ?_, B0.out, HG6.out, Fv6_6.out⟩
   simp only [putL, ptr, Act.put, zA] <;> rfl
 rintro ⟨kb, b6⟩ V3 ⟨hb0, hge, h0⟩
 simp only [putL, ptr, Act.put, zA]
 have hb := hb0
 clear hb0
 have N44_0 : Hid (w.heap.size ≠ b6) := zh (xp_lt0 (heap_keep Fv0_2.out B1.out) hge)
 have N45_1 : Hid ((w.heap.size + 1) ≠ b6) := zh (xp_lt0 (heap_keep Fv1_4.out B1.out) hge)
 have Ge46 : Hid (wa.heap.size ≤ b6) := zh hge
 have B2 := zh hb
 have Fv47_6 : Hid (V3.heap[b6]? = some (.cells #[.int .i64 (sm : Int), .bool gb, .func (.func f) #[] #[]] 63 (0, 0))) := zh (h0)
 have Lt48 : Hid (b6 < V3.heap.size) := zh (xp_lt Fv47_6.out)
 clear hge h0 hb
 by_cases ht : 4 ≤ kd ∧ kd ≤ 6 ∧ col % 2 = 1
 ·obtain rfl : gb = true := by rw [← HGB.out]; exact (Ty.gr_iff kd).2 (by omega)
  go_upto_region 4 with fail
  refine wp_region_lit ?_
  refine zr (.pointer (some ⟨b6, 1, none⟩)) V3 (xo_fld0 1 b6 1 (by kernel_rfl) rfl rfl) ?_
  simp only [Act.put, zA]
  refine zr (.bool true) V3 (xo_load1 ⟨b6, 1, none⟩ _ (cells_at Fv47_6.out 1 rfl) Tryd.underlying4 rfl rfl rfl) ?_
  simp only [Act.put, zA]
  refine zr (.bool true) V3 rfl ?_
  simp only [Act.put, zA]
  refine zr (.pointer (some ⟨w.heap.size, 1, none⟩)) V3 (xo_fld0 1 w.heap.size 1 (by kernel_rfl) rfl rfl) ?_
  simp only [Act.put, zA]
  have C1_3 := zb B1 B2
  refine zr (.int .i64 (col : Int)) V3 (xo_load1 ⟨w.heap.size, 1, none⟩ _ (cells_at (heap_keep Fv0_2.out C1_3.out) 1 rfl) Tryd.underlying3 rfl rfl rfl) ?_
  simp only [Act.put, zA]
  have C0_2 := zb B0 B1
  have C0_3 := zb C0_2 B2
  refine wpList_call (by kernel_rfl) 17 Tryd.func17 (by kernel_rfl) (by kernel_rfl) _ _ #[.int .i64 (col : Int)] rfl (by kernel_rfl) ?_
  refine (bits_as (col : Int) 8 (Ty.bt_odd hcol ht.2.2) V3 (HG.out.keep C0_3.out)).mono ?_
  rintro e W1 ⟨rfl, hw1⟩
  rw [hw1]
  clear hw1 W1
  refine ⟨_, rfl, ?_⟩
  simp only [Act.put, zA]
  refine zr (.bool true) V3 (xo_neqT .i64 8 4 (by omega) rfl rfl rfl) ?_
  simp only [Act.put, zA]
  refine zr (.bool true) V3 rfl ?_
  simp only [Act.put, zA]
  refine wpList_nil ?_
  go_upto_region 5 with fail
  refine wp_region_lit ?_
  refine zr (.agg #[.slice none 0 0]) V3 (by unfold execOp; go_simp <;> rfl) ?_
  simp only [Act.put, zA]
  refine wpList_storeW (w.heap.size + 1) #[.slice none 0 0] #[.slice none 0 0] 29 (by kernel_rfl) (heap_keep Fv1_4.out C1_3.out) (xo_storeW (w.heap.size + 1) #[.slice none 0 0] #[.slice none 0 0] (heap_keep Fv1_4.out C1_3.out) (by kernel_rfl) rfl (by simp [Value.oneCell']) rfl rfl rfl) ?_
  intro X3_49 h1 hfar hbel hsz
  have YFv0_2 : X3_49.heap[w.heap.size]? = some (.cells #[.int .i64 (kd : Int), .int .i64 (col : Int), .int .i64 (k : Int), .slice A n c] 24 (0, 0)) := hfar _ _ Nb0_1.out (heap_keep Fv0_2.out C1_3.out)
  have YFv47_6 : X3_49.heap[b6]? = some (.cells #[.int .i64 (sm : Int), .bool true, .func (.func f) #[] #[]] 63 (0, 0)) := hfar _ _ (Ne.symm N45_1.out) Fv47_6.out
  have Gs50 : Hid (w.heap.size ≤ b6) := zh (Nat.le_trans C0_2.out.size Ge46.out)
  have hbr := hbel _ _ Gb1.out C0_3.out
  clear B0
  have B0 := zh hbr
  clear hbr
  clear Fv0_2
  have Fv0_2 : Hid (X3_49.heap[w.heap.size]? = some (.cells #[.int .i64 (kd : Int), .int .i64 (col : Int), .int .i64 (k : Int), .slice A n c] 24 (0, 0))) := zh YFv0_2
  clear YFv0_2
  clear Fv47_6
  have Fv47_6 : Hid (X3_49.heap[b6]? = some (.cells #[.int .i64 (sm : Int), .bool true, .func (.func f) #[] #[]] 63 (0, 0))) := zh YFv47_6
  clear YFv47_6
  clear Fv1_4
  have Fv1_4 : Hid (X3_49.heap[(w.heap.size + 1)]? = some (.cells #[.slice none 0 0] 29 (0, 0))) := zh (h1)
  have HszX3_49 := zh hsz
  clear h1 hfar hbel hsz
  simp only [ptr, Act.put, zA]
  refine zr (.int .i64 140) X3_49 rfl ?_
  simp only [Act.put, zA]
  refine wpList_nil ?_
  have hck : r = ([], 140) := by rw [← HR.out]; exact Ty.ck_type ht
  subst hck
  have hbf := B0.out
  go_wp2_with fail
  refine bodyPost_ret (v := .tuple #[.agg #[.slice none 0 0], .int .i64 140]) ?_ rfl ⟨none, 0, 0, rfl, (show Sg zzC 1 _ none 0 0 [] from Sg.nil_ _), hbf⟩
  exact results_row_tmp rfl _ _ (w.heap.size + 1) 29 _ (0, 0) _ _ rfl rfl Fv1_4.out Tryd.underlying29 rfl (by kernel_rfl)
 ·have C0_2 := zb B0 B1
  have Gr49 : Hid (w.heap.size ≤ b6) := zh (Nat.le_trans C0_2.out.size Ge46.out)
  go_upto_region 4 with fail
  go_cut [34] from 27 to 34 (fun s34 wx => s34 = .bool false ∧ wx.heap[w.heap.size]? = some (.cells #[.int .i64 (kd : Int), .int .i64 (col : Int), .int .i64 (k : Int), .slice A n c] 24 (0, 0)) ∧ wx.heap[(w.heap.size + 1)]? = some (.cells #[.slice none 0 0] 29 (0, 0)) ∧ wx.heap[b6]? = some (.cells #[.int .i64 (sm : Int), .bool gb, .func (.func f) #[] #[]] 63 (0, 0)) ∧ Below w.heap.size w wx)
  case first =>
   by_cases hgg : 4 ≤ kd ∧ kd ≤ 6
   ·obtain rfl : gb = true := by rw [← HGB.out]; exact (Ty.gr_iff kd).2 (by omega)
    refine wp_region_lit ?_
    refine zr (.pointer (some ⟨b6, 1, none⟩)) V3 (xo_fld0 1 b6 1 (by kernel_rfl) rfl rfl) ?_
    simp only [Act.put, zA]
    refine zr (.bool true) V3 (xo_load1 ⟨b6, 1, none⟩ _ (cells_at Fv47_6.out 1 rfl) Tryd.underlying4 rfl rfl rfl) ?_
    simp only [Act.put, zA]
    refine zr (.bool true) V3 rfl ?_
    simp only [Act.put, zA]
    refine zr (.pointer (some ⟨w.heap.size, 1, none⟩)) V3 (xo_fld0 1 w.heap.size 1 (by kernel_rfl) rfl rfl) ?_
    simp only [Act.put, zA]
    have C1_3 := zb B1 B2
    refine zr (.int .i64 (col : Int)) V3 (xo_load1 ⟨w.heap.size, 1, none⟩ _ (cells_at (heap_keep Fv0_2.out C1_3.out) 1 rfl) Tryd.underlying3 rfl rfl rfl) ?_
    simp only [Act.put, zA]
    have C0_3 := zb C0_2 B2
    refine wpList_call (by kernel_rfl) 17 Tryd.func17 (by kernel_rfl) (by kernel_rfl) _ _ #[.int .i64 (col : Int)] rfl (by kernel_rfl) ?_
    refine (bits_as (col : Int) 4 (Ty.bt_even hcol (by omega)) V3 (HG.out.keep C0_3.out)).mono ?_
    rintro e W1 ⟨rfl, hw1⟩
    rw [hw1]
    clear hw1 W1
    refine ⟨_, rfl, ?_⟩
    simp only [Act.put, zA]
    refine zr (.bool false) V3 (xo_neqF .i64 4 4 (by omega) rfl rfl rfl) ?_
    simp only [Act.put, zA]
    refine zr (.bool false) V3 rfl ?_
    simp only [Act.put, zA]
    refine wpList_nil ?_
    try have gb := true
    have hm50 := (heap_keep Fv0_2.out C1_3.out)
    have hm51 := (heap_keep Fv1_4.out C1_3.out)
    have hm52 := Fv47_6.out
    have hm53 := C0_3.out
    go_wp2_with fail
    go_meet
    case rel => exact ⟨rfl, hm50, hm51, hm52, hm53⟩
   ·obtain rfl : gb = false := by rw [← HGB.out]; exact Bool.eq_false_iff.2 (fun e => absurd ((Ty.gr_iff kd).1 e) hgg)
    refine wp_region_lit ?_
    refine zr (.pointer (some ⟨b6, 1, none⟩)) V3 (xo_fld0 1 b6 1 (by kernel_rfl) rfl rfl) ?_
    simp only [Act.put, zA]
    refine zr (.bool false) V3 (xo_load1 ⟨b6, 1, none⟩ _ (cells_at Fv47_6.out 1 rfl) Tryd.underlying4 rfl rfl rfl) ?_
    simp only [Act.put, zA]
    refine zr (.bool false) V3 rfl ?_
    simp only [Act.put, zA]
    refine zl ?_
    try simp only [Act.put, zA]
    refine zl ?_
    try simp only [Act.put, zA]
    refine zl ?_
    try simp only [Act.put, zA]
    refine zl ?_
    try simp only [Act.put, zA]
    refine zr (.bool false) V3 rfl ?_
    simp only [Act.put, zA]
    refine wpList_nil ?_
    have C1_3 := zb B1 B2
    have hm50 := (heap_keep Fv0_2.out C1_3.out)
    have hm51 := (heap_keep Fv1_4.out C1_3.out)
    have hm52 := Fv47_6.out
    have C0_3 := zb C0_2 B2
    have hm53 := C0_3.out
    go_wp2_with fail
    go_meet
    case rel => exact ⟨rfl, hm50, hm51, hm52, hm53⟩
  case rest =>
   obtain ⟨wc50, rfl⟩ : ∃ W, W = wc := ⟨_, rfl⟩
   obtain ⟨hs34, hr0, hr1, hr2, hb0⟩ := hcut
   have hbr := hb0
   clear B0
   have B0 := zh hbr
   clear hbr
   clear Fv0_2
   have Fv0_2 : Hid (wc50.heap[w.heap.size]? = some (.cells #[.int .i64 (kd : Int), .int .i64 (col : Int), .int .i64 (k : Int), .slice A n c] 24 (0, 0))) := zh (hr0)
   clear Fv1_4
   have Fv1_4 : Hid (wc50.heap[(w.heap.size + 1)]? = some (.cells #[.slice none 0 0] 29 (0, 0))) := zh (hr1)
   clear Fv47_6
   have Fv47_6 : Hid (wc50.heap[b6]? = some (.cells #[.int .i64 (sm : Int), .bool gb, .func (.func f) #[] #[]] 63 (0, 0))) := zh (hr2)
   clear hb0 hr0 hr1 hr2
   subst hs34
   go_upto_region 6 with fail
   refine wp_region_lit ?_
   refine zr (.pointer (some ⟨b6, 0, none⟩)) wc50 (xo_fld0 0 b6 0 (by kernel_rfl) rfl rfl) ?_
   simp only [Act.put, zA]
   refine zr (.int .i64 (sm : Int)) wc50 (xo_load1 ⟨b6, 0, none⟩ _ (cells_at Fv47_6.out 0 rfl) Tryd.underlying3 rfl rfl rfl) ?_
   simp only [Act.put, zA]
   refine wpList_mk (by kernel_rfl) ((List.replicate sm (0 : Int)).flatMap zzC).toArray 2 sm sm (xg_make (E := zzC) (bytes := 8) (.int .i64 0) (0 : Int) sm .i64 Tryd.underlying27 (by kernel_rfl) rfl (by omega) (by omega) rfl rfl rfl) ?_
   intro g38 V2 hge h0 hb
   have N52_0 : Hid (w.heap.size ≠ g38) := zh (xp_lt0 Fv0_2.out hge)
   have N53_1 : Hid ((w.heap.size + 1) ≠ g38) := zh (xp_lt0 Fv1_4.out hge)
   have N54_2 : Hid (b6 ≠ g38) := zh (xp_lt0 Fv47_6.out hge)
   have Ge55 : Hid (wc50.heap.size ≤ g38) := zh hge
   have B1 := zh hb
   have Fv56_38 : Hid (RowG zzC V2 g38 2 (List.replicate sm (0 : Int))) := zh (h0)
   have Lt57 : Hid (g38 < V2.heap.size) := zh (xp_lt Fv56_38.out)
   clear hge h0 hb
   simp only [ptr, Act.put, zA]
   refine zr (.slice (some ⟨g38, 0, none⟩) sm sm) V2 rfl ?_
   simp only [Act.put, zA]
   refine wpList_nil ?_
   have hz := Fv56_38.out
   rw [Ty.fil_0 bd sm] at hz
   clear Fv56_38
   have Fv56_38 : Hid (RowG zzC V2 g38 2 (Ty.filZ bd 0 sm)) := zh hz
   clear hz
   go_upto_region 7 with fail
   refine wp_region_lit ?_
   refine zr (.slice (some ⟨g38, 0, none⟩) sm sm) V2 rfl ?_
   simp only [Act.put, zA]
   refine zr (.int .i64 (sm : Int)) V2 (xo_len (some ⟨g38, 0, none⟩) sm sm Tryd.underlying27 rfl rfl) ?_
   simp only [Act.put, zA]
   refine zr (.int .i64 0) V2 rfl ?_
   simp only [Act.put, zA]
   refine wpList_nil ?_
   have O58 := (heap_keep Fv0_2.out B1.out)
   have O59 := (heap_keep Fv1_4.out B1.out)
   have O60 := (heap_keep Fv47_6.out B1.out)
   have O61 := Fv56_38.out
   have C0_2 := zb B0 B1
   have O62 := C0_2.out
   have Gr63 : Hid (w.heap.size ≤ g38) := zh (Nat.le_trans B0.out.size Ge55.out)
   go_wp2_with fail
   go_loopw [41] (fun p wr => ∃ i : Nat, i ≤ sm ∧ p = .int .i64 i ∧ (∀ v, v < i → bd v < 2 ^ 62) ∧ wr.heap[w.heap.size]? = some (.cells #[.int .i64 (kd : Int), .int .i64 (col : Int), .int .i64 (k : Int), .slice A n c] 24 (0, 0)) ∧ wr.heap[(w.heap.size + 1)]? = some (.cells #[.slice none 0 0] 29 (0, 0)) ∧ wr.heap[b6]? = some (.cells #[.int .i64 (sm : Int), .bool gb, .func (.func f) #[] #[]] 63 (0, 0)) ∧ RowG zzC wr g38 2 (Ty.filZ bd i sm) ∧ Below w.heap.size w wr) (fun p _ => sm - (intOf p).toNat)
   case atStart => exact ⟨0, Nat.zero_le _, rfl, (fun v h => absurd h (by omega)), O58, O59, O60, O61, O62⟩
   case round =>
    clear O58 O59 O60 O61 O62
    obtain ⟨wo, rfl⟩ : ∃ wo : World, wo = wr := ⟨_, rfl⟩
    obtain ⟨i, hi, rfl, hHALL, hr0, hr1, hr2, hr3, hb0⟩ := hrel
    have hbr := hb0
    clear B0
    have B0 := zh hbr
    clear hbr
    clear Fv0_2
    have Fv0_2 : Hid (wo.heap[w.heap.size]? = some (.cells #[.int .i64 (kd : Int), .int .i64 (col : Int), .int .i64 (k : Int), .slice A n c] 24 (0, 0))) := zh (hr0)
    clear Fv1_4
    have Fv1_4 : Hid (wo.heap[(w.heap.size + 1)]? = some (.cells #[.slice none 0 0] 29 (0, 0))) := zh (hr1)
    clear Fv47_6
    have Fv47_6 : Hid (wo.heap[b6]? = some (.cells #[.int .i64 (sm : Int), .bool gb, .func (.func f) #[] #[]] 63 (0, 0))) := zh (hr2)
    clear Fv56_38
    have Fv56_38 : Hid (RowG zzC wo g38 2 (Ty.filZ bd i sm)) := zh (hr3)
    have HALL := zh hHALL
    clear hb0 hr0 hr1 hr2 hr3 hHALL
    by_cases hism : i < sm
    ·have hci65 : ((i : Int) < (sm : Int)) := by omega
     have hi16 : i / 16 < fs.length := by rw [hnf]; exact Ty.su_num (by rw [HSM.out]; omega)
     obtain ⟨l, hl⟩ : ∃ l, fs[i / 16]? = some l := ⟨_, List.getElem?_eq_getElem hi16⟩
     have HLL := zh hl
     have HC4 : Hid (∀ e ∈ l, e.col < 4) := zh (fun e he => ((HOK.out.ok l (List.mem_of_getElem? hl)).2 e he).1)
     clear hl hi16
     obtain ⟨r0, hr0⟩ : ∃ z, bd i = z := ⟨_, rfl⟩
     have HR0 := zh hr0
     clear hr0
     go_upto_region 8 with fail
     refine wp_region_lit ?_
     refine zr (.bool true) wo (xo_lssT .i64 (i : Int) (sm : Int) (by omega) rfl rfl rfl) ?_
     simp only [Act.put, zA]
     refine wpList_nil ?_
     go_upto_region 9 with fail
     refine wp_region_lit ?_
     refine zr (.int .i64 (i : Int)) wo rfl ?_
     simp only [Act.put, zA]
     refine zr (.int .i64 (i : Int)) wo rfl ?_
     simp only [Act.put, zA]
     refine wpList_nil ?_
     by_cases hlim : r0 < 2 ^ 62
     ·go_upto_region 10 with fail
      refine wp_region_lit ?_
      refine zr (.agg #[.int .i64 (sm : Int), .bool gb, .func (.func f) #[] #[]]) wo (xo_loadW b6 _ Fv47_6.out Tryd.underlying63 rfl (by kernel_rfl) rfl rfl) ?_
      simp only [Act.put, zA]
      refine zr (.agg #[.int .i64 (kd : Int), .int .i64 (col : Int), .int .i64 (k : Int), .slice A n c]) wo (xo_loadW w.heap.size _ Fv0_2.out Tryd.underlying24 rfl (by kernel_rfl) rfl rfl) ?_
      simp only [Act.put, zA]
      refine zr (.int .i64 (rows : Int)) wo rfl ?_
      simp only [Act.put, zA]
      refine zr (.int .i64 (i : Int)) wo rfl ?_
      simp only [Act.put, zA]
      refine wpList_call (by kernel_rfl) 32 Tryd.func32 (by kernel_rfl) (by kernel_rfl) _ _ #[.agg #[.int .i64 (sm : Int), .bool gb, .func (.func f) #[] #[]], .agg #[.int .i64 (kd : Int), .int .i64 (col : Int), .int .i64 (k : Int), .slice A n c], .int .i64 (rows : Int), .int .i64 (i : Int)] rfl (by kernel_rfl) ?_
      refine (bound_as (sm : Int) gb f kd col k A n c hs fs rows i l HKF.out hk1 hk7 hcol hkk hrows (by omega) HLL.out HC4.out r0 (by rw [HBD.out]; exact HR0.out) true (decide_eq_true hlim) wo (HFR.out.keep B0.out) (HG.out.keep B0.out)).mono ?_
      rintro e V2 ⟨z, rfl, hz, hb⟩
      have B1 := zh hb
      obtain rfl := hz rfl
      clear hz
      clear hb 
      refine ⟨_, rfl, ?_⟩
      simp only [Act.put, zA]
      refine zr (.tuple #[.int .i64 (r0 : Int), .bool true]) V2 rfl ?_
      simp only [Act.put, zA]
      refine zr (.int .i64 (r0 : Int)) V2 rfl ?_
      simp only [Act.put, zA]
      refine zr (.bool true) V2 rfl ?_
      simp only [Act.put, zA]
      refine zr (.int .i64 (r0 : Int)) V2 rfl ?_
      simp only [Act.put, zA]
      refine zr (.bool true) V2 rfl ?_
      simp only [Act.put, zA]
      refine wpList_nil ?_
      go_upto_region 11 with fail
      refine wp_region_lit ?_
      refine zr (.bool true) V2 rfl ?_
      simp only [Act.put, zA]
      refine zr (.bool false) V2 rfl ?_
      simp only [Act.put, zA]
      refine wpList_nil ?_
      go_upto_region 13 with fail
      refine wp_region_lit ?_
      refine zr (.slice (some ⟨g38, 0, none⟩) sm sm) V2 rfl ?_
      simp only [Act.put, zA]
      refine zr (.int .i64 (i : Int)) V2 rfl ?_
      simp only [Act.put, zA]
      refine zr (.int .i64 (r0 : Int)) V2 rfl ?_
      simp only [Act.put, zA]
      refine zr (.pointer (some (gad (some ⟨g38, 0, none⟩) (i * 1)))) V2 (xg_idx .i64 (RowG.sg (n := sm) (c := sm) (Fv56_38.out.keep B1.out) (Ty.fil_len bd i sm) (Nat.le_refl _) (by omega)) (Ty.fil_at bd hism) Tryd.underlying27 (by kernel_rfl) rfl rfl rfl) ?_
      simp only [Act.put, zA]
      refine wpList_storeW g38 _ _ 2 (by kernel_rfl) (RowG.h (Fv56_38.out.keep B1.out)) (xg_store (Fv56_38.out.keep B1.out) (List.getElem?_eq_some_iff.1 (Ty.fil_at bd hism)).1 (r0 : Int) (by kernel_rfl) rfl rfl rfl) ?_
      intro X2_66 h1 hfar hbel hsz
      have YFv0_2 : X2_66.heap[w.heap.size]? = some (.cells #[.int .i64 (kd : Int), .int .i64 (col : Int), .int .i64 (k : Int), .slice A n c] 24 (0, 0)) := hfar _ _ N52_0.out (heap_keep Fv0_2.out B1.out)
      have YFv1_4 : X2_66.heap[(w.heap.size + 1)]? = some (.cells #[.slice none 0 0] 29 (0, 0)) := hfar _ _ N53_1.out (heap_keep Fv1_4.out B1.out)
      have YFv47_6 : X2_66.heap[b6]? = some (.cells #[.int .i64 (sm : Int), .bool gb, .func (.func f) #[] #[]] 63 (0, 0)) := hfar _ _ N54_2.out (heap_keep Fv47_6.out B1.out)
      have C0_2 := zb B0 B1
      have hbr := hbel _ _ Gr63.out C0_2.out
      clear B0
      have B0 := zh hbr
      clear hbr
      clear Fv0_2
      have Fv0_2 : Hid (X2_66.heap[w.heap.size]? = some (.cells #[.int .i64 (kd : Int), .int .i64 (col : Int), .int .i64 (k : Int), .slice A n c] 24 (0, 0))) := zh YFv0_2
      clear YFv0_2
      clear Fv1_4
      have Fv1_4 : Hid (X2_66.heap[(w.heap.size + 1)]? = some (.cells #[.slice none 0 0] 29 (0, 0))) := zh YFv1_4
      clear YFv1_4
      clear Fv47_6
      have Fv47_6 : Hid (X2_66.heap[b6]? = some (.cells #[.int .i64 (sm : Int), .bool gb, .func (.func f) #[] #[]] 63 (0, 0))) := zh YFv47_6
      clear YFv47_6
      clear Fv56_38
      have Fv56_38 : Hid (RowG zzC X2_66 g38 2 ((Ty.filZ bd i sm).set i (r0 : Int))) := zh (h1)
      have HszX2_66 := zh hsz
      clear h1 hfar hbel hsz
      simp only [ptr, Act.put, zA]
      refine wpList_nil ?_
      go_upto_region 14 with fail
      refine wp_region_lit ?_
      refine zr (.int .i64 ((i + 1 : Nat) : Int)) X2_66 (xo_addI (i : Int) 1 ((i + 1 : Nat) : Int) (by omega) (by omega) (by omega) rfl rfl rfl) ?_
      simp only [Act.put, zA]
      refine zr (.int .i64 ((i + 1 : Nat) : Int)) X2_66 rfl ?_
      simp only [Act.put, zA]
      refine wpList_nil ?_
      have hrw := Fv56_38.out
      rw [Ty.fil_set bd hism HR0.out] at hrw
      have hal : ∀ v, v < i + 1 → bd v < 2 ^ 62 := fun v hv => by
             by_cases he : v = i
             ·rw [he, HR0.out]; exact hlim
             ·exact HALL.out v (by omega)
      have hq67 := Fv0_2.out
      have hq68 := Fv1_4.out
      have hq69 := Fv47_6.out
      have hq70 := B0.out
      go_wp2_with fail
      go_roundw
      case rel => exact ⟨i + 1, by omega, by go_num, hal, hq67, hq68, hq69, hrw, hq70⟩
      case measure => simp [intOf]; omega
     ·go_upto_region 10 with fail
      refine wp_region_lit ?_
      refine zr (.agg #[.int .i64 (sm : Int), .bool gb, .func (.func f) #[] #[]]) wo (xo_loadW b6 _ Fv47_6.out Tryd.underlying63 rfl (by kernel_rfl) rfl rfl) ?_
      simp only [Act.put, zA]
      refine zr (.agg #[.int .i64 (kd : Int), .int .i64 (col : Int), .int .i64 (k : Int), .slice A n c]) wo (xo_loadW w.heap.size _ Fv0_2.out Tryd.underlying24 rfl (by kernel_rfl) rfl rfl) ?_
      simp only [Act.put, zA]
      refine zr (.int .i64 (rows : Int)) wo rfl ?_
      simp only [Act.put, zA]
      refine zr (.int .i64 (i : Int)) wo rfl ?_
      simp only [Act.put, zA]
      refine wpList_call (by kernel_rfl) 32 Tryd.func32 (by kernel_rfl) (by kernel_rfl) _ _ #[.agg #[.int .i64 (sm : Int), .bool gb, .func (.func f) #[] #[]], .agg #[.int .i64 (kd : Int), .int .i64 (col : Int), .int .i64 (k : Int), .slice A n c], .int .i64 (rows : Int), .int .i64 (i : Int)] rfl (by kernel_rfl) ?_
      refine (bound_as (sm : Int) gb f kd col k A n c hs fs rows i l HKF.out hk1 hk7 hcol hkk hrows (by omega) HLL.out HC4.out r0 (by rw [HBD.out]; exact HR0.out) false (decide_eq_false hlim) wo (HFR.out.keep B0.out) (HG.out.keep B0.out)).mono ?_
      rintro e V2 ⟨z, rfl, hz, hb⟩
      have B1 := zh hb
      clear hz
      clear hb 
      refine ⟨_, rfl, ?_⟩
      simp only [Act.put, zA]
      refine zr (.tuple #[.int .i64 z, .bool false]) V2 rfl ?_
      simp only [Act.put, zA]
      refine zr (.int .i64 z) V2 rfl ?_
      simp only [Act.put, zA]
      refine zr (.bool false) V2 rfl ?_
      simp only [Act.put, zA]
      refine zr (.int .i64 z) V2 rfl ?_
      simp only [Act.put, zA]
      refine zr (.bool false) V2 rfl ?_
      simp only [Act.put, zA]
      refine wpList_nil ?_
      go_upto_region 11 with fail
      refine wp_region_lit ?_
      refine zr (.bool false) V2 rfl ?_
      simp only [Act.put, zA]
      refine zr (.bool true) V2 rfl ?_
      simp only [Act.put, zA]
      refine wpList_nil ?_
      go_upto_region 12 with fail
      refine wp_region_lit ?_
      refine zr (.agg #[.slice none 0 0]) V2 (by unfold execOp; go_simp <;> rfl) ?_
      simp only [Act.put, zA]
      refine wpList_storeW (w.heap.size + 1) #[.slice none 0 0] #[.slice none 0 0] 29 (by kernel_rfl) (heap_keep Fv1_4.out B1.out) (xo_storeW (w.heap.size + 1) #[.slice none 0 0] #[.slice none 0 0] (heap_keep Fv1_4.out B1.out) (by kernel_rfl) rfl (by simp [Value.oneCell']) rfl rfl rfl) ?_
      intro X2_66 h1 hfar hbel hsz
      have YFv0_2 : X2_66.heap[w.heap.size]? = some (.cells #[.int .i64 (kd : Int), .int .i64 (col : Int), .int .i64 (k : Int), .slice A n c] 24 (0, 0)) := hfar _ _ Nb0_1.out (heap_keep Fv0_2.out B1.out)
      have YFv47_6 : X2_66.heap[b6]? = some (.cells #[.int .i64 (sm : Int), .bool gb, .func (.func f) #[] #[]] 63 (0, 0)) := hfar _ _ (Ne.symm N45_1.out) (heap_keep Fv47_6.out B1.out)
      have YFv56_38 : RowG zzC X2_66 g38 2 (Ty.filZ bd i sm) := hfar _ _ (Ne.symm N53_1.out) (Fv56_38.out.keep B1.out)
      have C0_2 := zb B0 B1
      have hbr := hbel _ _ Gb1.out C0_2.out
      clear B0
      have B0 := zh hbr
      clear hbr
      clear Fv0_2
      have Fv0_2 : Hid (X2_66.heap[w.heap.size]? = some (.cells #[.int .i64 (kd : Int), .int .i64 (col : Int), .int .i64 (k : Int), .slice A n c] 24 (0, 0))) := zh YFv0_2
      clear YFv0_2
      clear Fv47_6
      have Fv47_6 : Hid (X2_66.heap[b6]? = some (.cells #[.int .i64 (sm : Int), .bool gb, .func (.func f) #[] #[]] 63 (0, 0))) := zh YFv47_6
      clear YFv47_6
      clear Fv56_38
      have Fv56_38 : Hid (RowG zzC X2_66 g38 2 (Ty.filZ bd i sm)) := zh YFv56_38
      clear YFv56_38
      clear Fv1_4
      have Fv1_4 : Hid (X2_66.heap[(w.heap.size + 1)]? = some (.cells #[.slice none 0 0] 29 (0, 0))) := zh (h1)
      have HszX2_66 := zh hsz
      clear h1 hfar hbel hsz
      simp only [ptr, Act.put, zA]
      refine zr (.int .i64 141) X2_66 rfl ?_
      simp only [Act.put, zA]
      refine wpList_nil ?_
      have hck : r = ([], 141) := by rw [← HR.out]; exact Ty.ck_bad (v := i) ht (by show i < Ty.suN kd; rw [HSM.out]; exact hism) (by rw [HBD.out, HR0.out]; exact hlim)
      subst hck
      have hbf := B0.out
      go_wp2_with fail
      refine bodyPost_ret (v := .tuple #[.agg #[.slice none 0 0], .int .i64 141]) ?_ rfl ⟨none, 0, 0, rfl, (show Sg zzC 1 _ none 0 0 [] from Sg.nil_ _), hbf⟩
      exact results_row_tmp rfl _ _ (w.heap.size + 1) 29 _ (0, 0) _ _ rfl rfl Fv1_4.out Tryd.underlying29 rfl (by kernel_rfl)
    ·have hci65 : ¬ ((i : Int) < (sm : Int)) := by omega
     go_upto_region 8 with fail
     refine wp_region_lit ?_
     refine zr (.bool false) wo (xo_lssF .i64 (i : Int) (sm : Int) (by omega) rfl rfl rfl) ?_
     simp only [Act.put, zA]
     refine wpList_nil ?_
     obtain rfl : sm = i := by omega
     go_upto_region 15 with fail
     refine wp_region_lit ?_
     refine zr (.slice (some ⟨g38, 0, none⟩) sm sm) wo rfl ?_
     simp only [Act.put, zA]
     refine zr (.agg #[.slice (some ⟨g38, 0, none⟩) sm sm]) wo (by unfold execOp; go_simp <;> rfl) ?_
     simp only [Act.put, zA]
     refine wpList_storeW (w.heap.size + 1) #[.slice none 0 0] #[.slice (some ⟨g38, 0, none⟩) sm sm] 29 (by kernel_rfl) Fv1_4.out (xo_storeW (w.heap.size + 1) #[.slice none 0 0] #[.slice (some ⟨g38, 0, none⟩) sm sm] Fv1_4.out (by kernel_rfl) rfl (by simp [Value.oneCell']) rfl rfl rfl) ?_
     intro X1_66 h1 hfar hbel hsz
     have YFv0_2 : X1_66.heap[w.heap.size]? = some (.cells #[.int .i64 (kd : Int), .int .i64 (col : Int), .int .i64 (k : Int), .slice A n c] 24 (0, 0)) := hfar _ _ Nb0_1.out Fv0_2.out
     have YFv47_6 : X1_66.heap[b6]? = some (.cells #[.int .i64 (sm : Int), .bool gb, .func (.func f) #[] #[]] 63 (0, 0)) := hfar _ _ (Ne.symm N45_1.out) Fv47_6.out
     have YFv56_38 : RowG zzC X1_66 g38 2 (Ty.filZ bd sm sm) := hfar _ _ (Ne.symm N53_1.out) Fv56_38.out
     have hbr := hbel _ _ Gb1.out B0.out
     clear B0
     have B0 := zh hbr
     clear hbr
     clear Fv0_2
     have Fv0_2 : Hid (X1_66.heap[w.heap.size]? = some (.cells #[.int .i64 (kd : Int), .int .i64 (col : Int), .int .i64 (k : Int), .slice A n c] 24 (0, 0))) := zh YFv0_2
     clear YFv0_2
     clear Fv47_6
     have Fv47_6 : Hid (X1_66.heap[b6]? = some (.cells #[.int .i64 (sm : Int), .bool gb, .func (.func f) #[] #[]] 63 (0, 0))) := zh YFv47_6
     clear YFv47_6
     clear Fv56_38
     have Fv56_38 : Hid (RowG zzC X1_66 g38 2 (Ty.filZ bd sm sm)) := zh YFv56_38
     clear YFv56_38
     clear Fv1_4
     have Fv1_4 : Hid (X1_66.heap[(w.heap.size + 1)]? = some (.cells #[.slice (some ⟨g38, 0, none⟩) sm sm] 29 (0, 0))) := zh (h1)
     have HszX1_66 := zh hsz
     clear h1 hfar hbel hsz
     simp only [ptr, Act.put, zA]
     refine zr (.int .i64 0) X1_66 rfl ?_
     simp only [Act.put, zA]
     refine wpList_nil ?_
     have hck : r = ((List.range sm).map bd, 0) := by rw [← HR.out, Ty.ck_ok ht (fun v hv => by rw [HBD.out]; exact HALL.out v (by have : Ty.suN kd = sm := HSM.out; have h2 : v < Ty.suN kd := hv; omega)), HBD.out]; show ((List.range (Ty.suN kd)).map bd, 0) = _; rw [HSM.out]
     subst hck
     have hbf := B0.out
     have hsg := (RowG.sg (n := sm) (c := sm) Fv56_38.out (Ty.fil_len bd sm sm) (Nat.le_refl _) (by omega))
     rw [Ty.fil_end bd sm] at hsg
     go_wp2_with fail
     refine bodyPost_ret (v := .tuple #[.agg #[.slice (some ⟨g38, 0, none⟩) sm sm], .int .i64 0]) ?_ rfl ⟨_, _, _, rfl, hsg, hbf⟩
     exact results_row_tmp rfl _ _ (w.heap.size + 1) 29 _ (0, 0) _ _ rfl rfl Fv1_4.out Tryd.underlying29 rfl (by kernel_rfl)
set_option maxRecDepth 100000 in
set_option maxHeartbeats 16000000 in
theorem check_bad (kd col k : Int) (A : Option Addr) (n c : Nat) (hs : List Hd) (fs : List (List Qu.Ci)) (rows : Int) (hbad : Qu.vQ kd col k fs = false ∨ rows < 0 ∨ rows > 65536) (w : World) (hF : FsR w A n c hs fs) (hC : Gc w) :
  Calls Tryd.prog 11 #[.agg #[.int .i64 kd, .int .i64 col, .int .i64 k, .slice A n c], .int .i64 rows] w fun e w' => e = .returned (.tuple #[.agg #[.slice none 0 0], .int .i64 1]) ∧ Below w.heap.size w w' := by
 have HFR := zh hF
 have HGC := zh hC
 clear hF hC
 go_enter Tryd.func11, Tryd.ntmps11
 go_upto_region 1 with fail
 refine wp_named2 (fun V1 hb g0 g1 hlt => ?_)
 have B0 := zh hb
 have Fv0_2 : Hid (V1.heap[w.heap.size]? = some (.cells #[.int .i64 kd, .int .i64 col, .int .i64 k, .slice A n c] 24 (0, 0))) := zh (g0)
 have Fv1_4 : Hid (V1.heap[(w.heap.size + 1)]? = some (.cells #[.slice none 0 0] 29 (0, 0))) := zh (g1)
 have Nb0_1 : Hid (w.heap.size ≠ (w.heap.size + 1)) := zh (by omega)
 have Gb0 : Hid (w.heap.size ≤ w.heap.size) := zh (by omega)
 have Gb1 : Hid (w.heap.size ≤ (w.heap.size + 1)) := zh (by omega)
 clear hb g0 g1 hlt
 have Lt0 : Hid (w.heap.size < V1.heap.size) := zh (xp_lt Fv0_2.out)
 have Lt1 : Hid ((w.heap.size + 1) < V1.heap.size) := zh (xp_lt Fv1_4.out)
 cases hvq : Qu.vQ kd col k fs with
 | false =>
  refine wp_region_lit ?_
  refine zr (.agg #[.int .i64 kd, .int .i64 col, .int .i64 k, .slice A n c]) V1 (xo_loadW w.heap.size _ Fv0_2.out Tryd.underlying24 rfl (by kernel_rfl) rfl rfl) ?_
  simp only [Act.put, zA]
  refine wpList_call (by kernel_rfl) 30 Tryd.func30 (by kernel_rfl) (by kernel_rfl) _ _ #[.agg #[.int .i64 kd, .int .i64 col, .int .i64 k, .slice A n c]] rfl (by kernel_rfl) ?_
  refine (valid_as kd col k A n c hs fs false hvq V1 (HGC.out.keep B0.out) (HFR.out.keep B0.out)).mono ?_
  rintro e V2 ⟨rfl, hb⟩
  have B1 := zh hb
  clear hb 
  refine ⟨_, rfl, ?_⟩
  simp only [Act.put, zA]
  refine zr (.bool true) V2 rfl ?_
  simp only [Act.put, zA]
  refine zr (.bool true) V2 rfl ?_
  simp only [Act.put, zA]
  refine zl ?_
  try simp only [Act.put, zA]
  refine zl ?_
  try simp only [Act.put, zA]
  refine zr (.bool true) V2 rfl ?_
  simp only [Act.put, zA]
  refine zr (.bool true) V2 rfl ?_
  simp only [Act.put, zA]
  refine zl ?_
  try simp only [Act.put, zA]
  refine zl ?_
  try simp only [Act.put, zA]
  refine zr (.bool true) V2 rfl ?_
  simp only [Act.put, zA]
  refine wpList_nil ?_
  go_upto_region 2 with fail
  refine wp_region_lit ?_
  refine zr (.agg #[.slice none 0 0]) V2 (by unfold execOp; go_simp <;> rfl) ?_
  simp only [Act.put, zA]
  refine wpList_storeW (w.heap.size + 1) #[.slice none 0 0] #[.slice none 0 0] 29 (by kernel_rfl) (heap_keep Fv1_4.out B1.out) (xo_storeW (w.heap.size + 1) #[.slice none 0 0] #[.slice none 0 0] (heap_keep Fv1_4.out B1.out) (by kernel_rfl) rfl (by simp [Value.oneCell']) rfl rfl rfl) ?_
  intro X2_2 h1 hfar hbel hsz
  have YFv0_2 : X2_2.heap[w.heap.size]? = some (.cells #[.int .i64 kd, .int .i64 col, .int .i64 k, .slice A n c] 24 (0, 0)) := hfar _ _ Nb0_1.out (heap_keep Fv0_2.out B1.out)
  have C0_2 := zb B0 B1
  have hbr := hbel _ _ Gb1.out C0_2.out
  clear B0
  have B0 := zh hbr
  clear hbr
  clear Fv0_2
  have Fv0_2 : Hid (X2_2.heap[w.heap.size]? = some (.cells #[.int .i64 kd, .int .i64 col, .int .i64 k, .slice A n c] 24 (0, 0))) := zh YFv0_2
  clear YFv0_2
  clear Fv1_4
  have Fv1_4 : Hid (X2_2.heap[(w.heap.size + 1)]? = some (.cells #[.slice none 0 0] 29 (0, 0))) := zh (h1)
  have HszX2_2 := zh hsz
  clear h1 hfar hbel hsz
  simp only [ptr, Act.put, zA]
  refine zr (.int .i64 1) X2_2 rfl ?_
  simp only [Act.put, zA]
  refine wpList_nil ?_
  have hbf := B0.out
  go_wp2_with fail
  refine bodyPost_ret (v := .tuple #[.agg #[.slice none 0 0], .int .i64 1]) ?_ rfl ⟨rfl, hbf⟩
  exact results_row_tmp rfl _ _ (w.heap.size + 1) 29 _ (0, 0) _ _ rfl rfl Fv1_4.out Tryd.underlying29 rfl (by kernel_rfl)
 | true =>
  by_cases hlt0 : rows < 0
  ·refine wp_region_lit ?_
   refine zr (.agg #[.int .i64 kd, .int .i64 col, .int .i64 k, .slice A n c]) V1 (xo_loadW w.heap.size _ Fv0_2.out Tryd.underlying24 rfl (by kernel_rfl) rfl rfl) ?_
   simp only [Act.put, zA]
   refine wpList_call (by kernel_rfl) 30 Tryd.func30 (by kernel_rfl) (by kernel_rfl) _ _ #[.agg #[.int .i64 kd, .int .i64 col, .int .i64 k, .slice A n c]] rfl (by kernel_rfl) ?_
   refine (valid_as kd col k A n c hs fs true hvq V1 (HGC.out.keep B0.out) (HFR.out.keep B0.out)).mono ?_
   rintro e V2 ⟨rfl, hb⟩
   have B1 := zh hb
   clear hb 
   refine ⟨_, rfl, ?_⟩
   simp only [Act.put, zA]
   refine zr (.bool false) V2 rfl ?_
   simp only [Act.put, zA]
   refine zr (.bool false) V2 rfl ?_
   simp only [Act.put, zA]
   refine zr (.int .i64 rows) V2 rfl ?_
   simp only [Act.put, zA]
   refine zr (.bool true) V2 (xo_lssT .i64 rows 0 (by omega) rfl rfl rfl) ?_
   simp only [Act.put, zA]
   refine zr (.bool true) V2 rfl ?_
   simp only [Act.put, zA]
   refine zr (.bool true) V2 rfl ?_
   simp only [Act.put, zA]
   refine zl ?_
   try simp only [Act.put, zA]
   refine zl ?_
   try simp only [Act.put, zA]
   refine zr (.bool true) V2 rfl ?_
   simp only [Act.put, zA]
   refine wpList_nil ?_
   go_upto_region 2 with fail
   refine wp_region_lit ?_
   refine zr (.agg #[.slice none 0 0]) V2 (by unfold execOp; go_simp <;> rfl) ?_
   simp only [Act.put, zA]
   refine wpList_storeW (w.heap.size + 1) #[.slice none 0 0] #[.slice none 0 0] 29 (by kernel_rfl) (heap_keep Fv1_4.out B1.out) (xo_storeW (w.heap.size + 1) #[.slice none 0 0] #[.slice none 0 0] (heap_keep Fv1_4.out B1.out) (by kernel_rfl) rfl (by simp [Value.oneCell']) rfl rfl rfl) ?_
   intro X2_2 h1 hfar hbel hsz
   have YFv0_2 : X2_2.heap[w.heap.size]? = some (.cells #[.int .i64 kd, .int .i64 col, .int .i64 k, .slice A n c] 24 (0, 0)) := hfar _ _ Nb0_1.out (heap_keep Fv0_2.out B1.out)
   have C0_2 := zb B0 B1
   have hbr := hbel _ _ Gb1.out C0_2.out
   clear B0
   have B0 := zh hbr
   clear hbr
   clear Fv0_2
   have Fv0_2 : Hid (X2_2.heap[w.heap.size]? = some (.cells #[.int .i64 kd, .int .i64 col, .int .i64 k, .slice A n c] 24 (0, 0))) := zh YFv0_2
   clear YFv0_2
   clear Fv1_4
   have Fv1_4 : Hid (X2_2.heap[(w.heap.size + 1)]? = some (.cells #[.slice none 0 0] 29 (0, 0))) := zh (h1)
   have HszX2_2 := zh hsz
   clear h1 hfar hbel hsz
   simp only [ptr, Act.put, zA]
   refine zr (.int .i64 1) X2_2 rfl ?_
   simp only [Act.put, zA]
   refine wpList_nil ?_
   have hbf := B0.out
   go_wp2_with fail
   refine bodyPost_ret (v := .tuple #[.agg #[.slice none 0 0], .int .i64 1]) ?_ rfl ⟨rfl, hbf⟩
   exact results_row_tmp rfl _ _ (w.heap.size + 1) 29 _ (0, 0) _ _ rfl rfl Fv1_4.out Tryd.underlying29 rfl (by kernel_rfl)
  ·have hgt : rows > 65536 := by
       rcases hbad with h | h | h
       ·rw [hvq] at h; cases h
       ·omega
       ·exact h
   refine wp_region_lit ?_
   refine zr (.agg #[.int .i64 kd, .int .i64 col, .int .i64 k, .slice A n c]) V1 (xo_loadW w.heap.size _ Fv0_2.out Tryd.underlying24 rfl (by kernel_rfl) rfl rfl) ?_
   simp only [Act.put, zA]
   refine wpList_call (by kernel_rfl) 30 Tryd.func30 (by kernel_rfl) (by kernel_rfl) _ _ #[.agg #[.int .i64 kd, .int .i64 col, .int .i64 k, .slice A n c]] rfl (by kernel_rfl) ?_
   refine (valid_as kd col k A n c hs fs true hvq V1 (HGC.out.keep B0.out) (HFR.out.keep B0.out)).mono ?_
   rintro e V2 ⟨rfl, hb⟩
   have B1 := zh hb
   clear hb 
   refine ⟨_, rfl, ?_⟩
   simp only [Act.put, zA]
   refine zr (.bool false) V2 rfl ?_
   simp only [Act.put, zA]
   refine zr (.bool false) V2 rfl ?_
   simp only [Act.put, zA]
   refine zr (.int .i64 rows) V2 rfl ?_
   simp only [Act.put, zA]
   refine zr (.bool false) V2 (xo_lssF .i64 rows 0 (by omega) rfl rfl rfl) ?_
   simp only [Act.put, zA]
   refine zr (.bool false) V2 rfl ?_
   simp only [Act.put, zA]
   refine zr (.bool false) V2 rfl ?_
   simp only [Act.put, zA]
   refine zr (.int .i64 rows) V2 rfl ?_
   simp only [Act.put, zA]
   refine zr (.bool true) V2 (xo_gtrT .i64 rows 65536 (by omega) rfl rfl rfl) ?_
   simp only [Act.put, zA]
   refine zr (.bool true) V2 rfl ?_
   simp only [Act.put, zA]
   refine wpList_nil ?_
   go_upto_region 2 with fail
   refine wp_region_lit ?_
   refine zr (.agg #[.slice none 0 0]) V2 (by unfold execOp; go_simp <;> rfl) ?_
   simp only [Act.put, zA]
   refine wpList_storeW (w.heap.size + 1) #[.slice none 0 0] #[.slice none 0 0] 29 (by kernel_rfl) (heap_keep Fv1_4.out B1.out) (xo_storeW (w.heap.size + 1) #[.slice none 0 0] #[.slice none 0 0] (heap_keep Fv1_4.out B1.out) (by kernel_rfl) rfl (by simp [Value.oneCell']) rfl rfl rfl) ?_
   intro X2_2 h1 hfar hbel hsz
   have YFv0_2 : X2_2.heap[w.heap.size]? = some (.cells #[.int .i64 kd, .int .i64 col, .int .i64 k, .slice A n c] 24 (0, 0)) := hfar _ _ Nb0_1.out (heap_keep Fv0_2.out B1.out)
   have C0_2 := zb B0 B1
   have hbr := hbel _ _ Gb1.out C0_2.out
   clear B0
   have B0 := zh hbr
   clear hbr
   clear Fv0_2
   have Fv0_2 : Hid (X2_2.heap[w.heap.size]? = some (.cells #[.int .i64 kd, .int .i64 col, .int .i64 k, .slice A n c] 24 (0, 0))) := zh YFv0_2
   clear YFv0_2
   clear Fv1_4
   have Fv1_4 : Hid (X2_2.heap[(w.heap.size + 1)]? = some (.cells #[.slice none 0 0] 29 (0, 0))) := zh (h1)
   have HszX2_2 := zh hsz
   clear h1 hfar hbel hsz
   simp only [ptr, Act.put, zA]
   refine zr (.int .i64 1) X2_2 rfl ?_
   simp only [Act.put, zA]
   refine wpList_nil ?_
   have hbf := B0.out
   go_wp2_with fail
   refine bodyPost_ret (v := .tuple #[.agg #[.slice none 0 0], .int .i64 1]) ?_ rfl ⟨rfl, hbf⟩
   exact results_row_tmp rfl _ _ (w.heap.size + 1) 29 _ (0, 0) _ _ rfl rfl Fv1_4.out Tryd.underlying29 rfl (by kernel_rfl)
end Go.Proofs.YtbecajihgbbgjaaDoor

