/- Several texts in one: Ycw, Ych. -/
import Derived.Test.YtbecajihgbbgjaaDoorU13
import Derived.Test.YtbecajihgbbgjaaDoorU06
set_option linter.unusedVariables false
set_option linter.unusedSimpArgs false
set_option linter.unusedSectionVars false
namespace Go.Proofs.YtbecajihgbbgjaaDoor
set_option maxRecDepth 8000
open Go.RowKit Go.Proofs.YtbecajihgbbgjaaDoor.K
attribute [local irreducible] wpList wpQuiet
namespace Ty
/-- a reading by its columns -/
def rdX (x : Nat → Nat) : Rd := ⟨(x 0 : Nat), (x 1 : Nat), (x 2 : Nat), (x 3 : Nat)⟩
theorem val_rd (x : Nat → Nat) {c : Nat} (hc : c < 4) : Qu.valR (rdX x) c = (x c : Int) := by
 rcases (show c = 0 ∨ c = 1 ∨ c = 2 ∨ c = 3 by omega) with rfl | rfl | rfl | rfl <;> rfl
theorem mt_rd {l : List Qu.Cd} (hl : ∀ e ∈ l, e.col < 4) (x : Nat → Nat) {b : Bool} (hb : mtN l x = b) : (l.map Qu.Cd.ci).all (Qu.mC (rdX x)) = b := by
 rw [← hb, List.all_map]
 unfold mtN
 rw [Bool.eq_iff_iff, List.all_eq_true, List.all_eq_true]
 refine forall_congr' fun e => forall_congr' fun he => ?_
 have h4 := hl e he
 show Qu.mC (rdX x) (Qu.Ci.mk (e.col : Int) (e.lo : Int) (e.hi : Int)) = true ↔ _
 unfold Qu.mC Qu.isC
 simp only [Int.toNat_natCast, val_rd x h4, Bool.and_eq_true, decide_eq_true_eq]
 omega
theorem isc_ci {l : List Qu.Cd} (hl : ∀ e ∈ l, e.col < 4) : ∀ e ∈ l.map Qu.Cd.ci, Qu.isC e.col = true := by
 intro e he
 obtain ⟨d, hd, rfl⟩ := List.mem_map.1 he
 have := hl d hd
 unfold Qu.isC Qu.Cd.ci
 simp <;> omega
theorem to_take {q : Qu.Qy} {xs : List (Nat → Nat)} {i : Nat} {x : Nat → Nat} (h : xs[i]? = some x) (v : Nat) : toN q (xs.take (i + 1)) v = toN q (xs.take i) v + adN q x v := by
 unfold toN
 rw [List.take_add_one, h, List.map_append, List.sum_append]
 simp
theorem to_pre (q : Qu.Qy) (v i : Nat) : ∀ xs : List (Nat → Nat), toN q (xs.take i) v ≤ toN q xs v := by
 intro xs
 have h : toN q xs v = toN q (xs.take i) v + toN q (xs.drop i) v := by
  unfold toN
  rw [← List.sum_append, ← List.map_append, List.take_append_drop]
 omega
theorem ad_no {q : Qu.Qy} {x : Nat → Nat} {v : Nat} {l : List Qu.Cd} (hl : q.fs[v / 16]? = some l) (hm : mtN l x = false) : adN q x v = 0 := by
 unfold adN
 rw [ru_of hl, hm]
 rfl
theorem ad_1 {q : Qu.Qy} {x : Nat → Nat} {v : Nat} {l : List Qu.Cd} (hl : q.fs[v / 16]? = some l) (hm : mtN l x = true) (h : q.kind = 1) : adN q x v = 1 := by
 unfold adN
 rw [ru_of hl, if_pos hm]
 simp only [h]
theorem ad_2 {q : Qu.Qy} {x : Nat → Nat} {v : Nat} {l : List Qu.Cd} (hl : q.fs[v / 16]? = some l) (hm : mtN l x = true) (h : q.kind = 2) : adN q x v = x q.col := by
 unfold adN
 rw [ru_of hl, if_pos hm]
 simp only [h]
theorem ad_3 {q : Qu.Qy} {x : Nat → Nat} {v : Nat} {l : List Qu.Cd} (hl : q.fs[v / 16]? = some l) (hm : mtN l x = true) (h : q.kind = 3) : adN q x v = x q.col ^ q.k := by
 unfold adN
 rw [ru_of hl, if_pos hm]
 simp only [h]
theorem ad_d {q : Qu.Qy} {x : Nat → Nat} {v cc : Nat} {l : List Qu.Cd} (hl : q.fs[v / 16]? = some l) (hm : mtN l x = true) (h4 : 4 ≤ q.kind) (hcc : (if q.kind = 7 then 0 else q.col) = cc) : adN q x v = if x cc = v % 16 then 1 else 0 := by
 unfold adN
 rw [ru_of hl, if_pos hm]
 subst hcc
 split
 ·omega
 ·omega
 ·omega
 ·next h7 => rw [show (if q.kind = 7 then 0 else q.col) = 0 from if_pos h7]
 ·next h7 => rw [show (if q.kind = 7 then 0 else q.col) = q.col from if_neg h7]
theorem pw_pre {y j k : Nat} (h : j + 1 ≤ k) : y ^ (j + 1) ≤ y ^ k := by
 rcases Nat.eq_zero_or_pos y with rfl | hy
 ·rw [Nat.zero_pow (Nat.succ_pos j)]
  exact Nat.zero_le _
 ·exact Nat.pow_le_pow_right hy h
theorem su_16 {kd v : Nat} (h : kd ≠ 7) (hv : v < suN kd) : v < 16 := by
 unfold suN at hv
 split at hv <;> omega
end Ty
theorem xo_eqlB {P : Program} {ev : Operand → Value} {o : Oper} {w : World} {x y : Operand} {ty t : TypeId} (k : IntKind) (u v : Int) (b : Bool) (hb : decide (u = v) = b) (ho : o.op = .binOp .eql ty x y t) (hx : ev x = .int k u) (hy : ev y = .int k v) : (execOp ev o).run P w = .ok (.value (.bool b)) w := by
 by_cases h : u = v
 ·rw [decide_eq_true h] at hb
  subst hb
  exact xo_eqlT k u v h ho hx hy
 ·rw [decide_eq_false h] at hb
  subst hb
  exact xo_eqlF k u v h ho hx hy
set_option maxRecDepth 100000 in
set_option maxHeartbeats 64000000 in
theorem total_as (kd col k : Nat) (A : Option Addr) (n c : Nat) (hs : List Hd) (fs : List (List Qu.Cd)) (hq : OkQ ⟨kd, col, k, fs⟩) (A2 : Option Addr) (n2 c2 : Nat) (xs : List (Nat → Nat)) (v : Nat) (hv : v < Ty.suN kd) (tt : Nat) (hT : Ty.toN ⟨kd, col, k, fs⟩ xs v = tt) (hlt : tt < 2 ^ 62) (w : World) (hF : FsR w A n c hs (fs.map (List.map Qu.Cd.ci))) (hL : Sg rdC 4 w A2 n2 c2 (xs.map Ty.rdX)) :
  Calls Tryd.prog 21 #[.agg #[.int .i64 (kd : Int), .int .i64 (col : Int), .int .i64 (k : Int), .slice A n c], .slice A2 n2 c2, .int .i64 (v : Int)] w fun e w' => e = .returned (.int .i64 (tt : Int)) ∧ Below w.heap.size w w' := by
 have HFR := zh hF
 have HLR := zh hL
 have HTT := zh hT
 have hk1 : 1 ≤ kd := hq.k1
 have hk7 : kd ≤ 7 := hq.k7
 have hcol : col < 4 := okQ_col hq
 have hkk : k ≤ 65536 := okQ_k hq
 have hnf : fs.length = Qu.numF kd := hq.nf
 have hu2 : v / 16 < fs.length := by rw [hnf]; exact Ty.su_num hv
 have h16 : kd ≠ 7 → v / 16 = 0 := fun h => by have := Ty.su_16 h hv; omega
 have hln := hF.sg.len
 have hlc := hF.sg.cap
 have hlt0 := hF.sg.top
 have hfl := hF.len
 rw [List.length_map] at hfl
 have hrn : xs.length = n2 := by have := hL.len; rwa [List.length_map] at this
 have hrc := hL.cap
 have hrt := hL.top
 obtain ⟨u, hu⟩ : ∃ z, v / 16 = z := ⟨_, rfl⟩
 have HU := zh hu
 clear hu
 obtain ⟨vm, hvm⟩ : ∃ z, v % 16 = z := ⟨_, rfl⟩
 have HVM := zh hvm
 clear hvm
 rw [HU.out] at hu2 h16
 have hv32 := Ty.su_le kd
 have hvl : v < 32 := Nat.lt_of_lt_of_le hv hv32
 clear hv32
 obtain ⟨l, hl⟩ : ∃ l, fs[u]? = some l := ⟨_, List.getElem?_eq_getElem hu2⟩
 obtain ⟨h, hh⟩ : ∃ h, hs[u]? = some h := ⟨_, List.getElem?_eq_getElem (by omega)⟩
 have HLL := zh hl
 have HH := zh hh
 have HC4 : Hid (∀ e ∈ l, e.col < 4) := zh (fun e he => ((hq.ok l (List.mem_of_getElem? hl)).2 e he).1)
 have HLM : Hid ((fs.map (List.map Qu.Cd.ci))[u]? = some (l.map Qu.Cd.ci)) := zh (by rw [List.getElem?_map, hl]; rfl)
 have HLV : Hid ((⟨kd, col, k, fs⟩ : Qu.Qy).fs[v / 16]? = some l) := zh (by rw [HU.out]; exact hl)
 obtain ⟨cc, hcc⟩ : ∃ z, (if kd = 7 then 0 else col) = z := ⟨_, rfl⟩
 have hcc4 : cc < 4 := by rw [← hcc]; split <;> omega
 have HCC := zh hcc
 have HTL := zh (fun i => Ty.to_pre ⟨kd, col, k, fs⟩ v i xs)
 clear hF hL hT hq hl hh hcc hv
 go_enter Tryd.func21, Tryd.ntmps21
 go_upto_region 1 with fail
 refine wp_named1 (fun V1 hb g0 hlt => ?_)
 have B0 := zh hb
 have Fv0_3 : Hid (V1.heap[w.heap.size]? = some (.cells #[.int .i64 (kd : Int), .int .i64 (col : Int), .int .i64 (k : Int), .slice A n c] 24 (0, 0))) := zh (g0)
 have Gb0 : Hid (w.heap.size ≤ w.heap.size) := zh (by omega)
 clear hb g0 hlt
 have Lt0 : Hid (w.heap.size < V1.heap.size) := zh (xp_lt Fv0_3.out)
 refine wp_region_lit ?_
 refine zr (.int .i64 0) V1 rfl ?_
 simp only [Act.put, zA]
 refine wpList_nil ?_
 go_upto_region 2 with fail
 refine wp_region_lit ?_
 refine zr (.int .i64 0) V1 rfl ?_
 simp only [Act.put, zA]
 refine wpList_nil ?_
 have O1 := Fv0_3.out
 have O2 := B0.out
 go_wp2_with fail
 go_loopw [7, 8] (fun a p wr => ∃ i : Nat, ∃ (o : Nat), i ≤ n2 ∧ p = .int .i64 i ∧ a = .int .i64 (o : Int) ∧ Ty.toN ⟨kd, col, k, fs⟩ (xs.take i) v = o ∧ wr.heap[w.heap.size]? = some (.cells #[.int .i64 (kd : Int), .int .i64 (col : Int), .int .i64 (k : Int), .slice A n c] 24 (0, 0)) ∧ Below w.heap.size w wr) (fun _ p _ => n2 - (intOf p).toNat)
 case atStart => exact ⟨0, 0, Nat.zero_le _, rfl, rfl, rfl, O1, O2⟩
 case round =>
  clear O1 O2
  obtain ⟨wo, rfl⟩ : ∃ wo : World, wo = wr := ⟨_, rfl⟩
  obtain ⟨i, o, hi, rfl, hHA, hHO, hr0, hb0⟩ := hrel
  have hbr := hb0
  clear B0
  have B0 := zh hbr
  clear hbr
  clear Fv0_3
  have Fv0_3 : Hid (wo.heap[w.heap.size]? = some (.cells #[.int .i64 (kd : Int), .int .i64 (col : Int), .int .i64 (k : Int), .slice A n c] 24 (0, 0))) := zh (hr0)
  have HA := zh hHA
  have HO := zh hHO
  clear hb0 hr0 hHA hHO
  have ea := HA.out
  subst ea
  clear HA
  by_cases hin : i < n2
  ·have hci4 : ((i : Int) < (n2 : Int)) := by omega
   obtain ⟨x, hx⟩ : ∃ x, xs[i]? = some x := ⟨_, List.getElem?_eq_getElem (by omega)⟩
   have HX := zh hx
   clear hx
   obtain ⟨r, hr⟩ : ∃ z, Ty.rdX x = z := ⟨_, rfl⟩
   have HRX := zh hr
   clear hr
   have HXR : Hid ((xs.map Ty.rdX)[i]? = some r) := zh (by rw [List.getElem?_map, HX.out, ← HRX.out]; rfl)
   obtain ⟨y, hy⟩ : ∃ z, x cc = z := ⟨_, rfl⟩
   have HY := zh hy
   clear hy
   have HYV : Hid (Qu.valR r cc = (y : Int)) := zh (by rw [← HRX.out, Ty.val_rd x hcc4, HY.out])
   obtain ⟨ad, had⟩ : ∃ z, Ty.adN ⟨kd, col, k, fs⟩ x v = z := ⟨_, rfl⟩
   have HAD := zh had
   clear had
   have hon : Ty.toN ⟨kd, col, k, fs⟩ (xs.take (i + 1)) v = o + ad := by rw [Ty.to_take HX.out, HO.out, HAD.out]
   have hol : o + ad < 2 ^ 62 := by have := HTL.out (i + 1); rw [hon, HTT.out] at this; omega
   have HON := zh hon
   clear hon
   go_upto_region 3 with fail
   refine wp_region_lit ?_
   refine zr (.int .i64 (i : Int)) wo rfl ?_
   simp only [Act.put, zA]
   refine zr (.slice A2 n2 c2) wo rfl ?_
   simp only [Act.put, zA]
   refine zr (.int .i64 (n2 : Int)) wo (xo_len A2 n2 c2 Tryd.underlying38 rfl rfl) ?_
   simp only [Act.put, zA]
   refine zr (.bool true) wo (xo_lssT .i64 (i : Int) (n2 : Int) (by omega) rfl rfl rfl) ?_
   simp only [Act.put, zA]
   refine wpList_nil ?_
   obtain ⟨hz0, hhz⟩ : ∃ h, hs[0]? = some h := ⟨_, List.getElem?_eq_getElem (by omega)⟩
   have HZ0 := zh hhz
   clear hhz
   go_upto_region 5 with fail
   refine wp_later_lex (by kernel_rfl) (lexOK_of (by kernel_rfl) (by kernel_rfl)) ?_
   refine zv (.pointer (some ⟨w.heap.size, 3, none⟩)) (fun v hv => (xo_fld0 3 w.heap.size 3 (by kernel_rfl) rfl rfl)) ?_
   simp only [Act.put, zA]
   refine zv (.slice A n c) (fun v hv => (xo_load1 ⟨w.heap.size, 3, none⟩ _ (cells_at (heap_keep Fv0_3.out (later_bel hv)) 3 rfl) Tryd.underlying22 rfl rfl rfl)) ?_
   simp only [Act.put, zA]
   refine zv (.pointer (some (gad A (0 * 1)))) (fun v hv => (xg_idx .i64 ((HFR.out.keep B0.out).keep (later_bel hv)).sg HZ0.out Tryd.underlying22 (by kernel_rfl) rfl rfl rfl)) ?_
   simp only [Act.put, zA]
   refine zv (.slice hz0.A hz0.n hz0.c) (fun v hv => (xg_load1 (E := hdC) (i := 0) (j := 0) ((HFR.out.keep B0.out).keep (later_bel hv)).sg HZ0.out rfl rfl Tryd.underlying44 rfl rfl rfl)) ?_
   simp only [Act.put, zA]
   refine zv (.pointer (some ⟨w.heap.size, 1, none⟩)) (fun v hv => (xo_fld0 1 w.heap.size 1 (by kernel_rfl) rfl rfl)) ?_
   simp only [Act.put, zA]
   refine zv (.int .i64 (col : Int)) (fun v hv => (xo_load1 ⟨w.heap.size, 1, none⟩ _ (cells_at (heap_keep Fv0_3.out (later_bel hv)) 1 rfl) Tryd.underlying3 rfl rfl rfl)) ?_
   simp only [Act.put, zA]
   refine zv (.slice hz0.A hz0.n hz0.c) (fun v hv => rfl) ?_
   simp only [Act.put, zA]
   refine zv (.int .i64 (col : Int)) (fun v hv => rfl) ?_
   simp only [Act.put, zA]
   refine wpQuiet_nil ?_
   intro X1_5
   have hb := X1_5.below
   generalize X1_5.at = V2 at *
   have B1 := zh hb
   clear hb
   obtain ⟨g7, hg7⟩ : ∃ z, decide ((kd : Int) = 7) = z := ⟨_, rfl⟩
   have HG7 := zh hg7
   clear hg7
   go_upto_region 6 with fail
   refine wp_region_lit ?_
   refine zr (.pointer (some ⟨w.heap.size, 0, none⟩)) V2 (xo_fld0 0 w.heap.size 0 (by kernel_rfl) rfl rfl) ?_
   simp only [Act.put, zA]
   refine zr (.int .i64 (kd : Int)) V2 (xo_load1 ⟨w.heap.size, 0, none⟩ _ (cells_at (heap_keep Fv0_3.out B1.out) 0 rfl) Tryd.underlying3 rfl rfl rfl) ?_
   simp only [Act.put, zA]
   refine zr (.bool g7) V2 (xo_eqlB .i64 (kd : Int) 7 g7 HG7.out rfl rfl rfl) ?_
   simp only [Act.put, zA]
   refine wpList_nil ?_
   go_upto_if 27 with fail
   go_cut [9, 10] from 13 to 80 (fun s9 s10 wx => s9 = .slice h.A h.n h.c ∧ s10 = .int .i64 (cc : Int) ∧ wx.heap[w.heap.size]? = some (.cells #[.int .i64 (kd : Int), .int .i64 (col : Int), .int .i64 (k : Int), .slice A n c] 24 (0, 0)) ∧ Below w.heap.size w wx)
   case first =>
    by_cases h7 : kd = 7
    ·obtain rfl : g7 = true := by rw [← HG7.out]; exact decide_eq_true (by omega)
     go_upto_region 7 with fail
     refine wp_region_lit ?_
     refine zr (.pointer (some ⟨w.heap.size, 3, none⟩)) V2 (xo_fld0 3 w.heap.size 3 (by kernel_rfl) rfl rfl) ?_
     simp only [Act.put, zA]
     refine zr (.slice A n c) V2 (xo_load1 ⟨w.heap.size, 3, none⟩ _ (cells_at (heap_keep Fv0_3.out B1.out) 3 rfl) Tryd.underlying22 rfl rfl rfl) ?_
     simp only [Act.put, zA]
     refine zr (.int .i64 (v : Int)) V2 rfl ?_
     simp only [Act.put, zA]
     refine zr (.int .i64 (u : Int)) V2 (xo_quoI v 16 u (by omega) HU.out (by omega) rfl rfl rfl) ?_
     simp only [Act.put, zA]
     have C0_2 := zb B0 B1
     refine zr (.pointer (some (gad A (u * 1)))) V2 (xg_idx .i64 (HFR.out.keep C0_2.out).sg HH.out Tryd.underlying22 (by kernel_rfl) rfl rfl rfl) ?_
     simp only [Act.put, zA]
     refine zr (.slice h.A h.n h.c) V2 (xg_load1 (E := hdC) (i := u) (j := 0) (HFR.out.keep C0_2.out).sg HH.out rfl rfl Tryd.underlying44 rfl rfl rfl) ?_
     simp only [Act.put, zA]
     refine zr (.slice h.A h.n h.c) V2 rfl ?_
     simp only [Act.put, zA]
     refine wpList_nil ?_
     go_upto_region 8 with fail
     refine wp_region_lit ?_
     refine zr (.int .i64 0) V2 rfl ?_
     simp only [Act.put, zA]
     refine wpList_nil ?_
     have hc0 : cc = 0 := by rw [← HCC.out]; exact if_pos h7
     have hm6 := (heap_keep Fv0_3.out B1.out)
     have hm7 := C0_2.out
     go_wp2_with fail
     go_meet
     case rel => exact ⟨rfl, (by rw [hc0]; rfl), hm6, hm7⟩
    ·obtain rfl : g7 = false := by rw [← HG7.out]; exact decide_eq_false (by omega)
     have hu0 : u = 0 := h16 h7
     obtain rfl : hz0 = h := by have h1 := HH.out; rw [hu0, HZ0.out] at h1; exact Option.some.inj h1
     have hc0 : cc = col := by rw [← HCC.out]; exact if_neg h7
     have hm6 := (heap_keep Fv0_3.out B1.out)
     have C0_2 := zb B0 B1
     have hm7 := C0_2.out
     go_wp2_with fail
     go_meet
     case rel => exact ⟨rfl, (by rw [hc0]), hm6, hm7⟩
   case rest =>
    obtain ⟨wc6, rfl⟩ : ∃ W, W = wc := ⟨_, rfl⟩
    obtain ⟨hs9, hs10, hr0, hb0⟩ := hcut
    have hbr := hb0
    clear B0
    have B0 := zh hbr
    clear hbr
    clear Fv0_3
    have Fv0_3 : Hid (wc6.heap[w.heap.size]? = some (.cells #[.int .i64 (kd : Int), .int .i64 (col : Int), .int .i64 (k : Int), .slice A n c] 24 (0, 0))) := zh (hr0)
    clear hb0 hr0
    subst hs9 hs10
    cases HMT : Ty.mtN l x with
    | false =>
     go_upto_region 9 with fail
     refine wp_region_lit ?_
     refine zr (.slice h.A h.n h.c) wc6 rfl ?_
     simp only [Act.put, zA]
     refine zr (.slice A2 n2 c2) wc6 rfl ?_
     simp only [Act.put, zA]
     refine zr (.int .i64 (i : Int)) wc6 rfl ?_
     simp only [Act.put, zA]
     refine zr (.pointer (some (gad A2 (i * 4)))) wc6 (xg_idx .i64 (HLR.out.keep B0.out) HXR.out Tryd.underlying38 (by kernel_rfl) rfl rfl rfl) ?_
     simp only [Act.put, zA]
     refine zr (.agg #[.int .i64 r.who, .int .i64 r.when_, .int .i64 r.kind, .int .i64 r.value]) wc6 (xg_loadE (E := rdC) (HLR.out.keep B0.out) HXR.out Tryd.underlying40 rfl (by kernel_rfl) rfl rfl) ?_
     simp only [Act.put, zA]
     refine wpList_call (by kernel_rfl) 27 Tryd.func27 (by kernel_rfl) (by kernel_rfl) _ _ #[.slice h.A h.n h.c, .agg #[.int .i64 r.who, .int .i64 r.when_, .int .i64 r.kind, .int .i64 r.value]] rfl (by kernel_rfl) ?_
     refine (rmatch_as h.A h.n h.c (l.map Qu.Cd.ci) (Ty.isc_ci HC4.out) r false (by rw [← HRX.out]; exact Ty.mt_rd HC4.out x HMT) wc6 ((HFR.out.keep B0.out).row u h (l.map Qu.Cd.ci) HH.out HLM.out)).mono ?_
     rintro e V2 ⟨rfl, hb⟩
     have B1 := zh hb
     clear hb 
     refine ⟨_, rfl, ?_⟩
     simp only [Act.put, zA]
     refine zr (.bool true) V2 rfl ?_
     simp only [Act.put, zA]
     refine wpList_nil ?_
     go_upto_region 4 with fail
     refine wp_region_lit ?_
     refine zr (.int .i64 (i : Int)) V2 rfl ?_
     simp only [Act.put, zA]
     refine zr (.int .i64 ((i + 1 : Nat) : Int)) V2 (xo_addI (i : Int) 1 ((i + 1 : Nat) : Int) (by omega) (by omega) (by omega) rfl rfl rfl) ?_
     simp only [Act.put, zA]
     refine zr (.int .i64 ((i + 1 : Nat) : Int)) V2 rfl ?_
     simp only [Act.put, zA]
     refine wpList_nil ?_
     have hae : ad = 0 := by rw [← HAD.out]; exact Ty.ad_no HLV.out HMT
     have hon2 := HON.out
     rw [hae, Nat.add_zero] at hon2
     have hq8 := (heap_keep Fv0_3.out B1.out)
     have C0_2 := zb B0 B1
     have hq9 := C0_2.out
     go_wp2_with fail
     go_roundw
     case rel => exact ⟨i + 1, o, by omega, by go_num, rfl, hon2, hq8, hq9⟩
     case measure => simp [intOf]; omega
    | true =>
     go_upto_region 9 with fail
     refine wp_region_lit ?_
     refine zr (.slice h.A h.n h.c) wc6 rfl ?_
     simp only [Act.put, zA]
     refine zr (.slice A2 n2 c2) wc6 rfl ?_
     simp only [Act.put, zA]
     refine zr (.int .i64 (i : Int)) wc6 rfl ?_
     simp only [Act.put, zA]
     refine zr (.pointer (some (gad A2 (i * 4)))) wc6 (xg_idx .i64 (HLR.out.keep B0.out) HXR.out Tryd.underlying38 (by kernel_rfl) rfl rfl rfl) ?_
     simp only [Act.put, zA]
     refine zr (.agg #[.int .i64 r.who, .int .i64 r.when_, .int .i64 r.kind, .int .i64 r.value]) wc6 (xg_loadE (E := rdC) (HLR.out.keep B0.out) HXR.out Tryd.underlying40 rfl (by kernel_rfl) rfl rfl) ?_
     simp only [Act.put, zA]
     refine wpList_call (by kernel_rfl) 27 Tryd.func27 (by kernel_rfl) (by kernel_rfl) _ _ #[.slice h.A h.n h.c, .agg #[.int .i64 r.who, .int .i64 r.when_, .int .i64 r.kind, .int .i64 r.value]] rfl (by kernel_rfl) ?_
     refine (rmatch_as h.A h.n h.c (l.map Qu.Cd.ci) (Ty.isc_ci HC4.out) r true (by rw [← HRX.out]; exact Ty.mt_rd HC4.out x HMT) wc6 ((HFR.out.keep B0.out).row u h (l.map Qu.Cd.ci) HH.out HLM.out)).mono ?_
     rintro e V2 ⟨rfl, hb⟩
     have B1 := zh hb
     clear hb 
     refine ⟨_, rfl, ?_⟩
     simp only [Act.put, zA]
     refine zr (.bool false) V2 rfl ?_
     simp only [Act.put, zA]
     refine wpList_nil ?_
     go_upto_region 10 with fail
     refine wp_region_lit ?_
     refine zr (.int .i64 1) V2 rfl ?_
     simp only [Act.put, zA]
     refine wpList_nil ?_
     go_upto_region 11 with fail
     refine wp_region_lit ?_
     refine zr (.pointer (some ⟨w.heap.size, 0, none⟩)) V2 (xo_fld0 0 w.heap.size 0 (by kernel_rfl) rfl rfl) ?_
     simp only [Act.put, zA]
     refine zr (.int .i64 (kd : Int)) V2 (xo_load1 ⟨w.heap.size, 0, none⟩ _ (cells_at (heap_keep Fv0_3.out B1.out) 0 rfl) Tryd.underlying3 rfl rfl rfl) ?_
     simp only [Act.put, zA]
     refine wpList_nil ?_
     by_cases hj1 : kd = 1
     ·have hci8 : ((kd : Int) = 1) := by omega
      go_upto_region 14 with fail
      refine wp_region_lit ?_
      refine zr (.bool true) V2 (xo_eqlT .i64 (kd : Int) 1 (by omega) rfl rfl rfl) ?_
      simp only [Act.put, zA]
      refine zr (.bool true) V2 rfl ?_
      simp only [Act.put, zA]
      refine wpList_nil ?_
      have hae : ad = 1 := by rw [← HAD.out]; exact Ty.ad_1 (q := ⟨kd, col, k, fs⟩) HLV.out HMT hj1
      have hon2 := HON.out
      rw [hae] at hon2 hol
      go_upto_region 22 with fail
      refine wp_region_lit ?_
      refine zr (.int .i64 (o : Int)) V2 rfl ?_
      simp only [Act.put, zA]
      refine zr (.int .i64 1) V2 rfl ?_
      simp only [Act.put, zA]
      refine zr (.int .i64 ((o + 1 : Nat) : Int)) V2 (xo_addI (o : Int) 1 ((o + 1 : Nat) : Int) (by omega) (by omega) (by omega) rfl rfl rfl) ?_
      simp only [Act.put, zA]
      refine zr (.int .i64 ((o + 1 : Nat) : Int)) V2 rfl ?_
      simp only [Act.put, zA]
      refine wpList_nil ?_
      go_upto_region 4 with fail
      refine wp_region_lit ?_
      refine zr (.int .i64 (i : Int)) V2 rfl ?_
      simp only [Act.put, zA]
      refine zr (.int .i64 ((i + 1 : Nat) : Int)) V2 (xo_addI (i : Int) 1 ((i + 1 : Nat) : Int) (by omega) (by omega) (by omega) rfl rfl rfl) ?_
      simp only [Act.put, zA]
      refine zr (.int .i64 ((i + 1 : Nat) : Int)) V2 rfl ?_
      simp only [Act.put, zA]
      refine wpList_nil ?_
      have hq9 := (heap_keep Fv0_3.out B1.out)
      have C0_2 := zb B0 B1
      have hq10 := C0_2.out
      go_wp2_with fail
      go_roundw
      case rel => exact ⟨i + 1, o + 1, by omega, by go_num, rfl, hon2, hq9, hq10⟩
      case measure => simp [intOf]; omega
     ·by_cases hj2 : kd = 2
      ·have hci8 : ¬ ((kd : Int) = 1) := by omega
       go_upto_region 14 with fail
       refine wp_region_lit ?_
       refine zr (.bool false) V2 (xo_eqlF .i64 (kd : Int) 1 (by omega) rfl rfl rfl) ?_
       simp only [Act.put, zA]
       refine zr (.bool false) V2 rfl ?_
       simp only [Act.put, zA]
       refine wpList_nil ?_
       have hci9 : ((kd : Int) = 2) := by omega
       go_upto_region 15 with fail
       refine wp_region_lit ?_
       refine zr (.bool true) V2 (xo_eqlT .i64 (kd : Int) 2 (by omega) rfl rfl rfl) ?_
       simp only [Act.put, zA]
       refine zr (.bool true) V2 rfl ?_
       simp only [Act.put, zA]
       refine wpList_nil ?_
       go_upto_region 16 with fail
       refine wp_region_lit ?_
       refine zr (.slice A2 n2 c2) V2 rfl ?_
       simp only [Act.put, zA]
       refine zr (.int .i64 (i : Int)) V2 rfl ?_
       simp only [Act.put, zA]
       have C0_2 := zb B0 B1
       refine zr (.pointer (some (gad A2 (i * 4)))) V2 (xg_idx .i64 (HLR.out.keep C0_2.out) HXR.out Tryd.underlying38 (by kernel_rfl) rfl rfl rfl) ?_
       simp only [Act.put, zA]
       refine zr (.agg #[.int .i64 r.who, .int .i64 r.when_, .int .i64 r.kind, .int .i64 r.value]) V2 (xg_loadE (E := rdC) (HLR.out.keep C0_2.out) HXR.out Tryd.underlying40 rfl (by kernel_rfl) rfl rfl) ?_
       simp only [Act.put, zA]
       refine zr (.int .i64 (cc : Int)) V2 rfl ?_
       simp only [Act.put, zA]
       refine wpList_call (by kernel_rfl) 38 Tryd.func38 (by kernel_rfl) (by kernel_rfl) _ _ #[.agg #[.int .i64 r.who, .int .i64 r.when_, .int .i64 r.kind, .int .i64 r.value], .int .i64 (cc : Int)] rfl (by kernel_rfl) ?_
       refine (field_as r cc (y : Int) hcc4 HYV.out V2).mono ?_
       rintro e V3 ⟨rfl, hb⟩
       have B2 := zh hb
       clear hb 
       refine ⟨_, rfl, ?_⟩
       simp only [Act.put, zA]
       refine zr (.int .i64 (y : Int)) V3 rfl ?_
       simp only [Act.put, zA]
       refine wpList_nil ?_
       have hc0 : cc = col := by rw [← HCC.out]; exact if_neg (by omega)
       have hae : ad = y := by rw [← HAD.out]; rw [Ty.ad_2 (q := ⟨kd, col, k, fs⟩) HLV.out HMT hj2, ← HY.out, hc0]
       have hon2 := HON.out
       rw [hae] at hon2 hol
       go_upto_region 22 with fail
       refine wp_region_lit ?_
       refine zr (.int .i64 (o : Int)) V3 rfl ?_
       simp only [Act.put, zA]
       refine zr (.int .i64 (y : Int)) V3 rfl ?_
       simp only [Act.put, zA]
       refine zr (.int .i64 ((o + y : Nat) : Int)) V3 (xo_addI (o : Int) (y : Int) ((o + y : Nat) : Int) (by omega) (by omega) (by omega) rfl rfl rfl) ?_
       simp only [Act.put, zA]
       refine zr (.int .i64 ((o + y : Nat) : Int)) V3 rfl ?_
       simp only [Act.put, zA]
       refine wpList_nil ?_
       go_upto_region 4 with fail
       refine wp_region_lit ?_
       refine zr (.int .i64 (i : Int)) V3 rfl ?_
       simp only [Act.put, zA]
       refine zr (.int .i64 ((i + 1 : Nat) : Int)) V3 (xo_addI (i : Int) 1 ((i + 1 : Nat) : Int) (by omega) (by omega) (by omega) rfl rfl rfl) ?_
       simp only [Act.put, zA]
       refine zr (.int .i64 ((i + 1 : Nat) : Int)) V3 rfl ?_
       simp only [Act.put, zA]
       refine wpList_nil ?_
       have C1_3 := zb B1 B2
       have hq10 := (heap_keep Fv0_3.out C1_3.out)
       have C0_3 := zb C0_2 B2
       have hq11 := C0_3.out
       go_wp2_with fail
       go_roundw
       case rel => exact ⟨i + 1, o + y, by omega, by go_num, rfl, hon2, hq10, hq11⟩
       case measure => simp [intOf]; omega
      ·by_cases hj3 : kd = 3
       ·have hci8 : ¬ ((kd : Int) = 1) := by omega
        go_upto_region 14 with fail
        refine wp_region_lit ?_
        refine zr (.bool false) V2 (xo_eqlF .i64 (kd : Int) 1 (by omega) rfl rfl rfl) ?_
        simp only [Act.put, zA]
        refine zr (.bool false) V2 rfl ?_
        simp only [Act.put, zA]
        refine wpList_nil ?_
        have hci9 : ¬ ((kd : Int) = 2) := by omega
        go_upto_region 15 with fail
        refine wp_region_lit ?_
        refine zr (.bool false) V2 (xo_eqlF .i64 (kd : Int) 2 (by omega) rfl rfl rfl) ?_
        simp only [Act.put, zA]
        refine zr (.bool false) V2 rfl ?_
        simp only [Act.put, zA]
        refine wpList_nil ?_
        have hci10 : ((kd : Int) = 3) := by omega
        go_upto_region 17 with fail
        refine wp_region_lit ?_
        refine zr (.bool true) V2 (xo_eqlT .i64 (kd : Int) 3 (by omega) rfl rfl rfl) ?_
        simp only [Act.put, zA]
        refine zr (.bool true) V2 rfl ?_
        simp only [Act.put, zA]
        refine wpList_nil ?_
        go_upto_region 18 with fail
        refine wp_region_lit ?_
        refine zr (.int .i64 0) V2 rfl ?_
        simp only [Act.put, zA]
        refine wpList_nil ?_
        have hc0 : cc = col := by rw [← HCC.out]; exact if_neg (by omega)
        have hay : y ^ k = ad := by rw [← HAD.out, Ty.ad_3 (q := ⟨kd, col, k, fs⟩) HLV.out HMT hj3, ← HY.out, hc0]
        have HAY := zh hay
        clear hay
        have O11 := (heap_keep Fv0_3.out B1.out)
        have C0_2 := zb B0 B1
        have O12 := C0_2.out
        go_wp2_with fail
        go_loopw [11, 12] (fun b p wr => ∃ j : Nat, ∃ (pp : Nat), j ≤ k ∧ p = .int .i64 j ∧ b = .int .i64 (pp : Int) ∧ y ^ j = pp ∧ wr.heap[w.heap.size]? = some (.cells #[.int .i64 (kd : Int), .int .i64 (col : Int), .int .i64 (k : Int), .slice A n c] 24 (0, 0)) ∧ Below w.heap.size w wr) (fun _ p _ => k - (intOf p).toNat)
        case atStart => exact ⟨0, 1, Nat.zero_le _, rfl, rfl, (Nat.pow_zero y), O11, O12⟩
        case round =>
         clear O11 O12
         obtain ⟨wq, rfl⟩ : ∃ wq : World, wq = wr := ⟨_, rfl⟩
         obtain ⟨j, pp, hi, rfl, hHB, hHPP, hr0, hb0⟩ := hrel
         have hbr := hb0
         clear B0
         have B0 := zh hbr
         clear hbr
         clear Fv0_3
         have Fv0_3 : Hid (wq.heap[w.heap.size]? = some (.cells #[.int .i64 (kd : Int), .int .i64 (col : Int), .int .i64 (k : Int), .slice A n c] 24 (0, 0))) := zh (hr0)
         have HB := zh hHB
         have HPP := zh hHPP
         clear hb0 hr0 hHB hHPP
         have eb := HB.out
         subst eb
         clear HB
         by_cases hjk : j < k
         ·have hci14 : ((j : Int) < (k : Int)) := by omega
          go_upto_region 19 with fail
          refine wp_region_lit ?_
          refine zr (.int .i64 (j : Int)) wq rfl ?_
          simp only [Act.put, zA]
          refine zr (.pointer (some ⟨w.heap.size, 2, none⟩)) wq (xo_fld0 2 w.heap.size 2 (by kernel_rfl) rfl rfl) ?_
          simp only [Act.put, zA]
          refine zr (.int .i64 (k : Int)) wq (xo_load1 ⟨w.heap.size, 2, none⟩ _ (cells_at Fv0_3.out 2 rfl) Tryd.underlying3 rfl rfl rfl) ?_
          simp only [Act.put, zA]
          refine zr (.bool true) wq (xo_lssT .i64 (j : Int) (k : Int) (by omega) rfl rfl rfl) ?_
          simp only [Act.put, zA]
          refine wpList_nil ?_
          obtain ⟨p2, hp2⟩ : ∃ z, pp * y = z := ⟨_, rfl⟩
          have HP2 := zh hp2
          clear hp2
          have hpe : y ^ (j + 1) = p2 := by rw [Nat.pow_succ, HPP.out, HP2.out]
          have hpl : p2 < 2 ^ 62 := by have := Ty.pw_pre (y := y) (show j + 1 ≤ k by omega); rw [hpe, HAY.out] at this; omega
          have HPE := zh hpe
          clear hpe
          go_upto_region 21 with fail
          refine wp_region_lit ?_
          refine zr (.int .i64 (pp : Int)) wq rfl ?_
          simp only [Act.put, zA]
          refine zr (.slice A2 n2 c2) wq rfl ?_
          simp only [Act.put, zA]
          refine zr (.int .i64 (i : Int)) wq rfl ?_
          simp only [Act.put, zA]
          refine zr (.pointer (some (gad A2 (i * 4)))) wq (xg_idx .i64 (HLR.out.keep B0.out) HXR.out Tryd.underlying38 (by kernel_rfl) rfl rfl rfl) ?_
          simp only [Act.put, zA]
          refine zr (.agg #[.int .i64 r.who, .int .i64 r.when_, .int .i64 r.kind, .int .i64 r.value]) wq (xg_loadE (E := rdC) (HLR.out.keep B0.out) HXR.out Tryd.underlying40 rfl (by kernel_rfl) rfl rfl) ?_
          simp only [Act.put, zA]
          refine zr (.int .i64 (cc : Int)) wq rfl ?_
          simp only [Act.put, zA]
          refine wpList_call (by kernel_rfl) 38 Tryd.func38 (by kernel_rfl) (by kernel_rfl) _ _ #[.agg #[.int .i64 r.who, .int .i64 r.when_, .int .i64 r.kind, .int .i64 r.value], .int .i64 (cc : Int)] rfl (by kernel_rfl) ?_
          refine (field_as r cc (y : Int) hcc4 HYV.out wq).mono ?_
          rintro e V2 ⟨rfl, hb⟩
          have B1 := zh hb
          clear hb 
          refine ⟨_, rfl, ?_⟩
          simp only [Act.put, zA]
          refine zr (.int .i64 (p2 : Int)) V2 (xo_mulI (pp : Int) (y : Int) (p2 : Int) (by rw [← HP2.out]; exact Int.natCast_mul pp y) (by omega) (by omega) rfl rfl rfl) ?_
          simp only [Act.put, zA]
          refine zr (.int .i64 (p2 : Int)) V2 rfl ?_
          simp only [Act.put, zA]
          refine wpList_nil ?_
          go_upto_region 20 with fail
          refine wp_region_lit ?_
          refine zr (.int .i64 (j : Int)) V2 rfl ?_
          simp only [Act.put, zA]
          refine zr (.int .i64 ((j + 1 : Nat) : Int)) V2 (xo_addI (j : Int) 1 ((j + 1 : Nat) : Int) (by omega) (by omega) (by omega) rfl rfl rfl) ?_
          simp only [Act.put, zA]
          refine zr (.int .i64 ((j + 1 : Nat) : Int)) V2 rfl ?_
          simp only [Act.put, zA]
          refine wpList_nil ?_
          have hq15 := (heap_keep Fv0_3.out B1.out)
          have C0_2 := zb B0 B1
          have hq16 := C0_2.out
          go_wp2_with fail
          go_roundw
          case rel => exact ⟨j + 1, p2, by omega, by go_num, rfl, HPE.out, hq15, hq16⟩
          case measure => simp [intOf]; omega
         ·have hci14 : ¬ ((j : Int) < (k : Int)) := by omega
          go_upto_region 19 with fail
          refine wp_region_lit ?_
          refine zr (.int .i64 (j : Int)) wq rfl ?_
          simp only [Act.put, zA]
          refine zr (.pointer (some ⟨w.heap.size, 2, none⟩)) wq (xo_fld0 2 w.heap.size 2 (by kernel_rfl) rfl rfl) ?_
          simp only [Act.put, zA]
          refine zr (.int .i64 (k : Int)) wq (xo_load1 ⟨w.heap.size, 2, none⟩ _ (cells_at Fv0_3.out 2 rfl) Tryd.underlying3 rfl rfl rfl) ?_
          simp only [Act.put, zA]
          refine zr (.bool false) wq (xo_lssF .i64 (j : Int) (k : Int) (by omega) rfl rfl rfl) ?_
          simp only [Act.put, zA]
          refine wpList_nil ?_
          obtain rfl : j = k := by omega
          have hpa : pp = ad := by rw [← HPP.out]; exact HAY.out
          have hon2 := HON.out
          rw [← hpa] at hon2 hol
          go_upto_region 22 with fail
          refine wp_region_lit ?_
          refine zr (.int .i64 (o : Int)) wq rfl ?_
          simp only [Act.put, zA]
          refine zr (.int .i64 (pp : Int)) wq rfl ?_
          simp only [Act.put, zA]
          refine zr (.int .i64 ((o + pp : Nat) : Int)) wq (xo_addI (o : Int) (pp : Int) ((o + pp : Nat) : Int) (by omega) (by omega) (by omega) rfl rfl rfl) ?_
          simp only [Act.put, zA]
          refine zr (.int .i64 ((o + pp : Nat) : Int)) wq rfl ?_
          simp only [Act.put, zA]
          refine wpList_nil ?_
          go_upto_region 4 with fail
          refine wp_region_lit ?_
          refine zr (.int .i64 (i : Int)) wq rfl ?_
          simp only [Act.put, zA]
          refine zr (.int .i64 ((i + 1 : Nat) : Int)) wq (xo_addI (i : Int) 1 ((i + 1 : Nat) : Int) (by omega) (by omega) (by omega) rfl rfl rfl) ?_
          simp only [Act.put, zA]
          refine zr (.int .i64 ((i + 1 : Nat) : Int)) wq rfl ?_
          simp only [Act.put, zA]
          refine wpList_nil ?_
          have hq15 := Fv0_3.out
          have hq16 := B0.out
          go_wp2_with fail
          go_roundw
          case rel => exact ⟨i + 1, o + pp, by omega, by go_num, rfl, hon2, hq15, hq16⟩
          case measure => simp [intOf]; omega
       ·have hci8 : ¬ ((kd : Int) = 1) := by omega
        go_upto_region 14 with fail
        refine wp_region_lit ?_
        refine zr (.bool false) V2 (xo_eqlF .i64 (kd : Int) 1 (by omega) rfl rfl rfl) ?_
        simp only [Act.put, zA]
        refine zr (.bool false) V2 rfl ?_
        simp only [Act.put, zA]
        refine wpList_nil ?_
        have hci9 : ¬ ((kd : Int) = 2) := by omega
        go_upto_region 15 with fail
        refine wp_region_lit ?_
        refine zr (.bool false) V2 (xo_eqlF .i64 (kd : Int) 2 (by omega) rfl rfl rfl) ?_
        simp only [Act.put, zA]
        refine zr (.bool false) V2 rfl ?_
        simp only [Act.put, zA]
        refine wpList_nil ?_
        have hci10 : ¬ ((kd : Int) = 3) := by omega
        go_upto_region 17 with fail
        refine wp_region_lit ?_
        refine zr (.bool false) V2 (xo_eqlF .i64 (kd : Int) 3 (by omega) rfl rfl rfl) ?_
        simp only [Act.put, zA]
        refine zr (.bool false) V2 rfl ?_
        simp only [Act.put, zA]
        refine wpList_nil ?_
        by_cases hyv : y = vm
        ·have hci11 : ¬ ((y : Int) ≠ (vm : Int)) := by omega
         go_upto_region 12 with fail
         refine wp_region_lit ?_
         refine zr (.slice A2 n2 c2) V2 rfl ?_
         simp only [Act.put, zA]
         refine zr (.int .i64 (i : Int)) V2 rfl ?_
         simp only [Act.put, zA]
         have C0_2 := zb B0 B1
         refine zr (.pointer (some (gad A2 (i * 4)))) V2 (xg_idx .i64 (HLR.out.keep C0_2.out) HXR.out Tryd.underlying38 (by kernel_rfl) rfl rfl rfl) ?_
         simp only [Act.put, zA]
         refine zr (.agg #[.int .i64 r.who, .int .i64 r.when_, .int .i64 r.kind, .int .i64 r.value]) V2 (xg_loadE (E := rdC) (HLR.out.keep C0_2.out) HXR.out Tryd.underlying40 rfl (by kernel_rfl) rfl rfl) ?_
         simp only [Act.put, zA]
         refine zr (.int .i64 (cc : Int)) V2 rfl ?_
         simp only [Act.put, zA]
         refine wpList_call (by kernel_rfl) 38 Tryd.func38 (by kernel_rfl) (by kernel_rfl) _ _ #[.agg #[.int .i64 r.who, .int .i64 r.when_, .int .i64 r.kind, .int .i64 r.value], .int .i64 (cc : Int)] rfl (by kernel_rfl) ?_
         refine (field_as r cc (y : Int) hcc4 HYV.out V2).mono ?_
         rintro e V3 ⟨rfl, hb⟩
         have B2 := zh hb
         clear hb 
         refine ⟨_, rfl, ?_⟩
         simp only [Act.put, zA]
         refine zr (.int .i64 (v : Int)) V3 rfl ?_
         simp only [Act.put, zA]
         refine zr (.int .i64 (vm : Int)) V3 (xo_remN .i64 v 16 vm (by omega) HVM.out rfl rfl rfl) ?_
         simp only [Act.put, zA]
         refine zr (.bool false) V3 (xo_neqF .i64 (y : Int) (vm : Int) (by omega) rfl rfl rfl) ?_
         simp only [Act.put, zA]
         refine wpList_nil ?_
         have hae : ad = 1 := by rw [← HAD.out]; rw [Ty.ad_d (q := ⟨kd, col, k, fs⟩) HLV.out HMT (show 4 ≤ kd by omega) HCC.out, HY.out, HVM.out]; exact if_pos hyv
         have hon2 := HON.out
         rw [hae] at hon2 hol
         go_upto_region 22 with fail
         refine wp_region_lit ?_
         refine zr (.int .i64 (o : Int)) V3 rfl ?_
         simp only [Act.put, zA]
         refine zr (.int .i64 1) V3 rfl ?_
         simp only [Act.put, zA]
         refine zr (.int .i64 ((o + 1 : Nat) : Int)) V3 (xo_addI (o : Int) 1 ((o + 1 : Nat) : Int) (by omega) (by omega) (by omega) rfl rfl rfl) ?_
         simp only [Act.put, zA]
         refine zr (.int .i64 ((o + 1 : Nat) : Int)) V3 rfl ?_
         simp only [Act.put, zA]
         refine wpList_nil ?_
         go_upto_region 4 with fail
         refine wp_region_lit ?_
         refine zr (.int .i64 (i : Int)) V3 rfl ?_
         simp only [Act.put, zA]
         refine zr (.int .i64 ((i + 1 : Nat) : Int)) V3 (xo_addI (i : Int) 1 ((i + 1 : Nat) : Int) (by omega) (by omega) (by omega) rfl rfl rfl) ?_
         simp only [Act.put, zA]
         refine zr (.int .i64 ((i + 1 : Nat) : Int)) V3 rfl ?_
         simp only [Act.put, zA]
         refine wpList_nil ?_
         have C1_3 := zb B1 B2
         have hq12 := (heap_keep Fv0_3.out C1_3.out)
         have C0_3 := zb C0_2 B2
         have hq13 := C0_3.out
         go_wp2_with fail
         go_roundw
         case rel => exact ⟨i + 1, o + 1, by omega, by go_num, rfl, hon2, hq12, hq13⟩
         case measure => simp [intOf]; omega
        ·have hci11 : ((y : Int) ≠ (vm : Int)) := by omega
         go_upto_region 12 with fail
         refine wp_region_lit ?_
         refine zr (.slice A2 n2 c2) V2 rfl ?_
         simp only [Act.put, zA]
         refine zr (.int .i64 (i : Int)) V2 rfl ?_
         simp only [Act.put, zA]
         have C0_2 := zb B0 B1
         refine zr (.pointer (some (gad A2 (i * 4)))) V2 (xg_idx .i64 (HLR.out.keep C0_2.out) HXR.out Tryd.underlying38 (by kernel_rfl) rfl rfl rfl) ?_
         simp only [Act.put, zA]
         refine zr (.agg #[.int .i64 r.who, .int .i64 r.when_, .int .i64 r.kind, .int .i64 r.value]) V2 (xg_loadE (E := rdC) (HLR.out.keep C0_2.out) HXR.out Tryd.underlying40 rfl (by kernel_rfl) rfl rfl) ?_
         simp only [Act.put, zA]
         refine zr (.int .i64 (cc : Int)) V2 rfl ?_
         simp only [Act.put, zA]
         refine wpList_call (by kernel_rfl) 38 Tryd.func38 (by kernel_rfl) (by kernel_rfl) _ _ #[.agg #[.int .i64 r.who, .int .i64 r.when_, .int .i64 r.kind, .int .i64 r.value], .int .i64 (cc : Int)] rfl (by kernel_rfl) ?_
         refine (field_as r cc (y : Int) hcc4 HYV.out V2).mono ?_
         rintro e V3 ⟨rfl, hb⟩
         have B2 := zh hb
         clear hb 
         refine ⟨_, rfl, ?_⟩
         simp only [Act.put, zA]
         refine zr (.int .i64 (v : Int)) V3 rfl ?_
         simp only [Act.put, zA]
         refine zr (.int .i64 (vm : Int)) V3 (xo_remN .i64 v 16 vm (by omega) HVM.out rfl rfl rfl) ?_
         simp only [Act.put, zA]
         refine zr (.bool true) V3 (xo_neqT .i64 (y : Int) (vm : Int) (by omega) rfl rfl rfl) ?_
         simp only [Act.put, zA]
         refine wpList_nil ?_
         go_upto_region 13 with fail
         refine wp_region_lit ?_
         refine zr (.int .i64 0) V3 rfl ?_
         simp only [Act.put, zA]
         refine wpList_nil ?_
         have hae : ad = 0 := by rw [← HAD.out]; rw [Ty.ad_d (q := ⟨kd, col, k, fs⟩) HLV.out HMT (show 4 ≤ kd by omega) HCC.out, HY.out, HVM.out]; exact if_neg hyv
         have hon2 := HON.out
         rw [hae] at hon2 hol
         go_upto_region 22 with fail
         refine wp_region_lit ?_
         refine zr (.int .i64 (o : Int)) V3 rfl ?_
         simp only [Act.put, zA]
         refine zr (.int .i64 0) V3 rfl ?_
         simp only [Act.put, zA]
         refine zr (.int .i64 ((o + 0 : Nat) : Int)) V3 (xo_addI (o : Int) 0 ((o + 0 : Nat) : Int) (by omega) (by omega) (by omega) rfl rfl rfl) ?_
         simp only [Act.put, zA]
         refine zr (.int .i64 ((o + 0 : Nat) : Int)) V3 rfl ?_
         simp only [Act.put, zA]
         refine wpList_nil ?_
         go_upto_region 4 with fail
         refine wp_region_lit ?_
         refine zr (.int .i64 (i : Int)) V3 rfl ?_
         simp only [Act.put, zA]
         refine zr (.int .i64 ((i + 1 : Nat) : Int)) V3 (xo_addI (i : Int) 1 ((i + 1 : Nat) : Int) (by omega) (by omega) (by omega) rfl rfl rfl) ?_
         simp only [Act.put, zA]
         refine zr (.int .i64 ((i + 1 : Nat) : Int)) V3 rfl ?_
         simp only [Act.put, zA]
         refine wpList_nil ?_
         have C1_3 := zb B1 B2
         have hq12 := (heap_keep Fv0_3.out C1_3.out)
         have C0_3 := zb C0_2 B2
         have hq13 := C0_3.out
         go_wp2_with fail
         go_roundw
         case rel => exact ⟨i + 1, o + 0, by omega, by go_num, rfl, hon2, hq12, hq13⟩
         case measure => simp [intOf]; omega
  ·have hci4 : ¬ ((i : Int) < (n2 : Int)) := by omega
   go_upto_region 3 with fail
   refine wp_region_lit ?_
   refine zr (.int .i64 (i : Int)) wo rfl ?_
   simp only [Act.put, zA]
   refine zr (.slice A2 n2 c2) wo rfl ?_
   simp only [Act.put, zA]
   refine zr (.int .i64 (n2 : Int)) wo (xo_len A2 n2 c2 Tryd.underlying38 rfl rfl) ?_
   simp only [Act.put, zA]
   refine zr (.bool false) wo (xo_lssF .i64 (i : Int) (n2 : Int) (by omega) rfl rfl rfl) ?_
   simp only [Act.put, zA]
   refine wpList_nil ?_
   go_upto_region 23 with fail
   refine wp_region_lit ?_
   refine zr (.int .i64 (o : Int)) wo rfl ?_
   simp only [Act.put, zA]
   refine zr (.int .i64 (o : Int)) wo rfl ?_
   simp only [Act.put, zA]
   refine wpList_nil ?_
   have hot : o = tt := by rw [← HO.out, ← HTT.out, List.take_of_length_le (by omega)]
   subst hot
   have hbf := B0.out
   go_wp2_with fail
   go_ret
   exact ⟨rfl, hbf⟩
end Go.Proofs.YtbecajihgbbgjaaDoor

namespace Go.Proofs.YtbecajihgbbgjaaDoor
set_option maxRecDepth 8000
namespace Ty
/-- the reading with the largest values, one of them given -/
def exN (l : List Qu.Cd) (col : Nat) (want : Option Nat) (c : Nat) : Nat := match want with
 | some v => if c = col then v else (spC l c).2
 | none => (spC l c).2
theorem ex_none {l : List Qu.Cd} (hl : ∀ e ∈ l, e.col < 4) (hs : satN l = true) (col : Nat) : mtN l (exN l col none) = true :=
 mt_of hl fun c hc => (pos_iff l c _).2 ⟨(sat_iff l).1 hs c hc, Nat.le_refl _⟩
theorem ex_some {l : List Qu.Cd} (hl : ∀ e ∈ l, e.col < 4) (hs : satN l = true) {col v : Nat} (hp : posN l col v = true) : mtN l (exN l col (some v)) = true :=
 mt_of hl fun c hc => by
  unfold exN
  by_cases he : c = col
  ·simp only [he, if_true]
   exact hp
  ·simp only [if_neg he]
   exact (pos_iff l c _).2 ⟨(sat_iff l).1 hs c hc, Nat.le_refl _⟩
/-- P14.3: the extreme reading attains the bound -/
theorem tight_one {q : Qu.Qy} {v : Nat} (hk : 1 ≤ q.kind ∧ q.kind ≤ 7) (hv : v < suN q.kind) (hl : ∀ e ∈ ruN q v, e.col < 4) (h0 : oneN q v ≠ 0) :
  adN q (exN (ruN q v) (if q.kind = 7 then 0 else q.col) (if 4 ≤ q.kind then some (v % 16) else none)) v = oneN q v := by
 have hs : satN (ruN q v) = true := by
  cases h : satN (ruN q v) with
  | true => rfl
  | false => exact absurd (by unfold oneN; rw [h]; rfl) h0
 unfold oneN at h0 ⊢
 rw [if_pos hs] at h0 ⊢
 obtain ⟨k, col, kk, fs⟩ := q
 obtain ⟨h1, h7⟩ := hk
 simp only at h1 h7 hv hs hl h0 ⊢
 have hgrp : ∀ c u, cnN (ruN ⟨k, col, kk, fs⟩ v) c u ^ 1 ≠ 0 → posN (ruN ⟨k, col, kk, fs⟩ v) c u = true := by
  intro c u h
  rw [Nat.pow_one] at h
  unfold cnN at h
  split at h
  ·assumption
  ·exact absurd rfl h
 have hone : ∀ c u, posN (ruN ⟨k, col, kk, fs⟩ v) c u = true → 1 = cnN (ruN ⟨k, col, kk, fs⟩ v) c u ^ 1 := by
  intro c u h
  rw [Nat.pow_one]
  unfold cnN
  rw [if_pos h]
 match k, h1, h7, hv with
 | 1, _, _, _ =>
  have he := ex_none hl hs col
  show adN ⟨1, col, kk, fs⟩ (exN (ruN ⟨1, col, kk, fs⟩ v) col none) v = _
  unfold adN
  rw [if_pos he]
  rfl
 | 2, _, _, _ =>
  have he := ex_none hl hs col
  show adN ⟨2, col, kk, fs⟩ (exN (ruN ⟨2, col, kk, fs⟩ v) col none) v = _
  unfold adN
  rw [if_pos he]
  show exN (ruN ⟨2, col, kk, fs⟩ v) col none col = (spC (ruN ⟨2, col, kk, fs⟩ v) col).2 ^ 1
  rw [Nat.pow_one]
  rfl
 | 3, _, _, _ =>
  have he := ex_none hl hs col
  show adN ⟨3, col, kk, fs⟩ (exN (ruN ⟨3, col, kk, fs⟩ v) col none) v = _
  unfold adN
  rw [if_pos he]
  rfl
 | 4, _, _, hv =>
  have hp := hgrp col v h0
  have hm : v % 16 = v := Nat.mod_eq_of_lt hv
  have he := ex_some hl hs hp
  show adN ⟨4, col, kk, fs⟩ (exN (ruN ⟨4, col, kk, fs⟩ v) col (some (v % 16))) v = cnN (ruN ⟨4, col, kk, fs⟩ v) col v ^ 1
  rw [hm]
  unfold adN
  rw [if_pos he]
  show (if exN (ruN ⟨4, col, kk, fs⟩ v) col (some v) col = v % 16 then 1 else 0) = _
  rw [hm, if_pos (by simp [exN])]
  exact hone col v hp
 | 5, _, _, hv =>
  have hp := hgrp col v h0
  have hm : v % 16 = v := Nat.mod_eq_of_lt hv
  have he := ex_some hl hs hp
  show adN ⟨5, col, kk, fs⟩ (exN (ruN ⟨5, col, kk, fs⟩ v) col (some (v % 16))) v = cnN (ruN ⟨5, col, kk, fs⟩ v) col v ^ 1
  rw [hm]
  unfold adN
  rw [if_pos he]
  show (if exN (ruN ⟨5, col, kk, fs⟩ v) col (some v) col = v % 16 then 1 else 0) = _
  rw [hm, if_pos (by simp [exN])]
  exact hone col v hp
 | 6, _, _, hv =>
  have hp := hgrp col v h0
  have hm : v % 16 = v := Nat.mod_eq_of_lt hv
  have he := ex_some hl hs hp
  show adN ⟨6, col, kk, fs⟩ (exN (ruN ⟨6, col, kk, fs⟩ v) col (some (v % 16))) v = cnN (ruN ⟨6, col, kk, fs⟩ v) col v ^ 1
  rw [hm]
  unfold adN
  rw [if_pos he]
  show (if exN (ruN ⟨6, col, kk, fs⟩ v) col (some v) col = v % 16 then 1 else 0) = _
  rw [hm, if_pos (by simp [exN])]
  exact hone col v hp
 | 7, _, _, _ =>
  have hp := hgrp 0 (v % 16) h0
  have he := ex_some hl hs hp
  show adN ⟨7, col, kk, fs⟩ (exN (ruN ⟨7, col, kk, fs⟩ v) 0 (some (v % 16))) v = cnN (ruN ⟨7, col, kk, fs⟩ v) 0 (v % 16) ^ 1
  unfold adN
  rw [if_pos he]
  show (if exN (ruN ⟨7, col, kk, fs⟩ v) 0 (some (v % 16)) 0 = v % 16 then 1 else 0) = _
  rw [if_pos (by simp [exN])]
  exact hone 0 (v % 16) hp
end Ty
end Go.Proofs.YtbecajihgbbgjaaDoor

