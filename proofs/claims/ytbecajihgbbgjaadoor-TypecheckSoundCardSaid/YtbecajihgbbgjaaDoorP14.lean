/- Several texts in one: Ycw, Ycy, Yda, Yv, Yad, Ycz. -/
import Derived.Test.YtbecajihgbbgjaaDoorP13
import Derived.Test.YtbecajihgbbgjaaDoorP06
import Derived.Test.YtbecajihgbbgjaaDoorRows
import Derived.Test.YtbecajihgbbgjaaDoorTie
import Derived.ProofKit
import Derived.OpenShut
import Derived.ChangeOld
import Derived.ChangeSlices
import Derived.ChangeArms
import Derived.Below
import Derived.Lib.SmallJoins
import Derived.Lib.LaidTab
import Derived.LaidMore
import Derived.Deep.Slices
import Derived.Test.YtbecajihgbbgjaaDoorP03
import Derived.Test.YtbecajihgbbgjaaDoorP05
import Derived.Test.YtbecajihgbbgjaaDoorP07
set_option linter.unusedVariables false
set_option linter.unusedSimpArgs false
set_option linter.unusedSectionVars false
namespace Go.Proofs.YtbecajihgbbgjaaDoor
set_option maxRecDepth 8000
open Go.RowKit Go.Proofs.YtbecajihgbbgjaaDoor.K
attribute [local irreducible] wpList wpQuiet
namespace Ty
/-- a reading by its columns -/
def rdX (x : Nat → Nat) : Rd := ⟨(x 0 : Nat), (x 1 : Nat), (x 2 : Nat), (x 3 : Nat)⟩
theorem val_rd (x : Nat → Nat) {c : Nat} (hc : c < 4) : Qu.valR (rdX x) c = (x c : Int) := by
 rcases (show c = 0 ∨ c = 1 ∨ c = 2 ∨ c = 3 by omega) with rfl | rfl | rfl | rfl <;> rfl
theorem mt_rd {l : List Qu.Cd} (hl : ∀ e ∈ l, e.col < 4) (x : Nat → Nat) {b : Bool} (hb : mtN l x = b) : (l.map Qu.Cd.ci).all (Qu.mC (rdX x)) = b := by
 rw [← hb, List.all_map]
 unfold mtN
 rw [Bool.eq_iff_iff, List.all_eq_true, List.all_eq_true]
 refine forall_congr' fun e => forall_congr' fun he => ?_
 have h4 := hl e he
 show Qu.mC (rdX x) (Qu.Ci.mk (e.col : Int) (e.lo : Int) (e.hi : Int)) = true ↔ _
 unfold Qu.mC Qu.isC
 simp only [Int.toNat_natCast, val_rd x h4, Bool.and_eq_true, decide_eq_true_eq]
 omega
theorem isc_ci {l : List Qu.Cd} (hl : ∀ e ∈ l, e.col < 4) : ∀ e ∈ l.map Qu.Cd.ci, Qu.isC e.col = true := by
 intro e he
 obtain ⟨d, hd, rfl⟩ := List.mem_map.1 he
 have := hl d hd
 unfold Qu.isC Qu.Cd.ci
 simp <;> omega
theorem to_take {q : Qu.Qy} {xs : List (Nat → Nat)} {i : Nat} {x : Nat → Nat} (h : xs[i]? = some x) (v : Nat) : toN q (xs.take (i + 1)) v = toN q (xs.take i) v + adN q x v := by
 unfold toN
 rw [List.take_add_one, h, List.map_append, List.sum_append]
 simp
theorem to_pre (q : Qu.Qy) (v i : Nat) : ∀ xs : List (Nat → Nat), toN q (xs.take i) v ≤ toN q xs v := by
 intro xs
 have h : toN q xs v = toN q (xs.take i) v + toN q (xs.drop i) v := by
  unfold toN
  rw [← List.sum_append, ← List.map_append, List.take_append_drop]
 omega
theorem ad_no {q : Qu.Qy} {x : Nat → Nat} {v : Nat} {l : List Qu.Cd} (hl : q.fs[v / 16]? = some l) (hm : mtN l x = false) : adN q x v = 0 := by
 unfold adN
 rw [ru_of hl, hm]
 rfl
theorem ad_1 {q : Qu.Qy} {x : Nat → Nat} {v : Nat} {l : List Qu.Cd} (hl : q.fs[v / 16]? = some l) (hm : mtN l x = true) (h : q.kind = 1) : adN q x v = 1 := by
 unfold adN
 rw [ru_of hl, if_pos hm]
 simp only [h]
theorem ad_2 {q : Qu.Qy} {x : Nat → Nat} {v : Nat} {l : List Qu.Cd} (hl : q.fs[v / 16]? = some l) (hm : mtN l x = true) (h : q.kind = 2) : adN q x v = x q.col := by
 unfold adN
 rw [ru_of hl, if_pos hm]
 simp only [h]
theorem ad_3 {q : Qu.Qy} {x : Nat → Nat} {v : Nat} {l : List Qu.Cd} (hl : q.fs[v / 16]? = some l) (hm : mtN l x = true) (h : q.kind = 3) : adN q x v = x q.col ^ q.k := by
 unfold adN
 rw [ru_of hl, if_pos hm]
 simp only [h]
theorem ad_d {q : Qu.Qy} {x : Nat → Nat} {v cc : Nat} {l : List Qu.Cd} (hl : q.fs[v / 16]? = some l) (hm : mtN l x = true) (h4 : 4 ≤ q.kind) (hcc : (if q.kind = 7 then 0 else q.col) = cc) : adN q x v = if x cc = v % 16 then 1 else 0 := by
 unfold adN
 rw [ru_of hl, if_pos hm]
 subst hcc
 split
 ·omega
 ·omega
 ·omega
 ·next h7 => rw [show (if q.kind = 7 then 0 else q.col) = 0 from if_pos h7]
 ·next h7 => rw [show (if q.kind = 7 then 0 else q.col) = q.col from if_neg h7]
theorem pw_pre {y j k : Nat} (h : j + 1 ≤ k) : y ^ (j + 1) ≤ y ^ k := by
 rcases Nat.eq_zero_or_pos y with rfl | hy
 ·rw [Nat.zero_pow (Nat.succ_pos j)]
  exact Nat.zero_le _
 ·exact Nat.pow_le_pow_right hy h
theorem su_16 {kd v : Nat} (h : kd ≠ 7) (hv : v < suN kd) : v < 16 := by
 unfold suN at hv
 split at hv <;> omega
end Ty
theorem xo_eqlB {P : Program} {ev : Operand → Value} {o : Oper} {w : World} {x y : Operand} {ty t : TypeId} (k : IntKind) (u v : Int) (b : Bool) (hb : decide (u = v) = b) (ho : o.op = .binOp .eql ty x y t) (hx : ev x = .int k u) (hy : ev y = .int k v) : (execOp ev o).run P w = .ok (.value (.bool b)) w := by
 by_cases h : u = v
 ·rw [decide_eq_true h] at hb
  subst hb
  exact xo_eqlT k u v h ho hx hy
 ·rw [decide_eq_false h] at hb
  subst hb
  exact xo_eqlF k u v h ho hx hy
set_option maxRecDepth 100000 in
set_option maxHeartbeats 64000000 in
theorem total_as (kd col k : Nat) (A : Option Addr) (n c : Nat) (hs : List Hd) (fs : List (List Qu.Cd)) (hq : OkQ ⟨kd, col, k, fs⟩) (A2 : Option Addr) (n2 c2 : Nat) (xs : List (Nat → Nat)) (v : Nat) (hv : v < Ty.suN kd) (tt : Nat) (hT : Ty.toN ⟨kd, col, k, fs⟩ xs v = tt) (hlt : tt < 2 ^ 62) (w : World) (hF : FsR w A n c hs (fs.map (List.map Qu.Cd.ci))) (hL : Sg rdC 4 w A2 n2 c2 (xs.map Ty.rdX)) :
  Calls Tryd.prog 21 #[.agg #[.int .i64 (kd : Int), .int .i64 (col : Int), .int .i64 (k : Int), .slice A n c], .slice A2 n2 c2, .int .i64 (v : Int)] w fun e w' => e = .returned (.int .i64 (tt : Int)) ∧ Below w.heap.size w w' := by
 have HFR := zh hF
 have HLR := zh hL
 have HTT := zh hT
 have hk1 : 1 ≤ kd := hq.k1
 have hk7 : kd ≤ 7 := hq.k7
 have hcol : col < 4 := okQ_col hq
 have hkk : k ≤ 65536 := okQ_k hq
 have hnf : fs.length = Qu.numF kd := hq.nf
 have hu2 : v / 16 < fs.length := by rw [hnf]; exact Ty.su_num hv
 have h16 : kd ≠ 7 → v / 16 = 0 := fun h => by have := Ty.su_16 h hv; omega
 have hln := hF.sg.len
 have hlc := hF.sg.cap
 have hlt0 := hF.sg.top
 have hfl := hF.len
 rw [List.length_map] at hfl
 have hrn : xs.length = n2 := by have := hL.len; rwa [List.length_map] at this
 have hrc := hL.cap
 have hrt := hL.top
 obtain ⟨u, hu⟩ : ∃ z, v / 16 = z := ⟨_, rfl⟩
 have HU := zh hu
 clear hu
 obtain ⟨vm, hvm⟩ : ∃ z, v % 16 = z := ⟨_, rfl⟩
 have HVM := zh hvm
 clear hvm
 rw [HU.out] at hu2 h16
 have hv32 := Ty.su_le kd
 have hvl : v < 32 := Nat.lt_of_lt_of_le hv hv32
 clear hv32
 obtain ⟨l, hl⟩ : ∃ l, fs[u]? = some l := ⟨_, List.getElem?_eq_getElem hu2⟩
 obtain ⟨h, hh⟩ : ∃ h, hs[u]? = some h := ⟨_, List.getElem?_eq_getElem (by omega)⟩
 have HLL := zh hl
 have HH := zh hh
 have HC4 : Hid (∀ e ∈ l, e.col < 4) := zh (fun e he => ((hq.ok l (List.mem_of_getElem? hl)).2 e he).1)
 have HLM : Hid ((fs.map (List.map Qu.Cd.ci))[u]? = some (l.map Qu.Cd.ci)) := zh (by rw [List.getElem?_map, hl]; rfl)
 have HLV : Hid ((⟨kd, col, k, fs⟩ : Qu.Qy).fs[v / 16]? = some l) := zh (by rw [HU.out]; exact hl)
 obtain ⟨cc, hcc⟩ : ∃ z, (if kd = 7 then 0 else col) = z := ⟨_, rfl⟩
 have hcc4 : cc < 4 := by rw [← hcc]; split <;> omega
 have HCC := zh hcc
 have HTL := zh (fun i => Ty.to_pre ⟨kd, col, k, fs⟩ v i xs)
 clear hF hL hT hq hl hh hcc hv
 go_enter Tryd.func21, Tryd.ntmps21
 go_upto_region 1 with fail
 refine wp_named1 (fun V1 hb g0 hlt => ?_)
 have B0 := zh hb
 have Fv0_3 : Hid (V1.heap[w.heap.size]? = some (.cells #[.int .i64 (kd : Int), .int .i64 (col : Int), .int .i64 (k : Int), .slice A n c] 24 (0, 0))) := zh (g0)
 have Gb0 : Hid (w.heap.size ≤ w.heap.size) := zh (by omega)
 clear hb g0 hlt
 have Lt0 : Hid (w.heap.size < V1.heap.size) := zh (xp_lt Fv0_3.out)
 refine wp_region_lit ?_
 refine zr (.int .i64 0) V1 rfl ?_
 simp only [Act.put, zA]
 refine wpList_nil ?_
 go_upto_region 2 with fail
 refine wp_region_lit ?_
 refine zr (.int .i64 0) V1 rfl ?_
 simp only [Act.put, zA]
 refine wpList_nil ?_
 have O1 := Fv0_3.out
 have O2 := B0.out
 go_wp2_with fail
 go_loopw [7, 8] (fun a p wr => ∃ i : Nat, ∃ (o : Nat), i ≤ n2 ∧ p = .int .i64 i ∧ a = .int .i64 (o : Int) ∧ Ty.toN ⟨kd, col, k, fs⟩ (xs.take i) v = o ∧ wr.heap[w.heap.size]? = some (.cells #[.int .i64 (kd : Int), .int .i64 (col : Int), .int .i64 (k : Int), .slice A n c] 24 (0, 0)) ∧ Below w.heap.size w wr) (fun _ p _ => n2 - (intOf p).toNat)
 case atStart => exact ⟨0, 0, Nat.zero_le _, rfl, rfl, rfl, O1, O2⟩
 case round =>
  clear O1 O2
  obtain ⟨wo, rfl⟩ : ∃ wo : World, wo = wr := ⟨_, rfl⟩
  obtain ⟨i, o, hi, rfl, hHA, hHO, hr0, hb0⟩ := hrel
  have hbr := hb0
  clear B0
  have B0 := zh hbr
  clear hbr
  clear Fv0_3
  have Fv0_3 : Hid (wo.heap[w.heap.size]? = some (.cells #[.int .i64 (kd : Int), .int .i64 (col : Int), .int .i64 (k : Int), .slice A n c] 24 (0, 0))) := zh (hr0)
  have HA := zh hHA
  have HO := zh hHO
  clear hb0 hr0 hHA hHO
  have ea := HA.out
  subst ea
  clear HA
  by_cases hin : i < n2
  ·have hci4 : ((i : Int) < (n2 : Int)) := by omega
   obtain ⟨x, hx⟩ : ∃ x, xs[i]? = some x := ⟨_, List.getElem?_eq_getElem (by omega)⟩
   have HX := zh hx
   clear hx
   obtain ⟨r, hr⟩ : ∃ z, Ty.rdX x = z := ⟨_, rfl⟩
   have HRX := zh hr
   clear hr
   have HXR : Hid ((xs.map Ty.rdX)[i]? = some r) := zh (by rw [List.getElem?_map, HX.out, ← HRX.out]; rfl)
   obtain ⟨y, hy⟩ : ∃ z, x cc = z := ⟨_, rfl⟩
   have HY := zh hy
   clear hy
   have HYV : Hid (Qu.valR r cc = (y : Int)) := zh (by rw [← HRX.out, Ty.val_rd x hcc4, HY.out])
   obtain ⟨ad, had⟩ : ∃ z, Ty.adN ⟨kd, col, k, fs⟩ x v = z := ⟨_, rfl⟩
   have HAD := zh had
   clear had
   have hon : Ty.toN ⟨kd, col, k, fs⟩ (xs.take (i + 1)) v = o + ad := by rw [Ty.to_take HX.out, HO.out, HAD.out]
   have hol : o + ad < 2 ^ 62 := by have := HTL.out (i + 1); rw [hon, HTT.out] at this; omega
   have HON := zh hon
   clear hon
   go_upto_region 3 with fail
   refine wp_region_lit ?_
   refine zr (.int .i64 (i : Int)) wo rfl ?_
   simp only [Act.put, zA]
   refine zr (.slice A2 n2 c2) wo rfl ?_
   simp only [Act.put, zA]
   refine zr (.int .i64 (n2 : Int)) wo (xo_len A2 n2 c2 Tryd.underlying38 rfl rfl) ?_
   simp only [Act.put, zA]
   refine zr (.bool true) wo (xo_lssT .i64 (i : Int) (n2 : Int) (by omega) rfl rfl rfl) ?_
   simp only [Act.put, zA]
   refine wpList_nil ?_
   obtain ⟨hz0, hhz⟩ : ∃ h, hs[0]? = some h := ⟨_, List.getElem?_eq_getElem (by omega)⟩
   have HZ0 := zh hhz
   clear hhz
   go_upto_region 5 with fail
   refine wp_later_lex (by kernel_rfl) (lexOK_of (by kernel_rfl) (by kernel_rfl)) ?_
   refine zv (.pointer (some ⟨w.heap.size, 3, none⟩)) (fun v hv => (xo_fld0 3 w.heap.size 3 (by kernel_rfl) rfl rfl)) ?_
   simp only [Act.put, zA]
   refine zv (.slice A n c) (fun v hv => (xo_load1 ⟨w.heap.size, 3, none⟩ _ (cells_at (heap_keep Fv0_3.out (later_bel hv)) 3 rfl) Tryd.underlying22 rfl rfl rfl)) ?_
   simp only [Act.put, zA]
   refine zv (.pointer (some (gad A (0 * 1)))) (fun v hv => (xg_idx .i64 ((HFR.out.keep B0.out).keep (later_bel hv)).sg HZ0.out Tryd.underlying22 (by kernel_rfl) rfl rfl rfl)) ?_
   simp only [Act.put, zA]
   refine zv (.slice hz0.A hz0.n hz0.c) (fun v hv => (xg_load1 (E := hdC) (i := 0) (j := 0) ((HFR.out.keep B0.out).keep (later_bel hv)).sg HZ0.out rfl rfl Tryd.underlying44 rfl rfl rfl)) ?_
   simp only [Act.put, zA]
   refine zv (.pointer (some ⟨w.heap.size, 1, none⟩)) (fun v hv => (xo_fld0 1 w.heap.size 1 (by kernel_rfl) rfl rfl)) ?_
   simp only [Act.put, zA]
   refine zv (.int .i64 (col : Int)) (fun v hv => (xo_load1 ⟨w.heap.size, 1, none⟩ _ (cells_at (heap_keep Fv0_3.out (later_bel hv)) 1 rfl) Tryd.underlying3 rfl rfl rfl)) ?_
   simp only [Act.put, zA]
   refine zv (.slice hz0.A hz0.n hz0.c) (fun v hv => rfl) ?_
   simp only [Act.put, zA]
   refine zv (.int .i64 (col : Int)) (fun v hv => rfl) ?_
   simp only [Act.put, zA]
   refine wpQuiet_nil ?_
   intro X1_5
   have hb := X1_5.below
   generalize X1_5.at = V2 at *
   have B1 := zh hb
   clear hb
   obtain ⟨g7, hg7⟩ : ∃ z, decide ((kd : Int) = 7) = z := ⟨_, rfl⟩
   have HG7 := zh hg7
   clear hg7
   go_upto_region 6 with fail
   refine wp_region_lit ?_
   refine zr (.pointer (some ⟨w.heap.size, 0, none⟩)) V2 (xo_fld0 0 w.heap.size 0 (by kernel_rfl) rfl rfl) ?_
   simp only [Act.put, zA]
   refine zr (.int .i64 (kd : Int)) V2 (xo_load1 ⟨w.heap.size, 0, none⟩ _ (cells_at (heap_keep Fv0_3.out B1.out) 0 rfl) Tryd.underlying3 rfl rfl rfl) ?_
   simp only [Act.put, zA]
   refine zr (.bool g7) V2 (xo_eqlB .i64 (kd : Int) 7 g7 HG7.out rfl rfl rfl) ?_
   simp only [Act.put, zA]
   refine wpList_nil ?_
   go_upto_if 27 with fail
   go_cut [9, 10] from 13 to 80 (fun s9 s10 wx => s9 = .slice h.A h.n h.c ∧ s10 = .int .i64 (cc : Int) ∧ wx.heap[w.heap.size]? = some (.cells #[.int .i64 (kd : Int), .int .i64 (col : Int), .int .i64 (k : Int), .slice A n c] 24 (0, 0)) ∧ Below w.heap.size w wx)
   case first =>
    by_cases h7 : kd = 7
    ·obtain rfl : g7 = true := by rw [← HG7.out]; exact decide_eq_true (by omega)
     go_upto_region 7 with fail
     refine wp_region_lit ?_
     refine zr (.pointer (some ⟨w.heap.size, 3, none⟩)) V2 (xo_fld0 3 w.heap.size 3 (by kernel_rfl) rfl rfl) ?_
     simp only [Act.put, zA]
     refine zr (.slice A n c) V2 (xo_load1 ⟨w.heap.size, 3, none⟩ _ (cells_at (heap_keep Fv0_3.out B1.out) 3 rfl) Tryd.underlying22 rfl rfl rfl) ?_
     simp only [Act.put, zA]
     refine zr (.int .i64 (v : Int)) V2 rfl ?_
     simp only [Act.put, zA]
     refine zr (.int .i64 (u : Int)) V2 (xo_quoI v 16 u (by omega) HU.out (by omega) rfl rfl rfl) ?_
     simp only [Act.put, zA]
     have C0_2 := zb B0 B1
     refine zr (.pointer (some (gad A (u * 1)))) V2 (xg_idx .i64 (HFR.out.keep C0_2.out).sg HH.out Tryd.underlying22 (by kernel_rfl) rfl rfl rfl) ?_
     simp only [Act.put, zA]
     refine zr (.slice h.A h.n h.c) V2 (xg_load1 (E := hdC) (i := u) (j := 0) (HFR.out.keep C0_2.out).sg HH.out rfl rfl Tryd.underlying44 rfl rfl rfl) ?_
     simp only [Act.put, zA]
     refine zr (.slice h.A h.n h.c) V2 rfl ?_
     simp only [Act.put, zA]
     refine wpList_nil ?_
     go_upto_region 8 with fail
     refine wp_region_lit ?_
     refine zr (.int .i64 0) V2 rfl ?_
     simp only [Act.put, zA]
     refine wpList_nil ?_
     have hc0 : cc = 0 := by rw [← HCC.out]; exact if_pos h7
     have hm6 := (heap_keep Fv0_3.out B1.out)
     have hm7 := C0_2.out
     go_wp2_with fail
     go_meet
     case rel => exact ⟨rfl, (by rw [hc0]; rfl), hm6, hm7⟩
    ·obtain rfl : g7 = false := by rw [← HG7.out]; exact decide_eq_false (by omega)
     have hu0 : u = 0 := h16 h7
     obtain rfl : hz0 = h := by have h1 := HH.out; rw [hu0, HZ0.out] at h1; exact Option.some.inj h1
     have hc0 : cc = col := by rw [← HCC.out]; exact if_neg h7
     have hm6 := (heap_keep Fv0_3.out B1.out)
     have C0_2 := zb B0 B1
     have hm7 := C0_2.out
     go_wp2_with fail
     go_meet
     case rel => exact ⟨rfl, (by rw [hc0]), hm6, hm7⟩
   case rest =>
    obtain ⟨wc6, rfl⟩ : ∃ W, W = wc := ⟨_, rfl⟩
    obtain ⟨hs9, hs10, hr0, hb0⟩ := hcut
    have hbr := hb0
    clear B0
    have B0 := zh hbr
    clear hbr
    clear Fv0_3
    have Fv0_3 : Hid (wc6.heap[w.heap.size]? = some (.cells #[.int .i64 (kd : Int), .int .i64 (col : Int), .int .i64 (k : Int), .slice A n c] 24 (0, 0))) := zh (hr0)
    clear hb0 hr0
    subst hs9 hs10
    cases HMT : Ty.mtN l x with
    | false =>
     go_upto_region 9 with fail
     refine wp_region_lit ?_
     refine zr (.slice h.A h.n h.c) wc6 rfl ?_
     simp only [Act.put, zA]
     refine zr (.slice A2 n2 c2) wc6 rfl ?_
     simp only [Act.put, zA]
     refine zr (.int .i64 (i : Int)) wc6 rfl ?_
     simp only [Act.put, zA]
     refine zr (.pointer (some (gad A2 (i * 4)))) wc6 (xg_idx .i64 (HLR.out.keep B0.out) HXR.out Tryd.underlying38 (by kernel_rfl) rfl rfl rfl) ?_
     simp only [Act.put, zA]
     refine zr (.agg #[.int .i64 r.who, .int .i64 r.when_, .int .i64 r.kind, .int .i64 r.value]) wc6 (xg_loadE (E := rdC) (HLR.out.keep B0.out) HXR.out Tryd.underlying40 rfl (by kernel_rfl) rfl rfl) ?_
     simp only [Act.put, zA]
     refine wpList_call (by kernel_rfl) 27 Tryd.func27 (by kernel_rfl) (by kernel_rfl) _ _ #[.slice h.A h.n h.c, .agg #[.int .i64 r.who, .int .i64 r.when_, .int .i64 r.kind, .int .i64 r.value]] rfl (by kernel_rfl) ?_
     refine (rmatch_as h.A h.n h.c (l.map Qu.Cd.ci) (Ty.isc_ci HC4.out) r false (by rw [← HRX.out]; exact Ty.mt_rd HC4.out x HMT) wc6 ((HFR.out.keep B0.out).row u h (l.map Qu.Cd.ci) HH.out HLM.out)).mono ?_
     rintro e V2 ⟨rfl, hb⟩
     have B1 := zh hb
     clear hb 
     refine ⟨_, rfl, ?_⟩
     simp only [Act.put, zA]
     refine zr (.bool true) V2 rfl ?_
     simp only [Act.put, zA]
     refine wpList_nil ?_
     go_upto_region 4 with fail
     refine wp_region_lit ?_
     refine zr (.int .i64 (i : Int)) V2 rfl ?_
     simp only [Act.put, zA]
     refine zr (.int .i64 ((i + 1 : Nat) : Int)) V2 (xo_addI (i : Int) 1 ((i + 1 : Nat) : Int) (by omega) (by omega) (by omega) rfl rfl rfl) ?_
     simp only [Act.put, zA]
     refine zr (.int .i64 ((i + 1 : Nat) : Int)) V2 rfl ?_
     simp only [Act.put, zA]
     refine wpList_nil ?_
     have hae : ad = 0 := by rw [← HAD.out]; exact Ty.ad_no HLV.out HMT
     have hon2 := HON.out
     rw [hae, Nat.add_zero] at hon2
     have hq8 := (heap_keep Fv0_3.out B1.out)
     have C0_2 := zb B0 B1
     have hq9 := C0_2.out
     go_wp2_with fail
     go_roundw
     case rel => exact ⟨i + 1, o, by omega, by go_num, rfl, hon2, hq8, hq9⟩
     case measure => simp [intOf]; omega
    | true =>
     go_upto_region 9 with fail
     refine wp_region_lit ?_
     refine zr (.slice h.A h.n h.c) wc6 rfl ?_
     simp only [Act.put, zA]
     refine zr (.slice A2 n2 c2) wc6 rfl ?_
     simp only [Act.put, zA]
     refine zr (.int .i64 (i : Int)) wc6 rfl ?_
     simp only [Act.put, zA]
     refine zr (.pointer (some (gad A2 (i * 4)))) wc6 (xg_idx .i64 (HLR.out.keep B0.out) HXR.out Tryd.underlying38 (by kernel_rfl) rfl rfl rfl) ?_
     simp only [Act.put, zA]
     refine zr (.agg #[.int .i64 r.who, .int .i64 r.when_, .int .i64 r.kind, .int .i64 r.value]) wc6 (xg_loadE (E := rdC) (HLR.out.keep B0.out) HXR.out Tryd.underlying40 rfl (by kernel_rfl) rfl rfl) ?_
     simp only [Act.put, zA]
     refine wpList_call (by kernel_rfl) 27 Tryd.func27 (by kernel_rfl) (by kernel_rfl) _ _ #[.slice h.A h.n h.c, .agg #[.int .i64 r.who, .int .i64 r.when_, .int .i64 r.kind, .int .i64 r.value]] rfl (by kernel_rfl) ?_
     refine (rmatch_as h.A h.n h.c (l.map Qu.Cd.ci) (Ty.isc_ci HC4.out) r true (by rw [← HRX.out]; exact Ty.mt_rd HC4.out x HMT) wc6 ((HFR.out.keep B0.out).row u h (l.map Qu.Cd.ci) HH.out HLM.out)).mono ?_
     rintro e V2 ⟨rfl, hb⟩
     have B1 := zh hb
     clear hb 
     refine ⟨_, rfl, ?_⟩
     simp only [Act.put, zA]
     refine zr (.bool false) V2 rfl ?_
     simp only [Act.put, zA]
     refine wpList_nil ?_
     go_upto_region 10 with fail
     refine wp_region_lit ?_
     refine zr (.int .i64 1) V2 rfl ?_
     simp only [Act.put, zA]
     refine wpList_nil ?_
     go_upto_region 11 with fail
     refine wp_region_lit ?_
     refine zr (.pointer (some ⟨w.heap.size, 0, none⟩)) V2 (xo_fld0 0 w.heap.size 0 (by kernel_rfl) rfl rfl) ?_
     simp only [Act.put, zA]
     refine zr (.int .i64 (kd : Int)) V2 (xo_load1 ⟨w.heap.size, 0, none⟩ _ (cells_at (heap_keep Fv0_3.out B1.out) 0 rfl) Tryd.underlying3 rfl rfl rfl) ?_
     simp only [Act.put, zA]
     refine wpList_nil ?_
     by_cases hj1 : kd = 1
     ·have hci8 : ((kd : Int) = 1) := by omega
      go_upto_region 14 with fail
      refine wp_region_lit ?_
      refine zr (.bool true) V2 (xo_eqlT .i64 (kd : Int) 1 (by omega) rfl rfl rfl) ?_
      simp only [Act.put, zA]
      refine zr (.bool true) V2 rfl ?_
      simp only [Act.put, zA]
      refine wpList_nil ?_
      have hae : ad = 1 := by rw [← HAD.out]; exact Ty.ad_1 (q := ⟨kd, col, k, fs⟩) HLV.out HMT hj1
      have hon2 := HON.out
      rw [hae] at hon2 hol
      go_upto_region 22 with fail
      refine wp_region_lit ?_
      refine zr (.int .i64 (o : Int)) V2 rfl ?_
      simp only [Act.put, zA]
      refine zr (.int .i64 1) V2 rfl ?_
      simp only [Act.put, zA]
      refine zr (.int .i64 ((o + 1 : Nat) : Int)) V2 (xo_addI (o : Int) 1 ((o + 1 : Nat) : Int) (by omega) (by omega) (by omega) rfl rfl rfl) ?_
      simp only [Act.put, zA]
      refine zr (.int .i64 ((o + 1 : Nat) : Int)) V2 rfl ?_
      simp only [Act.put, zA]
      refine wpList_nil ?_
      go_upto_region 4 with fail
      refine wp_region_lit ?_
      refine zr (.int .i64 (i : Int)) V2 rfl ?_
      simp only [Act.put, zA]
      refine zr (.int .i64 ((i + 1 : Nat) : Int)) V2 (xo_addI (i : Int) 1 ((i + 1 : Nat) : Int) (by omega) (by omega) (by omega) rfl rfl rfl) ?_
      simp only [Act.put, zA]
      refine zr (.int .i64 ((i + 1 : Nat) : Int)) V2 rfl ?_
      simp only [Act.put, zA]
      refine wpList_nil ?_
      have hq9 := (heap_keep Fv0_3.out B1.out)
      have C0_2 := zb B0 B1
      have hq10 := C0_2.out
      go_wp2_with fail
      go_roundw
      case rel => exact ⟨i + 1, o + 1, by omega, by go_num, rfl, hon2, hq9, hq10⟩
      case measure => simp [intOf]; omega
     ·by_cases hj2 : kd = 2
      ·have hci8 : ¬ ((kd : Int) = 1) := by omega
       go_upto_region 14 with fail
       refine wp_region_lit ?_
       refine zr (.bool false) V2 (xo_eqlF .i64 (kd : Int) 1 (by omega) rfl rfl rfl) ?_
       simp only [Act.put, zA]
       refine zr (.bool false) V2 rfl ?_
       simp only [Act.put, zA]
       refine wpList_nil ?_
       have hci9 : ((kd : Int) = 2) := by omega
       go_upto_region 15 with fail
       refine wp_region_lit ?_
       refine zr (.bool true) V2 (xo_eqlT .i64 (kd : Int) 2 (by omega) rfl rfl rfl) ?_
       simp only [Act.put, zA]
       refine zr (.bool true) V2 rfl ?_
       simp only [Act.put, zA]
       refine wpList_nil ?_
       go_upto_region 16 with fail
       refine wp_region_lit ?_
       refine zr (.slice A2 n2 c2) V2 rfl ?_
       simp only [Act.put, zA]
       refine zr (.int .i64 (i : Int)) V2 rfl ?_
       simp only [Act.put, zA]
       have C0_2 := zb B0 B1
       refine zr (.pointer (some (gad A2 (i * 4)))) V2 (xg_idx .i64 (HLR.out.keep C0_2.out) HXR.out Tryd.underlying38 (by kernel_rfl) rfl rfl rfl) ?_
       simp only [Act.put, zA]
       refine zr (.agg #[.int .i64 r.who, .int .i64 r.when_, .int .i64 r.kind, .int .i64 r.value]) V2 (xg_loadE (E := rdC) (HLR.out.keep C0_2.out) HXR.out Tryd.underlying40 rfl (by kernel_rfl) rfl rfl) ?_
       simp only [Act.put, zA]
       refine zr (.int .i64 (cc : Int)) V2 rfl ?_
       simp only [Act.put, zA]
       refine wpList_call (by kernel_rfl) 38 Tryd.func38 (by kernel_rfl) (by kernel_rfl) _ _ #[.agg #[.int .i64 r.who, .int .i64 r.when_, .int .i64 r.kind, .int .i64 r.value], .int .i64 (cc : Int)] rfl (by kernel_rfl) ?_
       refine (field_as r cc (y : Int) hcc4 HYV.out V2).mono ?_
       rintro e V3 ⟨rfl, hb⟩
       have B2 := zh hb
       clear hb 
       refine ⟨_, rfl, ?_⟩
       simp only [Act.put, zA]
       refine zr (.int .i64 (y : Int)) V3 rfl ?_
       simp only [Act.put, zA]
       refine wpList_nil ?_
       have hc0 : cc = col := by rw [← HCC.out]; exact if_neg (by omega)
       have hae : ad = y := by rw [← HAD.out]; rw [Ty.ad_2 (q := ⟨kd, col, k, fs⟩) HLV.out HMT hj2, ← HY.out, hc0]
       have hon2 := HON.out
       rw [hae] at hon2 hol
       go_upto_region 22 with fail
       refine wp_region_lit ?_
       refine zr (.int .i64 (o : Int)) V3 rfl ?_
       simp only [Act.put, zA]
       refine zr (.int .i64 (y : Int)) V3 rfl ?_
       simp only [Act.put, zA]
       refine zr (.int .i64 ((o + y : Nat) : Int)) V3 (xo_addI (o : Int) (y : Int) ((o + y : Nat) : Int) (by omega) (by omega) (by omega) rfl rfl rfl) ?_
       simp only [Act.put, zA]
       refine zr (.int .i64 ((o + y : Nat) : Int)) V3 rfl ?_
       simp only [Act.put, zA]
       refine wpList_nil ?_
       go_upto_region 4 with fail
       refine wp_region_lit ?_
       refine zr (.int .i64 (i : Int)) V3 rfl ?_
       simp only [Act.put, zA]
       refine zr (.int .i64 ((i + 1 : Nat) : Int)) V3 (xo_addI (i : Int) 1 ((i + 1 : Nat) : Int) (by omega) (by omega) (by omega) rfl rfl rfl) ?_
       simp only [Act.put, zA]
       refine zr (.int .i64 ((i + 1 : Nat) : Int)) V3 rfl ?_
       simp only [Act.put, zA]
       refine wpList_nil ?_
       have C1_3 := zb B1 B2
       have hq10 := (heap_keep Fv0_3.out C1_3.out)
       have C0_3 := zb C0_2 B2
       have hq11 := C0_3.out
       go_wp2_with fail
       go_roundw
       case rel => exact ⟨i + 1, o + y, by omega, by go_num, rfl, hon2, hq10, hq11⟩
       case measure => simp [intOf]; omega
      ·by_cases hj3 : kd = 3
       ·have hci8 : ¬ ((kd : Int) = 1) := by omega
        go_upto_region 14 with fail
        refine wp_region_lit ?_
        refine zr (.bool false) V2 (xo_eqlF .i64 (kd : Int) 1 (by omega) rfl rfl rfl) ?_
        simp only [Act.put, zA]
        refine zr (.bool false) V2 rfl ?_
        simp only [Act.put, zA]
        refine wpList_nil ?_
        have hci9 : ¬ ((kd : Int) = 2) := by omega
        go_upto_region 15 with fail
        refine wp_region_lit ?_
        refine zr (.bool false) V2 (xo_eqlF .i64 (kd : Int) 2 (by omega) rfl rfl rfl) ?_
        simp only [Act.put, zA]
        refine zr (.bool false) V2 rfl ?_
        simp only [Act.put, zA]
        refine wpList_nil ?_
        have hci10 : ((kd : Int) = 3) := by omega
        go_upto_region 17 with fail
        refine wp_region_lit ?_
        refine zr (.bool true) V2 (xo_eqlT .i64 (kd : Int) 3 (by omega) rfl rfl rfl) ?_
        simp only [Act.put, zA]
        refine zr (.bool true) V2 rfl ?_
        simp only [Act.put, zA]
        refine wpList_nil ?_
        go_upto_region 18 with fail
        refine wp_region_lit ?_
        refine zr (.int .i64 0) V2 rfl ?_
        simp only [Act.put, zA]
        refine wpList_nil ?_
        have hc0 : cc = col := by rw [← HCC.out]; exact if_neg (by omega)
        have hay : y ^ k = ad := by rw [← HAD.out, Ty.ad_3 (q := ⟨kd, col, k, fs⟩) HLV.out HMT hj3, ← HY.out, hc0]
        have HAY := zh hay
        clear hay
        have O11 := (heap_keep Fv0_3.out B1.out)
        have C0_2 := zb B0 B1
        have O12 := C0_2.out
        go_wp2_with fail
        go_loopw [11, 12] (fun b p wr => ∃ j : Nat, ∃ (pp : Nat), j ≤ k ∧ p = .int .i64 j ∧ b = .int .i64 (pp : Int) ∧ y ^ j = pp ∧ wr.heap[w.heap.size]? = some (.cells #[.int .i64 (kd : Int), .int .i64 (col : Int), .int .i64 (k : Int), .slice A n c] 24 (0, 0)) ∧ Below w.heap.size w wr) (fun _ p _ => k - (intOf p).toNat)
        case atStart => exact ⟨0, 1, Nat.zero_le _, rfl, rfl, (Nat.pow_zero y), O11, O12⟩
        case round =>
         clear O11 O12
         obtain ⟨wq, rfl⟩ : ∃ wq : World, wq = wr := ⟨_, rfl⟩
         obtain ⟨j, pp, hi, rfl, hHB, hHPP, hr0, hb0⟩ := hrel
         have hbr := hb0
         clear B0
         have B0 := zh hbr
         clear hbr
         clear Fv0_3
         have Fv0_3 : Hid (wq.heap[w.heap.size]? = some (.cells #[.int .i64 (kd : Int), .int .i64 (col : Int), .int .i64 (k : Int), .slice A n c] 24 (0, 0))) := zh (hr0)
         have HB := zh hHB
         have HPP := zh hHPP
         clear hb0 hr0 hHB hHPP
         have eb := HB.out
         subst eb
         clear HB
         by_cases hjk : j < k
         ·have hci14 : ((j : Int) < (k : Int)) := by omega
          go_upto_region 19 with fail
          refine wp_region_lit ?_
          refine zr (.int .i64 (j : Int)) wq rfl ?_
          simp only [Act.put, zA]
          refine zr (.pointer (some ⟨w.heap.size, 2, none⟩)) wq (xo_fld0 2 w.heap.size 2 (by kernel_rfl) rfl rfl) ?_
          simp only [Act.put, zA]
          refine zr (.int .i64 (k : Int)) wq (xo_load1 ⟨w.heap.size, 2, none⟩ _ (cells_at Fv0_3.out 2 rfl) Tryd.underlying3 rfl rfl rfl) ?_
          simp only [Act.put, zA]
          refine zr (.bool true) wq (xo_lssT .i64 (j : Int) (k : Int) (by omega) rfl rfl rfl) ?_
          simp only [Act.put, zA]
          refine wpList_nil ?_
          obtain ⟨p2, hp2⟩ : ∃ z, pp * y = z := ⟨_, rfl⟩
          have HP2 := zh hp2
          clear hp2
          have hpe : y ^ (j + 1) = p2 := by rw [Nat.pow_succ, HPP.out, HP2.out]
          have hpl : p2 < 2 ^ 62 := by have := Ty.pw_pre (y := y) (show j + 1 ≤ k by omega); rw [hpe, HAY.out] at this; omega
          have HPE := zh hpe
          clear hpe
          go_upto_region 21 with fail
          refine wp_region_lit ?_
          refine zr (.int .i64 (pp : Int)) wq rfl ?_
          simp only [Act.put, zA]
          refine zr (.slice A2 n2 c2) wq rfl ?_
          simp only [Act.put, zA]
          refine zr (.int .i64 (i : Int)) wq rfl ?_
          simp only [Act.put, zA]
          refine zr (.pointer (some (gad A2 (i * 4)))) wq (xg_idx .i64 (HLR.out.keep B0.out) HXR.out Tryd.underlying38 (by kernel_rfl) rfl rfl rfl) ?_
          simp only [Act.put, zA]
          refine zr (.agg #[.int .i64 r.who, .int .i64 r.when_, .int .i64 r.kind, .int .i64 r.value]) wq (xg_loadE (E := rdC) (HLR.out.keep B0.out) HXR.out Tryd.underlying40 rfl (by kernel_rfl) rfl rfl) ?_
          simp only [Act.put, zA]
          refine zr (.int .i64 (cc : Int)) wq rfl ?_
          simp only [Act.put, zA]
          refine wpList_call (by kernel_rfl) 38 Tryd.func38 (by kernel_rfl) (by kernel_rfl) _ _ #[.agg #[.int .i64 r.who, .int .i64 r.when_, .int .i64 r.kind, .int .i64 r.value], .int .i64 (cc : Int)] rfl (by kernel_rfl) ?_
          refine (field_as r cc (y : Int) hcc4 HYV.out wq).mono ?_
          rintro e V2 ⟨rfl, hb⟩
          have B1 := zh hb
          clear hb 
          refine ⟨_, rfl, ?_⟩
          simp only [Act.put, zA]
          refine zr (.int .i64 (p2 : Int)) V2 (xo_mulI (pp : Int) (y : Int) (p2 : Int) (by rw [← HP2.out]; exact Int.natCast_mul pp y) (by omega) (by omega) rfl rfl rfl) ?_
          simp only [Act.put, zA]
          refine zr (.int .i64 (p2 : Int)) V2 rfl ?_
          simp only [Act.put, zA]
          refine wpList_nil ?_
          go_upto_region 20 with fail
          refine wp_region_lit ?_
          refine zr (.int .i64 (j : Int)) V2 rfl ?_
          simp only [Act.put, zA]
          refine zr (.int .i64 ((j + 1 : Nat) : Int)) V2 (xo_addI (j : Int) 1 ((j + 1 : Nat) : Int) (by omega) (by omega) (by omega) rfl rfl rfl) ?_
          simp only [Act.put, zA]
          refine zr (.int .i64 ((j + 1 : Nat) : Int)) V2 rfl ?_
          simp only [Act.put, zA]
          refine wpList_nil ?_
          have hq15 := (heap_keep Fv0_3.out B1.out)
          have C0_2 := zb B0 B1
          have hq16 := C0_2.out
          go_wp2_with fail
          go_roundw
          case rel => exact ⟨j + 1, p2, by omega, by go_num, rfl, HPE.out, hq15, hq16⟩
          case measure => simp [intOf]; omega
         ·have hci14 : ¬ ((j : Int) < (k : Int)) := by omega
          go_upto_region 19 with fail
          refine wp_region_lit ?_
          refine zr (.int .i64 (j : Int)) wq rfl ?_
          simp only [Act.put, zA]
          refine zr (.pointer (some ⟨w.heap.size, 2, none⟩)) wq (xo_fld0 2 w.heap.size 2 (by kernel_rfl) rfl rfl) ?_
          simp only [Act.put, zA]
          refine zr (.int .i64 (k : Int)) wq (xo_load1 ⟨w.heap.size, 2, none⟩ _ (cells_at Fv0_3.out 2 rfl) Tryd.underlying3 rfl rfl rfl) ?_
          simp only [Act.put, zA]
          refine zr (.bool false) wq (xo_lssF .i64 (j : Int) (k : Int) (by omega) rfl rfl rfl) ?_
          simp only [Act.put, zA]
          refine wpList_nil ?_
          obtain rfl : j = k := by omega
          have hpa : pp = ad := by rw [← HPP.out]; exact HAY.out
          have hon2 := HON.out
          rw [← hpa] at hon2 hol
          go_upto_region 22 with fail
          refine wp_region_lit ?_
          refine zr (.int .i64 (o : Int)) wq rfl ?_
          simp only [Act.put, zA]
          refine zr (.int .i64 (pp : Int)) wq rfl ?_
          simp only [Act.put, zA]
          refine zr (.int .i64 ((o + pp : Nat) : Int)) wq (xo_addI (o : Int) (pp : Int) ((o + pp : Nat) : Int) (by omega) (by omega) (by omega) rfl rfl rfl) ?_
          simp only [Act.put, zA]
          refine zr (.int .i64 ((o + pp : Nat) : Int)) wq rfl ?_
          simp only [Act.put, zA]
          refine wpList_nil ?_
          go_upto_region 4 with fail
          refine wp_region_lit ?_
          refine zr (.int .i64 (i : Int)) wq rfl ?_
          simp only [Act.put, zA]
          refine zr (.int .i64 ((i + 1 : Nat) : Int)) wq (xo_addI (i : Int) 1 ((i + 1 : Nat) : Int) (by omega) (by omega) (by omega) rfl rfl rfl) ?_
          simp only [Act.put, zA]
          refine zr (.int .i64 ((i + 1 : Nat) : Int)) wq rfl ?_
          simp only [Act.put, zA]
          refine wpList_nil ?_
          have hq15 := Fv0_3.out
          have hq16 := B0.out
          go_wp2_with fail
          go_roundw
          case rel => exact ⟨i + 1, o + pp, by omega, by go_num, rfl, hon2, hq15, hq16⟩
          case measure => simp [intOf]; omega
       ·have hci8 : ¬ ((kd : Int) = 1) := by omega
        go_upto_region 14 with fail
        refine wp_region_lit ?_
        refine zr (.bool false) V2 (xo_eqlF .i64 (kd : Int) 1 (by omega) rfl rfl rfl) ?_
        simp only [Act.put, zA]
        refine zr (.bool false) V2 rfl ?_
        simp only [Act.put, zA]
        refine wpList_nil ?_
        have hci9 : ¬ ((kd : Int) = 2) := by omega
        go_upto_region 15 with fail
        refine wp_region_lit ?_
        refine zr (.bool false) V2 (xo_eqlF .i64 (kd : Int) 2 (by omega) rfl rfl rfl) ?_
        simp only [Act.put, zA]
        refine zr (.bool false) V2 rfl ?_
        simp only [Act.put, zA]
        refine wpList_nil ?_
        have hci10 : ¬ ((kd : Int) = 3) := by omega
        go_upto_region 17 with fail
        refine wp_region_lit ?_
        refine zr (.bool false) V2 (xo_eqlF .i64 (kd : Int) 3 (by omega) rfl rfl rfl) ?_
        simp only [Act.put, zA]
        refine zr (.bool false) V2 rfl ?_
        simp only [Act.put, zA]
        refine wpList_nil ?_
        by_cases hyv : y = vm
        ·have hci11 : ¬ ((y : Int) ≠ (vm : Int)) := by omega
         go_upto_region 12 with fail
         refine wp_region_lit ?_
         refine zr (.slice A2 n2 c2) V2 rfl ?_
         simp only [Act.put, zA]
         refine zr (.int .i64 (i : Int)) V2 rfl ?_
         simp only [Act.put, zA]
         have C0_2 := zb B0 B1
         refine zr (.pointer (some (gad A2 (i * 4)))) V2 (xg_idx .i64 (HLR.out.keep C0_2.out) HXR.out Tryd.underlying38 (by kernel_rfl) rfl rfl rfl) ?_
         simp only [Act.put, zA]
         refine zr (.agg #[.int .i64 r.who, .int .i64 r.when_, .int .i64 r.kind, .int .i64 r.value]) V2 (xg_loadE (E := rdC) (HLR.out.keep C0_2.out) HXR.out Tryd.underlying40 rfl (by kernel_rfl) rfl rfl) ?_
         simp only [Act.put, zA]
         refine zr (.int .i64 (cc : Int)) V2 rfl ?_
         simp only [Act.put, zA]
         refine wpList_call (by kernel_rfl) 38 Tryd.func38 (by kernel_rfl) (by kernel_rfl) _ _ #[.agg #[.int .i64 r.who, .int .i64 r.when_, .int .i64 r.kind, .int .i64 r.value], .int .i64 (cc : Int)] rfl (by kernel_rfl) ?_
         refine (field_as r cc (y : Int) hcc4 HYV.out V2).mono ?_
         rintro e V3 ⟨rfl, hb⟩
         have B2 := zh hb
         clear hb 
         refine ⟨_, rfl, ?_⟩
         simp only [Act.put, zA]
         refine zr (.int .i64 (v : Int)) V3 rfl ?_
         simp only [Act.put, zA]
         refine zr (.int .i64 (vm : Int)) V3 (xo_remN .i64 v 16 vm (by omega) HVM.out rfl rfl rfl) ?_
         simp only [Act.put, zA]
         refine zr (.bool false) V3 (xo_neqF .i64 (y : Int) (vm : Int) (by omega) rfl rfl rfl) ?_
         simp only [Act.put, zA]
         refine wpList_nil ?_
         have hae : ad = 1 := by rw [← HAD.out]; rw [Ty.ad_d (q := ⟨kd, col, k, fs⟩) HLV.out HMT (show 4 ≤ kd by omega) HCC.out, HY.out, HVM.out]; exact if_pos hyv
         have hon2 := HON.out
         rw [hae] at hon2 hol
         go_upto_region 22 with fail
         refine wp_region_lit ?_
         refine zr (.int .i64 (o : Int)) V3 rfl ?_
         simp only [Act.put, zA]
         refine zr (.int .i64 1) V3 rfl ?_
         simp only [Act.put, zA]
         refine zr (.int .i64 ((o + 1 : Nat) : Int)) V3 (xo_addI (o : Int) 1 ((o + 1 : Nat) : Int) (by omega) (by omega) (by omega) rfl rfl rfl) ?_
         simp only [Act.put, zA]
         refine zr (.int .i64 ((o + 1 : Nat) : Int)) V3 rfl ?_
         simp only [Act.put, zA]
         refine wpList_nil ?_
         go_upto_region 4 with fail
         refine wp_region_lit ?_
         refine zr (.int .i64 (i : Int)) V3 rfl ?_
         simp only [Act.put, zA]
         refine zr (.int .i64 ((i + 1 : Nat) : Int)) V3 (xo_addI (i : Int) 1 ((i + 1 : Nat) : Int) (by omega) (by omega) (by omega) rfl rfl rfl) ?_
         simp only [Act.put, zA]
         refine zr (.int .i64 ((i + 1 : Nat) : Int)) V3 rfl ?_
         simp only [Act.put, zA]
         refine wpList_nil ?_
         have C1_3 := zb B1 B2
         have hq12 := (heap_keep Fv0_3.out C1_3.out)
         have C0_3 := zb C0_2 B2
         have hq13 := C0_3.out
         go_wp2_with fail
         go_roundw
         case rel => exact ⟨i + 1, o + 1, by omega, by go_num, rfl, hon2, hq12, hq13⟩
         case measure => simp [intOf]; omega
        ·have hci11 : ((y : Int) ≠ (vm : Int)) := by omega
         go_upto_region 12 with fail
         refine wp_region_lit ?_
         refine zr (.slice A2 n2 c2) V2 rfl ?_
         simp only [Act.put, zA]
         refine zr (.int .i64 (i : Int)) V2 rfl ?_
         simp only [Act.put, zA]
         have C0_2 := zb B0 B1
         refine zr (.pointer (some (gad A2 (i * 4)))) V2 (xg_idx .i64 (HLR.out.keep C0_2.out) HXR.out Tryd.underlying38 (by kernel_rfl) rfl rfl rfl) ?_
         simp only [Act.put, zA]
         refine zr (.agg #[.int .i64 r.who, .int .i64 r.when_, .int .i64 r.kind, .int .i64 r.value]) V2 (xg_loadE (E := rdC) (HLR.out.keep C0_2.out) HXR.out Tryd.underlying40 rfl (by kernel_rfl) rfl rfl) ?_
         simp only [Act.put, zA]
         refine zr (.int .i64 (cc : Int)) V2 rfl ?_
         simp only [Act.put, zA]
         refine wpList_call (by kernel_rfl) 38 Tryd.func38 (by kernel_rfl) (by kernel_rfl) _ _ #[.agg #[.int .i64 r.who, .int .i64 r.when_, .int .i64 r.kind, .int .i64 r.value], .int .i64 (cc : Int)] rfl (by kernel_rfl) ?_
         refine (field_as r cc (y : Int) hcc4 HYV.out V2).mono ?_
         rintro e V3 ⟨rfl, hb⟩
         have B2 := zh hb
         clear hb 
         refine ⟨_, rfl, ?_⟩
         simp only [Act.put, zA]
         refine zr (.int .i64 (v : Int)) V3 rfl ?_
         simp only [Act.put, zA]
         refine zr (.int .i64 (vm : Int)) V3 (xo_remN .i64 v 16 vm (by omega) HVM.out rfl rfl rfl) ?_
         simp only [Act.put, zA]
         refine zr (.bool true) V3 (xo_neqT .i64 (y : Int) (vm : Int) (by omega) rfl rfl rfl) ?_
         simp only [Act.put, zA]
         refine wpList_nil ?_
         go_upto_region 13 with fail
         refine wp_region_lit ?_
         refine zr (.int .i64 0) V3 rfl ?_
         simp only [Act.put, zA]
         refine wpList_nil ?_
         have hae : ad = 0 := by rw [← HAD.out]; rw [Ty.ad_d (q := ⟨kd, col, k, fs⟩) HLV.out HMT (show 4 ≤ kd by omega) HCC.out, HY.out, HVM.out]; exact if_neg hyv
         have hon2 := HON.out
         rw [hae] at hon2 hol
         go_upto_region 22 with fail
         refine wp_region_lit ?_
         refine zr (.int .i64 (o : Int)) V3 rfl ?_
         simp only [Act.put, zA]
         refine zr (.int .i64 0) V3 rfl ?_
         simp only [Act.put, zA]
         refine zr (.int .i64 ((o + 0 : Nat) : Int)) V3 (xo_addI (o : Int) 0 ((o + 0 : Nat) : Int) (by omega) (by omega) (by omega) rfl rfl rfl) ?_
         simp only [Act.put, zA]
         refine zr (.int .i64 ((o + 0 : Nat) : Int)) V3 rfl ?_
         simp only [Act.put, zA]
         refine wpList_nil ?_
         go_upto_region 4 with fail
         refine wp_region_lit ?_
         refine zr (.int .i64 (i : Int)) V3 rfl ?_
         simp only [Act.put, zA]
         refine zr (.int .i64 ((i + 1 : Nat) : Int)) V3 (xo_addI (i : Int) 1 ((i + 1 : Nat) : Int) (by omega) (by omega) (by omega) rfl rfl rfl) ?_
         simp only [Act.put, zA]
         refine zr (.int .i64 ((i + 1 : Nat) : Int)) V3 rfl ?_
         simp only [Act.put, zA]
         refine wpList_nil ?_
         have C1_3 := zb B1 B2
         have hq12 := (heap_keep Fv0_3.out C1_3.out)
         have C0_3 := zb C0_2 B2
         have hq13 := C0_3.out
         go_wp2_with fail
         go_roundw
         case rel => exact ⟨i + 1, o + 0, by omega, by go_num, rfl, hon2, hq12, hq13⟩
         case measure => simp [intOf]; omega
  ·have hci4 : ¬ ((i : Int) < (n2 : Int)) := by omega
   go_upto_region 3 with fail
   refine wp_region_lit ?_
   refine zr (.int .i64 (i : Int)) wo rfl ?_
   simp only [Act.put, zA]
   refine zr (.slice A2 n2 c2) wo rfl ?_
   simp only [Act.put, zA]
   refine zr (.int .i64 (n2 : Int)) wo (xo_len A2 n2 c2 Tryd.underlying38 rfl rfl) ?_
   simp only [Act.put, zA]
   refine zr (.bool false) wo (xo_lssF .i64 (i : Int) (n2 : Int) (by omega) rfl rfl rfl) ?_
   simp only [Act.put, zA]
   refine wpList_nil ?_
   go_upto_region 23 with fail
   refine wp_region_lit ?_
   refine zr (.int .i64 (o : Int)) wo rfl ?_
   simp only [Act.put, zA]
   refine zr (.int .i64 (o : Int)) wo rfl ?_
   simp only [Act.put, zA]
   refine wpList_nil ?_
   have hot : o = tt := by rw [← HO.out, ← HTT.out, List.take_of_length_le (by omega)]
   subst hot
   have hbf := B0.out
   go_wp2_with fail
   go_ret
   exact ⟨rfl, hbf⟩
end Go.Proofs.YtbecajihgbbgjaaDoor

namespace Go.Proofs.YtbecajihgbbgjaaDoor
set_option maxRecDepth 8000
open Go.RowKit Go.Proofs.YtbecajihgbbgjaaDoor.K
attribute [local irreducible] wpList wpQuiet
namespace Ty
theorem zs_len (l : List Nat) : (zs l).length = l.length := by unfold zs; rw [List.length_map]
theorem ck_len {q : Qu.Qy} {rows co : Nat} {xs : List Nat} (h : ckN q rows = (xs, co)) : xs.length ≤ 32 := by
 unfold ckN at h
 split at h
 ·injection h with h1 _
  rw [← h1]
  exact Nat.zero_le _
 ·split at h
  ·injection h with h1 _
   rw [← h1, List.length_map, List.length_range]
   exact su_le q.kind
  ·injection h with h1 _
   rw [← h1]
   exact Nat.zero_le _
end Ty
end Go.Proofs.YtbecajihgbbgjaaDoor

namespace Go.Proofs.YtbecajihgbbgjaaDoor
set_option maxRecDepth 8000
namespace Ty
theorem zs_at {l : List Nat} {v a : Nat} (h : l[v]? = some a) : (zs l)[v]? = some (a : Int) := by
 unfold zs
 rw [List.getElem?_map, h]
 rfl
theorem ck_facts {q : Qu.Qy} {m co : Nat} {xs : List Nat} (hev : ¬ (4 ≤ q.kind ∧ q.kind ≤ 6 ∧ q.col % 2 = 1)) (h : ckN q m = (xs, co)) :
  (co = 0 ∨ co = 141) ∧ (co = 141 → xs.length = 0) ∧ (co = 0 → xs.length = suN q.kind ∧ ∀ v, v < suN q.kind → (zs xs)[v]? = some ((bdN q m v : Nat) : Int) ∧ bdN q m v < 2 ^ 62) := by
 unfold ckN at h
 rw [if_neg hev] at h
 split at h
 ·next ha =>
  injection h with h1 h2
  subst h1 h2
  refine ⟨.inl rfl, fun e => absurd e (by decide), fun _ => ⟨by rw [List.length_map, List.length_range], fun v hv => ⟨zs_at ?_, ?_⟩⟩⟩
  ·rw [List.getElem?_map, List.getElem?_range hv]
   rfl
  ·exact of_decide_eq_true (List.all_eq_true.1 ha v (List.mem_range.2 hv))
 ·injection h with h1 h2
  subst h1 h2
  exact ⟨.inr rfl, fun _ => rfl, fun e => absurd e (by decide)⟩
theorem suZ_nat {kd : Nat} (h1 : 1 ≤ kd) (h7 : kd ≤ 7) : suZ (kd : Int) = suN kd := by
 unfold suZ
 rw [if_pos (by omega), Int.toNat_natCast]
end Ty
end Go.Proofs.YtbecajihgbbgjaaDoor

namespace Go.Proofs.YtbecajihgbbgjaaDoor
set_option maxRecDepth 8000
open Go.ChangeShapes Go.WideShapes Go.ChangeAt Go.RowKit Go.Joins Go.Deep Go.Proofs.YtbecajihgbbgjaaDoor.K
theorem own : ownKnob Tryd.prog.godebug = none := by kernel_rfl
theorem laidOut : laidOutB Tryd.prog = true := by kernel_rfl
section
variable {H : Type} {enc : TypeId × Value → H} {W : World} {base : Nat} {sp : Nat → Bool} {b1 : Nat} {hd : Bool} {v : Value} {d : DataW H} {p : List MemPlace}
theorem cells13I : Tryd.prog.cellsOf 3 = 1 := by kernel_rfl
theorem cells13S : Tryd.prog.cellsOf 9 = 1 := by kernel_rfl
theorem cells13C : Tryd.prog.cellsOf 96 = 2 := by kernel_rfl
theorem cells13T : Tryd.prog.cellsOf 97 = 8 := by kernel_rfl
theorem cells13R : Tryd.prog.cellsOf 40 = 4 := by kernel_rfl
theorem trod13_col {fuel : Nat} {c0 c1 : Value} {s : List UInt8} {z : Int} {q : List MemPlace} (h : DataW.trod enc Tryd.prog W b1 sp hd fuel 96 [c0, c1] = some (.agg [.lit (.string s), .lit (.int .i64 z)], q)) : c0 = .string (sB s) ∧ c1 = .int .i64 z := by
 obtain ⟨ys, m', _, hx, _, hn, hel⟩ := DataW.trod_struct Tryd.underlying96 h
 match ys, hn with
 | [y0, y1], _ =>
  have g0 : DataW.trod enc Tryd.prog W b1 sp hd m' 9 [c0] = some y0 := by simpa [cells13S] using hel 0 _ rfl
  have g1 : DataW.trod enc Tryd.prog W b1 sp hd m' 3 [c1] = some y1 := by simpa [cells13I] using hel 1 _ rfl
  obtain ⟨b0, e0, x0, _⟩ := DataW.trod_string Tryd.underlying9 g0
  obtain ⟨a1, e1, x1, _⟩ := DataW.trod_int Tryd.underlying3 g1
  subst x0
  have hx' := congrArg Prod.fst hx
  simp [x1] at hx' e0 e1
  obtain ⟨rfl, rfl⟩ := hx'
  subst e0 e1
  exact ⟨by rw [sB_of], rfl⟩
end
def laid13 : List (String × DataW Unit) := [("attestor/query.columns", Rows.laid_attestor_query_columns)]
theorem of_laid13 {W : World} (h : laidMetH Tryd.prog laid13 W) : Gc W := by
 rw [MakeChecks.laidMetH_plain _ _ _ (by kernel_rfl)] at h
 obtain ⟨ps, ⟨g', t', cs, fuel, p, q, hg', ht', hvar, hd, _, _⟩, _⟩ := h
 have g1 : Tryd.prog.globalNamed "attestor/query.columns" = some 1 := by kernel_rfl
 obtain rfl := Option.some.inj (g1.symm.trans hg')
 have t1 : (Tryd.prog.globals[1]?).map (·.type) = some 97 := by kernel_rfl
 obtain rfl := Option.some.inj (t1.symm.trans ht')
 obtain ⟨xs, m, _, hx, hl, hn, hel⟩ := DataW.trod_array Tryd.underlying97 hd
 rw [cells13T] at hl
 rw [cells13C] at hel
 have hx' := congrArg Prod.fst hx
 match cs, hl, xs, hn with
 | ⟨[c0, c1, c2, c3, c4, c5, c6, c7]⟩, _, [y0, y1, y2, y3], _ =>
  simp [Rows.laid_attestor_query_columns] at hx'
  obtain ⟨h0, h1, h2, h3⟩ := hx'
  have k0 := hel 0 (by omega)
  have k1 := hel 1 (by omega)
  have k2 := hel 2 (by omega)
  have k3 := hel 3 (by omega)
  simp at k0 k1 k2 k3
  obtain ⟨e0, e1⟩ := trod13_col (q := y0.2) (by rw [k0]; rw [h0])
  obtain ⟨e2, e3⟩ := trod13_col (q := y1.2) (by rw [k1]; rw [h1])
  obtain ⟨e4, e5⟩ := trod13_col (q := y2.2) (by rw [k2]; rw [h2])
  obtain ⟨e6, e7⟩ := trod13_col (q := y3.2) (by rw [k3]; rw [h3])
  subst e0 e1 e2 e3 e4 e5 e6 e7
  intro j v hv
  rw [Nat.zero_add]
  have hc := World.var?_cell g1 hvar j
  rw [hc]
  simpa [Qu.nameN] using hv
end Go.Proofs.YtbecajihgbbgjaaDoor

namespace Go.Proofs.YtbecajihgbbgjaaDoor.K
set_option maxRecDepth 8000
open Go.ChangeShapes Go.WideShapes Go.ChangeAt Go.RowKit Go.Joins Go.Deep
theorem list_ofK {α : Type} (n : Nat) (P : Nat → α → Prop) (h : ∀ i, i < n → ∃ x, P i x) : ∃ l : List α, l.length = n ∧ ∀ i x, l[i]? = some x → P i x := by
 induction n with
 | zero => exact ⟨[], rfl, fun i x hx => by simp at hx⟩
 | succ n ih =>
  obtain ⟨l, hl, hp⟩ := ih fun i hi => h i (by omega)
  obtain ⟨x, hx⟩ := h n (Nat.lt_succ_self n)
  refine ⟨l ++ [x], by simp [hl], fun i y hy => ?_⟩
  by_cases hi : i < l.length
  ·rw [List.getElem?_append_left hi] at hy
   exact hp i y hy
  ·rw [List.getElem?_append_right (by omega)] at hy
   have e : i = n := by
    have := (List.getElem?_eq_some_iff.1 hy).1
    simp at this
    omega
   subst e
   rw [hl, Nat.sub_self] at hy
   simp at hy
   subst hy
   exact hx
section
variable {α : Type} {E : α → List Value} {k : Nat} [hE : Enc E k] {P : Program} {H : Type} {enc : TypeId × Value → H} {W : World} {b1 : Nat} {sp : Nat → Bool} {hd : Bool} {t e : TypeId}
/-- a slice that comes in, its elements opened -/
theorem open_seq (p : α → Prop) (hu : P.underlying t = some (.slice e)) (hc : P.cellsOf e = k) (hel : ∀ m cs y, cs.length = k → DataW.trod enc P W b1 sp hd m e cs = some y → ∃ x, cs = E x ∧ p x) {m : Nat} {cs : List Value} {y : DataW H × List MemPlace} (h : DataW.trod enc P W b1 sp hd m t cs = some y) :
  ∃ A n c xs, cs = [.slice A n c] ∧ Sg E k W A n c xs ∧ ∀ x ∈ xs, p x := by
 have hk := hE.pos
 rcases open_slice hu h with ⟨hcs, _⟩ | ⟨a, len, cap, m', n', D, Pl, hcs, _, hl, hm, hmm, _, hi⟩
 ·exact ⟨none, 0, 0, [], hcs, Sg.nil_ _, fun x hx => by cases hx⟩
 ·unfold maxLen at hm
  have hC : ∀ i, i < len → ∃ x, p x ∧ ∀ j v, (E x)[j]? = some v → W.cell? ((a.add (i * k)).add j) = some v := fun i hin => by
   obtain ⟨cs', hc2, ht⟩ := hi i (by rw [hmm]; split <;> omega)
   rw [hc] at hc2
   obtain ⟨_, hcl, hat⟩ := World.cells?_some hc2
   obtain ⟨x, hx, hpx⟩ := hel _ _ _ hcl ht
   subst hx
   exact ⟨x, hpx, fun j v hv => (hat j (by rw [← hE.len x]; exact (List.getElem?_eq_some_iff.1 hv).1)).trans hv⟩
  obtain ⟨xs, hxl, hxx⟩ := list_ofK len _ hC
  refine ⟨some a, len, cap, xs, hcs, ⟨hxl, hl, by omega, fun e => (by cases e), fun i x hx => ?_⟩, fun x hx => ?_⟩
  ·have hil := (List.getElem?_eq_some_iff.1 hx).1
   obtain ⟨b, off, s⟩ := a
   obtain ⟨x0, hx0⟩ : ∃ x0, xs[0]? = some x0 := ⟨_, List.getElem?_eq_getElem (by omega)⟩
   obtain ⟨v0, hv0⟩ : ∃ v0, (E x0)[0]? = some v0 := ⟨_, List.getElem?_eq_getElem (by rw [hE.len]; exact hk)⟩
   have h0 := (hxx 0 x0 hx0).2 0 v0 hv0
   rw [Nat.zero_mul] at h0
   have hs : s = none := by
    cases s with
    | none => rfl
    | some q =>
     simp only [Addr.add, if_true, World.cell?] at h0
     split at h0 <;> simp at h0
   subst hs
   refine ⟨b, off, rfl, fun j v hv => ?_⟩
   have h1 := (hxx i x hx).2 j v hv
   rw [Addr.add_mid, Addr.add_mid] at h1
   exact h1
  ·obtain ⟨i, hi'⟩ := List.getElem?_of_mem hx
   exact (hxx i x hi').1
end
end Go.Proofs.YtbecajihgbbgjaaDoor.K
namespace Go.Proofs.YtbecajihgbbgjaaDoor
open Go.ChangeShapes Go.WideShapes Go.ChangeAt Go.RowKit Go.Joins Go.Deep Go.Proofs.YtbecajihgbbgjaaDoor.K
section
variable {H : Type} {enc : TypeId × Value → H} {W : World} {base : Nat} {sp : Nat → Bool} {b1 : Nat} {hd : Bool} {v : Value} {d : DataW H} {p : List MemPlace}
theorem cells13D : Tryd.prog.cellsOf 49 = 3 := by kernel_rfl
set_option maxRecDepth 100000 in
theorem trod13_cond {m : Nat} {cs : List Value} {y : DataW H × List MemPlace} (hl : cs.length = 3) (h : DataW.trod enc Tryd.prog W b1 sp hd m 49 cs = some y) : ∃ x : Qu.Ci, cs = ciC x := by
 obtain ⟨ys, m', _, _, _, hn, hel⟩ := DataW.trod_struct Tryd.underlying49 h
 match cs, hl, ys, hn with
 | [c0, c1, c2], _, [y0, y1, y2], _ =>
  have g0 : DataW.trod enc Tryd.prog W b1 sp hd m' 3 [c0] = some y0 := by simpa [cells13I] using hel 0 _ rfl
  have g1 : DataW.trod enc Tryd.prog W b1 sp hd m' 3 [c1] = some y1 := by simpa [cells13I] using hel 1 _ rfl
  have g2 : DataW.trod enc Tryd.prog W b1 sp hd m' 3 [c2] = some y2 := by simpa [cells13I] using hel 2 _ rfl
  obtain ⟨a0, e0, _, _⟩ := DataW.trod_int Tryd.underlying3 g0
  obtain ⟨a1, e1, _, _⟩ := DataW.trod_int Tryd.underlying3 g1
  obtain ⟨a2, e2, _, _⟩ := DataW.trod_int Tryd.underlying3 g2
  simp at e0 e1 e2
  subst e0 e1 e2
  exact ⟨⟨a0, a1, a2⟩, rfl⟩
theorem cells13F : Tryd.prog.cellsOf 44 = 1 := by kernel_rfl
set_option maxRecDepth 100000 in
theorem trod13_filter {m : Nat} {cs : List Value} {y : DataW H × List MemPlace} (h : DataW.trod enc Tryd.prog W b1 sp hd m 44 cs = some y) : ∃ x : Hd, cs = hdC x ∧ ∃ xs, Sg ciC 3 W x.A x.n x.c xs := by
 obtain ⟨A, n, c, xs, e, hs, _⟩ := open_seq (E := ciC) (fun _ => True) Tryd.underlying44 cells13D (fun m cs y hl hy => by obtain ⟨x, e⟩ := trod13_cond hl hy; exact ⟨x, e, trivial⟩) h
 exact ⟨Hd.mk A n c, e, xs, hs⟩
set_option maxRecDepth 100000 in
theorem all13 : ∀ (hs : List Hd), (∀ h ∈ hs, ∃ xs, Sg ciC 3 W h.A h.n h.c xs) → ∃ fs : List (List Qu.Ci), hs.length = fs.length ∧ ∀ (i : Nat) (h : Hd) (xs : List Qu.Ci), hs[i]? = some h → fs[i]? = some xs → Sg ciC 3 W h.A h.n h.c xs
 | [], _ => ⟨[], rfl, fun i h xs hi => by simp at hi⟩
 | h :: hs, hh => by
  obtain ⟨xs, hx⟩ := hh h (List.mem_cons_self ..)
  obtain ⟨fs, hl, hf⟩ := all13 hs fun q hq => hh q (List.mem_cons_of_mem _ hq)
  refine ⟨xs :: fs, by simp [hl], fun i q ys hi hy => ?_⟩
  cases i with
  | zero =>
   simp at hi hy
   subst hi hy
   exact hx
  | succ i => exact hf i q ys (by simpa using hi) (by simpa using hy)
set_option maxRecDepth 100000 in
theorem trod13_filters {m : Nat} {c0 : Value} {y : DataW H × List MemPlace} (h : DataW.trod enc Tryd.prog W b1 sp hd m 22 [c0] = some y) : ∃ (A : Option Addr) (n c : Nat) (hs : List Hd) (fs : List (List Qu.Ci)), c0 = .slice A n c ∧ FsR W A n c hs fs := by
 obtain ⟨A, n, c, hs, e, hh, hp⟩ := open_seq (E := hdC) (fun x => ∃ xs, Sg ciC 3 W x.A x.n x.c xs) Tryd.underlying22 cells13F (fun m cs y _ hy => trod13_filter hy) h
 simp only [List.cons.injEq, and_true] at e
 obtain ⟨fs, hl, hf⟩ := all13 hs hp
 exact ⟨A, n, c, hs, fs, e, ⟨hh, hl, hf⟩⟩
theorem cells13Q : Tryd.prog.cellsOf 24 = 4 := by kernel_rfl
theorem cells13G : Tryd.prog.cellsOf 22 = 1 := by kernel_rfl
set_option maxRecDepth 100000 in
theorem open13_query (hv : Value.okWide Tryd.prog W .any base 24 v) (h : DataW.Trod enc Tryd.prog W b1 sp hd 24 v d p) : ∃ (a b k : Int) (A : Option Addr) (n c : Nat) (hs : List Hd) (fs : List (List Qu.Ci)), v = .agg #[.int .i64 a, .int .i64 b, .int .i64 k, .slice A n c] ∧ FsR W A n c hs fs := by
 obtain ⟨cs, rfl, hsz, _⟩ : ∃ cs, v = .agg cs ∧ cs.size = Tryd.prog.cellsOf 24 ∧ Row.okWide Tryd.prog W .any base 24 cs := by
  simpa [Value.okWide, Tryd.underlying24] using hv
 rw [cells13Q] at hsz
 obtain ⟨c0, c1, c2, c3, rfl⟩ : ∃ c0 c1 c2 c3, cs = #[c0, c1, c2, c3] := by
  match cs, hsz with
  | ⟨[c0, c1, c2, c3]⟩, _ => exact ⟨c0, c1, c2, c3, rfl⟩
 obtain ⟨fuel, hf⟩ := h
 obtain ⟨ys, m', _, _, _, hn, hel⟩ := DataW.trod_struct Tryd.underlying24 (show DataW.trod enc Tryd.prog W b1 sp hd fuel 24 [c0, c1, c2, c3] = some (d, p) by simpa [Value.cells] using hf)
 match ys, hn with
 | [y0, y1, y2, y3], _ =>
  have g0 : DataW.trod enc Tryd.prog W b1 sp hd m' 3 [c0] = some y0 := by simpa [cells13I] using hel 0 _ rfl
  have g1 : DataW.trod enc Tryd.prog W b1 sp hd m' 3 [c1] = some y1 := by simpa [cells13I] using hel 1 _ rfl
  have g2 : DataW.trod enc Tryd.prog W b1 sp hd m' 3 [c2] = some y2 := by simpa [cells13I] using hel 2 _ rfl
  have g3 : DataW.trod enc Tryd.prog W b1 sp hd m' 22 [c3] = some y3 := by simpa [cells13G] using hel 3 _ rfl
  obtain ⟨a0, e0, _, _⟩ := DataW.trod_int Tryd.underlying3 g0
  obtain ⟨a1, e1, _, _⟩ := DataW.trod_int Tryd.underlying3 g1
  obtain ⟨a2, e2, _, _⟩ := DataW.trod_int Tryd.underlying3 g2
  obtain ⟨A, n, c, hs, fs, rfl, hF⟩ := trod13_filters g3
  simp at e0 e1 e2
  subst e0 e1 e2
  exact ⟨a0, a1, a2, A, n, c, hs, fs, rfl, hF⟩
end
end Go.Proofs.YtbecajihgbbgjaaDoor

namespace Go.Proofs.YtbecajihgbbgjaaDoor
set_option maxRecDepth 8000
open Go.ChangeShapes Go.WideShapes Go.ChangeAt Go.RowKit Go.Joins Go.Deep Go.Proofs.YtbecajihgbbgjaaDoor.K
def laid14 : List (String × DataW Unit) := [("attestor/query.columns", Rows.laid_attestor_query_columns), ("attestor/typecheck.widths", Rows.laid_attestor_typecheck_widths)]
theorem laid14_cols {W : World} (h : laidMet Tryd.prog laid14 W) : laidMetH Tryd.prog laid13 W := by
 rw [MakeChecks.laidMetH_plain _ _ _ (by kernel_rfl)]
 have hk := laidMet.filter (fun x => x.1 == "attestor/query.columns") h
 rwa [show (laid14.filter fun x => x.1 == "attestor/query.columns") = laid13 by kernel_rfl] at hk
theorem laid14_wid {W : World} (h : laidMet Tryd.prog laid14 W) : Gw5 W := by
 have h2 : laidMet Tryd.prog (("attestor/typecheck.widths", Lib.tabData .i64 [4, 8, 4, 8, 1]) :: []) W := by
  have hk := laidMet.filter (fun x => x.1 == "attestor/typecheck.widths") h
  rwa [show (laid14.filter fun x => x.1 == "attestor/typecheck.widths") = [("attestor/typecheck.widths", Lib.tabData .i64 [4, 8, 4, 8, 1])] by kernel_rfl] at hk
 have g2 : Tryd.prog.globalNamed "attestor/typecheck.widths" = some 0 := by kernel_rfl
 have t2 := Lib.tabIs_of_head g2 (t := 72) (by kernel_rfl) Tryd.underlying72 Tryd.underlying3 (by kernel_rfl) (by kernel_rfl) h2
 intro j v hv
 have hj : j < 5 := (List.getElem?_eq_some_iff.1 hv).1
 have := t2.cell g2 j hj
 rw [Nat.zero_add, this]
 rcases (show j = 0 ∨ j = 1 ∨ j = 2 ∨ j = 3 ∨ j = 4 by omega) with rfl | rfl | rfl | rfl | rfl <;> exact hv
theorem of_laid14 {W : World} (h : laidMetH Tryd.prog laid14 W) : Gw5 W ∧ Gc W := by
 rw [MakeChecks.laidMetH_plain _ _ _ (by kernel_rfl)] at h
 exact ⟨laid14_wid h, of_laid13 (laid14_cols h)⟩
theorem door_met14 (os : Os) (args : Array Value) : laidMetH Tryd.prog laid14 ((World.doorLaid Tryd.prog 400 os).forCall (fun _ _ => 0) ⟨#[], args, []⟩).memory :=
 laidMetH_of_parts3 (fuel := 8) (laidMet_of_run' 8 (by kernel_rfl) (by kernel_rfl)) (by kernel_rfl) (by kernel_rfl)
section
variable {H : Type} {enc : TypeId × Value → H} {W : World} {base : Nat} {sp : Nat → Bool} {b1 : Nat} {hd : Bool} {v : Value} {d : DataW H} {p : List MemPlace}
set_option maxRecDepth 100000 in
theorem trod14_reading {m : Nat} {cs : List Value} {y : DataW H × List MemPlace} (hl : cs.length = 4) (h : DataW.trod enc Tryd.prog W b1 sp hd m 40 cs = some y) : ∃ x : Rd, cs = rdC x := by
 obtain ⟨ys, m', _, _, _, hn, hel⟩ := DataW.trod_struct Tryd.underlying40 h
 match cs, hl, ys, hn with
 | [c0, c1, c2, c3], _, [y0, y1, y2, y3], _ =>
  have g0 : DataW.trod enc Tryd.prog W b1 sp hd m' 3 [c0] = some y0 := by simpa [cells13I] using hel 0 _ rfl
  have g1 : DataW.trod enc Tryd.prog W b1 sp hd m' 3 [c1] = some y1 := by simpa [cells13I] using hel 1 _ rfl
  have g2 : DataW.trod enc Tryd.prog W b1 sp hd m' 3 [c2] = some y2 := by simpa [cells13I] using hel 2 _ rfl
  have g3 : DataW.trod enc Tryd.prog W b1 sp hd m' 3 [c3] = some y3 := by simpa [cells13I] using hel 3 _ rfl
  obtain ⟨a0, e0, _, _⟩ := DataW.trod_int Tryd.underlying3 g0
  obtain ⟨a1, e1, _, _⟩ := DataW.trod_int Tryd.underlying3 g1
  obtain ⟨a2, e2, _, _⟩ := DataW.trod_int Tryd.underlying3 g2
  obtain ⟨a3, e3, _, _⟩ := DataW.trod_int Tryd.underlying3 g3
  simp at e0 e1 e2 e3
  subst e0 e1 e2 e3
  exact ⟨⟨a0, a1, a2, a3⟩, rfl⟩
theorem open14_readings (hv : Value.okWide Tryd.prog W .any base 38 v) (h : DataW.Trod enc Tryd.prog W b1 sp hd 38 v d p) : ∃ (A : Option Addr) (n c : Nat) (xs : List Rd), v = .slice A n c ∧ Sg rdC 4 W A n c xs := by
 obtain ⟨A, n, c, rfl⟩ : ∃ A n c, v = .slice A n c := okWide_slice Tryd.underlying38 hv
 obtain ⟨fuel, hf⟩ := h
 obtain ⟨A2, n2, c2, xs, e, hs, _⟩ := open_seq (E := rdC) (fun _ => True) Tryd.underlying38 cells13R (fun m cs y hl hy => by obtain ⟨x, e⟩ := trod14_reading hl hy; exact ⟨x, e, trivial⟩) (show DataW.trod enc Tryd.prog W b1 sp hd fuel 38 [.slice A n c] = some (d, p) by simpa [Value.cells] using hf)
 simp only [List.cons.injEq, Value.slice.injEq, and_true] at e
 obtain ⟨rfl, rfl, rfl⟩ := e
 exact ⟨A, n, c, xs, rfl, hs⟩
end
end Go.Proofs.YtbecajihgbbgjaaDoor

