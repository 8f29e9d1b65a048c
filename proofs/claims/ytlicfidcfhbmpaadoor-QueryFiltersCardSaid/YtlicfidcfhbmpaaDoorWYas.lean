/- Stage 13: law QueryFilters. -/
import Derived.Deep.CutBlock
import Derived.Test.YtlicfidcfhbmpaaDoorTf18
import Derived.Test.YtlicfidcfhbmpaaDoorTf17
namespace Go.Proofs.YtlicfidcfhbmpaaDoor
set_option linter.unusedVariables false
set_option linter.unusedSimpArgs false
set_option linter.unusedSectionVars false
set_option maxRecDepth 8000
open Go.RowKit Go.Proofs.YtlicfidcfhbmpaaDoor.K
attribute [local irreducible] wpList wpQuiet
namespace K
set_option linter.unusedVariables false
set_option linter.unusedSimpArgs false
set_option linter.unusedSectionVars false
section
variable {P : Program} {ops : Array Oper} {Q : Exit → Act → World → Prop} {ty : TypeId} {x y : Operand} {n : Nat}
theorem wpList_ownStoreK {rest : List Oper} {o : Oper} {a : Act} {w : World} {base g cap k j : Nat} {e : TypeId} {cs : List Value} (u : Value) (hw : Region.wanted o (yielded ops a.tmps) = true) (hown : w.ownsRow base e k (.slice (some ⟨g, 0, none⟩) n cap) n cs) (hj : j < n * k) (hz : (P.info? ty).map (·.size) = some 1) (h1 : u.oneCell' = true)
  (ho : o.op = .store ty x y) (hx : a.eval x = .pointer (some ⟨g, j, none⟩)) (hy : a.eval y = u)
  (h : ∀ W, W.ownsRow base e k (.slice (some ⟨g, 0, none⟩) n cap) n (cs.set j u) → (∀ B v0, B ≤ g → Below B v0 w → Below B v0 W) → wpList P ops Q rest (a.put o.dst undef) W) : wpList P ops Q (o :: rest) a w := by
 have hst := World.ownsRow.stored hown j u
 have hown' := hown
 rcases hown'.2 with ⟨hn, _⟩ | ⟨g', cap', cur, e1, hb, hg, hc, hm, hs, ht⟩
 ·cases hn
 ·simp only [Value.slice.injEq, Option.some.injEq, Addr.mk.injEq, and_true, true_and] at e1
  obtain ⟨rfl, rfl⟩ := e1
  have hle : n * k ≤ cap * k := Nat.mul_le_mul_right k hc
  have hlt : j < cur.size := by rw [hs]; omega
  exact wpList_run0 hw _ (xo_store1 g j cur cur[j] u hg (by simp [hlt]) hz h1 ho hx hy) (h _ hst.1 (fun B v0 hB hbb => hbb.setCell hB _))
end
end K
def _root_.Qu.dC (e : Qu.Ci) : Qu.Ci := (Qu.mdC e).ci
theorem rev_get {α : Type} {l : List α} {i m : Nat} {x : α} (hm : l.length = m) (hi : i < m) (h : l[m - 1 - i]? = some x) : l.reverse[i]? = some x := by
 rw [List.getElem?_reverse (by omega), hm]
 exact h
theorem take_snoc {α : Type} {l : List α} {i : Nat} {x : α} (h : l[i]? = some x) : l.take (i + 1) = l.take i ++ [x] := by
 rw [List.take_add_one, h]
 rfl
theorem all_snoc {f : Qu.Ci → Bool} {l : List Qu.Ci} {i : Nat} {x : Qu.Ci} (h : l[i]? = some x) : (l.take (i + 1)).all f = ((l.take i).all f && f x) := by
 rw [take_snoc h, List.all_append]
 simp
theorem narrow_all {r : Rd} {ca cl ch : Int} {t : List Qu.Ci} (h : ((Qu.Ci.mk ca cl ch) :: t).all (Qu.mC r) = false) : ((Qu.Ci.mk ca (cl + 1) ch) :: t).all (Qu.mC r) = false := by
 rw [List.all_cons] at h ⊢
 by_cases h1 : Qu.mC r ⟨ca, cl + 1, ch⟩ = true
 ·have h2 : Qu.mC r ⟨ca, cl, ch⟩ = true := by
   unfold Qu.mC at h1 ⊢
   simp only [Bool.and_eq_true, decide_eq_true_eq] at h1 ⊢
   exact ⟨h1.1, by omega, h1.2.2⟩
  rw [h2, Bool.true_and] at h
  rw [h, Bool.and_false]
 ·rw [Bool.not_eq_true] at h1
  rw [h1, Bool.false_and]
theorem all_rev (f : Qu.Ci → Bool) (l : List Qu.Ci) : l.reverse.all f = l.all f := List.all_reverse
set_option maxRecDepth 100000 in
set_option maxHeartbeats 64000000 in
theorem qFilters_any (A : Option Addr) (n c : Nat) (cs : List Qu.Ci) (ea eb ec : Int) (r : Rd) (w : World) (hG : Gc w) (hC : Sg ciC 3 w A n c cs) :
  Calls Tryd.prog 9 #[.slice A n c, .agg #[.int .i64 ea, .int .i64 eb, .int .i64 ec], .agg #[.int .i64 r.who, .int .i64 r.when_, .int .i64 r.kind, .int .i64 r.value]] w fun e w' => e = .returned (.bool true) ∧ Below w.heap.size w w' := by
 have HG := Lib.hid hG
 have HC := Lib.hid hC
 have hcn := hC.len
 have hcc := hC.cap
 have hct := hC.top
 clear hC hG
 obtain ⟨x0, hx0⟩ : ∃ x, andN r.who 15 = x := ⟨_, rfl⟩
 obtain ⟨x1, hx1⟩ : ∃ x, andN r.when_ 255 = x := ⟨_, rfl⟩
 obtain ⟨x2, hx2⟩ : ∃ x, andN r.kind 15 = x := ⟨_, rfl⟩
 obtain ⟨x3, hx3⟩ : ∃ x, andN r.value 255 = x := ⟨_, rfl⟩
 have HX4 := Lib.hid (And.intro hx0 (And.intro hx1 (And.intro hx2 hx3)))
 clear hx0 hx1 hx2 hx3
 obtain ⟨l, hl⟩ : ∃ l, (cs.take 2).map Qu.dC = l := ⟨_, rfl⟩
 obtain ⟨m, hm⟩ : ∃ m, l.length = m := ⟨_, rfl⟩
 have hmn : m ≤ 2 ∧ m ≤ n ∧ (2 ≤ m ∨ n ≤ m) := by rw [← hm, ← hl, List.length_map, List.length_take, hcn]; omega
 have HL := Lib.hid hl
 have HM := Lib.hid hm
 clear hl hm
 go_enter Tryd.func9, Tryd.ntmps9
 go_upto_region 1 with fail
 refine wp_named2 (fun V1 hb g0 g1 hlt => ?_)
 have B0 := Lib.hid hb
 have Fv0_4 : Hid (V1.heap[w.heap.size]? = some (.cells #[.int .i64 ea, .int .i64 eb, .int .i64 ec] 46 (0, 0))) := Lib.hid (g0)
 have Fv1_5 : Hid (V1.heap[(w.heap.size + 1)]? = some (.cells #[.int .i64 r.who, .int .i64 r.when_, .int .i64 r.kind, .int .i64 r.value] 26 (0, 0))) := Lib.hid (g1)
 have Nb0_1 : Hid (w.heap.size ≠ (w.heap.size + 1)) := Lib.hid (by omega)
 have Gb0 : Hid (w.heap.size ≤ w.heap.size) := Lib.hid (by omega)
 have Gb1 : Hid (w.heap.size ≤ (w.heap.size + 1)) := Lib.hid (by omega)
 clear hb g0 g1 hlt
 have Lt0 : Hid (w.heap.size < V1.heap.size) := Lib.hid (xp_lt Fv0_4.out)
 have Lt1 : Hid ((w.heap.size + 1) < V1.heap.size) := Lib.hid (xp_lt Fv1_5.out)
 have HBV2 := Lib.hid B0.out
 have YHG := (HG.out.keep B0.out)
 have YHC := (HC.out.keep B0.out)
 have YFv0_4 := Fv0_4.out
 have YFv1_5 := Fv1_5.out
 clear HG
 have HG := Lib.hid YHG
 clear YHG
 clear HC
 have HC := Lib.hid YHC
 clear YHC
 clear Fv0_4
 have Fv0_4 := Lib.hid YFv0_4
 clear YFv0_4
 clear Fv1_5
 have Fv1_5 := Lib.hid YFv1_5
 clear YFv1_5
 obtain ⟨VB2, rfl⟩ : ∃ VB2 : World, VB2 = V1 := ⟨_, rfl⟩
 refine wp_region_lit ?_
 refine wpList_call (by kernel_rfl) 11 Tryd.func11 (by kernel_rfl) (by kernel_rfl) _ _ #[] rfl (by kernel_rfl) ?_
 refine (sanity13_any VB2 HG.out).mono ?_
 rintro e V1 ⟨rfl, hb⟩
 have B0 := Lib.hid hb
 clear hb 
 refine ⟨_, rfl, ?_⟩
 simp only [Act.put, zA, zB, zC]
 refine zr (.bool true) V1 rfl ?_
 simp only [Act.put, zA, zB, zC]
 refine wpList_nil ?_
 go_upto_region 2 with fail
 refine wp_region_lit ?_
 refine zr (.agg #[.int .i64 r.who, .int .i64 r.when_, .int .i64 r.kind, .int .i64 r.value]) V1 (xo_loadW (w.heap.size + 1) _ (heap_keep Fv1_5.out B0.out) Tryd.underlying26 rfl (by kernel_rfl) rfl rfl) ?_
 simp only [Act.put, zA, zB, zC]
 refine wpList_call (by kernel_rfl) 15 Tryd.func15 (by kernel_rfl) (by kernel_rfl) _ _ #[.agg #[.int .i64 r.who, .int .i64 r.when_, .int .i64 r.kind, .int .i64 r.value]] rfl (by kernel_rfl) ?_
 refine (madeReading_any r V1).mono ?_
 rintro e V2 ⟨rfl, hb⟩
 have B1 := Lib.hid hb
 rw [HX4.out.1, HX4.out.2.1, HX4.out.2.2.1, HX4.out.2.2.2]
 clear hb 
 refine ⟨_, rfl, ?_⟩
 simp only [Act.put, zA, zB, zC]
 refine wpList_mk (by kernel_rfl) #[] 46 0 0 (xo_empty (size := 3) Tryd.underlying28 (by kernel_rfl) rfl V2) ?_
 intro g20 V3 hge h0 hb
 have C0_2 := zb B0 B1
 have hge2 := Nat.le_trans C0_2.out.size hge
 have B2 := Lib.hid hb
 have Ow20 : Hid (V3.ownsRow VB2.heap.size 46 3 (.slice (some ⟨g20, 0, none⟩) 0 0) 0 (fl ciC [])) := Lib.hid (own_new h0 hge2)
 clear hge hge2 h0 hb
 simp only [ptr, Act.put, zA, zB, zC]
 refine wpList_mk (by kernel_rfl) #[] 46 0 0 (xo_empty (size := 3) Tryd.underlying28 (by kernel_rfl) rfl V3) ?_
 intro g21 V4 hge h0 hb
 have Ap3 : Hid (ApartV (.slice (some ⟨g20, 0, none⟩) 0 0) (.slice (some ⟨g21, 0, none⟩) 0 0)) := Lib.hid (ApartV.new Ow20.out hge)
 have C0_3 := zb C0_2 B2
 have hge2 := Nat.le_trans C0_3.out.size hge
 have B3 := Lib.hid hb
 have Ow21 : Hid (V4.ownsRow VB2.heap.size 46 3 (.slice (some ⟨g21, 0, none⟩) 0 0) 0 (fl ciC [])) := Lib.hid (own_new h0 hge2)
 clear hge hge2 h0 hb
 simp only [ptr, Act.put, zA, zB, zC]
 refine wpList_new #[.int .i64 0, .int .i64 0, .int .i64 0, .int .i64 0] 26 (by kernel_rfl) (xo_alloc #[.int .i64 0, .int .i64 0, .int .i64 0, .int .i64 0] (by kernel_rfl) rfl) ?_
 intro b8 V5 hge h0 hb
 have C0_4 := zb C0_3 B3
 have N4_0 : Hid (w.heap.size ≠ b8) := Lib.hid (xp_lt0 (heap_keep Fv0_4.out C0_4.out) hge)
 have N5_1 : Hid ((w.heap.size + 1) ≠ b8) := Lib.hid (xp_lt0 (heap_keep Fv1_5.out C0_4.out) hge)
 have Ge6 : Hid (V4.heap.size ≤ b8) := Lib.hid hge
 have B4 := Lib.hid hb
 have Fv7_8 : Hid (V5.heap[b8]? = some (.cells #[.int .i64 0, .int .i64 0, .int .i64 0, .int .i64 0] 26 (0, 0))) := Lib.hid (h0)
 have Lt8 : Hid (b8 < V5.heap.size) := Lib.hid (xp_lt Fv7_8.out)
 clear hge h0 hb
 simp only [ptr, Act.put, zA, zB, zC]
 have C3_5 := zb B3 B4
 refine wpList_storeW b8 #[.int .i64 0, .int .i64 0, .int .i64 0, .int .i64 0] #[.int .i64 (x0 : Int), .int .i64 (x1 : Int), .int .i64 (x2 : Int), .int .i64 (x3 : Int)] 26 (by kernel_rfl) Fv7_8.out (xo_storeW b8 #[.int .i64 0, .int .i64 0, .int .i64 0, .int .i64 0] #[.int .i64 (x0 : Int), .int .i64 (x1 : Int), .int .i64 (x2 : Int), .int .i64 (x3 : Int)] Fv7_8.out (by kernel_rfl) rfl (by simp [Value.oneCell']) rfl rfl rfl) ?_
 intro X5_9 h1 hfar hbel hsz
 have YOw20 : X5_9.ownsRow VB2.heap.size 46 3 (.slice (some ⟨g20, 0, none⟩) 0 0) 0 (fl ciC ([])) := own_farT (own_keep Ow20.out C3_5.out) Fv7_8.out (by decide) hfar
 have YOw21 : X5_9.ownsRow VB2.heap.size 46 3 (.slice (some ⟨g21, 0, none⟩) 0 0) 0 (fl ciC ([])) := own_farT (own_keep Ow21.out B4.out) Fv7_8.out (by decide) hfar
 have hbr := hbel _ _ Ge6.out B4.out
 clear B4
 have B4 := Lib.hid hbr
 clear hbr
 clear Ow20
 have Ow20 := Lib.hid YOw20
 clear YOw20
 clear Ow21
 have Ow21 := Lib.hid YOw21
 clear YOw21
 clear Fv7_8
 have Fv7_8 : Hid (X5_9.heap[b8]? = some (.cells #[.int .i64 (x0 : Int), .int .i64 (x1 : Int), .int .i64 (x2 : Int), .int .i64 (x3 : Int)] 26 (0, 0))) := Lib.hid (h1)
 have HszX5_9 := Lib.hid hsz
 clear h1 hfar hbel hsz
 simp only [ptr, Act.put, zA, zB, zC]
 refine zr (.slice (some ⟨g20, 0, none⟩) 0 0) X5_9 rfl ?_
 simp only [Act.put, zA, zB, zC]
 refine zr (.slice (some ⟨g21, 0, none⟩) 0 0) X5_9 rfl ?_
 simp only [Act.put, zA, zB, zC]
 refine wpList_nil ?_
 go_upto_region 3 with fail
 refine wp_region_lit ?_
 refine zr (.int .i64 0) X5_9 rfl ?_
 simp only [Act.put, zA, zB, zC]
 refine wpList_nil ?_
 have Gr10 : Hid (VB2.heap.size ≤ b8) := Lib.hid (Nat.le_trans C0_4.out.size Ge6.out)
 go_upto_block 0 with fail
 go_cut [9] from 22 to 39 (fun s9 wx => (∃ A1 c1, s9 = .slice A1 m c1 ∧ wx.ownsRow VB2.heap.size 46 3 (.slice A1 m c1) m (fl ciC l) ∧ wx.ownsRow VB2.heap.size 46 3 (.slice (some ⟨g21, 0, none⟩) 0 0) 0 (fl ciC []) ∧ ApartV (.slice A1 m c1) (.slice (some ⟨g21, 0, none⟩) 0 0)) ∧ wx.heap[b8]? = some (.cells #[.int .i64 (x0 : Int), .int .i64 (x1 : Int), .int .i64 (x2 : Int), .int .i64 (x3 : Int)] 26 (0, 0)) ∧ Below VB2.heap.size VB2 wx)
 case first =>
  have O11 := Fv7_8.out
  have O12 := Ow20.out
  have O13 := Ow21.out
  have C0_5 := zb C0_4 B4
  have O14 := C0_5.out
  go_wp2_with fail
  go_loopw [11, 9] (fun p v wr => ∃ i : Nat, ∃ (A1 : Option Addr) (c1 : Nat), i ≤ m ∧ p = .int .i64 i ∧ v = .slice A1 i c1 ∧ wr.ownsRow VB2.heap.size 46 3 (.slice A1 i c1) i (fl ciC (l.take i)) ∧ wr.ownsRow VB2.heap.size 46 3 (.slice (some ⟨g21, 0, none⟩) 0 0) 0 (fl ciC []) ∧ ApartV (.slice A1 i c1) (.slice (some ⟨g21, 0, none⟩) 0 0) ∧ wr.heap[b8]? = some (.cells #[.int .i64 (x0 : Int), .int .i64 (x1 : Int), .int .i64 (x2 : Int), .int .i64 (x3 : Int)] 26 (0, 0)) ∧ Below VB2.heap.size VB2 wr) (fun p _ _ => m - (intOf p).toNat)
  case atStart => exact ⟨0, _, _, Nat.zero_le _, rfl, rfl, O12, O13, Ap3.out, O11, O14⟩
  case round =>
   clear O11 O14 O12 O13
   obtain ⟨wo, rfl⟩ : ∃ wo : World, wo = wr := ⟨_, rfl⟩
   obtain ⟨i, A1, c1, hi, rfl, hHV, hHOL, hHOR, hHAP, hr0, hb0⟩ := hrel
   have hbr := hb0
   clear B0
   have B0 := Lib.hid hbr
   clear hbr
   clear Fv7_8
   have Fv7_8 : Hid (wo.heap[b8]? = some (.cells #[.int .i64 (x0 : Int), .int .i64 (x1 : Int), .int .i64 (x2 : Int), .int .i64 (x3 : Int)] 26 (0, 0))) := Lib.hid (hr0)
   have HV := Lib.hid hHV
   have HOL := Lib.hid hHOL
   have HOR := Lib.hid hHOR
   have HAP := Lib.hid hHAP
   clear hb0 hr0 hHV hHOL hHOR hHAP
   have ev := HV.out
   subst ev
   clear HV
   by_cases hin : i < n
   ·by_cases hi2 : i < 2
    ·have hci16 : ((i : Int) < (n : Int)) := by omega
     have hci17 : ((i : Int) < 2) := by omega
     go_upto_region 4 with fail
     refine wp_region_lit ?_
     refine zr (.int .i64 (i : Int)) wo rfl ?_
     simp only [Act.put, zA, zB, zC]
     refine zr (.slice A n c) wo rfl ?_
     simp only [Act.put, zA, zB, zC]
     refine zr (.int .i64 (n : Int)) wo (xo_len A n c Tryd.underlying28 rfl rfl) ?_
     simp only [Act.put, zA, zB, zC]
     refine zr (.bool true) wo (xo_lssT .i64 (i : Int) (n : Int) (by omega) rfl rfl rfl) ?_
     simp only [Act.put, zA, zB, zC]
     refine zr (.bool true) wo rfl ?_
     simp only [Act.put, zA, zB, zC]
     refine zr (.int .i64 (i : Int)) wo rfl ?_
     simp only [Act.put, zA, zB, zC]
     refine zr (.bool true) wo (xo_lssT .i64 (i : Int) 2 (by omega) rfl rfl rfl) ?_
     simp only [Act.put, zA, zB, zC]
     refine zr (.bool true) wo rfl ?_
     simp only [Act.put, zA, zB, zC]
     refine wpList_nil ?_
     obtain ⟨e0, he⟩ : ∃ e, cs[i]? = some e := ⟨_, List.getElem?_eq_getElem (by omega)⟩
     obtain ⟨ca, cl, ch⟩ := e0
     have HE := Lib.hid he
     have hle : l[i]? = some (Qu.dC (Qu.Ci.mk ca cl ch)) := by rw [← HL.out, List.getElem?_map, List.getElem?_take, if_pos (by omega), he]; rfl
     have HLE := Lib.hid hle
     clear he hle
     go_upto_region 6 with fail
     refine wp_region_lit ?_
     refine zr (.slice A1 i c1) wo rfl ?_
     simp only [Act.put, zA, zB, zC]
     refine zr (.slice A n c) wo rfl ?_
     simp only [Act.put, zA, zB, zC]
     refine zr (.int .i64 (i : Int)) wo rfl ?_
     simp only [Act.put, zA, zB, zC]
     refine zr (.pointer (some (gad A (i * 3)))) wo (xg_idx .i64 (HC.out.keep B0.out) HE.out Tryd.underlying28 (by kernel_rfl) rfl rfl rfl) ?_
     simp only [Act.put, zA, zB, zC]
     refine zr (.agg #[.int .i64 ca, .int .i64 cl, .int .i64 ch]) wo (xg_loadE (E := ciC) (HC.out.keep B0.out) HE.out Tryd.underlying46 rfl (by kernel_rfl) rfl rfl) ?_
     simp only [Act.put, zA, zB, zC]
     refine wpList_call (by kernel_rfl) 27 Tryd.func27 (by kernel_rfl) (by kernel_rfl) _ _ #[.agg #[.int .i64 ca, .int .i64 cl, .int .i64 ch]] rfl (by kernel_rfl) ?_
     refine (madeCond_any ca cl ch wo).mono ?_
     rintro e V2 ⟨rfl, hb⟩
     have B1 := Lib.hid hb
     clear hb 
     refine ⟨_, rfl, ?_⟩
     simp only [Act.put, zA, zB, zC]
     refine wpList_mk (by kernel_rfl) ([(Qu.Ci.mk (((Qu.mdC (Qu.Ci.mk ca cl ch)).col : Nat) : Int) (((Qu.mdC (Qu.Ci.mk ca cl ch)).lo : Nat) : Int) (((Qu.mdC (Qu.Ci.mk ca cl ch)).hi : Nat) : Int))].flatMap ciC).toArray 46 1 1 (xg_lit (E := ciC) (bytes := 24) (.agg #[.int .i64 0, .int .i64 0, .int .i64 0]) [.tmp 37] [(Qu.Ci.mk (((Qu.mdC (Qu.Ci.mk ca cl ch)).col : Nat) : Int) (((Qu.mdC (Qu.Ci.mk ca cl ch)).lo : Nat) : Int) (((Qu.mdC (Qu.Ci.mk ca cl ch)).hi : Nat) : Int))] 1 Tryd.underlying28 (by kernel_rfl) rfl (by decide) (by decide) rfl rfl) ?_
     intro g38 V3 hge h0 hb
     have N18_0 : Hid (b8 ≠ g38) := Lib.hid (xp_lt0 (heap_keep Fv7_8.out B1.out) hge)
     have C0_2 := zb B0 B1
     have N19_1 : Hid (w.heap.size ≠ g38) := Lib.hid (xp_lt0 (heap_keep Fv0_4.out C0_2.out) hge)
     have N20_2 : Hid ((w.heap.size + 1) ≠ g38) := Lib.hid (xp_lt0 (heap_keep Fv1_5.out C0_2.out) hge)
     have Ge21 : Hid (V2.heap.size ≤ g38) := Lib.hid hge
     have B2 := Lib.hid hb
     have Fv22_38 : Hid (RowG ciC V3 g38 46 ([(Qu.Ci.mk (((Qu.mdC (Qu.Ci.mk ca cl ch)).col : Nat) : Int) (((Qu.mdC (Qu.Ci.mk ca cl ch)).lo : Nat) : Int) (((Qu.mdC (Qu.Ci.mk ca cl ch)).hi : Nat) : Int))])) := Lib.hid (h0)
     have Lt23 : Hid (g38 < V3.heap.size) := Lib.hid (xp_lt Fv22_38.out)
     clear hge h0 hb
     simp only [ptr, Act.put, zA, zB, zC]
     have C1_3 := zb B1 B2
     have C0_3 := zb C0_2 B2
     refine wpList_app2 (size := 3) (by kernel_rfl) (.tmp 32) (.tmp 38) 28 rfl (.agg #[.int .i64 0, .int .i64 0, .int .i64 0]) 24 Tryd.underlying28 (by kernel_rfl) rfl (by decide) rfl (own_keep HOL.out C1_3.out) (some ⟨g38, 0, none⟩) 1 1 (fl ciC ([(Qu.Ci.mk (((Qu.mdC (Qu.Ci.mk ca cl ch)).col : Nat) : Int) (((Qu.mdC (Qu.Ci.mk ca cl ch)).lo : Nat) : Int) (((Qu.mdC (Qu.Ci.mk ca cl ch)).hi : Nat) : Int))])) rfl (RowG.sg (n := 1) (c := 1) Fv22_38.out (show ([(Qu.Ci.mk (((Qu.mdC (Qu.Ci.mk ca cl ch)).col : Nat) : Int) (((Qu.mdC (Qu.Ci.mk ca cl ch)).lo : Nat) : Int) (((Qu.mdC (Qu.Ci.mk ca cl ch)).hi : Nat) : Int))]).length = 1 from rfl) (Nat.le_refl _) (by omega)).src (by unfold maxLen; omega) (by omega) C0_3.out.size ?_
     intro v39 X3_24 ho hb1 hg hloc
     have hox : X3_24.ownsRow VB2.heap.size 46 3 v39 (i + 1) (fl ciC ((l.take i) ++ ([(Qu.Ci.mk (((Qu.mdC (Qu.Ci.mk ca cl ch)).col : Nat) : Int) (((Qu.mdC (Qu.Ci.mk ca cl ch)).lo : Nat) : Int) (((Qu.mdC (Qu.Ci.mk ca cl ch)).hi : Nat) : Int))]))) := by rw [fl_append]; exact ho
     have hzHOR := own_other (own_keep HOR.out C1_3.out) hg HAP.out
     have hpHOR := ApartV.grow HAP.out hloc (own_keep HOR.out C1_3.out)
     have YFv7_8 : X3_24.heap[b8]? = some (.cells #[.int .i64 (x0 : Int), .int .i64 (x1 : Int), .int .i64 (x2 : Int), .int .i64 (x3 : Int)] 26 (0, 0)) := own_rowkeep (own_keep HOL.out C1_3.out) hg (heap_keep Fv7_8.out C1_3.out) (by decide)
     have hbr := C0_3.out.trans hb1
     clear B0
     have B0 := Lib.hid hbr
     clear hbr
     have Ow39_25 := Lib.hid hox
     clear HOR
     have HOR := Lib.hid hzHOR
     have Ap26 := Lib.hid hpHOR
     clear hzHOR hpHOR
     clear Fv7_8
     have Fv7_8 : Hid (X3_24.heap[b8]? = some (.cells #[.int .i64 (x0 : Int), .int .i64 (x1 : Int), .int .i64 (x2 : Int), .int .i64 (x3 : Int)] 26 (0, 0))) := Lib.hid YFv7_8
     clear YFv7_8
     have Lt27 : Hid (b8 < X3_24.heap.size) := Lib.hid (xp_lt Fv7_8.out)
     clear ho hox hb1 hg hloc
     simp only [ptr, Act.put, zA, zB, zC]
     refine zr (v39) X3_24 rfl ?_
     simp only [Act.put, zA, zB, zC]
     refine wpList_nil ?_
     go_upto_region 5 with fail
     refine wp_region_lit ?_
     refine zr (.int .i64 (i : Int)) X3_24 rfl ?_
     simp only [Act.put, zA, zB, zC]
     refine zr (.int .i64 ((i + 1 : Nat) : Int)) X3_24 (xo_addI (i : Int) 1 ((i + 1 : Nat) : Int) (by omega) (by omega) (by omega) rfl rfl rfl) ?_
     simp only [Act.put, zA, zB, zC]
     refine zr (.int .i64 ((i + 1 : Nat) : Int)) X3_24 rfl ?_
     simp only [Act.put, zA, zB, zC]
     refine wpList_nil ?_
     obtain ⟨A28, c28, rfl⟩ := own_form Ow39_25.out
     have ow0 : X3_24.ownsRow VB2.heap.size 46 3 (.slice A28 (i + 1) c28) (i + 1) (fl ciC (l.take (i + 1))) := by rw [take_snoc HLE.out]; exact Ow39_25.out
     have or0 := HOR.out
     have ap1 := Ap26.out
     have hq29 := Fv7_8.out
     have hq30 := B0.out
     go_wp2_with fail
     go_roundw
     case rel => exact ⟨i + 1, _, _, by omega, by go_num, rfl, ow0, or0, ap1, hq29, hq30⟩
     case measure => simp [intOf]; omega
    ·have hci16 : ((i : Int) < (n : Int)) := by omega
     have hci17 : ¬ ((i : Int) < 2) := by omega
     go_upto_region 4 with fail
     refine wp_region_lit ?_
     refine zr (.int .i64 (i : Int)) wo rfl ?_
     simp only [Act.put, zA, zB, zC]
     refine zr (.slice A n c) wo rfl ?_
     simp only [Act.put, zA, zB, zC]
     refine zr (.int .i64 (n : Int)) wo (xo_len A n c Tryd.underlying28 rfl rfl) ?_
     simp only [Act.put, zA, zB, zC]
     refine zr (.bool true) wo (xo_lssT .i64 (i : Int) (n : Int) (by omega) rfl rfl rfl) ?_
     simp only [Act.put, zA, zB, zC]
     refine zr (.bool true) wo rfl ?_
     simp only [Act.put, zA, zB, zC]
     refine zr (.int .i64 (i : Int)) wo rfl ?_
     simp only [Act.put, zA, zB, zC]
     refine zr (.bool false) wo (xo_lssF .i64 (i : Int) 2 (by omega) rfl rfl rfl) ?_
     simp only [Act.put, zA, zB, zC]
     refine zr (.bool false) wo rfl ?_
     simp only [Act.put, zA, zB, zC]
     refine wpList_nil ?_
     have eim : m = i := by omega
     subst eim
     have hlm : l.take m = l := List.take_of_length_le (by have := HM.out; omega)
     have ho1 := HOL.out
     rw [hlm] at ho1
     have ho2 := HOR.out
     have ho3 := HAP.out
     have hm18 := Fv7_8.out
     have hm19 := B0.out
     go_wp2_with fail
     go_meet
     case rel => exact ⟨⟨_, _, rfl, ho1, ho2, ho3⟩, hm18, hm19⟩
   ·have hci16 : ¬ ((i : Int) < (n : Int)) := by omega
    go_upto_region 4 with fail
    refine wp_region_lit ?_
    refine zr (.int .i64 (i : Int)) wo rfl ?_
    simp only [Act.put, zA, zB, zC]
    refine zr (.slice A n c) wo rfl ?_
    simp only [Act.put, zA, zB, zC]
    refine zr (.int .i64 (n : Int)) wo (xo_len A n c Tryd.underlying28 rfl rfl) ?_
    simp only [Act.put, zA, zB, zC]
    refine zr (.bool false) wo (xo_lssF .i64 (i : Int) (n : Int) (by omega) rfl rfl rfl) ?_
    simp only [Act.put, zA, zB, zC]
    refine zr (.bool false) wo rfl ?_
    simp only [Act.put, zA, zB, zC]
    refine zl ?_
    try simp only [Act.put, zA, zB, zC]
    refine zl ?_
    try simp only [Act.put, zA, zB, zC]
    refine zr (.bool false) wo rfl ?_
    simp only [Act.put, zA, zB, zC]
    refine wpList_nil ?_
    have eim : m = i := by omega
    subst eim
    have hlm : l.take m = l := List.take_of_length_le (by have := HM.out; omega)
    have ho1 := HOL.out
    rw [hlm] at ho1
    have ho2 := HOR.out
    have ho3 := HAP.out
    have hm17 := Fv7_8.out
    have hm18 := B0.out
    go_wp2_with fail
    go_meet
    case rel => exact ⟨⟨_, _, rfl, ho1, ho2, ho3⟩, hm17, hm18⟩
 case rest =>
  obtain ⟨wc16, rfl⟩ : ∃ W, W = wc := ⟨_, rfl⟩
  obtain ⟨⟨A1, c1, hs9, hol, hor, hap⟩, hr0, hb0⟩ := hcut
  have hbr := hb0
  clear B0
  have B0 := Lib.hid hbr
  clear hbr
  clear Fv7_8
  have Fv7_8 : Hid (wc16.heap[b8]? = some (.cells #[.int .i64 (x0 : Int), .int .i64 (x1 : Int), .int .i64 (x2 : Int), .int .i64 (x3 : Int)] 26 (0, 0))) := Lib.hid (hr0)
  clear hb0 hr0
  subst hs9
  have HOL := Lib.hid hol
  clear hol
  have HOR := Lib.hid hor
  clear hor
  have HAP := Lib.hid hap
  clear hap
  go_upto_region 7 with fail
  refine wp_region_lit ?_
  refine zr (.bool true) wc16 rfl ?_
  simp only [Act.put, zA, zB, zC]
  refine wpList_nil ?_
  go_upto_region 8 with fail
  refine wp_region_lit ?_
  refine zr (.int .i64 0) wc16 rfl ?_
  simp only [Act.put, zA, zB, zC]
  refine wpList_nil ?_
  have O18 := Fv7_8.out
  have O19 := HOL.out
  have O20 := HOR.out
  have O21 := B0.out
  go_wp2_with fail
  go_loopw [13, 12, 10] (fun p a v wr => ∃ i : Nat, ∃ (A2 : Option Addr) (c2 : Nat), i ≤ m ∧ p = .int .i64 i ∧ a = .bool ((l.take i).all (Qu.mC (Rd.mk (x0 : Int) (x1 : Int) (x2 : Int) (x3 : Int)))) ∧ v = .slice A2 i c2 ∧ wr.ownsRow VB2.heap.size 46 3 (.slice A1 m c1) m (fl ciC l) ∧ wr.ownsRow VB2.heap.size 46 3 (.slice A2 i c2) i (fl ciC (l.reverse.take i)) ∧ ApartV (.slice A1 m c1) (.slice A2 i c2) ∧ wr.heap[b8]? = some (.cells #[.int .i64 (x0 : Int), .int .i64 (x1 : Int), .int .i64 (x2 : Int), .int .i64 (x3 : Int)] 26 (0, 0)) ∧ Below VB2.heap.size VB2 wr) (fun p _ _ _ => m - (intOf p).toNat)
  case atStart => exact ⟨0, _, _, Nat.zero_le _, rfl, rfl, rfl, O19, O20, HAP.out, O18, O21⟩
  case round =>
   clear O18 O21 O19 O20
   obtain ⟨wq, rfl⟩ : ∃ wq : World, wq = wr := ⟨_, rfl⟩
   obtain ⟨i, A2, c2, hi, rfl, hHB, hHV, hHOL, hHOR, hHAP, hr0, hb0⟩ := hrel
   have hbr := hb0
   clear B0
   have B0 := Lib.hid hbr
   clear hbr
   clear Fv7_8
   have Fv7_8 : Hid (wq.heap[b8]? = some (.cells #[.int .i64 (x0 : Int), .int .i64 (x1 : Int), .int .i64 (x2 : Int), .int .i64 (x3 : Int)] 26 (0, 0))) := Lib.hid (hr0)
   have HB := Lib.hid hHB
   have HV := Lib.hid hHV
   have HOL := Lib.hid hHOL
   have HOR := Lib.hid hHOR
   have HAP := Lib.hid hHAP
   clear hb0 hr0 hHB hHV hHOL hHOR hHAP
   have ev := HV.out
   subst ev
   clear HV
   obtain ⟨ab, hab⟩ : ∃ b, (l.take i).all (Qu.mC (Rd.mk (x0 : Int) (x1 : Int) (x2 : Int) (x3 : Int))) = b := ⟨_, rfl⟩
   have eb := HB.out
   rw [hab] at eb
   subst eb
   clear HB
   have HAB := Lib.hid hab
   clear hab
   have hsl := Sg.ownS HOL.out
   have hcap := hsl.cap
   have htop := hsl.top
   have HLr := Lib.hid hsl
   clear hsl
   by_cases hlt2 : i < m
   ·have hci23 : ((i : Int) < (m : Int)) := by omega
    go_upto_region 9 with fail
    refine wp_region_lit ?_
    refine zr (.int .i64 (i : Int)) wq rfl ?_
    simp only [Act.put, zA, zB, zC]
    refine zr (.slice A1 m c1) wq rfl ?_
    simp only [Act.put, zA, zB, zC]
    refine zr (.int .i64 (m : Int)) wq (xo_len A1 m c1 Tryd.underlying28 rfl rfl) ?_
    simp only [Act.put, zA, zB, zC]
    refine zr (.bool true) wq (xo_lssT .i64 (i : Int) (m : Int) (by omega) rfl rfl rfl) ?_
    simp only [Act.put, zA, zB, zC]
    refine wpList_nil ?_
    obtain ⟨d0, hd⟩ : ∃ e, l[i]? = some e := ⟨_, List.getElem?_eq_getElem (by have := HM.out; omega)⟩
    obtain ⟨da, dl, dh⟩ := d0
    have HD := Lib.hid hd
    clear hd
    obtain ⟨g0, hd⟩ : ∃ e, l[m - 1 - i]? = some e := ⟨_, List.getElem?_eq_getElem (by have := HM.out; omega)⟩
    obtain ⟨ga, gl, gh⟩ := g0
    have HF := Lib.hid hd
    clear hd
    cases ab with
    | false =>
     go_upto_region 11 with fail
     refine wp_floatP [0, 1, 2, 3, 4, 5, 6, 7, 8, 9, 10] (l' := [_, _, _, _, _, _, _, _, _, _, _]) (by kernel_rfl) (lexOK_of (by kernel_rfl) (by kernel_rfl)) (ordOK_of (by kernel_rfl) (by kernel_rfl)) rfl rfl ?_
     simp only [List.getElem_toArray, List.getElem_cons_succ, List.getElem_cons_zero]
     intro V2 hb hSW
     have B1 := Lib.hid hb
     have HF2 := Lib.hid hSW
     clear hb hSW
     refine wpF_seg 6 (by kernel_rfl) ?_
     simp only [List.take_succ_cons, List.take_zero, List.drop_succ_cons, List.drop_zero]
     refine zv (.bool false) (fun v hv => rfl) ?_
     simp only [Act.put, zA, zB, zC]
     refine zv (.bool false) (fun v hv => rfl) ?_
     simp only [Act.put, zA, zB, zC]
     refine BigFrame.wpQuiet_skip (by kernel_rfl) ?_
     try simp only [Act.put, zA, zB, zC]
     refine BigFrame.wpQuiet_skip (by kernel_rfl) ?_
     try simp only [Act.put, zA, zB, zC]
     refine BigFrame.wpQuiet_skip (by kernel_rfl) ?_
     try simp only [Act.put, zA, zB, zC]
     refine BigFrame.wpQuiet_skip (by kernel_rfl) ?_
     try simp only [Act.put, zA, zB, zC]
     refine wpQuiet_nil ?_
     refine wpF_skip rfl ?_
     simp only [ptr, Act.put, zA, zB, zC]
     refine wpF_seg 1 (by kernel_rfl) ?_
     simp only [List.take_succ_cons, List.take_zero, List.drop_succ_cons, List.drop_zero]
     refine BigFrame.wpQuiet_skip (by kernel_rfl) ?_
     try simp only [Act.put, zA, zB, zC]
     refine wpQuiet_nil ?_
     refine wpF_skip rfl ?_
     simp only [ptr, Act.put, zA, zB, zC]
     refine wpF_seg 2 (by kernel_rfl) ?_
     simp only [List.take_succ_cons, List.take_zero, List.drop_succ_cons, List.drop_zero]
     refine zv (.bool false) (fun v hv => rfl) ?_
     simp only [Act.put, zA, zB, zC]
     refine zv (.bool false) (fun v hv => rfl) ?_
     simp only [Act.put, zA, zB, zC]
     refine wpQuiet_nil ?_
     refine wpF_nil (fun V3 hb => ?_)
     have B2 := Lib.hid hb
     clear hb
     clear HF2
     go_upto_region 12 with fail
     refine wp_region_lit ?_
     refine zr (.slice A2 i c2) V3 rfl ?_
     simp only [Act.put, zA, zB, zC]
     refine zr (.slice A1 m c1) V3 rfl ?_
     simp only [Act.put, zA, zB, zC]
     refine zr (.slice A1 m c1) V3 rfl ?_
     simp only [Act.put, zA, zB, zC]
     refine zr (.int .i64 (m : Int)) V3 (xo_len A1 m c1 Tryd.underlying28 rfl rfl) ?_
     simp only [Act.put, zA, zB, zC]
     refine zr (.int .i64 ((m - 1 : Nat) : Int)) V3 (xo_subI (m : Int) 1 (((m - 1) : Nat) : Int) (by omega) (by omega) (by omega) rfl rfl rfl) ?_
     simp only [Act.put, zA, zB, zC]
     refine zr (.int .i64 (i : Int)) V3 rfl ?_
     simp only [Act.put, zA, zB, zC]
     refine zr (.int .i64 ((m - 1 - i : Nat) : Int)) V3 (xo_subI ((m - 1 : Nat) : Int) (i : Int) (((m - 1 - i) : Nat) : Int) (by omega) (by omega) (by omega) rfl rfl rfl) ?_
     simp only [Act.put, zA, zB, zC]
     have C1_3 := zb B1 B2
     refine zr (.pointer (some (gad A1 ((m - 1 - i) * 3)))) V3 (xg_idx .i64 (HLr.out.keep C1_3.out) HF.out Tryd.underlying28 (by kernel_rfl) rfl rfl rfl) ?_
     simp only [Act.put, zA, zB, zC]
     refine zr (.agg #[.int .i64 ga, .int .i64 gl, .int .i64 gh]) V3 (xg_loadE (E := ciC) (HLr.out.keep C1_3.out) HF.out Tryd.underlying46 rfl (by kernel_rfl) rfl rfl) ?_
     simp only [Act.put, zA, zB, zC]
     refine wpList_mk (by kernel_rfl) ([(Qu.Ci.mk ga gl gh)].flatMap ciC).toArray 46 1 1 (xg_lit (E := ciC) (bytes := 24) (.agg #[.int .i64 0, .int .i64 0, .int .i64 0]) [.tmp 64] [(Qu.Ci.mk ga gl gh)] 1 Tryd.underlying28 (by kernel_rfl) rfl (by decide) (by decide) rfl rfl) ?_
     intro g65 V4 hge h0 hb
     have N24_0 : Hid (b8 ≠ g65) := Lib.hid (xp_lt0 (heap_keep Fv7_8.out C1_3.out) hge)
     have C0_2 := zb B0 B1
     have C0_3 := zb C0_2 B2
     have N25_1 : Hid (w.heap.size ≠ g65) := Lib.hid (xp_lt0 (heap_keep Fv0_4.out C0_3.out) hge)
     have N26_2 : Hid ((w.heap.size + 1) ≠ g65) := Lib.hid (xp_lt0 (heap_keep Fv1_5.out C0_3.out) hge)
     have Ge27 : Hid (V3.heap.size ≤ g65) := Lib.hid hge
     have B3 := Lib.hid hb
     have Fv28_65 : Hid (RowG ciC V4 g65 46 ([(Qu.Ci.mk ga gl gh)])) := Lib.hid (h0)
     have Lt29 : Hid (g65 < V4.heap.size) := Lib.hid (xp_lt Fv28_65.out)
     clear hge h0 hb
     simp only [ptr, Act.put, zA, zB, zC]
     have C1_4 := zb C1_3 B3
     have C0_4 := zb C0_3 B3
     refine wpList_app2 (size := 3) (by kernel_rfl) (.tmp 56) (.tmp 65) 28 rfl (.agg #[.int .i64 0, .int .i64 0, .int .i64 0]) 24 Tryd.underlying28 (by kernel_rfl) rfl (by decide) rfl (own_keep HOR.out C1_4.out) (some ⟨g65, 0, none⟩) 1 1 (fl ciC ([(Qu.Ci.mk ga gl gh)])) rfl (RowG.sg (n := 1) (c := 1) Fv28_65.out (show ([(Qu.Ci.mk ga gl gh)]).length = 1 from rfl) (Nat.le_refl _) (by omega)).src (by unfold maxLen; omega) (by omega) C0_4.out.size ?_
     intro v66 X4_30 ho hb1 hg hloc
     have hox : X4_30.ownsRow VB2.heap.size 46 3 v66 (i + 1) (fl ciC ((l.reverse.take i) ++ ([(Qu.Ci.mk ga gl gh)]))) := by rw [fl_append]; exact ho
     have hzHOL := own_other (own_keep HOL.out C1_4.out) hg HAP.out.symm
     have hpHOL := ApartV.grow HAP.out.symm hloc (own_keep HOL.out C1_4.out)
     have YFv7_8 : X4_30.heap[b8]? = some (.cells #[.int .i64 (x0 : Int), .int .i64 (x1 : Int), .int .i64 (x2 : Int), .int .i64 (x3 : Int)] 26 (0, 0)) := own_rowkeep (own_keep HOR.out C1_4.out) hg (heap_keep Fv7_8.out C1_4.out) (by decide)
     have hbr := C0_4.out.trans hb1
     clear B0
     have B0 := Lib.hid hbr
     clear hbr
     have Ow66_31 := Lib.hid hox
     clear HOL
     have HOL := Lib.hid hzHOL
     have Ap32 := Lib.hid hpHOL
     clear hzHOL hpHOL
     clear Fv7_8
     have Fv7_8 : Hid (X4_30.heap[b8]? = some (.cells #[.int .i64 (x0 : Int), .int .i64 (x1 : Int), .int .i64 (x2 : Int), .int .i64 (x3 : Int)] 26 (0, 0))) := Lib.hid YFv7_8
     clear YFv7_8
     have Lt33 : Hid (b8 < X4_30.heap.size) := Lib.hid (xp_lt Fv7_8.out)
     clear ho hox hb1 hg hloc
     simp only [ptr, Act.put, zA, zB, zC]
     refine zr (v66) X4_30 rfl ?_
     simp only [Act.put, zA, zB, zC]
     refine wpList_nil ?_
     go_upto_region 10 with fail
     refine wp_region_lit ?_
     refine zr (.int .i64 (i : Int)) X4_30 rfl ?_
     simp only [Act.put, zA, zB, zC]
     refine zr (.int .i64 ((i + 1 : Nat) : Int)) X4_30 (xo_addI (i : Int) 1 ((i + 1 : Nat) : Int) (by omega) (by omega) (by omega) rfl rfl rfl) ?_
     simp only [Act.put, zA, zB, zC]
     refine zr (.int .i64 ((i + 1 : Nat) : Int)) X4_30 rfl ?_
     simp only [Act.put, zA, zB, zC]
     refine wpList_nil ?_
     obtain ⟨A34, c34, rfl⟩ := own_form Ow66_31.out
     have ow0 : X4_30.ownsRow VB2.heap.size 46 3 (.slice A34 (i + 1) c34) (i + 1) (fl ciC (l.reverse.take (i + 1))) := by rw [take_snoc (rev_get HM.out (by omega) HF.out)]; exact Ow66_31.out
     have or0 := HOL.out
     have ap1 := Ap32.out.symm
     have ha1 : (l.take (i + 1)).all (Qu.mC (Rd.mk (x0 : Int) (x1 : Int) (x2 : Int) (x3 : Int))) = false := by rw [all_snoc HD.out, HAB.out]; first | rfl | (rw [hmb]; rfl)
     have hq35 := Fv7_8.out
     have hq36 := B0.out
     go_wp2_with fail
     go_roundw
     case rel => exact ⟨i + 1, _, _, by omega, by go_num, by rw [ha1], rfl, or0, ow0, ap1, hq35, hq36⟩
     case measure => simp [intOf]; omega
    | true =>
     cases hmb : Qu.mC (Rd.mk (x0 : Int) (x1 : Int) (x2 : Int) (x3 : Int)) (Qu.Ci.mk da dl dh) with
     | false =>
      go_upto_region 11 with fail
      refine wp_floatP [0, 1, 2, 3, 4, 5, 6, 7, 8, 9, 10] (l' := [_, _, _, _, _, _, _, _, _, _, _]) (by kernel_rfl) (lexOK_of (by kernel_rfl) (by kernel_rfl)) (ordOK_of (by kernel_rfl) (by kernel_rfl)) rfl rfl ?_
      simp only [List.getElem_toArray, List.getElem_cons_succ, List.getElem_cons_zero]
      intro V2 hb hSW
      have B1 := Lib.hid hb
      have HF2 := Lib.hid hSW
      clear hb hSW
      refine wpF_seg 6 (by kernel_rfl) ?_
      simp only [List.take_succ_cons, List.take_zero, List.drop_succ_cons, List.drop_zero]
      refine zv (.bool true) (fun v hv => rfl) ?_
      simp only [Act.put, zA, zB, zC]
      refine zv (.bool true) (fun v hv => rfl) ?_
      simp only [Act.put, zA, zB, zC]
      refine zv (.slice A1 m c1) (fun v hv => rfl) ?_
      simp only [Act.put, zA, zB, zC]
      refine zv (.int .i64 (i : Int)) (fun v hv => rfl) ?_
      simp only [Act.put, zA, zB, zC]
      refine zv (.pointer (some (gad A1 (i * 3)))) (fun v hv => (xg_idx .i64 (HLr.out.keep (laterF hv)) HD.out Tryd.underlying28 (by kernel_rfl) rfl rfl rfl)) ?_
      simp only [Act.put, zA, zB, zC]
      refine zv (.agg #[.int .i64 da, .int .i64 dl, .int .i64 dh]) (fun v hv => (xg_loadE (E := ciC) (HLr.out.keep (laterF hv)) HD.out Tryd.underlying46 rfl (by kernel_rfl) rfl rfl)) ?_
      simp only [Act.put, zA, zB, zC]
      refine wpQuiet_nil ?_
      refine wpF_make (.cells ([(Qu.Ci.mk da dl dh)].flatMap ciC).toArray 46, fun b => .slice (some ⟨b, 0, none⟩) 1 1) (by kernel_rfl) (by kernel_rfl) (by kernel_rfl) (fun V => xg_lit (E := ciC) (bytes := 24) (.agg #[.int .i64 0, .int .i64 0, .int .i64 0]) [.tmp 51] [(Qu.Ci.mk da dl dh)] 1 Tryd.underlying28 (by kernel_rfl) rfl (by decide) (by decide) rfl rfl) (fun g52 V3 hb h0 hbz => ?_)
      have Ge24 : Hid (wq.heap.size ≤ g52) := Lib.hid hbz
      have B2 := Lib.hid hb
      have HF3 := Lib.hid (HF2.out.ext hb)
      have Fv25_52 : Hid (RowG ciC V3 g52 46 ([(Qu.Ci.mk da dl dh)])) := Lib.hid (h0)
      have N26 : Hid (b8 ≠ g52) := Lib.hid (Nat.ne_of_lt (Nat.lt_of_lt_of_le (xp_lt Fv7_8.out) hbz))
      have N27 : Hid (w.heap.size ≠ g52) := Lib.hid (Nat.ne_of_lt (Nat.lt_of_lt_of_le (xp_lt (heap_keep Fv0_4.out B0.out)) hbz))
      have N28 : Hid ((w.heap.size + 1) ≠ g52) := Lib.hid (Nat.ne_of_lt (Nat.lt_of_lt_of_le (xp_lt (heap_keep Fv1_5.out B0.out)) hbz))
      clear hb h0 hbz
      simp only [ptr, Act.put, zA, zB, zC]
      refine wpF_seg 1 (by kernel_rfl) ?_
      simp only [List.take_succ_cons, List.take_zero, List.drop_succ_cons, List.drop_zero]
      refine zv (.agg #[.int .i64 (x0 : Int), .int .i64 (x1 : Int), .int .i64 (x2 : Int), .int .i64 (x3 : Int)]) (fun v hv => (xo_loadW b8 _ (heap_keep Fv7_8.out (laterF hv)) Tryd.underlying26 rfl (by kernel_rfl) rfl rfl)) ?_
      simp only [Act.put, zA, zB, zC]
      refine wpQuiet_nil ?_
      refine wpF_call 16 Tryd.func16 (by kernel_rfl) (by kernel_rfl) _ _ #[.slice (some ⟨g52, 0, none⟩) 1 1, .agg #[.int .i64 (x0 : Int), .int .i64 (x1 : Int), .int .i64 (x2 : Int), .int .i64 (x3 : Int)]] rfl (by kernel_rfl) (by kernel_rfl) HF3.out (fun V4 hb => ?_)
      have B3 := Lib.hid hb
      have HF4 := Lib.hid (HF3.out.ext hb)
      clear hb
      refine (match_as (some ⟨g52, 0, none⟩) 1 1 [(Qu.Ci.mk da dl dh)] (Rd.mk (x0 : Int) (x1 : Int) (x2 : Int) (x3 : Int)) false (by simp only [List.all_cons, List.all_nil, Bool.and_true]; exact hmb) V4 (RowG.sg (n := 1) (c := 1) (Fv25_52.out.keep B3.out) (show ([(Qu.Ci.mk da dl dh)]).length = 1 from rfl) (Nat.le_refl _) (by omega))).mono ?_
      rintro e V5 ⟨rfl, hb⟩
      have B4 := Lib.hid hb
      have HF5 := Lib.hid (HF4.out.ext hb)
      refine ⟨_, rfl, hb, ?_⟩
      clear hb 
      simp only [Act.put, zA, zB, zC]
      refine wpF_seg 2 (by kernel_rfl) ?_
      simp only [List.take_succ_cons, List.take_zero, List.drop_succ_cons, List.drop_zero]
      refine zv (.bool false) (fun v hv => rfl) ?_
      simp only [Act.put, zA, zB, zC]
      refine zv (.bool false) (fun v hv => rfl) ?_
      simp only [Act.put, zA, zB, zC]
      refine wpQuiet_nil ?_
      refine wpF_nil (fun V6 hb => ?_)
      have B5 := Lib.hid hb
      clear hb
      clear HF2
      clear HF3
      clear HF4
      clear HF5
      go_upto_region 12 with fail
      refine wp_region_lit ?_
      refine zr (.slice A2 i c2) V6 rfl ?_
      simp only [Act.put, zA, zB, zC]
      refine zr (.slice A1 m c1) V6 rfl ?_
      simp only [Act.put, zA, zB, zC]
      refine zr (.slice A1 m c1) V6 rfl ?_
      simp only [Act.put, zA, zB, zC]
      refine zr (.int .i64 (m : Int)) V6 (xo_len A1 m c1 Tryd.underlying28 rfl rfl) ?_
      simp only [Act.put, zA, zB, zC]
      refine zr (.int .i64 ((m - 1 : Nat) : Int)) V6 (xo_subI (m : Int) 1 (((m - 1) : Nat) : Int) (by omega) (by omega) (by omega) rfl rfl rfl) ?_
      simp only [Act.put, zA, zB, zC]
      refine zr (.int .i64 (i : Int)) V6 rfl ?_
      simp only [Act.put, zA, zB, zC]
      refine zr (.int .i64 ((m - 1 - i : Nat) : Int)) V6 (xo_subI ((m - 1 : Nat) : Int) (i : Int) (((m - 1 - i) : Nat) : Int) (by omega) (by omega) (by omega) rfl rfl rfl) ?_
      simp only [Act.put, zA, zB, zC]
      have C1_3 := zb B1 B2
      have C1_4 := zb C1_3 B3
      have C1_5 := zb C1_4 B4
      have C1_6 := zb C1_5 B5
      refine zr (.pointer (some (gad A1 ((m - 1 - i) * 3)))) V6 (xg_idx .i64 (HLr.out.keep C1_6.out) HF.out Tryd.underlying28 (by kernel_rfl) rfl rfl rfl) ?_
      simp only [Act.put, zA, zB, zC]
      refine zr (.agg #[.int .i64 ga, .int .i64 gl, .int .i64 gh]) V6 (xg_loadE (E := ciC) (HLr.out.keep C1_6.out) HF.out Tryd.underlying46 rfl (by kernel_rfl) rfl rfl) ?_
      simp only [Act.put, zA, zB, zC]
      refine wpList_mk (by kernel_rfl) ([(Qu.Ci.mk ga gl gh)].flatMap ciC).toArray 46 1 1 (xg_lit (E := ciC) (bytes := 24) (.agg #[.int .i64 0, .int .i64 0, .int .i64 0]) [.tmp 64] [(Qu.Ci.mk ga gl gh)] 1 Tryd.underlying28 (by kernel_rfl) rfl (by decide) (by decide) rfl rfl) ?_
      intro g65 V7 hge h0 hb
      have N29_0 : Hid (b8 ≠ g65) := Lib.hid (xp_lt0 (heap_keep Fv7_8.out C1_6.out) hge)
      have C0_2 := zb B0 B1
      have C0_3 := zb C0_2 B2
      have C0_4 := zb C0_3 B3
      have C0_5 := zb C0_4 B4
      have C0_6 := zb C0_5 B5
      have N30_1 : Hid (w.heap.size ≠ g65) := Lib.hid (xp_lt0 (heap_keep Fv0_4.out C0_6.out) hge)
      have N31_2 : Hid ((w.heap.size + 1) ≠ g65) := Lib.hid (xp_lt0 (heap_keep Fv1_5.out C0_6.out) hge)
      have C3_5 := zb B3 B4
      have C3_6 := zb C3_5 B5
      have N32_3 : Hid (g52 ≠ g65) := Lib.hid (xp_lt0 (Fv25_52.out.keep C3_6.out) hge)
      have Ge33 : Hid (V6.heap.size ≤ g65) := Lib.hid hge
      have B6 := Lib.hid hb
      have Fv34_65 : Hid (RowG ciC V7 g65 46 ([(Qu.Ci.mk ga gl gh)])) := Lib.hid (h0)
      have Lt35 : Hid (g65 < V7.heap.size) := Lib.hid (xp_lt Fv34_65.out)
      clear hge h0 hb
      simp only [ptr, Act.put, zA, zB, zC]
      have C1_7 := zb C1_6 B6
      have C0_7 := zb C0_6 B6
      refine wpList_app2 (size := 3) (by kernel_rfl) (.tmp 56) (.tmp 65) 28 rfl (.agg #[.int .i64 0, .int .i64 0, .int .i64 0]) 24 Tryd.underlying28 (by kernel_rfl) rfl (by decide) rfl (own_keep HOR.out C1_7.out) (some ⟨g65, 0, none⟩) 1 1 (fl ciC ([(Qu.Ci.mk ga gl gh)])) rfl (RowG.sg (n := 1) (c := 1) Fv34_65.out (show ([(Qu.Ci.mk ga gl gh)]).length = 1 from rfl) (Nat.le_refl _) (by omega)).src (by unfold maxLen; omega) (by omega) C0_7.out.size ?_
      intro v66 X7_36 ho hb1 hg hloc
      have hox : X7_36.ownsRow VB2.heap.size 46 3 v66 (i + 1) (fl ciC ((l.reverse.take i) ++ ([(Qu.Ci.mk ga gl gh)]))) := by rw [fl_append]; exact ho
      have hzHOL := own_other (own_keep HOL.out C1_7.out) hg HAP.out.symm
      have hpHOL := ApartV.grow HAP.out.symm hloc (own_keep HOL.out C1_7.out)
      have YFv7_8 : X7_36.heap[b8]? = some (.cells #[.int .i64 (x0 : Int), .int .i64 (x1 : Int), .int .i64 (x2 : Int), .int .i64 (x3 : Int)] 26 (0, 0)) := own_rowkeep (own_keep HOR.out C1_7.out) hg (heap_keep Fv7_8.out C1_7.out) (by decide)
      have hbr := C0_7.out.trans hb1
      clear B0
      have B0 := Lib.hid hbr
      clear hbr
      have Ow66_37 := Lib.hid hox
      clear HOL
      have HOL := Lib.hid hzHOL
      have Ap38 := Lib.hid hpHOL
      clear hzHOL hpHOL
      clear Fv7_8
      have Fv7_8 : Hid (X7_36.heap[b8]? = some (.cells #[.int .i64 (x0 : Int), .int .i64 (x1 : Int), .int .i64 (x2 : Int), .int .i64 (x3 : Int)] 26 (0, 0))) := Lib.hid YFv7_8
      clear YFv7_8
      have Lt39 : Hid (b8 < X7_36.heap.size) := Lib.hid (xp_lt Fv7_8.out)
      clear ho hox hb1 hg hloc
      simp only [ptr, Act.put, zA, zB, zC]
      refine zr (v66) X7_36 rfl ?_
      simp only [Act.put, zA, zB, zC]
      refine wpList_nil ?_
      go_upto_region 10 with fail
      refine wp_region_lit ?_
      refine zr (.int .i64 (i : Int)) X7_36 rfl ?_
      simp only [Act.put, zA, zB, zC]
      refine zr (.int .i64 ((i + 1 : Nat) : Int)) X7_36 (xo_addI (i : Int) 1 ((i + 1 : Nat) : Int) (by omega) (by omega) (by omega) rfl rfl rfl) ?_
      simp only [Act.put, zA, zB, zC]
      refine zr (.int .i64 ((i + 1 : Nat) : Int)) X7_36 rfl ?_
      simp only [Act.put, zA, zB, zC]
      refine wpList_nil ?_
      obtain ⟨A40, c40, rfl⟩ := own_form Ow66_37.out
      have ow0 : X7_36.ownsRow VB2.heap.size 46 3 (.slice A40 (i + 1) c40) (i + 1) (fl ciC (l.reverse.take (i + 1))) := by rw [take_snoc (rev_get HM.out (by omega) HF.out)]; exact Ow66_37.out
      have or0 := HOL.out
      have ap1 := Ap38.out.symm
      have ha1 : (l.take (i + 1)).all (Qu.mC (Rd.mk (x0 : Int) (x1 : Int) (x2 : Int) (x3 : Int))) = false := by rw [all_snoc HD.out, HAB.out]; first | rfl | (rw [hmb]; rfl)
      have hq41 := Fv7_8.out
      have hq42 := B0.out
      go_wp2_with fail
      go_roundw
      case rel => exact ⟨i + 1, _, _, by omega, by go_num, by rw [ha1], rfl, or0, ow0, ap1, hq41, hq42⟩
      case measure => simp [intOf]; omega
     | true =>
      go_upto_region 11 with fail
      refine wp_floatP [0, 1, 2, 3, 4, 5, 6, 7, 8, 9, 10] (l' := [_, _, _, _, _, _, _, _, _, _, _]) (by kernel_rfl) (lexOK_of (by kernel_rfl) (by kernel_rfl)) (ordOK_of (by kernel_rfl) (by kernel_rfl)) rfl rfl ?_
      simp only [List.getElem_toArray, List.getElem_cons_succ, List.getElem_cons_zero]
      intro V2 hb hSW
      have B1 := Lib.hid hb
      have HF2 := Lib.hid hSW
      clear hb hSW
      refine wpF_seg 6 (by kernel_rfl) ?_
      simp only [List.take_succ_cons, List.take_zero, List.drop_succ_cons, List.drop_zero]
      refine zv (.bool true) (fun v hv => rfl) ?_
      simp only [Act.put, zA, zB, zC]
      refine zv (.bool true) (fun v hv => rfl) ?_
      simp only [Act.put, zA, zB, zC]
      refine zv (.slice A1 m c1) (fun v hv => rfl) ?_
      simp only [Act.put, zA, zB, zC]
      refine zv (.int .i64 (i : Int)) (fun v hv => rfl) ?_
      simp only [Act.put, zA, zB, zC]
      refine zv (.pointer (some (gad A1 (i * 3)))) (fun v hv => (xg_idx .i64 (HLr.out.keep (laterF hv)) HD.out Tryd.underlying28 (by kernel_rfl) rfl rfl rfl)) ?_
      simp only [Act.put, zA, zB, zC]
      refine zv (.agg #[.int .i64 da, .int .i64 dl, .int .i64 dh]) (fun v hv => (xg_loadE (E := ciC) (HLr.out.keep (laterF hv)) HD.out Tryd.underlying46 rfl (by kernel_rfl) rfl rfl)) ?_
      simp only [Act.put, zA, zB, zC]
      refine wpQuiet_nil ?_
      refine wpF_make (.cells ([(Qu.Ci.mk da dl dh)].flatMap ciC).toArray 46, fun b => .slice (some ⟨b, 0, none⟩) 1 1) (by kernel_rfl) (by kernel_rfl) (by kernel_rfl) (fun V => xg_lit (E := ciC) (bytes := 24) (.agg #[.int .i64 0, .int .i64 0, .int .i64 0]) [.tmp 51] [(Qu.Ci.mk da dl dh)] 1 Tryd.underlying28 (by kernel_rfl) rfl (by decide) (by decide) rfl rfl) (fun g52 V3 hb h0 hbz => ?_)
      have Ge24 : Hid (wq.heap.size ≤ g52) := Lib.hid hbz
      have B2 := Lib.hid hb
      have HF3 := Lib.hid (HF2.out.ext hb)
      have Fv25_52 : Hid (RowG ciC V3 g52 46 ([(Qu.Ci.mk da dl dh)])) := Lib.hid (h0)
      have N26 : Hid (b8 ≠ g52) := Lib.hid (Nat.ne_of_lt (Nat.lt_of_lt_of_le (xp_lt Fv7_8.out) hbz))
      have N27 : Hid (w.heap.size ≠ g52) := Lib.hid (Nat.ne_of_lt (Nat.lt_of_lt_of_le (xp_lt (heap_keep Fv0_4.out B0.out)) hbz))
      have N28 : Hid ((w.heap.size + 1) ≠ g52) := Lib.hid (Nat.ne_of_lt (Nat.lt_of_lt_of_le (xp_lt (heap_keep Fv1_5.out B0.out)) hbz))
      clear hb h0 hbz
      simp only [ptr, Act.put, zA, zB, zC]
      refine wpF_seg 1 (by kernel_rfl) ?_
      simp only [List.take_succ_cons, List.take_zero, List.drop_succ_cons, List.drop_zero]
      refine zv (.agg #[.int .i64 (x0 : Int), .int .i64 (x1 : Int), .int .i64 (x2 : Int), .int .i64 (x3 : Int)]) (fun v hv => (xo_loadW b8 _ (heap_keep Fv7_8.out (laterF hv)) Tryd.underlying26 rfl (by kernel_rfl) rfl rfl)) ?_
      simp only [Act.put, zA, zB, zC]
      refine wpQuiet_nil ?_
      refine wpF_call 16 Tryd.func16 (by kernel_rfl) (by kernel_rfl) _ _ #[.slice (some ⟨g52, 0, none⟩) 1 1, .agg #[.int .i64 (x0 : Int), .int .i64 (x1 : Int), .int .i64 (x2 : Int), .int .i64 (x3 : Int)]] rfl (by kernel_rfl) (by kernel_rfl) HF3.out (fun V4 hb => ?_)
      have B3 := Lib.hid hb
      have HF4 := Lib.hid (HF3.out.ext hb)
      clear hb
      refine (match_as (some ⟨g52, 0, none⟩) 1 1 [(Qu.Ci.mk da dl dh)] (Rd.mk (x0 : Int) (x1 : Int) (x2 : Int) (x3 : Int)) true (by simp only [List.all_cons, List.all_nil, Bool.and_true]; exact hmb) V4 (RowG.sg (n := 1) (c := 1) (Fv25_52.out.keep B3.out) (show ([(Qu.Ci.mk da dl dh)]).length = 1 from rfl) (Nat.le_refl _) (by omega))).mono ?_
      rintro e V5 ⟨rfl, hb⟩
      have B4 := Lib.hid hb
      have HF5 := Lib.hid (HF4.out.ext hb)
      refine ⟨_, rfl, hb, ?_⟩
      clear hb 
      simp only [Act.put, zA, zB, zC]
      refine wpF_seg 2 (by kernel_rfl) ?_
      simp only [List.take_succ_cons, List.take_zero, List.drop_succ_cons, List.drop_zero]
      refine zv (.bool true) (fun v hv => rfl) ?_
      simp only [Act.put, zA, zB, zC]
      refine zv (.bool true) (fun v hv => rfl) ?_
      simp only [Act.put, zA, zB, zC]
      refine wpQuiet_nil ?_
      refine wpF_nil (fun V6 hb => ?_)
      have B5 := Lib.hid hb
      clear hb
      clear HF2
      clear HF3
      clear HF4
      clear HF5
      go_upto_region 12 with fail
      refine wp_region_lit ?_
      refine zr (.slice A2 i c2) V6 rfl ?_
      simp only [Act.put, zA, zB, zC]
      refine zr (.slice A1 m c1) V6 rfl ?_
      simp only [Act.put, zA, zB, zC]
      refine zr (.slice A1 m c1) V6 rfl ?_
      simp only [Act.put, zA, zB, zC]
      refine zr (.int .i64 (m : Int)) V6 (xo_len A1 m c1 Tryd.underlying28 rfl rfl) ?_
      simp only [Act.put, zA, zB, zC]
      refine zr (.int .i64 ((m - 1 : Nat) : Int)) V6 (xo_subI (m : Int) 1 (((m - 1) : Nat) : Int) (by omega) (by omega) (by omega) rfl rfl rfl) ?_
      simp only [Act.put, zA, zB, zC]
      refine zr (.int .i64 (i : Int)) V6 rfl ?_
      simp only [Act.put, zA, zB, zC]
      refine zr (.int .i64 ((m - 1 - i : Nat) : Int)) V6 (xo_subI ((m - 1 : Nat) : Int) (i : Int) (((m - 1 - i) : Nat) : Int) (by omega) (by omega) (by omega) rfl rfl rfl) ?_
      simp only [Act.put, zA, zB, zC]
      have C1_3 := zb B1 B2
      have C1_4 := zb C1_3 B3
      have C1_5 := zb C1_4 B4
      have C1_6 := zb C1_5 B5
      refine zr (.pointer (some (gad A1 ((m - 1 - i) * 3)))) V6 (xg_idx .i64 (HLr.out.keep C1_6.out) HF.out Tryd.underlying28 (by kernel_rfl) rfl rfl rfl) ?_
      simp only [Act.put, zA, zB, zC]
      refine zr (.agg #[.int .i64 ga, .int .i64 gl, .int .i64 gh]) V6 (xg_loadE (E := ciC) (HLr.out.keep C1_6.out) HF.out Tryd.underlying46 rfl (by kernel_rfl) rfl rfl) ?_
      simp only [Act.put, zA, zB, zC]
      refine wpList_mk (by kernel_rfl) ([(Qu.Ci.mk ga gl gh)].flatMap ciC).toArray 46 1 1 (xg_lit (E := ciC) (bytes := 24) (.agg #[.int .i64 0, .int .i64 0, .int .i64 0]) [.tmp 64] [(Qu.Ci.mk ga gl gh)] 1 Tryd.underlying28 (by kernel_rfl) rfl (by decide) (by decide) rfl rfl) ?_
      intro g65 V7 hge h0 hb
      have N29_0 : Hid (b8 ≠ g65) := Lib.hid (xp_lt0 (heap_keep Fv7_8.out C1_6.out) hge)
      have C0_2 := zb B0 B1
      have C0_3 := zb C0_2 B2
      have C0_4 := zb C0_3 B3
      have C0_5 := zb C0_4 B4
      have C0_6 := zb C0_5 B5
      have N30_1 : Hid (w.heap.size ≠ g65) := Lib.hid (xp_lt0 (heap_keep Fv0_4.out C0_6.out) hge)
      have N31_2 : Hid ((w.heap.size + 1) ≠ g65) := Lib.hid (xp_lt0 (heap_keep Fv1_5.out C0_6.out) hge)
      have C3_5 := zb B3 B4
      have C3_6 := zb C3_5 B5
      have N32_3 : Hid (g52 ≠ g65) := Lib.hid (xp_lt0 (Fv25_52.out.keep C3_6.out) hge)
      have Ge33 : Hid (V6.heap.size ≤ g65) := Lib.hid hge
      have B6 := Lib.hid hb
      have Fv34_65 : Hid (RowG ciC V7 g65 46 ([(Qu.Ci.mk ga gl gh)])) := Lib.hid (h0)
      have Lt35 : Hid (g65 < V7.heap.size) := Lib.hid (xp_lt Fv34_65.out)
      clear hge h0 hb
      simp only [ptr, Act.put, zA, zB, zC]
      have C1_7 := zb C1_6 B6
      have C0_7 := zb C0_6 B6
      refine wpList_app2 (size := 3) (by kernel_rfl) (.tmp 56) (.tmp 65) 28 rfl (.agg #[.int .i64 0, .int .i64 0, .int .i64 0]) 24 Tryd.underlying28 (by kernel_rfl) rfl (by decide) rfl (own_keep HOR.out C1_7.out) (some ⟨g65, 0, none⟩) 1 1 (fl ciC ([(Qu.Ci.mk ga gl gh)])) rfl (RowG.sg (n := 1) (c := 1) Fv34_65.out (show ([(Qu.Ci.mk ga gl gh)]).length = 1 from rfl) (Nat.le_refl _) (by omega)).src (by unfold maxLen; omega) (by omega) C0_7.out.size ?_
      intro v66 X7_36 ho hb1 hg hloc
      have hox : X7_36.ownsRow VB2.heap.size 46 3 v66 (i + 1) (fl ciC ((l.reverse.take i) ++ ([(Qu.Ci.mk ga gl gh)]))) := by rw [fl_append]; exact ho
      have hzHOL := own_other (own_keep HOL.out C1_7.out) hg HAP.out.symm
      have hpHOL := ApartV.grow HAP.out.symm hloc (own_keep HOL.out C1_7.out)
      have YFv7_8 : X7_36.heap[b8]? = some (.cells #[.int .i64 (x0 : Int), .int .i64 (x1 : Int), .int .i64 (x2 : Int), .int .i64 (x3 : Int)] 26 (0, 0)) := own_rowkeep (own_keep HOR.out C1_7.out) hg (heap_keep Fv7_8.out C1_7.out) (by decide)
      have hbr := C0_7.out.trans hb1
      clear B0
      have B0 := Lib.hid hbr
      clear hbr
      have Ow66_37 := Lib.hid hox
      clear HOL
      have HOL := Lib.hid hzHOL
      have Ap38 := Lib.hid hpHOL
      clear hzHOL hpHOL
      clear Fv7_8
      have Fv7_8 : Hid (X7_36.heap[b8]? = some (.cells #[.int .i64 (x0 : Int), .int .i64 (x1 : Int), .int .i64 (x2 : Int), .int .i64 (x3 : Int)] 26 (0, 0))) := Lib.hid YFv7_8
      clear YFv7_8
      have Lt39 : Hid (b8 < X7_36.heap.size) := Lib.hid (xp_lt Fv7_8.out)
      clear ho hox hb1 hg hloc
      simp only [ptr, Act.put, zA, zB, zC]
      refine zr (v66) X7_36 rfl ?_
      simp only [Act.put, zA, zB, zC]
      refine wpList_nil ?_
      go_upto_region 10 with fail
      refine wp_region_lit ?_
      refine zr (.int .i64 (i : Int)) X7_36 rfl ?_
      simp only [Act.put, zA, zB, zC]
      refine zr (.int .i64 ((i + 1 : Nat) : Int)) X7_36 (xo_addI (i : Int) 1 ((i + 1 : Nat) : Int) (by omega) (by omega) (by omega) rfl rfl rfl) ?_
      simp only [Act.put, zA, zB, zC]
      refine zr (.int .i64 ((i + 1 : Nat) : Int)) X7_36 rfl ?_
      simp only [Act.put, zA, zB, zC]
      refine wpList_nil ?_
      obtain ⟨A40, c40, rfl⟩ := own_form Ow66_37.out
      have ow0 : X7_36.ownsRow VB2.heap.size 46 3 (.slice A40 (i + 1) c40) (i + 1) (fl ciC (l.reverse.take (i + 1))) := by rw [take_snoc (rev_get HM.out (by omega) HF.out)]; exact Ow66_37.out
      have or0 := HOL.out
      have ap1 := Ap38.out.symm
      have ha1 : (l.take (i + 1)).all (Qu.mC (Rd.mk (x0 : Int) (x1 : Int) (x2 : Int) (x3 : Int))) = true := by rw [all_snoc HD.out, HAB.out]; first | rfl | (rw [hmb]; rfl)
      have hq41 := Fv7_8.out
      have hq42 := B0.out
      go_wp2_with fail
      go_roundw
      case rel => exact ⟨i + 1, _, _, by omega, by go_num, by rw [ha1], rfl, or0, ow0, ap1, hq41, hq42⟩
      case measure => simp [intOf]; omega
   ·have hci23 : ¬ ((i : Int) < (m : Int)) := by omega
    go_upto_region 9 with fail
    refine wp_region_lit ?_
    refine zr (.int .i64 (i : Int)) wq rfl ?_
    simp only [Act.put, zA, zB, zC]
    refine zr (.slice A1 m c1) wq rfl ?_
    simp only [Act.put, zA, zB, zC]
    refine zr (.int .i64 (m : Int)) wq (xo_len A1 m c1 Tryd.underlying28 rfl rfl) ?_
    simp only [Act.put, zA, zB, zC]
    refine zr (.bool false) wq (xo_lssF .i64 (i : Int) (m : Int) (by omega) rfl rfl rfl) ?_
    simp only [Act.put, zA, zB, zC]
    refine wpList_nil ?_
    have eim : m = i := by omega
    subst eim
    have hrm : l.reverse.take m = l.reverse := List.take_of_length_le (by rw [List.length_reverse]; have := HM.out; omega)
    rw [hrm] at HOR
    have hlm : l.take m = l := List.take_of_length_le (by have := HM.out; omega)
    rw [hlm] at HAB
    clear hrm hlm
    have hsr := Sg.ownS HOR.out
    have hcapr := hsr.cap
    have htopr := hsr.top
    have HRr := Lib.hid hsr
    clear hsr
    have HBV24 := Lib.hid B0.out
    have YHG := (HG.out.keep B0.out)
    have YHLr := HLr.out
    have YHRr := HRr.out
    have YFv0_4 := (heap_keep Fv0_4.out B0.out)
    have YFv7_8 := Fv7_8.out
    clear HG
    have HG := Lib.hid YHG
    clear YHG
    clear HLr
    have HLr := Lib.hid YHLr
    clear YHLr
    clear HRr
    have HRr := Lib.hid YHRr
    clear YHRr
    clear Fv0_4
    have Fv0_4 := Lib.hid YFv0_4
    clear YFv0_4
    clear Fv7_8
    have Fv7_8 := Lib.hid YFv7_8
    clear YFv7_8
    obtain ⟨VB24, rfl⟩ : ∃ VB24 : World, VB24 = wq := ⟨_, rfl⟩
    go_upto_region 13 with fail
    refine wp_region_lit ?_
    refine wpList_mk (by kernel_rfl) #[] 46 0 0 (xo_empty (size := 3) Tryd.underlying28 (by kernel_rfl) rfl VB24) ?_
    intro g67 V1 hge h0 hb
    have hge2 := Nat.le_trans (Below.refl VB24.heap.size VB24).size hge
    have B0 := Lib.hid hb
    have Ow67 : Hid (V1.ownsRow VB24.heap.size 46 3 (.slice (some ⟨g67, 0, none⟩) 0 0) 0 (fl ciC [])) := Lib.hid (own_new h0 hge2)
    clear hge hge2 h0 hb
    simp only [ptr, Act.put, zA, zB, zC]
    refine zr (.slice A1 m c1) V1 rfl ?_
    simp only [Act.put, zA, zB, zC]
    refine wpList_app2 (size := 3) (by kernel_rfl) (.tmp 67) (.tmp 68) 28 rfl (.agg #[.int .i64 0, .int .i64 0, .int .i64 0]) 24 Tryd.underlying28 (by kernel_rfl) rfl (by decide) rfl Ow67.out A1 m c1 (fl ciC l) rfl (HLr.out.keep B0.out).src (by unfold maxLen; omega) (by omega) B0.out.size ?_
    intro v69 X1_25 ho hb1 hg hloc
    have hox : X1_25.ownsRow VB24.heap.size 46 3 v69 m (fl ciC l) := by first | exact ho | simpa using ho
    have hbr := B0.out.trans hb1
    clear B0
    have B0 := Lib.hid hbr
    clear hbr
    have Ow69_26 := Lib.hid hox
    clear ho hox hb1 hg hloc
    simp only [ptr, Act.put, zA, zB, zC]
    refine zr (v69) X1_25 rfl ?_
    simp only [Act.put, zA, zB, zC]
    refine wpList_nil ?_
    obtain ⟨ex, hex⟩ : ∃ e, Qu.mdC (Qu.Ci.mk ea eb ec) = e := ⟨_, rfl⟩
    have HEX := Lib.hid hex
    clear hex
    go_upto_region 14 with fail
    refine wp_region_lit ?_
    refine zr (v69) X1_25 rfl ?_
    simp only [Act.put, zA, zB, zC]
    refine zr (.agg #[.int .i64 ea, .int .i64 eb, .int .i64 ec]) X1_25 (xo_loadW w.heap.size _ (heap_keep Fv0_4.out B0.out) Tryd.underlying46 rfl (by kernel_rfl) rfl rfl) ?_
    simp only [Act.put, zA, zB, zC]
    refine wpList_call (by kernel_rfl) 27 Tryd.func27 (by kernel_rfl) (by kernel_rfl) _ _ #[.agg #[.int .i64 ea, .int .i64 eb, .int .i64 ec]] rfl (by kernel_rfl) ?_
    refine (madeCond_any ea eb ec X1_25).mono ?_
    rintro e V2 ⟨rfl, hb⟩
    have B1 := Lib.hid hb
    rw [HEX.out]
    clear hb 
    refine ⟨_, rfl, ?_⟩
    simp only [Act.put, zA, zB, zC]
    refine wpList_mk (by kernel_rfl) ([(Qu.Ci.mk ((ex.col : Nat) : Int) ((ex.lo : Nat) : Int) ((ex.hi : Nat) : Int))].flatMap ciC).toArray 46 1 1 (xg_lit (E := ciC) (bytes := 24) (.agg #[.int .i64 0, .int .i64 0, .int .i64 0]) [.tmp 72] [(Qu.Ci.mk ((ex.col : Nat) : Int) ((ex.lo : Nat) : Int) ((ex.hi : Nat) : Int))] 1 Tryd.underlying28 (by kernel_rfl) rfl (by decide) (by decide) rfl rfl) ?_
    intro g73 V3 hge h0 hb
    have C0_2 := zb B0 B1
    have N27_0 : Hid (b8 ≠ g73) := Lib.hid (xp_lt0 (heap_keep Fv7_8.out C0_2.out) hge)
    have N28_1 : Hid (w.heap.size ≠ g73) := Lib.hid (xp_lt0 (heap_keep Fv0_4.out C0_2.out) hge)
    have Ge29 : Hid (V2.heap.size ≤ g73) := Lib.hid hge
    have B2 := Lib.hid hb
    have Fv30_73 : Hid (RowG ciC V3 g73 46 ([(Qu.Ci.mk ((ex.col : Nat) : Int) ((ex.lo : Nat) : Int) ((ex.hi : Nat) : Int))])) := Lib.hid (h0)
    have Lt31 : Hid (g73 < V3.heap.size) := Lib.hid (xp_lt Fv30_73.out)
    clear hge h0 hb
    simp only [ptr, Act.put, zA, zB, zC]
    have C1_3 := zb B1 B2
    have C0_3 := zb C0_2 B2
    refine wpList_app2 (size := 3) (by kernel_rfl) (.tmp 70) (.tmp 73) 28 rfl (.agg #[.int .i64 0, .int .i64 0, .int .i64 0]) 24 Tryd.underlying28 (by kernel_rfl) rfl (by decide) rfl (own_keep Ow69_26.out C1_3.out) (some ⟨g73, 0, none⟩) 1 1 (fl ciC ([(Qu.Ci.mk ((ex.col : Nat) : Int) ((ex.lo : Nat) : Int) ((ex.hi : Nat) : Int))])) rfl (RowG.sg (n := 1) (c := 1) Fv30_73.out (show ([(Qu.Ci.mk ((ex.col : Nat) : Int) ((ex.lo : Nat) : Int) ((ex.hi : Nat) : Int))]).length = 1 from rfl) (Nat.le_refl _) (by omega)).src (by unfold maxLen; omega) (by omega) C0_3.out.size ?_
    intro v74 X3_32 ho hb1 hg hloc
    have hox : X3_32.ownsRow VB24.heap.size 46 3 v74 (m + 1) (fl ciC (l ++ ([(Qu.Ci.mk ((ex.col : Nat) : Int) ((ex.lo : Nat) : Int) ((ex.hi : Nat) : Int))]))) := by rw [fl_append]; exact ho
    have hbr := C0_3.out.trans hb1
    clear B0
    have B0 := Lib.hid hbr
    clear hbr
    have Ow74_33 := Lib.hid hox
    clear ho hox hb1 hg hloc
    simp only [ptr, Act.put, zA, zB, zC]
    refine zr (v74) X3_32 rfl ?_
    simp only [Act.put, zA, zB, zC]
    refine wpList_nil ?_
    obtain ⟨A34, c34, rfl⟩ := own_form Ow74_33.out
    have hsm := Sg.ownS Ow74_33.out
    have hcapm := hsm.cap
    have htopm := hsm.top
    have HMr := Lib.hid hsm
    clear hsm
    have HBV35 := Lib.hid B0.out
    have YHG := (HG.out.keep B0.out)
    have YHLr := (HLr.out.keep B0.out)
    have YHRr := (HRr.out.keep B0.out)
    have YHMr := HMr.out
    have YFv7_8 := (heap_keep Fv7_8.out B0.out)
    clear HG
    have HG := Lib.hid YHG
    clear YHG
    clear HLr
    have HLr := Lib.hid YHLr
    clear YHLr
    clear HRr
    have HRr := Lib.hid YHRr
    clear YHRr
    clear HMr
    have HMr := Lib.hid YHMr
    clear YHMr
    clear Fv7_8
    have Fv7_8 := Lib.hid YFv7_8
    clear YFv7_8
    obtain ⟨VB35, rfl⟩ : ∃ VB35 : World, VB35 = X3_32 := ⟨_, rfl⟩
    go_upto_region 15 with fail
    refine wp_region_lit ?_
    refine wpList_mk (by kernel_rfl) #[] 46 0 0 (xo_empty (size := 3) Tryd.underlying28 (by kernel_rfl) rfl VB35) ?_
    intro g75 V1 hge h0 hb
    have hge2 := Nat.le_trans (Below.refl VB35.heap.size VB35).size hge
    have B0 := Lib.hid hb
    have Ow75 : Hid (V1.ownsRow VB35.heap.size 46 3 (.slice (some ⟨g75, 0, none⟩) 0 0) 0 (fl ciC [])) := Lib.hid (own_new h0 hge2)
    clear hge hge2 h0 hb
    simp only [ptr, Act.put, zA, zB, zC]
    refine zr (.slice A1 m c1) V1 rfl ?_
    simp only [Act.put, zA, zB, zC]
    refine wpList_app2 (size := 3) (by kernel_rfl) (.tmp 75) (.tmp 76) 28 rfl (.agg #[.int .i64 0, .int .i64 0, .int .i64 0]) 24 Tryd.underlying28 (by kernel_rfl) rfl (by decide) rfl Ow75.out A1 m c1 (fl ciC l) rfl (HLr.out.keep B0.out).src (by unfold maxLen; omega) (by omega) B0.out.size ?_
    intro v77 X1_36 ho hb1 hg hloc
    have hox : X1_36.ownsRow VB35.heap.size 46 3 v77 m (fl ciC l) := by first | exact ho | simpa using ho
    have hbr := B0.out.trans hb1
    clear B0
    have B0 := Lib.hid hbr
    clear hbr
    have Ow77_37 := Lib.hid hox
    clear ho hox hb1 hg hloc
    simp only [ptr, Act.put, zA, zB, zC]
    refine zr (v77) X1_36 rfl ?_
    simp only [Act.put, zA, zB, zC]
    refine wpList_nil ?_
    by_cases hm1 : 0 < m
    ·obtain ⟨d0, t, hlt⟩ : ∃ d t, l = d :: t := List.exists_cons_of_length_pos (by rw [HM.out]; exact hm1)
     obtain ⟨da, dl, dh⟩ := d0
     have HLT := Lib.hid hlt
     have HD : Hid (l[0]? = some (Qu.Ci.mk da dl dh)) := Lib.hid (by rw [hlt]; rfl)
     clear hlt
     obtain ⟨og38, oc38, rfl, hog⟩ := own_at (i := 0) Ow77_37.out (by omega)
     have Hg38 := Lib.hid hog
     clear hog
     have hsn := Sg.ownS Ow77_37.out
     have hcapn := hsn.cap
     have htopn := hsn.top
     have HNr := Lib.hid hsn
     clear hsn
     have hci39 : ((m : Int) > 0) := by omega
     by_cases hlh : dl < dh
     ·have bdl : 0 ≤ dl ∧ dl ≤ 255 := by
             have h0 : (Qu.Ci.mk da dl dh) ∈ l := List.mem_of_getElem? HD.out
             rw [← HL.out] at h0
             obtain ⟨e, _, he⟩ := List.mem_map.1 h0
             have h1 := Qu.mdC_ok e
             have h2 : ((Qu.mdC e).lo : Int) = dl := congrArg Qu.Ci.lo he
             have h3 := Qu.maxN_le (Qu.mdC e).col
             omega
      go_upto_region 16 with fail
      refine wp_later_lex (by kernel_rfl) (lexOK_of (by kernel_rfl) (by kernel_rfl)) ?_
      refine zv (.slice (some ⟨og38, 0, none⟩) m oc38) (fun v hv => rfl) ?_
      simp only [Act.put, zA, zB, zC]
      refine zv (.int .i64 (m : Int)) (fun v hv => (xo_len (some ⟨og38, 0, none⟩) m oc38 Tryd.underlying28 rfl rfl)) ?_
      simp only [Act.put, zA, zB, zC]
      refine zv (.bool true) (fun v hv => (xo_gtrT .i64 (m : Int) 0 (by omega) rfl rfl rfl)) ?_
      simp only [Act.put, zA, zB, zC]
      refine zv (.bool true) (fun v hv => rfl) ?_
      simp only [Act.put, zA, zB, zC]
      refine zv (.slice (some ⟨og38, 0, none⟩) m oc38) (fun v hv => rfl) ?_
      simp only [Act.put, zA, zB, zC]
      refine zv (.pointer (some (gad (some ⟨og38, 0, none⟩) (0 * 3)))) (fun v hv => (xg_idx .i64 (HNr.out.keep (later_bel hv)) HD.out Tryd.underlying28 (by kernel_rfl) rfl rfl rfl)) ?_
      simp only [Act.put, zA, zB, zC]
      refine zv (.pointer (some (gad (some ⟨og38, 0, none⟩) ((0 * 3) + 1)))) (fun v hv => (xg_fld 1 (HNr.out.keep (later_bel hv)) HD.out (by kernel_rfl) rfl rfl)) ?_
      simp only [Act.put, zA, zB, zC]
      refine zv (.int .i64 dl) (fun v hv => (xg_load1 (E := ciC) (i := 0) (j := 1) (HNr.out.keep (later_bel hv)) HD.out rfl rfl Tryd.underlying3 rfl rfl rfl)) ?_
      simp only [Act.put, zA, zB, zC]
      refine zv (.slice (some ⟨og38, 0, none⟩) m oc38) (fun v hv => rfl) ?_
      simp only [Act.put, zA, zB, zC]
      refine zv (.pointer (some (gad (some ⟨og38, 0, none⟩) (0 * 3)))) (fun v hv => (xg_idx .i64 (HNr.out.keep (later_bel hv)) HD.out Tryd.underlying28 (by kernel_rfl) rfl rfl rfl)) ?_
      simp only [Act.put, zA, zB, zC]
      refine zv (.pointer (some (gad (some ⟨og38, 0, none⟩) ((0 * 3) + 2)))) (fun v hv => (xg_fld 2 (HNr.out.keep (later_bel hv)) HD.out (by kernel_rfl) rfl rfl)) ?_
      simp only [Act.put, zA, zB, zC]
      refine zv (.int .i64 dh) (fun v hv => (xg_load1 (E := ciC) (i := 0) (j := 2) (HNr.out.keep (later_bel hv)) HD.out rfl rfl Tryd.underlying3 rfl rfl rfl)) ?_
      simp only [Act.put, zA, zB, zC]
      refine zv (.bool true) (fun v hv => (xo_lssT .i64 dl dh (by omega) rfl rfl rfl)) ?_
      simp only [Act.put, zA, zB, zC]
      refine zv (.bool true) (fun v hv => rfl) ?_
      simp only [Act.put, zA, zB, zC]
      refine wpQuiet_nil ?_
      intro X1_40
      have hb := X1_40.below
      generalize X1_40.at = V2 at *
      have B1 := Lib.hid hb
      clear hb
      go_upto_region 17 with fail
      refine wp_region_lit ?_
      refine zr (.slice (some ⟨og38, 0, none⟩) m oc38) V2 rfl ?_
      simp only [Act.put, zA, zB, zC]
      refine zr (.slice (some ⟨og38, 0, none⟩) m oc38) V2 rfl ?_
      simp only [Act.put, zA, zB, zC]
      refine zr (.pointer (some (gad (some ⟨og38, 0, none⟩) (0 * 3)))) V2 (xg_idx .i64 (HNr.out.keep B1.out) HD.out Tryd.underlying28 (by kernel_rfl) rfl rfl rfl) ?_
      simp only [Act.put, zA, zB, zC]
      refine zr (.pointer (some (gad (some ⟨og38, 0, none⟩) ((0 * 3) + 1)))) V2 (xg_fld 1 (HNr.out.keep B1.out) HD.out (by kernel_rfl) rfl rfl) ?_
      simp only [Act.put, zA, zB, zC]
      refine zr (.int .i64 dl) V2 (xg_load1 (E := ciC) (i := 0) (j := 1) (HNr.out.keep B1.out) HD.out rfl rfl Tryd.underlying3 rfl rfl rfl) ?_
      simp only [Act.put, zA, zB, zC]
      refine zr (.int .i64 (dl + 1)) V2 (xo_addI dl 1 (dl + 1) (by omega) (by omega) (by omega) rfl rfl rfl) ?_
      simp only [Act.put, zA, zB, zC]
      refine zr (.pointer (some (gad (some ⟨og38, 0, none⟩) (0 * 3)))) V2 (xg_idx .i64 (HNr.out.keep B1.out) HD.out Tryd.underlying28 (by kernel_rfl) rfl rfl rfl) ?_
      simp only [Act.put, zA, zB, zC]
      refine zr (.pointer (some (gad (some ⟨og38, 0, none⟩) ((0 * 3) + 1)))) V2 (xg_fld 1 (HNr.out.keep B1.out) HD.out (by kernel_rfl) rfl rfl) ?_
      simp only [Act.put, zA, zB, zC]
      refine wpList_ownStoreK (.int .i64 (dl + 1)) (by kernel_rfl) (own_keep Ow77_37.out B1.out) (j := 1) (by omega) (by kernel_rfl) rfl rfl rfl rfl ?_
      intro X2_41 ho hbel
      have hox : X2_41.ownsRow VB35.heap.size 46 3 (.slice (some ⟨og38, 0, none⟩) m oc38) m (fl ciC (Qu.Ci.mk da (dl + 1) dh :: t)) := by rw [HLT.out] at ho; exact ho
      have C0_2 := zb B0 B1
      have hbr := hbel _ _ Hg38.out C0_2.out
      clear B0
      have B0 := Lib.hid hbr
      clear hbr
      have HNw := Lib.hid hox
      clear ho hbel hox
      simp only [ptr, Act.put, zA, zB, zC]
      refine wpList_nil ?_
      clear HNr
      have hsn := Sg.ownS HNw.out
      have HNr := Lib.hid hsn
      clear hsn
      cases ab with
      | true =>
       go_upto_region 18 with fail
       refine wp_region_lit ?_
       refine zr (.slice A1 m c1) X2_41 rfl ?_
       simp only [Act.put, zA, zB, zC]
       refine zr (.agg #[.int .i64 (x0 : Int), .int .i64 (x1 : Int), .int .i64 (x2 : Int), .int .i64 (x3 : Int)]) X2_41 (xo_loadW b8 _ (heap_keep Fv7_8.out B0.out) Tryd.underlying26 rfl (by kernel_rfl) rfl rfl) ?_
       simp only [Act.put, zA, zB, zC]
       refine wpList_call (by kernel_rfl) 16 Tryd.func16 (by kernel_rfl) (by kernel_rfl) _ _ #[.slice A1 m c1, .agg #[.int .i64 (x0 : Int), .int .i64 (x1 : Int), .int .i64 (x2 : Int), .int .i64 (x3 : Int)]] rfl (by kernel_rfl) ?_
       refine (match_as A1 m c1 l (Rd.mk (x0 : Int) (x1 : Int) (x2 : Int) (x3 : Int)) true HAB.out X2_41 (HLr.out.keep B0.out)).mono ?_
       rintro e V2 ⟨rfl, hb⟩
       have B1 := Lib.hid hb
       clear hb 
       refine ⟨_, rfl, ?_⟩
       simp only [Act.put, zA, zB, zC]
       refine zr (.bool true) V2 rfl ?_
       simp only [Act.put, zA, zB, zC]
       refine wpList_nil ?_
       by_cases hm0 : 0 < m
       ·have hci42 : ((m : Int) > 0) := by omega
        go_upto_region 19 with fail
        refine wp_region_lit ?_
        refine zr (.bool true) V2 rfl ?_
        simp only [Act.put, zA, zB, zC]
        refine zr (.bool true) V2 rfl ?_
        simp only [Act.put, zA, zB, zC]
        refine zr (.bool true) V2 (by unfold execOp; go_simp) ?_
        simp only [Act.put, zA, zB, zC]
        refine zr (.bool true) V2 rfl ?_
        simp only [Act.put, zA, zB, zC]
        refine zr (.slice A2 m c2) V2 rfl ?_
        simp only [Act.put, zA, zB, zC]
        have C0_2 := zb B0 B1
        refine zr (.agg #[.int .i64 (x0 : Int), .int .i64 (x1 : Int), .int .i64 (x2 : Int), .int .i64 (x3 : Int)]) V2 (xo_loadW b8 _ (heap_keep Fv7_8.out C0_2.out) Tryd.underlying26 rfl (by kernel_rfl) rfl rfl) ?_
        simp only [Act.put, zA, zB, zC]
        refine wpList_call (by kernel_rfl) 16 Tryd.func16 (by kernel_rfl) (by kernel_rfl) _ _ #[.slice A2 m c2, .agg #[.int .i64 (x0 : Int), .int .i64 (x1 : Int), .int .i64 (x2 : Int), .int .i64 (x3 : Int)]] rfl (by kernel_rfl) ?_
        refine (match_as A2 m c2 l.reverse (Rd.mk (x0 : Int) (x1 : Int) (x2 : Int) (x3 : Int)) true ((all_rev _ _).trans HAB.out) V2 (HRr.out.keep C0_2.out)).mono ?_
        rintro e V3 ⟨rfl, hb⟩
        have B2 := Lib.hid hb
        clear hb 
        refine ⟨_, rfl, ?_⟩
        simp only [Act.put, zA, zB, zC]
        refine zr (.bool true) V3 rfl ?_
        simp only [Act.put, zA, zB, zC]
        refine zr (.bool true) V3 (by unfold execOp; go_simp) ?_
        simp only [Act.put, zA, zB, zC]
        refine zr (.bool true) V3 rfl ?_
        simp only [Act.put, zA, zB, zC]
        refine zr (.bool true) V3 rfl ?_
        simp only [Act.put, zA, zB, zC]
        refine zr (.bool true) V3 rfl ?_
        simp only [Act.put, zA, zB, zC]
        refine zr (.bool true) V3 rfl ?_
        simp only [Act.put, zA, zB, zC]
        refine zl ?_
        try simp only [Act.put, zA, zB, zC]
        refine zl ?_
        try simp only [Act.put, zA, zB, zC]
        refine zl ?_
        try simp only [Act.put, zA, zB, zC]
        refine zl ?_
        try simp only [Act.put, zA, zB, zC]
        refine zl ?_
        try simp only [Act.put, zA, zB, zC]
        refine zl ?_
        try simp only [Act.put, zA, zB, zC]
        refine zl ?_
        try simp only [Act.put, zA, zB, zC]
        refine zl ?_
        try simp only [Act.put, zA, zB, zC]
        refine zl ?_
        try simp only [Act.put, zA, zB, zC]
        refine zl ?_
        try simp only [Act.put, zA, zB, zC]
        refine zr (.bool true) V3 rfl ?_
        simp only [Act.put, zA, zB, zC]
        refine zr (.bool true) V3 rfl ?_
        simp only [Act.put, zA, zB, zC]
        refine zr (.bool true) V3 rfl ?_
        simp only [Act.put, zA, zB, zC]
        refine zr (.slice A1 m c1) V3 rfl ?_
        simp only [Act.put, zA, zB, zC]
        refine zr (.int .i64 (m : Int)) V3 (xo_len A1 m c1 Tryd.underlying28 rfl rfl) ?_
        simp only [Act.put, zA, zB, zC]
        refine zr (.bool true) V3 (xo_gtrT .i64 (m : Int) 0 (by omega) rfl rfl rfl) ?_
        simp only [Act.put, zA, zB, zC]
        refine zr (.bool true) V3 rfl ?_
        simp only [Act.put, zA, zB, zC]
        refine zl ?_
        try simp only [Act.put, zA, zB, zC]
        refine zr (.bool true) V3 rfl ?_
        simp only [Act.put, zA, zB, zC]
        refine zr (.bool true) V3 rfl ?_
        simp only [Act.put, zA, zB, zC]
        refine zr (.bool true) V3 rfl ?_
        simp only [Act.put, zA, zB, zC]
        refine zr (.bool true) V3 rfl ?_
        simp only [Act.put, zA, zB, zC]
        refine zr (.bool true) V3 rfl ?_
        simp only [Act.put, zA, zB, zC]
        refine zr (.bool true) V3 rfl ?_
        simp only [Act.put, zA, zB, zC]
        refine wpList_nil ?_
        have C0_3 := zb C0_2 B2
        have hbf := bel_step (bel_step (bel_step HBV2.out HBV24.out) HBV35.out) C0_3.out
        go_wp2_with fail
        go_ret
        exact ⟨rfl, hbf⟩
       ·have hci42 : ¬ ((m : Int) > 0) := by omega
        go_upto_region 19 with fail
        refine wp_region_lit ?_
        refine zr (.bool true) V2 rfl ?_
        simp only [Act.put, zA, zB, zC]
        refine zr (.bool true) V2 rfl ?_
        simp only [Act.put, zA, zB, zC]
        refine zr (.bool true) V2 (by unfold execOp; go_simp) ?_
        simp only [Act.put, zA, zB, zC]
        refine zr (.bool true) V2 rfl ?_
        simp only [Act.put, zA, zB, zC]
        refine zr (.slice A2 m c2) V2 rfl ?_
        simp only [Act.put, zA, zB, zC]
        have C0_2 := zb B0 B1
        refine zr (.agg #[.int .i64 (x0 : Int), .int .i64 (x1 : Int), .int .i64 (x2 : Int), .int .i64 (x3 : Int)]) V2 (xo_loadW b8 _ (heap_keep Fv7_8.out C0_2.out) Tryd.underlying26 rfl (by kernel_rfl) rfl rfl) ?_
        simp only [Act.put, zA, zB, zC]
        refine wpList_call (by kernel_rfl) 16 Tryd.func16 (by kernel_rfl) (by kernel_rfl) _ _ #[.slice A2 m c2, .agg #[.int .i64 (x0 : Int), .int .i64 (x1 : Int), .int .i64 (x2 : Int), .int .i64 (x3 : Int)]] rfl (by kernel_rfl) ?_
        refine (match_as A2 m c2 l.reverse (Rd.mk (x0 : Int) (x1 : Int) (x2 : Int) (x3 : Int)) true ((all_rev _ _).trans HAB.out) V2 (HRr.out.keep C0_2.out)).mono ?_
        rintro e V3 ⟨rfl, hb⟩
        have B2 := Lib.hid hb
        clear hb 
        refine ⟨_, rfl, ?_⟩
        simp only [Act.put, zA, zB, zC]
        refine zr (.bool true) V3 rfl ?_
        simp only [Act.put, zA, zB, zC]
        refine zr (.bool true) V3 (by unfold execOp; go_simp) ?_
        simp only [Act.put, zA, zB, zC]
        refine zr (.bool true) V3 rfl ?_
        simp only [Act.put, zA, zB, zC]
        refine zr (.bool true) V3 rfl ?_
        simp only [Act.put, zA, zB, zC]
        refine zr (.bool true) V3 rfl ?_
        simp only [Act.put, zA, zB, zC]
        refine zr (.bool true) V3 rfl ?_
        simp only [Act.put, zA, zB, zC]
        refine zl ?_
        try simp only [Act.put, zA, zB, zC]
        refine zl ?_
        try simp only [Act.put, zA, zB, zC]
        refine zl ?_
        try simp only [Act.put, zA, zB, zC]
        refine zl ?_
        try simp only [Act.put, zA, zB, zC]
        refine zl ?_
        try simp only [Act.put, zA, zB, zC]
        refine zl ?_
        try simp only [Act.put, zA, zB, zC]
        refine zl ?_
        try simp only [Act.put, zA, zB, zC]
        refine zl ?_
        try simp only [Act.put, zA, zB, zC]
        refine zl ?_
        try simp only [Act.put, zA, zB, zC]
        refine zl ?_
        try simp only [Act.put, zA, zB, zC]
        refine zr (.bool true) V3 rfl ?_
        simp only [Act.put, zA, zB, zC]
        refine zr (.bool true) V3 rfl ?_
        simp only [Act.put, zA, zB, zC]
        refine zr (.bool true) V3 rfl ?_
        simp only [Act.put, zA, zB, zC]
        refine zr (.slice A1 m c1) V3 rfl ?_
        simp only [Act.put, zA, zB, zC]
        refine zr (.int .i64 (m : Int)) V3 (xo_len A1 m c1 Tryd.underlying28 rfl rfl) ?_
        simp only [Act.put, zA, zB, zC]
        refine zr (.bool false) V3 (xo_gtrF .i64 (m : Int) 0 (by omega) rfl rfl rfl) ?_
        simp only [Act.put, zA, zB, zC]
        refine zr (.bool false) V3 rfl ?_
        simp only [Act.put, zA, zB, zC]
        refine zr (.bool true) V3 rfl ?_
        simp only [Act.put, zA, zB, zC]
        refine zr (.bool true) V3 rfl ?_
        simp only [Act.put, zA, zB, zC]
        refine zr (.bool true) V3 rfl ?_
        simp only [Act.put, zA, zB, zC]
        refine zr (.bool true) V3 rfl ?_
        simp only [Act.put, zA, zB, zC]
        refine zr (.bool true) V3 rfl ?_
        simp only [Act.put, zA, zB, zC]
        refine zr (.bool true) V3 rfl ?_
        simp only [Act.put, zA, zB, zC]
        refine zr (.bool true) V3 rfl ?_
        simp only [Act.put, zA, zB, zC]
        refine wpList_nil ?_
        have C0_3 := zb C0_2 B2
        have hbf := bel_step (bel_step (bel_step HBV2.out HBV24.out) HBV35.out) C0_3.out
        go_wp2_with fail
        go_ret
        exact ⟨rfl, hbf⟩
      | false =>
       go_upto_region 18 with fail
       refine wp_region_lit ?_
       refine zr (.slice A1 m c1) X2_41 rfl ?_
       simp only [Act.put, zA, zB, zC]
       refine zr (.agg #[.int .i64 (x0 : Int), .int .i64 (x1 : Int), .int .i64 (x2 : Int), .int .i64 (x3 : Int)]) X2_41 (xo_loadW b8 _ (heap_keep Fv7_8.out B0.out) Tryd.underlying26 rfl (by kernel_rfl) rfl rfl) ?_
       simp only [Act.put, zA, zB, zC]
       refine wpList_call (by kernel_rfl) 16 Tryd.func16 (by kernel_rfl) (by kernel_rfl) _ _ #[.slice A1 m c1, .agg #[.int .i64 (x0 : Int), .int .i64 (x1 : Int), .int .i64 (x2 : Int), .int .i64 (x3 : Int)]] rfl (by kernel_rfl) ?_
       refine (match_as A1 m c1 l (Rd.mk (x0 : Int) (x1 : Int) (x2 : Int) (x3 : Int)) false HAB.out X2_41 (HLr.out.keep B0.out)).mono ?_
       rintro e V2 ⟨rfl, hb⟩
       have B1 := Lib.hid hb
       clear hb 
       refine ⟨_, rfl, ?_⟩
       simp only [Act.put, zA, zB, zC]
       refine zr (.bool false) V2 rfl ?_
       simp only [Act.put, zA, zB, zC]
       refine wpList_nil ?_
       have hm0 : 0 < m := by
               have h1 := HM.out
               have h2 := HAB.out
               cases l with
               | nil => cases h2
               | cons e t => rw [← h1]; exact Nat.succ_pos _
       have hci42 : ((m : Int) > 0) := by omega
       go_upto_region 19 with fail
       refine wp_region_lit ?_
       refine zr (.bool false) V2 rfl ?_
       simp only [Act.put, zA, zB, zC]
       refine zr (.bool false) V2 rfl ?_
       simp only [Act.put, zA, zB, zC]
       refine zr (.bool true) V2 (by unfold execOp; go_simp) ?_
       simp only [Act.put, zA, zB, zC]
       refine zr (.bool true) V2 rfl ?_
       simp only [Act.put, zA, zB, zC]
       refine zr (.slice A2 m c2) V2 rfl ?_
       simp only [Act.put, zA, zB, zC]
       have C0_2 := zb B0 B1
       refine zr (.agg #[.int .i64 (x0 : Int), .int .i64 (x1 : Int), .int .i64 (x2 : Int), .int .i64 (x3 : Int)]) V2 (xo_loadW b8 _ (heap_keep Fv7_8.out C0_2.out) Tryd.underlying26 rfl (by kernel_rfl) rfl rfl) ?_
       simp only [Act.put, zA, zB, zC]
       refine wpList_call (by kernel_rfl) 16 Tryd.func16 (by kernel_rfl) (by kernel_rfl) _ _ #[.slice A2 m c2, .agg #[.int .i64 (x0 : Int), .int .i64 (x1 : Int), .int .i64 (x2 : Int), .int .i64 (x3 : Int)]] rfl (by kernel_rfl) ?_
       refine (match_as A2 m c2 l.reverse (Rd.mk (x0 : Int) (x1 : Int) (x2 : Int) (x3 : Int)) false ((all_rev _ _).trans HAB.out) V2 (HRr.out.keep C0_2.out)).mono ?_
       rintro e V3 ⟨rfl, hb⟩
       have B2 := Lib.hid hb
       clear hb 
       refine ⟨_, rfl, ?_⟩
       simp only [Act.put, zA, zB, zC]
       refine zr (.bool false) V3 rfl ?_
       simp only [Act.put, zA, zB, zC]
       refine zr (.bool true) V3 (by unfold execOp; go_simp) ?_
       simp only [Act.put, zA, zB, zC]
       refine zr (.bool true) V3 rfl ?_
       simp only [Act.put, zA, zB, zC]
       refine zr (.bool true) V3 rfl ?_
       simp only [Act.put, zA, zB, zC]
       refine zr (.bool false) V3 rfl ?_
       simp only [Act.put, zA, zB, zC]
       refine zr (.bool false) V3 rfl ?_
       simp only [Act.put, zA, zB, zC]
       refine zr (.slice A34 (m + 1) c34) V3 rfl ?_
       simp only [Act.put, zA, zB, zC]
       have C0_3 := zb C0_2 B2
       refine zr (.agg #[.int .i64 (x0 : Int), .int .i64 (x1 : Int), .int .i64 (x2 : Int), .int .i64 (x3 : Int)]) V3 (xo_loadW b8 _ (heap_keep Fv7_8.out C0_3.out) Tryd.underlying26 rfl (by kernel_rfl) rfl rfl) ?_
       simp only [Act.put, zA, zB, zC]
       refine wpList_call (by kernel_rfl) 16 Tryd.func16 (by kernel_rfl) (by kernel_rfl) _ _ #[.slice A34 (m + 1) c34, .agg #[.int .i64 (x0 : Int), .int .i64 (x1 : Int), .int .i64 (x2 : Int), .int .i64 (x3 : Int)]] rfl (by kernel_rfl) ?_
       refine (match_as A34 (m + 1) c34 (l ++ ([(Qu.Ci.mk ((ex.col : Nat) : Int) ((ex.lo : Nat) : Int) ((ex.hi : Nat) : Int))])) (Rd.mk (x0 : Int) (x1 : Int) (x2 : Int) (x3 : Int)) false (by rw [List.all_append, HAB.out, Bool.false_and]) V3 (HMr.out.keep C0_3.out)).mono ?_
       rintro e V4 ⟨rfl, hb⟩
       have B3 := Lib.hid hb
       clear hb 
       refine ⟨_, rfl, ?_⟩
       simp only [Act.put, zA, zB, zC]
       refine zr (.bool true) V4 rfl ?_
       simp only [Act.put, zA, zB, zC]
       refine zr (.bool true) V4 rfl ?_
       simp only [Act.put, zA, zB, zC]
       refine zr (.slice (some ⟨og38, 0, none⟩) m oc38) V4 rfl ?_
       simp only [Act.put, zA, zB, zC]
       have C0_4 := zb C0_3 B3
       refine zr (.agg #[.int .i64 (x0 : Int), .int .i64 (x1 : Int), .int .i64 (x2 : Int), .int .i64 (x3 : Int)]) V4 (xo_loadW b8 _ (heap_keep Fv7_8.out C0_4.out) Tryd.underlying26 rfl (by kernel_rfl) rfl rfl) ?_
       simp only [Act.put, zA, zB, zC]
       have C1_3 := zb B1 B2
       have C1_4 := zb C1_3 B3
       refine wpList_call (by kernel_rfl) 16 Tryd.func16 (by kernel_rfl) (by kernel_rfl) _ _ #[.slice (some ⟨og38, 0, none⟩) m oc38, .agg #[.int .i64 (x0 : Int), .int .i64 (x1 : Int), .int .i64 (x2 : Int), .int .i64 (x3 : Int)]] rfl (by kernel_rfl) ?_
       refine (match_as (some ⟨og38, 0, none⟩) m oc38 (Qu.Ci.mk da (dl + 1) dh :: t) (Rd.mk (x0 : Int) (x1 : Int) (x2 : Int) (x3 : Int)) false (narrow_all (by rw [← HLT.out]; exact HAB.out)) V4 (HNr.out.keep C1_4.out)).mono ?_
       rintro e V5 ⟨rfl, hb⟩
       have B4 := Lib.hid hb
       clear hb 
       refine ⟨_, rfl, ?_⟩
       simp only [Act.put, zA, zB, zC]
       refine zr (.bool true) V5 rfl ?_
       simp only [Act.put, zA, zB, zC]
       refine zr (.bool true) V5 rfl ?_
       simp only [Act.put, zA, zB, zC]
       refine zr (.bool true) V5 rfl ?_
       simp only [Act.put, zA, zB, zC]
       refine zr (.bool true) V5 rfl ?_
       simp only [Act.put, zA, zB, zC]
       refine zr (.bool true) V5 rfl ?_
       simp only [Act.put, zA, zB, zC]
       refine zr (.slice A1 m c1) V5 rfl ?_
       simp only [Act.put, zA, zB, zC]
       refine zr (.int .i64 (m : Int)) V5 (xo_len A1 m c1 Tryd.underlying28 rfl rfl) ?_
       simp only [Act.put, zA, zB, zC]
       refine zr (.bool true) V5 (xo_gtrT .i64 (m : Int) 0 (by omega) rfl rfl rfl) ?_
       simp only [Act.put, zA, zB, zC]
       refine zr (.bool true) V5 rfl ?_
       simp only [Act.put, zA, zB, zC]
       refine zl ?_
       try simp only [Act.put, zA, zB, zC]
       refine zr (.bool true) V5 rfl ?_
       simp only [Act.put, zA, zB, zC]
       refine zr (.bool true) V5 rfl ?_
       simp only [Act.put, zA, zB, zC]
       refine zr (.bool true) V5 rfl ?_
       simp only [Act.put, zA, zB, zC]
       refine zr (.bool true) V5 rfl ?_
       simp only [Act.put, zA, zB, zC]
       refine zr (.bool true) V5 rfl ?_
       simp only [Act.put, zA, zB, zC]
       refine zr (.bool true) V5 rfl ?_
       simp only [Act.put, zA, zB, zC]
       refine wpList_nil ?_
       have C0_5 := zb C0_4 B4
       have hbf := bel_step (bel_step (bel_step HBV2.out HBV24.out) HBV35.out) C0_5.out
       go_wp2_with fail
       go_ret
       exact ⟨rfl, hbf⟩
     ·go_upto_region 16 with fail
      refine wp_later_lex (by kernel_rfl) (lexOK_of (by kernel_rfl) (by kernel_rfl)) ?_
      refine zv (.slice (some ⟨og38, 0, none⟩) m oc38) (fun v hv => rfl) ?_
      simp only [Act.put, zA, zB, zC]
      refine zv (.int .i64 (m : Int)) (fun v hv => (xo_len (some ⟨og38, 0, none⟩) m oc38 Tryd.underlying28 rfl rfl)) ?_
      simp only [Act.put, zA, zB, zC]
      refine zv (.bool true) (fun v hv => (xo_gtrT .i64 (m : Int) 0 (by omega) rfl rfl rfl)) ?_
      simp only [Act.put, zA, zB, zC]
      refine zv (.bool true) (fun v hv => rfl) ?_
      simp only [Act.put, zA, zB, zC]
      refine zv (.slice (some ⟨og38, 0, none⟩) m oc38) (fun v hv => rfl) ?_
      simp only [Act.put, zA, zB, zC]
      refine zv (.pointer (some (gad (some ⟨og38, 0, none⟩) (0 * 3)))) (fun v hv => (xg_idx .i64 (HNr.out.keep (later_bel hv)) HD.out Tryd.underlying28 (by kernel_rfl) rfl rfl rfl)) ?_
      simp only [Act.put, zA, zB, zC]
      refine zv (.pointer (some (gad (some ⟨og38, 0, none⟩) ((0 * 3) + 1)))) (fun v hv => (xg_fld 1 (HNr.out.keep (later_bel hv)) HD.out (by kernel_rfl) rfl rfl)) ?_
      simp only [Act.put, zA, zB, zC]
      refine zv (.int .i64 dl) (fun v hv => (xg_load1 (E := ciC) (i := 0) (j := 1) (HNr.out.keep (later_bel hv)) HD.out rfl rfl Tryd.underlying3 rfl rfl rfl)) ?_
      simp only [Act.put, zA, zB, zC]
      refine zv (.slice (some ⟨og38, 0, none⟩) m oc38) (fun v hv => rfl) ?_
      simp only [Act.put, zA, zB, zC]
      refine zv (.pointer (some (gad (some ⟨og38, 0, none⟩) (0 * 3)))) (fun v hv => (xg_idx .i64 (HNr.out.keep (later_bel hv)) HD.out Tryd.underlying28 (by kernel_rfl) rfl rfl rfl)) ?_
      simp only [Act.put, zA, zB, zC]
      refine zv (.pointer (some (gad (some ⟨og38, 0, none⟩) ((0 * 3) + 2)))) (fun v hv => (xg_fld 2 (HNr.out.keep (later_bel hv)) HD.out (by kernel_rfl) rfl rfl)) ?_
      simp only [Act.put, zA, zB, zC]
      refine zv (.int .i64 dh) (fun v hv => (xg_load1 (E := ciC) (i := 0) (j := 2) (HNr.out.keep (later_bel hv)) HD.out rfl rfl Tryd.underlying3 rfl rfl rfl)) ?_
      simp only [Act.put, zA, zB, zC]
      refine zv (.bool false) (fun v hv => (xo_lssF .i64 dl dh (by omega) rfl rfl rfl)) ?_
      simp only [Act.put, zA, zB, zC]
      refine zv (.bool false) (fun v hv => rfl) ?_
      simp only [Act.put, zA, zB, zC]
      refine wpQuiet_nil ?_
      intro X1_40
      have hb := X1_40.below
      generalize X1_40.at = V2 at *
      have B1 := Lib.hid hb
      clear hb
      cases ab with
      | true =>
       go_upto_region 18 with fail
       refine wp_region_lit ?_
       refine zr (.slice A1 m c1) V2 rfl ?_
       simp only [Act.put, zA, zB, zC]
       have C0_2 := zb B0 B1
       refine zr (.agg #[.int .i64 (x0 : Int), .int .i64 (x1 : Int), .int .i64 (x2 : Int), .int .i64 (x3 : Int)]) V2 (xo_loadW b8 _ (heap_keep Fv7_8.out C0_2.out) Tryd.underlying26 rfl (by kernel_rfl) rfl rfl) ?_
       simp only [Act.put, zA, zB, zC]
       refine wpList_call (by kernel_rfl) 16 Tryd.func16 (by kernel_rfl) (by kernel_rfl) _ _ #[.slice A1 m c1, .agg #[.int .i64 (x0 : Int), .int .i64 (x1 : Int), .int .i64 (x2 : Int), .int .i64 (x3 : Int)]] rfl (by kernel_rfl) ?_
       refine (match_as A1 m c1 l (Rd.mk (x0 : Int) (x1 : Int) (x2 : Int) (x3 : Int)) true HAB.out V2 (HLr.out.keep C0_2.out)).mono ?_
       rintro e V3 ⟨rfl, hb⟩
       have B2 := Lib.hid hb
       clear hb 
       refine ⟨_, rfl, ?_⟩
       simp only [Act.put, zA, zB, zC]
       refine zr (.bool true) V3 rfl ?_
       simp only [Act.put, zA, zB, zC]
       refine wpList_nil ?_
       by_cases hm0 : 0 < m
       ·have hci41 : ((m : Int) > 0) := by omega
        go_upto_region 19 with fail
        refine wp_region_lit ?_
        refine zr (.bool true) V3 rfl ?_
        simp only [Act.put, zA, zB, zC]
        refine zr (.bool true) V3 rfl ?_
        simp only [Act.put, zA, zB, zC]
        refine zr (.bool true) V3 (by unfold execOp; go_simp) ?_
        simp only [Act.put, zA, zB, zC]
        refine zr (.bool true) V3 rfl ?_
        simp only [Act.put, zA, zB, zC]
        refine zr (.slice A2 m c2) V3 rfl ?_
        simp only [Act.put, zA, zB, zC]
        have C0_3 := zb C0_2 B2
        refine zr (.agg #[.int .i64 (x0 : Int), .int .i64 (x1 : Int), .int .i64 (x2 : Int), .int .i64 (x3 : Int)]) V3 (xo_loadW b8 _ (heap_keep Fv7_8.out C0_3.out) Tryd.underlying26 rfl (by kernel_rfl) rfl rfl) ?_
        simp only [Act.put, zA, zB, zC]
        refine wpList_call (by kernel_rfl) 16 Tryd.func16 (by kernel_rfl) (by kernel_rfl) _ _ #[.slice A2 m c2, .agg #[.int .i64 (x0 : Int), .int .i64 (x1 : Int), .int .i64 (x2 : Int), .int .i64 (x3 : Int)]] rfl (by kernel_rfl) ?_
        refine (match_as A2 m c2 l.reverse (Rd.mk (x0 : Int) (x1 : Int) (x2 : Int) (x3 : Int)) true ((all_rev _ _).trans HAB.out) V3 (HRr.out.keep C0_3.out)).mono ?_
        rintro e V4 ⟨rfl, hb⟩
        have B3 := Lib.hid hb
        clear hb 
        refine ⟨_, rfl, ?_⟩
        simp only [Act.put, zA, zB, zC]
        refine zr (.bool true) V4 rfl ?_
        simp only [Act.put, zA, zB, zC]
        refine zr (.bool true) V4 (by unfold execOp; go_simp) ?_
        simp only [Act.put, zA, zB, zC]
        refine zr (.bool true) V4 rfl ?_
        simp only [Act.put, zA, zB, zC]
        refine zr (.bool true) V4 rfl ?_
        simp only [Act.put, zA, zB, zC]
        refine zr (.bool true) V4 rfl ?_
        simp only [Act.put, zA, zB, zC]
        refine zr (.bool true) V4 rfl ?_
        simp only [Act.put, zA, zB, zC]
        refine zl ?_
        try simp only [Act.put, zA, zB, zC]
        refine zl ?_
        try simp only [Act.put, zA, zB, zC]
        refine zl ?_
        try simp only [Act.put, zA, zB, zC]
        refine zl ?_
        try simp only [Act.put, zA, zB, zC]
        refine zl ?_
        try simp only [Act.put, zA, zB, zC]
        refine zl ?_
        try simp only [Act.put, zA, zB, zC]
        refine zl ?_
        try simp only [Act.put, zA, zB, zC]
        refine zl ?_
        try simp only [Act.put, zA, zB, zC]
        refine zl ?_
        try simp only [Act.put, zA, zB, zC]
        refine zl ?_
        try simp only [Act.put, zA, zB, zC]
        refine zr (.bool true) V4 rfl ?_
        simp only [Act.put, zA, zB, zC]
        refine zr (.bool true) V4 rfl ?_
        simp only [Act.put, zA, zB, zC]
        refine zr (.bool true) V4 rfl ?_
        simp only [Act.put, zA, zB, zC]
        refine zr (.slice A1 m c1) V4 rfl ?_
        simp only [Act.put, zA, zB, zC]
        refine zr (.int .i64 (m : Int)) V4 (xo_len A1 m c1 Tryd.underlying28 rfl rfl) ?_
        simp only [Act.put, zA, zB, zC]
        refine zr (.bool true) V4 (xo_gtrT .i64 (m : Int) 0 (by omega) rfl rfl rfl) ?_
        simp only [Act.put, zA, zB, zC]
        refine zr (.bool true) V4 rfl ?_
        simp only [Act.put, zA, zB, zC]
        refine zl ?_
        try simp only [Act.put, zA, zB, zC]
        refine zr (.bool true) V4 rfl ?_
        simp only [Act.put, zA, zB, zC]
        refine zr (.bool true) V4 rfl ?_
        simp only [Act.put, zA, zB, zC]
        refine zr (.bool true) V4 rfl ?_
        simp only [Act.put, zA, zB, zC]
        refine zr (.bool true) V4 rfl ?_
        simp only [Act.put, zA, zB, zC]
        refine zr (.bool true) V4 rfl ?_
        simp only [Act.put, zA, zB, zC]
        refine zr (.bool true) V4 rfl ?_
        simp only [Act.put, zA, zB, zC]
        refine wpList_nil ?_
        have C0_4 := zb C0_3 B3
        have hbf := bel_step (bel_step (bel_step HBV2.out HBV24.out) HBV35.out) C0_4.out
        go_wp2_with fail
        go_ret
        exact ⟨rfl, hbf⟩
       ·have hci41 : ¬ ((m : Int) > 0) := by omega
        go_upto_region 19 with fail
        refine wp_region_lit ?_
        refine zr (.bool true) V3 rfl ?_
        simp only [Act.put, zA, zB, zC]
        refine zr (.bool true) V3 rfl ?_
        simp only [Act.put, zA, zB, zC]
        refine zr (.bool true) V3 (by unfold execOp; go_simp) ?_
        simp only [Act.put, zA, zB, zC]
        refine zr (.bool true) V3 rfl ?_
        simp only [Act.put, zA, zB, zC]
        refine zr (.slice A2 m c2) V3 rfl ?_
        simp only [Act.put, zA, zB, zC]
        have C0_3 := zb C0_2 B2
        refine zr (.agg #[.int .i64 (x0 : Int), .int .i64 (x1 : Int), .int .i64 (x2 : Int), .int .i64 (x3 : Int)]) V3 (xo_loadW b8 _ (heap_keep Fv7_8.out C0_3.out) Tryd.underlying26 rfl (by kernel_rfl) rfl rfl) ?_
        simp only [Act.put, zA, zB, zC]
        refine wpList_call (by kernel_rfl) 16 Tryd.func16 (by kernel_rfl) (by kernel_rfl) _ _ #[.slice A2 m c2, .agg #[.int .i64 (x0 : Int), .int .i64 (x1 : Int), .int .i64 (x2 : Int), .int .i64 (x3 : Int)]] rfl (by kernel_rfl) ?_
        refine (match_as A2 m c2 l.reverse (Rd.mk (x0 : Int) (x1 : Int) (x2 : Int) (x3 : Int)) true ((all_rev _ _).trans HAB.out) V3 (HRr.out.keep C0_3.out)).mono ?_
        rintro e V4 ⟨rfl, hb⟩
        have B3 := Lib.hid hb
        clear hb 
        refine ⟨_, rfl, ?_⟩
        simp only [Act.put, zA, zB, zC]
        refine zr (.bool true) V4 rfl ?_
        simp only [Act.put, zA, zB, zC]
        refine zr (.bool true) V4 (by unfold execOp; go_simp) ?_
        simp only [Act.put, zA, zB, zC]
        refine zr (.bool true) V4 rfl ?_
        simp only [Act.put, zA, zB, zC]
        refine zr (.bool true) V4 rfl ?_
        simp only [Act.put, zA, zB, zC]
        refine zr (.bool true) V4 rfl ?_
        simp only [Act.put, zA, zB, zC]
        refine zr (.bool true) V4 rfl ?_
        simp only [Act.put, zA, zB, zC]
        refine zl ?_
        try simp only [Act.put, zA, zB, zC]
        refine zl ?_
        try simp only [Act.put, zA, zB, zC]
        refine zl ?_
        try simp only [Act.put, zA, zB, zC]
        refine zl ?_
        try simp only [Act.put, zA, zB, zC]
        refine zl ?_
        try simp only [Act.put, zA, zB, zC]
        refine zl ?_
        try simp only [Act.put, zA, zB, zC]
        refine zl ?_
        try simp only [Act.put, zA, zB, zC]
        refine zl ?_
        try simp only [Act.put, zA, zB, zC]
        refine zl ?_
        try simp only [Act.put, zA, zB, zC]
        refine zl ?_
        try simp only [Act.put, zA, zB, zC]
        refine zr (.bool true) V4 rfl ?_
        simp only [Act.put, zA, zB, zC]
        refine zr (.bool true) V4 rfl ?_
        simp only [Act.put, zA, zB, zC]
        refine zr (.bool true) V4 rfl ?_
        simp only [Act.put, zA, zB, zC]
        refine zr (.slice A1 m c1) V4 rfl ?_
        simp only [Act.put, zA, zB, zC]
        refine zr (.int .i64 (m : Int)) V4 (xo_len A1 m c1 Tryd.underlying28 rfl rfl) ?_
        simp only [Act.put, zA, zB, zC]
        refine zr (.bool false) V4 (xo_gtrF .i64 (m : Int) 0 (by omega) rfl rfl rfl) ?_
        simp only [Act.put, zA, zB, zC]
        refine zr (.bool false) V4 rfl ?_
        simp only [Act.put, zA, zB, zC]
        refine zr (.bool true) V4 rfl ?_
        simp only [Act.put, zA, zB, zC]
        refine zr (.bool true) V4 rfl ?_
        simp only [Act.put, zA, zB, zC]
        refine zr (.bool true) V4 rfl ?_
        simp only [Act.put, zA, zB, zC]
        refine zr (.bool true) V4 rfl ?_
        simp only [Act.put, zA, zB, zC]
        refine zr (.bool true) V4 rfl ?_
        simp only [Act.put, zA, zB, zC]
        refine zr (.bool true) V4 rfl ?_
        simp only [Act.put, zA, zB, zC]
        refine zr (.bool true) V4 rfl ?_
        simp only [Act.put, zA, zB, zC]
        refine wpList_nil ?_
        have C0_4 := zb C0_3 B3
        have hbf := bel_step (bel_step (bel_step HBV2.out HBV24.out) HBV35.out) C0_4.out
        go_wp2_with fail
        go_ret
        exact ⟨rfl, hbf⟩
      | false =>
       go_upto_region 18 with fail
       refine wp_region_lit ?_
       refine zr (.slice A1 m c1) V2 rfl ?_
       simp only [Act.put, zA, zB, zC]
       have C0_2 := zb B0 B1
       refine zr (.agg #[.int .i64 (x0 : Int), .int .i64 (x1 : Int), .int .i64 (x2 : Int), .int .i64 (x3 : Int)]) V2 (xo_loadW b8 _ (heap_keep Fv7_8.out C0_2.out) Tryd.underlying26 rfl (by kernel_rfl) rfl rfl) ?_
       simp only [Act.put, zA, zB, zC]
       refine wpList_call (by kernel_rfl) 16 Tryd.func16 (by kernel_rfl) (by kernel_rfl) _ _ #[.slice A1 m c1, .agg #[.int .i64 (x0 : Int), .int .i64 (x1 : Int), .int .i64 (x2 : Int), .int .i64 (x3 : Int)]] rfl (by kernel_rfl) ?_
       refine (match_as A1 m c1 l (Rd.mk (x0 : Int) (x1 : Int) (x2 : Int) (x3 : Int)) false HAB.out V2 (HLr.out.keep C0_2.out)).mono ?_
       rintro e V3 ⟨rfl, hb⟩
       have B2 := Lib.hid hb
       clear hb 
       refine ⟨_, rfl, ?_⟩
       simp only [Act.put, zA, zB, zC]
       refine zr (.bool false) V3 rfl ?_
       simp only [Act.put, zA, zB, zC]
       refine wpList_nil ?_
       have hm0 : 0 < m := by
               have h1 := HM.out
               have h2 := HAB.out
               cases l with
               | nil => cases h2
               | cons e t => rw [← h1]; exact Nat.succ_pos _
       have hci41 : ((m : Int) > 0) := by omega
       go_upto_region 19 with fail
       refine wp_region_lit ?_
       refine zr (.bool false) V3 rfl ?_
       simp only [Act.put, zA, zB, zC]
       refine zr (.bool false) V3 rfl ?_
       simp only [Act.put, zA, zB, zC]
       refine zr (.bool true) V3 (by unfold execOp; go_simp) ?_
       simp only [Act.put, zA, zB, zC]
       refine zr (.bool true) V3 rfl ?_
       simp only [Act.put, zA, zB, zC]
       refine zr (.slice A2 m c2) V3 rfl ?_
       simp only [Act.put, zA, zB, zC]
       have C0_3 := zb C0_2 B2
       refine zr (.agg #[.int .i64 (x0 : Int), .int .i64 (x1 : Int), .int .i64 (x2 : Int), .int .i64 (x3 : Int)]) V3 (xo_loadW b8 _ (heap_keep Fv7_8.out C0_3.out) Tryd.underlying26 rfl (by kernel_rfl) rfl rfl) ?_
       simp only [Act.put, zA, zB, zC]
       refine wpList_call (by kernel_rfl) 16 Tryd.func16 (by kernel_rfl) (by kernel_rfl) _ _ #[.slice A2 m c2, .agg #[.int .i64 (x0 : Int), .int .i64 (x1 : Int), .int .i64 (x2 : Int), .int .i64 (x3 : Int)]] rfl (by kernel_rfl) ?_
       refine (match_as A2 m c2 l.reverse (Rd.mk (x0 : Int) (x1 : Int) (x2 : Int) (x3 : Int)) false ((all_rev _ _).trans HAB.out) V3 (HRr.out.keep C0_3.out)).mono ?_
       rintro e V4 ⟨rfl, hb⟩
       have B3 := Lib.hid hb
       clear hb 
       refine ⟨_, rfl, ?_⟩
       simp only [Act.put, zA, zB, zC]
       refine zr (.bool false) V4 rfl ?_
       simp only [Act.put, zA, zB, zC]
       refine zr (.bool true) V4 (by unfold execOp; go_simp) ?_
       simp only [Act.put, zA, zB, zC]
       refine zr (.bool true) V4 rfl ?_
       simp only [Act.put, zA, zB, zC]
       refine zr (.bool true) V4 rfl ?_
       simp only [Act.put, zA, zB, zC]
       refine zr (.bool false) V4 rfl ?_
       simp only [Act.put, zA, zB, zC]
       refine zr (.bool false) V4 rfl ?_
       simp only [Act.put, zA, zB, zC]
       refine zr (.slice A34 (m + 1) c34) V4 rfl ?_
       simp only [Act.put, zA, zB, zC]
       have C0_4 := zb C0_3 B3
       refine zr (.agg #[.int .i64 (x0 : Int), .int .i64 (x1 : Int), .int .i64 (x2 : Int), .int .i64 (x3 : Int)]) V4 (xo_loadW b8 _ (heap_keep Fv7_8.out C0_4.out) Tryd.underlying26 rfl (by kernel_rfl) rfl rfl) ?_
       simp only [Act.put, zA, zB, zC]
       refine wpList_call (by kernel_rfl) 16 Tryd.func16 (by kernel_rfl) (by kernel_rfl) _ _ #[.slice A34 (m + 1) c34, .agg #[.int .i64 (x0 : Int), .int .i64 (x1 : Int), .int .i64 (x2 : Int), .int .i64 (x3 : Int)]] rfl (by kernel_rfl) ?_
       refine (match_as A34 (m + 1) c34 (l ++ ([(Qu.Ci.mk ((ex.col : Nat) : Int) ((ex.lo : Nat) : Int) ((ex.hi : Nat) : Int))])) (Rd.mk (x0 : Int) (x1 : Int) (x2 : Int) (x3 : Int)) false (by rw [List.all_append, HAB.out, Bool.false_and]) V4 (HMr.out.keep C0_4.out)).mono ?_
       rintro e V5 ⟨rfl, hb⟩
       have B4 := Lib.hid hb
       clear hb 
       refine ⟨_, rfl, ?_⟩
       simp only [Act.put, zA, zB, zC]
       refine zr (.bool true) V5 rfl ?_
       simp only [Act.put, zA, zB, zC]
       refine zr (.bool true) V5 rfl ?_
       simp only [Act.put, zA, zB, zC]
       refine zr (.slice (some ⟨og38, 0, none⟩) m oc38) V5 rfl ?_
       simp only [Act.put, zA, zB, zC]
       have C0_5 := zb C0_4 B4
       refine zr (.agg #[.int .i64 (x0 : Int), .int .i64 (x1 : Int), .int .i64 (x2 : Int), .int .i64 (x3 : Int)]) V5 (xo_loadW b8 _ (heap_keep Fv7_8.out C0_5.out) Tryd.underlying26 rfl (by kernel_rfl) rfl rfl) ?_
       simp only [Act.put, zA, zB, zC]
       have C1_3 := zb B1 B2
       have C1_4 := zb C1_3 B3
       have C1_5 := zb C1_4 B4
       refine wpList_call (by kernel_rfl) 16 Tryd.func16 (by kernel_rfl) (by kernel_rfl) _ _ #[.slice (some ⟨og38, 0, none⟩) m oc38, .agg #[.int .i64 (x0 : Int), .int .i64 (x1 : Int), .int .i64 (x2 : Int), .int .i64 (x3 : Int)]] rfl (by kernel_rfl) ?_
       refine (match_as (some ⟨og38, 0, none⟩) m oc38 l (Rd.mk (x0 : Int) (x1 : Int) (x2 : Int) (x3 : Int)) false HAB.out V5 (HNr.out.keep C1_5.out)).mono ?_
       rintro e V6 ⟨rfl, hb⟩
       have B5 := Lib.hid hb
       clear hb 
       refine ⟨_, rfl, ?_⟩
       simp only [Act.put, zA, zB, zC]
       refine zr (.bool true) V6 rfl ?_
       simp only [Act.put, zA, zB, zC]
       refine zr (.bool true) V6 rfl ?_
       simp only [Act.put, zA, zB, zC]
       refine zr (.bool true) V6 rfl ?_
       simp only [Act.put, zA, zB, zC]
       refine zr (.bool true) V6 rfl ?_
       simp only [Act.put, zA, zB, zC]
       refine zr (.bool true) V6 rfl ?_
       simp only [Act.put, zA, zB, zC]
       refine zr (.slice A1 m c1) V6 rfl ?_
       simp only [Act.put, zA, zB, zC]
       refine zr (.int .i64 (m : Int)) V6 (xo_len A1 m c1 Tryd.underlying28 rfl rfl) ?_
       simp only [Act.put, zA, zB, zC]
       refine zr (.bool true) V6 (xo_gtrT .i64 (m : Int) 0 (by omega) rfl rfl rfl) ?_
       simp only [Act.put, zA, zB, zC]
       refine zr (.bool true) V6 rfl ?_
       simp only [Act.put, zA, zB, zC]
       refine zl ?_
       try simp only [Act.put, zA, zB, zC]
       refine zr (.bool true) V6 rfl ?_
       simp only [Act.put, zA, zB, zC]
       refine zr (.bool true) V6 rfl ?_
       simp only [Act.put, zA, zB, zC]
       refine zr (.bool true) V6 rfl ?_
       simp only [Act.put, zA, zB, zC]
       refine zr (.bool true) V6 rfl ?_
       simp only [Act.put, zA, zB, zC]
       refine zr (.bool true) V6 rfl ?_
       simp only [Act.put, zA, zB, zC]
       refine zr (.bool true) V6 rfl ?_
       simp only [Act.put, zA, zB, zC]
       refine wpList_nil ?_
       have C0_6 := zb C0_5 B5
       have hbf := bel_step (bel_step (bel_step HBV2.out HBV24.out) HBV35.out) C0_6.out
       go_wp2_with fail
       go_ret
       exact ⟨rfl, hbf⟩
    ·obtain ⟨A38, c38, rfl⟩ := own_form Ow77_37.out
     have hsn := Sg.ownS Ow77_37.out
     have hcapn := hsn.cap
     have htopn := hsn.top
     have HNr := Lib.hid hsn
     clear hsn
     have hci39 : ¬ ((m : Int) > 0) := by omega
     go_upto_region 16 with fail
     refine wp_later_lex (by kernel_rfl) (lexOK_of (by kernel_rfl) (by kernel_rfl)) ?_
     refine zv (.slice A38 m c38) (fun v hv => rfl) ?_
     simp only [Act.put, zA, zB, zC]
     refine zv (.int .i64 (m : Int)) (fun v hv => (xo_len A38 m c38 Tryd.underlying28 rfl rfl)) ?_
     simp only [Act.put, zA, zB, zC]
     refine zv (.bool false) (fun v hv => (xo_gtrF .i64 (m : Int) 0 (by omega) rfl rfl rfl)) ?_
     simp only [Act.put, zA, zB, zC]
     refine zv (.bool false) (fun v hv => rfl) ?_
     simp only [Act.put, zA, zB, zC]
     refine BigFrame.wpQuiet_skip (by kernel_rfl) ?_
     try simp only [Act.put, zA, zB, zC]
     refine BigFrame.wpQuiet_skip (by kernel_rfl) ?_
     try simp only [Act.put, zA, zB, zC]
     refine BigFrame.wpQuiet_skip (by kernel_rfl) ?_
     try simp only [Act.put, zA, zB, zC]
     refine BigFrame.wpQuiet_skip (by kernel_rfl) ?_
     try simp only [Act.put, zA, zB, zC]
     refine BigFrame.wpQuiet_skip (by kernel_rfl) ?_
     try simp only [Act.put, zA, zB, zC]
     refine BigFrame.wpQuiet_skip (by kernel_rfl) ?_
     try simp only [Act.put, zA, zB, zC]
     refine BigFrame.wpQuiet_skip (by kernel_rfl) ?_
     try simp only [Act.put, zA, zB, zC]
     refine BigFrame.wpQuiet_skip (by kernel_rfl) ?_
     try simp only [Act.put, zA, zB, zC]
     refine BigFrame.wpQuiet_skip (by kernel_rfl) ?_
     try simp only [Act.put, zA, zB, zC]
     refine zv (.bool false) (fun v hv => rfl) ?_
     simp only [Act.put, zA, zB, zC]
     refine wpQuiet_nil ?_
     intro X1_40
     have hb := X1_40.below
     generalize X1_40.at = V2 at *
     have B1 := Lib.hid hb
     clear hb
     cases ab with
     | true =>
      go_upto_region 18 with fail
      refine wp_region_lit ?_
      refine zr (.slice A1 m c1) V2 rfl ?_
      simp only [Act.put, zA, zB, zC]
      have C0_2 := zb B0 B1
      refine zr (.agg #[.int .i64 (x0 : Int), .int .i64 (x1 : Int), .int .i64 (x2 : Int), .int .i64 (x3 : Int)]) V2 (xo_loadW b8 _ (heap_keep Fv7_8.out C0_2.out) Tryd.underlying26 rfl (by kernel_rfl) rfl rfl) ?_
      simp only [Act.put, zA, zB, zC]
      refine wpList_call (by kernel_rfl) 16 Tryd.func16 (by kernel_rfl) (by kernel_rfl) _ _ #[.slice A1 m c1, .agg #[.int .i64 (x0 : Int), .int .i64 (x1 : Int), .int .i64 (x2 : Int), .int .i64 (x3 : Int)]] rfl (by kernel_rfl) ?_
      refine (match_as A1 m c1 l (Rd.mk (x0 : Int) (x1 : Int) (x2 : Int) (x3 : Int)) true HAB.out V2 (HLr.out.keep C0_2.out)).mono ?_
      rintro e V3 ⟨rfl, hb⟩
      have B2 := Lib.hid hb
      clear hb 
      refine ⟨_, rfl, ?_⟩
      simp only [Act.put, zA, zB, zC]
      refine zr (.bool true) V3 rfl ?_
      simp only [Act.put, zA, zB, zC]
      refine wpList_nil ?_
      by_cases hm0 : 0 < m
      ·have hci41 : ((m : Int) > 0) := by omega
       go_upto_region 19 with fail
       refine wp_region_lit ?_
       refine zr (.bool true) V3 rfl ?_
       simp only [Act.put, zA, zB, zC]
       refine zr (.bool true) V3 rfl ?_
       simp only [Act.put, zA, zB, zC]
       refine zr (.bool true) V3 (by unfold execOp; go_simp) ?_
       simp only [Act.put, zA, zB, zC]
       refine zr (.bool true) V3 rfl ?_
       simp only [Act.put, zA, zB, zC]
       refine zr (.slice A2 m c2) V3 rfl ?_
       simp only [Act.put, zA, zB, zC]
       have C0_3 := zb C0_2 B2
       refine zr (.agg #[.int .i64 (x0 : Int), .int .i64 (x1 : Int), .int .i64 (x2 : Int), .int .i64 (x3 : Int)]) V3 (xo_loadW b8 _ (heap_keep Fv7_8.out C0_3.out) Tryd.underlying26 rfl (by kernel_rfl) rfl rfl) ?_
       simp only [Act.put, zA, zB, zC]
       refine wpList_call (by kernel_rfl) 16 Tryd.func16 (by kernel_rfl) (by kernel_rfl) _ _ #[.slice A2 m c2, .agg #[.int .i64 (x0 : Int), .int .i64 (x1 : Int), .int .i64 (x2 : Int), .int .i64 (x3 : Int)]] rfl (by kernel_rfl) ?_
       refine (match_as A2 m c2 l.reverse (Rd.mk (x0 : Int) (x1 : Int) (x2 : Int) (x3 : Int)) true ((all_rev _ _).trans HAB.out) V3 (HRr.out.keep C0_3.out)).mono ?_
       rintro e V4 ⟨rfl, hb⟩
       have B3 := Lib.hid hb
       clear hb 
       refine ⟨_, rfl, ?_⟩
       simp only [Act.put, zA, zB, zC]
       refine zr (.bool true) V4 rfl ?_
       simp only [Act.put, zA, zB, zC]
       refine zr (.bool true) V4 (by unfold execOp; go_simp) ?_
       simp only [Act.put, zA, zB, zC]
       refine zr (.bool true) V4 rfl ?_
       simp only [Act.put, zA, zB, zC]
       refine zr (.bool true) V4 rfl ?_
       simp only [Act.put, zA, zB, zC]
       refine zr (.bool true) V4 rfl ?_
       simp only [Act.put, zA, zB, zC]
       refine zr (.bool true) V4 rfl ?_
       simp only [Act.put, zA, zB, zC]
       refine zl ?_
       try simp only [Act.put, zA, zB, zC]
       refine zl ?_
       try simp only [Act.put, zA, zB, zC]
       refine zl ?_
       try simp only [Act.put, zA, zB, zC]
       refine zl ?_
       try simp only [Act.put, zA, zB, zC]
       refine zl ?_
       try simp only [Act.put, zA, zB, zC]
       refine zl ?_
       try simp only [Act.put, zA, zB, zC]
       refine zl ?_
       try simp only [Act.put, zA, zB, zC]
       refine zl ?_
       try simp only [Act.put, zA, zB, zC]
       refine zl ?_
       try simp only [Act.put, zA, zB, zC]
       refine zl ?_
       try simp only [Act.put, zA, zB, zC]
       refine zr (.bool true) V4 rfl ?_
       simp only [Act.put, zA, zB, zC]
       refine zr (.bool true) V4 rfl ?_
       simp only [Act.put, zA, zB, zC]
       refine zr (.bool true) V4 rfl ?_
       simp only [Act.put, zA, zB, zC]
       refine zr (.slice A1 m c1) V4 rfl ?_
       simp only [Act.put, zA, zB, zC]
       refine zr (.int .i64 (m : Int)) V4 (xo_len A1 m c1 Tryd.underlying28 rfl rfl) ?_
       simp only [Act.put, zA, zB, zC]
       refine zr (.bool true) V4 (xo_gtrT .i64 (m : Int) 0 (by omega) rfl rfl rfl) ?_
       simp only [Act.put, zA, zB, zC]
       refine zr (.bool true) V4 rfl ?_
       simp only [Act.put, zA, zB, zC]
       refine zl ?_
       try simp only [Act.put, zA, zB, zC]
       refine zr (.bool true) V4 rfl ?_
       simp only [Act.put, zA, zB, zC]
       refine zr (.bool true) V4 rfl ?_
       simp only [Act.put, zA, zB, zC]
       refine zr (.bool true) V4 rfl ?_
       simp only [Act.put, zA, zB, zC]
       refine zr (.bool true) V4 rfl ?_
       simp only [Act.put, zA, zB, zC]
       refine zr (.bool true) V4 rfl ?_
       simp only [Act.put, zA, zB, zC]
       refine zr (.bool true) V4 rfl ?_
       simp only [Act.put, zA, zB, zC]
       refine wpList_nil ?_
       have C0_4 := zb C0_3 B3
       have hbf := bel_step (bel_step (bel_step HBV2.out HBV24.out) HBV35.out) C0_4.out
       go_wp2_with fail
       go_ret
       exact ⟨rfl, hbf⟩
      ·have hci41 : ¬ ((m : Int) > 0) := by omega
       go_upto_region 19 with fail
       refine wp_region_lit ?_
       refine zr (.bool true) V3 rfl ?_
       simp only [Act.put, zA, zB, zC]
       refine zr (.bool true) V3 rfl ?_
       simp only [Act.put, zA, zB, zC]
       refine zr (.bool true) V3 (by unfold execOp; go_simp) ?_
       simp only [Act.put, zA, zB, zC]
       refine zr (.bool true) V3 rfl ?_
       simp only [Act.put, zA, zB, zC]
       refine zr (.slice A2 m c2) V3 rfl ?_
       simp only [Act.put, zA, zB, zC]
       have C0_3 := zb C0_2 B2
       refine zr (.agg #[.int .i64 (x0 : Int), .int .i64 (x1 : Int), .int .i64 (x2 : Int), .int .i64 (x3 : Int)]) V3 (xo_loadW b8 _ (heap_keep Fv7_8.out C0_3.out) Tryd.underlying26 rfl (by kernel_rfl) rfl rfl) ?_
       simp only [Act.put, zA, zB, zC]
       refine wpList_call (by kernel_rfl) 16 Tryd.func16 (by kernel_rfl) (by kernel_rfl) _ _ #[.slice A2 m c2, .agg #[.int .i64 (x0 : Int), .int .i64 (x1 : Int), .int .i64 (x2 : Int), .int .i64 (x3 : Int)]] rfl (by kernel_rfl) ?_
       refine (match_as A2 m c2 l.reverse (Rd.mk (x0 : Int) (x1 : Int) (x2 : Int) (x3 : Int)) true ((all_rev _ _).trans HAB.out) V3 (HRr.out.keep C0_3.out)).mono ?_
       rintro e V4 ⟨rfl, hb⟩
       have B3 := Lib.hid hb
       clear hb 
       refine ⟨_, rfl, ?_⟩
       simp only [Act.put, zA, zB, zC]
       refine zr (.bool true) V4 rfl ?_
       simp only [Act.put, zA, zB, zC]
       refine zr (.bool true) V4 (by unfold execOp; go_simp) ?_
       simp only [Act.put, zA, zB, zC]
       refine zr (.bool true) V4 rfl ?_
       simp only [Act.put, zA, zB, zC]
       refine zr (.bool true) V4 rfl ?_
       simp only [Act.put, zA, zB, zC]
       refine zr (.bool true) V4 rfl ?_
       simp only [Act.put, zA, zB, zC]
       refine zr (.bool true) V4 rfl ?_
       simp only [Act.put, zA, zB, zC]
       refine zl ?_
       try simp only [Act.put, zA, zB, zC]
       refine zl ?_
       try simp only [Act.put, zA, zB, zC]
       refine zl ?_
       try simp only [Act.put, zA, zB, zC]
       refine zl ?_
       try simp only [Act.put, zA, zB, zC]
       refine zl ?_
       try simp only [Act.put, zA, zB, zC]
       refine zl ?_
       try simp only [Act.put, zA, zB, zC]
       refine zl ?_
       try simp only [Act.put, zA, zB, zC]
       refine zl ?_
       try simp only [Act.put, zA, zB, zC]
       refine zl ?_
       try simp only [Act.put, zA, zB, zC]
       refine zl ?_
       try simp only [Act.put, zA, zB, zC]
       refine zr (.bool true) V4 rfl ?_
       simp only [Act.put, zA, zB, zC]
       refine zr (.bool true) V4 rfl ?_
       simp only [Act.put, zA, zB, zC]
       refine zr (.bool true) V4 rfl ?_
       simp only [Act.put, zA, zB, zC]
       refine zr (.slice A1 m c1) V4 rfl ?_
       simp only [Act.put, zA, zB, zC]
       refine zr (.int .i64 (m : Int)) V4 (xo_len A1 m c1 Tryd.underlying28 rfl rfl) ?_
       simp only [Act.put, zA, zB, zC]
       refine zr (.bool false) V4 (xo_gtrF .i64 (m : Int) 0 (by omega) rfl rfl rfl) ?_
       simp only [Act.put, zA, zB, zC]
       refine zr (.bool false) V4 rfl ?_
       simp only [Act.put, zA, zB, zC]
       refine zr (.bool true) V4 rfl ?_
       simp only [Act.put, zA, zB, zC]
       refine zr (.bool true) V4 rfl ?_
       simp only [Act.put, zA, zB, zC]
       refine zr (.bool true) V4 rfl ?_
       simp only [Act.put, zA, zB, zC]
       refine zr (.bool true) V4 rfl ?_
       simp only [Act.put, zA, zB, zC]
       refine zr (.bool true) V4 rfl ?_
       simp only [Act.put, zA, zB, zC]
       refine zr (.bool true) V4 rfl ?_
       simp only [Act.put, zA, zB, zC]
       refine zr (.bool true) V4 rfl ?_
       simp only [Act.put, zA, zB, zC]
       refine wpList_nil ?_
       have C0_4 := zb C0_3 B3
       have hbf := bel_step (bel_step (bel_step HBV2.out HBV24.out) HBV35.out) C0_4.out
       go_wp2_with fail
       go_ret
       exact ⟨rfl, hbf⟩
     | false =>
      go_upto_region 18 with fail
      refine wp_region_lit ?_
      refine zr (.slice A1 m c1) V2 rfl ?_
      simp only [Act.put, zA, zB, zC]
      have C0_2 := zb B0 B1
      refine zr (.agg #[.int .i64 (x0 : Int), .int .i64 (x1 : Int), .int .i64 (x2 : Int), .int .i64 (x3 : Int)]) V2 (xo_loadW b8 _ (heap_keep Fv7_8.out C0_2.out) Tryd.underlying26 rfl (by kernel_rfl) rfl rfl) ?_
      simp only [Act.put, zA, zB, zC]
      refine wpList_call (by kernel_rfl) 16 Tryd.func16 (by kernel_rfl) (by kernel_rfl) _ _ #[.slice A1 m c1, .agg #[.int .i64 (x0 : Int), .int .i64 (x1 : Int), .int .i64 (x2 : Int), .int .i64 (x3 : Int)]] rfl (by kernel_rfl) ?_
      refine (match_as A1 m c1 l (Rd.mk (x0 : Int) (x1 : Int) (x2 : Int) (x3 : Int)) false HAB.out V2 (HLr.out.keep C0_2.out)).mono ?_
      rintro e V3 ⟨rfl, hb⟩
      have B2 := Lib.hid hb
      clear hb 
      refine ⟨_, rfl, ?_⟩
      simp only [Act.put, zA, zB, zC]
      refine zr (.bool false) V3 rfl ?_
      simp only [Act.put, zA, zB, zC]
      refine wpList_nil ?_
      have hm0 : 0 < m := by
             have h1 := HM.out
             have h2 := HAB.out
             cases l with
             | nil => cases h2
             | cons e t => rw [← h1]; exact Nat.succ_pos _
      have hci41 : ((m : Int) > 0) := by omega
      go_upto_region 19 with fail
      refine wp_region_lit ?_
      refine zr (.bool false) V3 rfl ?_
      simp only [Act.put, zA, zB, zC]
      refine zr (.bool false) V3 rfl ?_
      simp only [Act.put, zA, zB, zC]
      refine zr (.bool true) V3 (by unfold execOp; go_simp) ?_
      simp only [Act.put, zA, zB, zC]
      refine zr (.bool true) V3 rfl ?_
      simp only [Act.put, zA, zB, zC]
      refine zr (.slice A2 m c2) V3 rfl ?_
      simp only [Act.put, zA, zB, zC]
      have C0_3 := zb C0_2 B2
      refine zr (.agg #[.int .i64 (x0 : Int), .int .i64 (x1 : Int), .int .i64 (x2 : Int), .int .i64 (x3 : Int)]) V3 (xo_loadW b8 _ (heap_keep Fv7_8.out C0_3.out) Tryd.underlying26 rfl (by kernel_rfl) rfl rfl) ?_
      simp only [Act.put, zA, zB, zC]
      refine wpList_call (by kernel_rfl) 16 Tryd.func16 (by kernel_rfl) (by kernel_rfl) _ _ #[.slice A2 m c2, .agg #[.int .i64 (x0 : Int), .int .i64 (x1 : Int), .int .i64 (x2 : Int), .int .i64 (x3 : Int)]] rfl (by kernel_rfl) ?_
      refine (match_as A2 m c2 l.reverse (Rd.mk (x0 : Int) (x1 : Int) (x2 : Int) (x3 : Int)) false ((all_rev _ _).trans HAB.out) V3 (HRr.out.keep C0_3.out)).mono ?_
      rintro e V4 ⟨rfl, hb⟩
      have B3 := Lib.hid hb
      clear hb 
      refine ⟨_, rfl, ?_⟩
      simp only [Act.put, zA, zB, zC]
      refine zr (.bool false) V4 rfl ?_
      simp only [Act.put, zA, zB, zC]
      refine zr (.bool true) V4 (by unfold execOp; go_simp) ?_
      simp only [Act.put, zA, zB, zC]
      refine zr (.bool true) V4 rfl ?_
      simp only [Act.put, zA, zB, zC]
      refine zr (.bool true) V4 rfl ?_
      simp only [Act.put, zA, zB, zC]
      refine zr (.bool false) V4 rfl ?_
      simp only [Act.put, zA, zB, zC]
      refine zr (.bool false) V4 rfl ?_
      simp only [Act.put, zA, zB, zC]
      refine zr (.slice A34 (m + 1) c34) V4 rfl ?_
      simp only [Act.put, zA, zB, zC]
      have C0_4 := zb C0_3 B3
      refine zr (.agg #[.int .i64 (x0 : Int), .int .i64 (x1 : Int), .int .i64 (x2 : Int), .int .i64 (x3 : Int)]) V4 (xo_loadW b8 _ (heap_keep Fv7_8.out C0_4.out) Tryd.underlying26 rfl (by kernel_rfl) rfl rfl) ?_
      simp only [Act.put, zA, zB, zC]
      refine wpList_call (by kernel_rfl) 16 Tryd.func16 (by kernel_rfl) (by kernel_rfl) _ _ #[.slice A34 (m + 1) c34, .agg #[.int .i64 (x0 : Int), .int .i64 (x1 : Int), .int .i64 (x2 : Int), .int .i64 (x3 : Int)]] rfl (by kernel_rfl) ?_
      refine (match_as A34 (m + 1) c34 (l ++ ([(Qu.Ci.mk ((ex.col : Nat) : Int) ((ex.lo : Nat) : Int) ((ex.hi : Nat) : Int))])) (Rd.mk (x0 : Int) (x1 : Int) (x2 : Int) (x3 : Int)) false (by rw [List.all_append, HAB.out, Bool.false_and]) V4 (HMr.out.keep C0_4.out)).mono ?_
      rintro e V5 ⟨rfl, hb⟩
      have B4 := Lib.hid hb
      clear hb 
      refine ⟨_, rfl, ?_⟩
      simp only [Act.put, zA, zB, zC]
      refine zr (.bool true) V5 rfl ?_
      simp only [Act.put, zA, zB, zC]
      refine zr (.bool true) V5 rfl ?_
      simp only [Act.put, zA, zB, zC]
      refine zr (.slice A38 m c38) V5 rfl ?_
      simp only [Act.put, zA, zB, zC]
      have C0_5 := zb C0_4 B4
      refine zr (.agg #[.int .i64 (x0 : Int), .int .i64 (x1 : Int), .int .i64 (x2 : Int), .int .i64 (x3 : Int)]) V5 (xo_loadW b8 _ (heap_keep Fv7_8.out C0_5.out) Tryd.underlying26 rfl (by kernel_rfl) rfl rfl) ?_
      simp only [Act.put, zA, zB, zC]
      have C1_3 := zb B1 B2
      have C1_4 := zb C1_3 B3
      have C1_5 := zb C1_4 B4
      refine wpList_call (by kernel_rfl) 16 Tryd.func16 (by kernel_rfl) (by kernel_rfl) _ _ #[.slice A38 m c38, .agg #[.int .i64 (x0 : Int), .int .i64 (x1 : Int), .int .i64 (x2 : Int), .int .i64 (x3 : Int)]] rfl (by kernel_rfl) ?_
      refine (match_as A38 m c38 l (Rd.mk (x0 : Int) (x1 : Int) (x2 : Int) (x3 : Int)) false HAB.out V5 (HNr.out.keep C1_5.out)).mono ?_
      rintro e V6 ⟨rfl, hb⟩
      have B5 := Lib.hid hb
      clear hb 
      refine ⟨_, rfl, ?_⟩
      simp only [Act.put, zA, zB, zC]
      refine zr (.bool true) V6 rfl ?_
      simp only [Act.put, zA, zB, zC]
      refine zr (.bool true) V6 rfl ?_
      simp only [Act.put, zA, zB, zC]
      refine zr (.bool true) V6 rfl ?_
      simp only [Act.put, zA, zB, zC]
      refine zr (.bool true) V6 rfl ?_
      simp only [Act.put, zA, zB, zC]
      refine zr (.bool true) V6 rfl ?_
      simp only [Act.put, zA, zB, zC]
      refine zr (.slice A1 m c1) V6 rfl ?_
      simp only [Act.put, zA, zB, zC]
      refine zr (.int .i64 (m : Int)) V6 (xo_len A1 m c1 Tryd.underlying28 rfl rfl) ?_
      simp only [Act.put, zA, zB, zC]
      refine zr (.bool true) V6 (xo_gtrT .i64 (m : Int) 0 (by omega) rfl rfl rfl) ?_
      simp only [Act.put, zA, zB, zC]
      refine zr (.bool true) V6 rfl ?_
      simp only [Act.put, zA, zB, zC]
      refine zl ?_
      try simp only [Act.put, zA, zB, zC]
      refine zr (.bool true) V6 rfl ?_
      simp only [Act.put, zA, zB, zC]
      refine zr (.bool true) V6 rfl ?_
      simp only [Act.put, zA, zB, zC]
      refine zr (.bool true) V6 rfl ?_
      simp only [Act.put, zA, zB, zC]
      refine zr (.bool true) V6 rfl ?_
      simp only [Act.put, zA, zB, zC]
      refine zr (.bool true) V6 rfl ?_
      simp only [Act.put, zA, zB, zC]
      refine zr (.bool true) V6 rfl ?_
      simp only [Act.put, zA, zB, zC]
      refine wpList_nil ?_
      have C0_6 := zb C0_5 B5
      have hbf := bel_step (bel_step (bel_step HBV2.out HBV24.out) HBV35.out) C0_6.out
      go_wp2_with fail
      go_ret
      exact ⟨rfl, hbf⟩
end Go.Proofs.YtlicfidcfhbmpaaDoor
