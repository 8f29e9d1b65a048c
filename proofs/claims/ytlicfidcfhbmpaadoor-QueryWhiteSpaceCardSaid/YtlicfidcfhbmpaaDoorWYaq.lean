/- Stage 13: law QueryWhiteSpace. -/
import Derived.Test.YtlicfidcfhbmpaaDoorTw21
import Derived.Test.YtlicfidcfhbmpaaDoorTw20
import Derived.Test.YtlicfidcfhbmpaaDoorTw19
namespace Go.Proofs.YtlicfidcfhbmpaaDoor
set_option linter.unusedVariables false
set_option linter.unusedSimpArgs false
set_option linter.unusedSectionVars false
set_option maxRecDepth 8000
open Go.RowKit Go.Proofs.YtlicfidcfhbmpaaDoor.K
attribute [local irreducible] wpList wpQuiet
set_option maxRecDepth 100000 in
set_option maxHeartbeats 16000000 in
theorem wspace_as (n : Nat) (hn : n < 256) (x : List UInt8) (hx : Qu.spN n = x) (w : World) : Calls Tryd.prog 23 #[.int .u8 (n : Int)] w fun e w' => e = .returned (.string (sB x)) ∧ Below w.heap.size w w' := by
 obtain ⟨m, hm⟩ : ∃ x, n % 5 = x := ⟨_, rfl⟩
 obtain ⟨k, hk⟩ : ∃ x, n / 5 = x := ⟨_, rfl⟩
 have lm : m < 5 := by omega
 have lk : k ≤ 51 := by omega
 have HM := Lib.hid hm
 have HK := Lib.hid hk
 have HX : Hid (Qu.spG k m = x) := Lib.hid (by rw [← hx, ← hk, ← hm]; rfl)
 clear hx hm hk
 go_enter Tryd.func23, Tryd.ntmps23
 go_upto_region 1 with fail
 refine wp_region_lit ?_
 refine zr (.string (sB ([]))) w rfl ?_
 simp only [Act.put, zA, zB, zC]
 refine wpList_nil ?_
 go_upto_region 2 with fail
 refine wp_region_lit ?_
 refine zr (.int .i64 0) w rfl ?_
 simp only [Act.put, zA, zB, zC]
 refine wpList_nil ?_
 have O0 := (Below.refl w.heap.size w)
 have B0 := Lib.hid (Below.refl w.heap.size w)
 go_wp2_with fail
 go_loopw [4, 3] (fun p a wr => ∃ i : Nat, i ≤ m ∧ p = .int .i64 i ∧ a = .string (sB (Qu.spG k i)) ∧ Below w.heap.size w wr) (fun p _ _ => m - (intOf p).toNat)
 case atStart => exact ⟨0, Nat.zero_le _, rfl, rfl, O0⟩
 case round =>
  clear O0
  obtain ⟨wo, rfl⟩ : ∃ wo : World, wo = wr := ⟨_, rfl⟩
  obtain ⟨i, hi, rfl, hHA, hb0⟩ := hrel
  have hbr := hb0
  clear B0
  have B0 := Lib.hid hbr
  clear hbr
  have HA := Lib.hid hHA
  clear hb0 hHA
  have ea := HA.out
  subst ea
  clear HA
  by_cases hlt : i < m
  ·have hci2 : ((i : Int) < (m : Int)) := by omega
   go_upto_region 3 with fail
   refine wp_region_lit ?_
   refine zr (.int .i64 (i : Int)) wo rfl ?_
   simp only [Act.put, zA, zB, zC]
   refine zr (.int .u8 (n : Int)) wo rfl ?_
   simp only [Act.put, zA, zB, zC]
   refine zr (.int .i64 (n : Int)) wo (xo_cvt .u8 .i64 (n : Int) (n : Int) (by rw [IntKind.wrap_i64]; omega) Tryd.underlying3 Tryd.underlying5 rfl rfl) ?_
   simp only [Act.put, zA, zB, zC]
   refine zr (.int .i64 (m : Int)) wo (xo_remN .i64 n 5 m (by omega) HM.out rfl rfl rfl) ?_
   simp only [Act.put, zA, zB, zC]
   refine zr (.bool true) wo (xo_lssT .i64 (i : Int) (m : Int) (by omega) rfl rfl rfl) ?_
   simp only [Act.put, zA, zB, zC]
   refine wpList_nil ?_
   obtain ⟨r, hr⟩ : ∃ x, (i + k) % 4 = x := ⟨_, rfl⟩
   have lr : r < 4 := by omega
   have HR := Lib.hid hr
   clear hr
   have HE := Lib.hid (sp_list lr)
   go_upto_region 5 with fail
   refine wp_region_lit ?_
   refine zr (.string (sB (Qu.spG k i))) wo rfl ?_
   simp only [Act.put, zA, zB, zC]
   refine wpList_mk (by kernel_rfl) ([[32], [9], [10], [13]].flatMap stC).toArray 9 4 4 (xg_lit (E := stC) (bytes := 16) (.string ByteArray.empty) [.const (.string ⟨#[32]⟩), .const (.string ⟨#[9]⟩), .const (.string ⟨#[10]⟩), .const (.string ⟨#[13]⟩)] [[32], [9], [10], [13]] 4 Tryd.underlying86 (by kernel_rfl) rfl (by decide) (by decide) rfl rfl) ?_
   intro g13 V2 hge h0 hb
   have Ge3 : Hid (wo.heap.size ≤ g13) := Lib.hid hge
   have B1 := Lib.hid hb
   have Fv4_13 : Hid (RowG stC V2 g13 9 ([[32], [9], [10], [13]])) := Lib.hid (h0)
   have Lt5 : Hid (g13 < V2.heap.size) := Lib.hid (xp_lt Fv4_13.out)
   clear hge h0 hb
   simp only [ptr, Act.put, zA, zB, zC]
   refine zr (.int .i64 (i : Int)) V2 rfl ?_
   simp only [Act.put, zA, zB, zC]
   refine zr (.int .u8 (n : Int)) V2 rfl ?_
   simp only [Act.put, zA, zB, zC]
   refine zr (.int .u8 (k : Int)) V2 (xo_quoN .u8 n 5 k (by omega) HK.out (by rw [IntKind.wrap_u8]; omega) rfl rfl rfl) ?_
   simp only [Act.put, zA, zB, zC]
   refine zr (.int .i64 (k : Int)) V2 (xo_cvt .u8 .i64 (k : Int) (k : Int) (by rw [IntKind.wrap_i64]; omega) Tryd.underlying3 Tryd.underlying5 rfl rfl) ?_
   simp only [Act.put, zA, zB, zC]
   refine zr (.int .i64 ((i + k : Nat) : Int)) V2 (xo_addI (i : Int) (k : Int) ((i + k : Nat) : Int) (by omega) (by omega) (by omega) rfl rfl rfl) ?_
   simp only [Act.put, zA, zB, zC]
   refine zr (.int .i64 (r : Int)) V2 (xo_remN .i64 (i + k) 4 r (by omega) HR.out rfl rfl rfl) ?_
   simp only [Act.put, zA, zB, zC]
   refine zr (.pointer (some (gad (some ⟨g13, 0, none⟩) (r * 1)))) V2 (xg_idx .i64 (RowG.sg (n := 4) (c := 4) Fv4_13.out (show ([[32], [9], [10], [13]]).length = 4 from rfl) (Nat.le_refl _) (by omega)) HE.out Tryd.underlying86 (by kernel_rfl) rfl rfl rfl) ?_
   simp only [Act.put, zA, zB, zC]
   refine zr (.string (sB (Qu.spB r))) V2 (xg_load1 (E := stC) (i := r) (j := 0) (RowG.sg (n := 4) (c := 4) Fv4_13.out (show ([[32], [9], [10], [13]]).length = 4 from rfl) (Nat.le_refl _) (by omega)) HE.out rfl rfl Tryd.underlying9 rfl rfl rfl) ?_
   simp only [Act.put, zA, zB, zC]
   refine zr (.string (sB ((Qu.spG k i) ++ (Qu.spB r)))) V2 (xs_add (Qu.spG k i) (Qu.spB r) (by rw [spG_len, spB_len]; omega) Tryd.underlying9 rfl rfl rfl) ?_
   simp only [Act.put, zA, zB, zC]
   refine zr (.string (sB ((Qu.spG k i) ++ (Qu.spB r)))) V2 rfl ?_
   simp only [Act.put, zA, zB, zC]
   refine wpList_nil ?_
   go_upto_region 4 with fail
   refine wp_region_lit ?_
   refine zr (.int .i64 (i : Int)) V2 rfl ?_
   simp only [Act.put, zA, zB, zC]
   refine zr (.int .i64 ((i + 1 : Nat) : Int)) V2 (xo_addI (i : Int) 1 ((i + 1 : Nat) : Int) (by omega) (by omega) (by omega) rfl rfl rfl) ?_
   simp only [Act.put, zA, zB, zC]
   refine zr (.int .i64 ((i + 1 : Nat) : Int)) V2 rfl ?_
   simp only [Act.put, zA, zB, zC]
   refine wpList_nil ?_
   have C0_2 := zb B0 B1
   have hq6 := C0_2.out
   go_wp2_with fail
   go_roundw
   case rel => exact ⟨i + 1, by omega, by go_num, by show _ = Value.string (sB (Qu.spG k i ++ Qu.spB ((i + k) % 4))); rw [HR.out], hq6⟩
   case measure => simp [intOf]; omega
  ·have hci2 : ¬ ((i : Int) < (m : Int)) := by omega
   go_upto_region 3 with fail
   refine wp_region_lit ?_
   refine zr (.int .i64 (i : Int)) wo rfl ?_
   simp only [Act.put, zA, zB, zC]
   refine zr (.int .u8 (n : Int)) wo rfl ?_
   simp only [Act.put, zA, zB, zC]
   refine zr (.int .i64 (n : Int)) wo (xo_cvt .u8 .i64 (n : Int) (n : Int) (by rw [IntKind.wrap_i64]; omega) Tryd.underlying3 Tryd.underlying5 rfl rfl) ?_
   simp only [Act.put, zA, zB, zC]
   refine zr (.int .i64 (m : Int)) wo (xo_remN .i64 n 5 m (by omega) HM.out rfl rfl rfl) ?_
   simp only [Act.put, zA, zB, zC]
   refine zr (.bool false) wo (xo_lssF .i64 (i : Int) (m : Int) (by omega) rfl rfl rfl) ?_
   simp only [Act.put, zA, zB, zC]
   refine wpList_nil ?_
   have eim : m = i := by omega
   subst eim
   go_upto_region 6 with fail
   refine wp_region_lit ?_
   refine zr (.string (sB (Qu.spG k m))) wo rfl ?_
   simp only [Act.put, zA, zB, zC]
   refine zr (.string (sB (Qu.spG k m))) wo rfl ?_
   simp only [Act.put, zA, zB, zC]
   refine wpList_nil ?_
   have hbf := B0.out
   go_wp2_with fail
   go_ret
   exact ⟨by rw [HX.out]; rfl, hbf⟩
set_option maxRecDepth 100000 in
set_option maxHeartbeats 32000000 in
theorem qWhite_any (kind col k : Int) (A : Option Addr) (n c : Nat) (hs : List Hd) (fs : List (List Qu.Ci)) (n0 n1 n2 : Nat) (hn0 : n0 < 256) (hn1 : n1 < 256) (hn2 : n2 < 256) (w : World) (hG : Gc w) (hF : FsR w A n c hs fs) :
  Calls Tryd.prog 7 #[.agg #[.int .i64 kind, .int .i64 col, .int .i64 k, .slice A n c], .agg #[.int .u8 (n0 : Int), .int .u8 (n1 : Int), .int .u8 (n2 : Int)]] w fun e w' => e = .returned (.bool true) ∧ Below w.heap.size w w' := by
 have HG := Lib.hid hG
 have HFR := Lib.hid hF
 have hln := hF.sg.len
 have hlc := hF.sg.cap
 have hlt := hF.sg.top
 have hfl := hF.len
 clear hF hG
 obtain ⟨q, hq⟩ : ∃ q, mdQ kind col k fs = q := ⟨_, rfl⟩
 have HQ := Lib.hid hq
 have HOK : Hid (OkQ q) := Lib.hid (by rw [← hq]; exact mdQ_ok _ _ _ _)
 clear hq
 obtain ⟨s0, hs0⟩ : ∃ s0, Qu.spN n0 = s0 := ⟨_, rfl⟩
 have HS0 := Lib.hid hs0
 clear hs0
 obtain ⟨s1, hs1⟩ : ∃ s1, Qu.spN n1 = s1 := ⟨_, rfl⟩
 have HS1 := Lib.hid hs1
 clear hs1
 obtain ⟨s2, hs2⟩ : ∃ s2, Qu.spN n2 = s2 := ⟨_, rfl⟩
 have HS2 := Lib.hid hs2
 clear hs2
 obtain ⟨tx, htx⟩ : ∃ tx, Qu.fmtN q = tx := ⟨_, rfl⟩
 have HTX := Lib.hid htx
 clear htx
 obtain ⟨tl, htl⟩ : ∃ tl, tx.length = tl := ⟨_, rfl⟩
 have HTL := Lib.hid htl
 clear htl
 have ls0 : s0.length ≤ 4 := by rw [← HS0.out]; exact spN_len _
 have ls1 : s1.length ≤ 4 := by rw [← HS1.out]; exact spN_len _
 have ls2 : s2.length ≤ 4 := by rw [← HS2.out]; exact spN_len _
 have ltl : tl ≤ 400 := by rw [← HTL.out, ← HTX.out]; exact fmtN_len q HOK.out
 go_enter Tryd.func7, Tryd.ntmps7
 go_upto_region 1 with fail
 refine wp_named2 (fun V1 hb g0 g1 hlt => ?_)
 have B0 := Lib.hid hb
 have Fv0_2 : Hid (V1.heap[w.heap.size]? = some (.cells #[.int .i64 kind, .int .i64 col, .int .i64 k, .slice A n c] 24 (0, 0))) := Lib.hid (g0)
 have Fv1_3 : Hid (V1.heap[(w.heap.size + 1)]? = some (.cells #[.int .u8 (n0 : Int), .int .u8 (n1 : Int), .int .u8 (n2 : Int)] 40 (0, 0))) := Lib.hid (g1)
 have Nb0_1 : Hid (w.heap.size ≠ (w.heap.size + 1)) := Lib.hid (by omega)
 have Gb0 : Hid (w.heap.size ≤ w.heap.size) := Lib.hid (by omega)
 have Gb1 : Hid (w.heap.size ≤ (w.heap.size + 1)) := Lib.hid (by omega)
 clear hb g0 g1 hlt
 have Lt0 : Hid (w.heap.size < V1.heap.size) := Lib.hid (xp_lt Fv0_2.out)
 have Lt1 : Hid ((w.heap.size + 1) < V1.heap.size) := Lib.hid (xp_lt Fv1_3.out)
 refine wp_region_lit ?_
 refine wpList_call (by kernel_rfl) 11 Tryd.func11 (by kernel_rfl) (by kernel_rfl) _ _ #[] rfl (by kernel_rfl) ?_
 refine (sanity13_any V1 (HG.out.keep B0.out)).mono ?_
 rintro e V2 ⟨rfl, hb⟩
 have B1 := Lib.hid hb
 clear hb 
 refine ⟨_, rfl, ?_⟩
 simp only [Act.put, zA, zB, zC]
 refine zr (.bool true) V2 rfl ?_
 simp only [Act.put, zA, zB, zC]
 refine wpList_nil ?_
 go_upto_region 2 with fail
 refine wp_region_lit ?_
 refine zr (.agg #[.int .i64 kind, .int .i64 col, .int .i64 k, .slice A n c]) V2 (xo_loadW w.heap.size _ (heap_keep Fv0_2.out B1.out) Tryd.underlying24 rfl (by kernel_rfl) rfl rfl) ?_
 simp only [Act.put, zA, zB, zC]
 have C0_2 := zb B0 B1
 refine wpList_call (by kernel_rfl) 14 Tryd.func14 (by kernel_rfl) (by kernel_rfl) _ _ #[.agg #[.int .i64 kind, .int .i64 col, .int .i64 k, .slice A n c]] rfl (by kernel_rfl) ?_
 refine (made_as kind col k A n c hs fs q HQ.out V2 (HFR.out.keep C0_2.out)).mono ?_
 rintro e V3 ⟨A2, n2, c2, rfl, hfo, hb⟩
 have B2 := Lib.hid hb
 obtain ⟨hn2, hs2, hfr⟩ := FsOwn.fsR hfo
 subst hn2
 clear hfo
 have HFR2 := Lib.hid hfr
 clear hb hfr
 refine ⟨_, rfl, ?_⟩
 simp only [Act.put, zA, zB, zC]
 refine wpList_new #[.int .i64 0, .int .i64 0, .int .i64 0, .slice none 0 0] 24 (by kernel_rfl) (xo_alloc #[.int .i64 0, .int .i64 0, .int .i64 0, .slice none 0 0] (by kernel_rfl) rfl) ?_
 intro b6 V4 hge h0 hb
 have C1_3 := zb B1 B2
 have N2_0 : Hid (w.heap.size ≠ b6) := Lib.hid (xp_lt0 (heap_keep Fv0_2.out C1_3.out) hge)
 have N3_1 : Hid ((w.heap.size + 1) ≠ b6) := Lib.hid (xp_lt0 (heap_keep Fv1_3.out C1_3.out) hge)
 have Ge4 : Hid (V3.heap.size ≤ b6) := Lib.hid hge
 have B3 := Lib.hid hb
 have Fv5_6 : Hid (V4.heap[b6]? = some (.cells #[.int .i64 0, .int .i64 0, .int .i64 0, .slice none 0 0] 24 (0, 0))) := Lib.hid (h0)
 have Lt6 : Hid (b6 < V4.heap.size) := Lib.hid (xp_lt Fv5_6.out)
 clear hge h0 hb
 simp only [ptr, Act.put, zA, zB, zC]
 refine wpList_storeW b6 #[.int .i64 0, .int .i64 0, .int .i64 0, .slice none 0 0] #[.int .i64 (q.kind : Int), .int .i64 (q.col : Int), .int .i64 (q.k : Int), .slice A2 q.fs.length c2] 24 (by kernel_rfl) Fv5_6.out (xo_storeW b6 #[.int .i64 0, .int .i64 0, .int .i64 0, .slice none 0 0] #[.int .i64 (q.kind : Int), .int .i64 (q.col : Int), .int .i64 (q.k : Int), .slice A2 q.fs.length c2] Fv5_6.out (by kernel_rfl) rfl (by simp [Value.oneCell']) rfl rfl rfl) ?_
 intro X4_7 h1 hfar hbel hsz
 have hbr := hbel _ _ Ge4.out B3.out
 clear B3
 have B3 := Lib.hid hbr
 clear hbr
 clear Fv5_6
 have Fv5_6 : Hid (X4_7.heap[b6]? = some (.cells #[.int .i64 (q.kind : Int), .int .i64 (q.col : Int), .int .i64 (q.k : Int), .slice A2 q.fs.length c2] 24 (0, 0))) := Lib.hid (h1)
 have HszX4_7 := Lib.hid hsz
 clear h1 hfar hbel hsz
 simp only [ptr, Act.put, zA, zB, zC]
 refine wpList_nil ?_
 go_upto_region 3 with fail
 refine wp_floatP [0, 1, 2, 3, 4, 5, 6] (l' := [_, _, _, _, _, _, _]) (by kernel_rfl) (lexOK_of (by kernel_rfl) (by kernel_rfl)) (ordOK_of (by kernel_rfl) (by kernel_rfl)) rfl rfl ?_
 simp only [List.getElem_toArray, List.getElem_cons_succ, List.getElem_cons_zero]
 intro V5 hb hSW
 have B4 := Lib.hid hb
 have HF5 := Lib.hid hSW
 clear hb hSW
 refine wpF_seg 1 (by kernel_rfl) ?_
 simp only [List.take_succ_cons, List.take_zero, List.drop_succ_cons, List.drop_zero]
 refine zv (.agg #[.int .i64 (q.kind : Int), .int .i64 (q.col : Int), .int .i64 (q.k : Int), .slice A2 q.fs.length c2]) (fun v hv => (xo_loadW b6 _ (heap_keep Fv5_6.out (laterF hv)) Tryd.underlying24 rfl (by kernel_rfl) rfl rfl)) ?_
 simp only [Act.put, zA, zB, zC]
 refine wpQuiet_nil ?_
 refine wpF_call 19 Tryd.func19 (by kernel_rfl) (by kernel_rfl) _ _ #[.agg #[.int .i64 (q.kind : Int), .int .i64 (q.col : Int), .int .i64 (q.k : Int), .slice A2 q.fs.length c2]] rfl (by kernel_rfl) (by kernel_rfl) HF5.out (fun V6 hb => ?_)
 have B5 := Lib.hid hb
 have HF6 := Lib.hid (HF5.out.ext hb)
 clear hb
 have C3_5 := zb B3 B4
 have C3_6 := zb C3_5 B5
 refine (rformat_any q.kind q.col q.k A2 q.fs.length c2 hs2 q.fs (vQ_of q HOK.out) V6 (HFR2.out.keep C3_6.out)).mono ?_
 rintro e V7 ⟨rfl, hb⟩
 have B6 := Lib.hid hb
 have HF7 := Lib.hid (HF6.out.ext hb)
 rw [show Qu.fmtN ⟨q.kind, q.col, q.k, q.fs⟩ = tx from HTX.out]
 refine ⟨_, rfl, hb, ?_⟩
 clear hb 
 simp only [Act.put, zA, zB, zC]
 refine wpF_seg 2 (by kernel_rfl) ?_
 simp only [List.take_succ_cons, List.take_zero, List.drop_succ_cons, List.drop_zero]
 refine zv (.pointer (some ⟨(w.heap.size + 1), 0, none⟩)) (fun v hv => (by unfold execOp; go_simp)) ?_
 simp only [Act.put, zA, zB, zC]
 have C1_4 := zb C1_3 B3
 refine zv (.int .u8 (n0 : Int)) (fun v hv => (xo_load1 ⟨(w.heap.size + 1), 0, none⟩ _ (cells_at (heap_keep (heap_keep Fv1_3.out C1_4.out) (laterF hv)) 0 rfl) Tryd.underlying5 rfl rfl rfl)) ?_
 simp only [Act.put, zA, zB, zC]
 refine wpQuiet_nil ?_
 refine wpF_call 23 Tryd.func23 (by kernel_rfl) (by kernel_rfl) _ _ #[.int .u8 (n0 : Int)] rfl (by kernel_rfl) (by kernel_rfl) HF7.out (fun V8 hb => ?_)
 have B7 := Lib.hid hb
 have HF8 := Lib.hid (HF7.out.ext hb)
 clear hb
 refine (wspace_as n0 hn0 s0 HS0.out V8).mono ?_
 rintro e V9 ⟨rfl, hb⟩
 have B8 := Lib.hid hb
 have HF9 := Lib.hid (HF8.out.ext hb)
 refine ⟨_, rfl, hb, ?_⟩
 clear hb 
 simp only [Act.put, zA, zB, zC]
 refine wpF_seg 2 (by kernel_rfl) ?_
 simp only [List.take_succ_cons, List.take_zero, List.drop_succ_cons, List.drop_zero]
 refine zv (.string (sB tx)) (fun v hv => rfl) ?_
 simp only [Act.put, zA, zB, zC]
 refine zv (.string (sB s0)) (fun v hv => rfl) ?_
 simp only [Act.put, zA, zB, zC]
 refine wpQuiet_nil ?_
 refine wpF_nil (fun V10 hb => ?_)
 have B9 := Lib.hid hb
 clear hb
 clear HF5
 clear HF6
 clear HF7
 clear HF8
 clear HF9
 go_upto_region 4 with fail
 refine wp_region_lit ?_
 refine zr (.int .i64 0) V10 rfl ?_
 simp only [Act.put, zA, zB, zC]
 refine wpList_nil ?_
 have C1_5 := zb C1_4 B4
 have C1_6 := zb C1_5 B5
 have C1_7 := zb C1_6 B6
 have C1_8 := zb C1_7 B7
 have C1_9 := zb C1_8 B8
 have C1_10 := zb C1_9 B9
 have O8 := (heap_keep Fv0_2.out C1_10.out)
 have O9 := (heap_keep Fv1_3.out C1_10.out)
 have C4_6 := zb B4 B5
 have C4_7 := zb C4_6 B6
 have C4_8 := zb C4_7 B7
 have C4_9 := zb C4_8 B8
 have C4_10 := zb C4_9 B9
 have O10 := (heap_keep Fv5_6.out C4_10.out)
 have C3_7 := zb C3_6 B6
 have C3_8 := zb C3_7 B7
 have C3_9 := zb C3_8 B8
 have C3_10 := zb C3_9 B9
 have O11 := (HFR2.out.keep C3_10.out)
 have C0_3 := zb C0_2 B2
 have C0_4 := zb C0_3 B3
 have C0_5 := zb C0_4 B4
 have C0_6 := zb C0_5 B5
 have C0_7 := zb C0_6 B6
 have C0_8 := zb C0_7 B7
 have C0_9 := zb C0_8 B8
 have C0_10 := zb C0_9 B9
 have O12 := C0_10.out
 have Gr13 : Hid (w.heap.size ≤ b6) := Lib.hid (Nat.le_trans C0_3.out.size Ge4.out)
 go_wp2_with fail
 go_loopw [9, 8] (fun p v wr => ∃ i : Nat, ∃ (o : List UInt8), i ≤ tl ∧ p = .int .i64 i ∧ v = .string (sB o) ∧ o.length ≤ 4 + 11 * i ∧ o ++ Qu.wsG (32 :: s1) s2 s1 (Qu.preB tx i) (tx.drop i) = s0 ++ Qu.wsG (32 :: s1) s2 s1 false tx ∧ FsR wr A2 q.fs.length c2 hs2 (q.fs.map (List.map Qu.Cd.ci)) ∧ wr.heap[w.heap.size]? = some (.cells #[.int .i64 kind, .int .i64 col, .int .i64 k, .slice A n c] 24 (0, 0)) ∧ wr.heap[(w.heap.size + 1)]? = some (.cells #[.int .u8 (n0 : Int), .int .u8 (n1 : Int), .int .u8 (n2 : Int)] 40 (0, 0)) ∧ wr.heap[b6]? = some (.cells #[.int .i64 (q.kind : Int), .int .i64 (q.col : Int), .int .i64 (q.k : Int), .slice A2 q.fs.length c2] 24 (0, 0)) ∧ Below w.heap.size w wr) (fun p _ _ => tl - (intOf p).toNat)
 case atStart => exact ⟨0, s0, Nat.zero_le _, rfl, rfl, by omega, by simp [Qu.preB], O11, O8, O9, O10, O12⟩
 case round =>
  clear O8 O9 O10 O12 O11
  obtain ⟨wo, rfl⟩ : ∃ wo : World, wo = wr := ⟨_, rfl⟩
  obtain ⟨i, o, hi, rfl, hHV, hHOL, hHREL, hHFR2, hr0, hr1, hr2, hb0⟩ := hrel
  have hbr := hb0
  clear B0
  have B0 := Lib.hid hbr
  clear hbr
  clear Fv0_2
  have Fv0_2 : Hid (wo.heap[w.heap.size]? = some (.cells #[.int .i64 kind, .int .i64 col, .int .i64 k, .slice A n c] 24 (0, 0))) := Lib.hid (hr0)
  clear Fv1_3
  have Fv1_3 : Hid (wo.heap[(w.heap.size + 1)]? = some (.cells #[.int .u8 (n0 : Int), .int .u8 (n1 : Int), .int .u8 (n2 : Int)] 40 (0, 0))) := Lib.hid (hr1)
  clear Fv5_6
  have Fv5_6 : Hid (wo.heap[b6]? = some (.cells #[.int .i64 (q.kind : Int), .int .i64 (q.col : Int), .int .i64 (q.k : Int), .slice A2 q.fs.length c2] 24 (0, 0))) := Lib.hid (hr2)
  have HV := Lib.hid hHV
  have HOL := Lib.hid hHOL
  have HREL := Lib.hid hHREL
  have HFR2 := Lib.hid hHFR2
  clear hb0 hr0 hr1 hr2 hHV hHOL hHREL hHFR2
  have ev := HV.out
  subst ev
  clear HV
  have hol := HOL.out
  by_cases hlt : i < tl
  ·have hci15 : ((i : Int) < (tl : Int)) := by omega
   go_upto_region 5 with fail
   refine wp_region_lit ?_
   refine zr (.int .i64 (i : Int)) wo rfl ?_
   simp only [Act.put, zA, zB, zC]
   refine zr (.string (sB tx)) wo rfl ?_
   simp only [Act.put, zA, zB, zC]
   refine zr (.int .i64 (tl : Int)) wo (xs_lenN tx tl HTL.out Tryd.underlying9 rfl rfl) ?_
   simp only [Act.put, zA, zB, zC]
   refine zr (.bool true) wo (xo_lssT .i64 (i : Int) (tl : Int) (by omega) rfl rfl rfl) ?_
   simp only [Act.put, zA, zB, zC]
   refine wpList_nil ?_
   obtain ⟨ch, hch⟩ : ∃ c, tx[i]? = some c := ⟨_, List.getElem?_eq_getElem (by rw [HTL.out]; exact hlt)⟩
   have HC := Lib.hid hch
   have hst := wsG_step (a := 32 :: s1) (b := s2) (d := s1) hch (Qu.preB tx i)
   have HST := Lib.hid hst
   clear hst hch
   by_cases h32 : ch = 32
   ·subst h32
    go_upto_region 7 with fail
    refine wp_region_lit ?_
    refine zr (.string (sB tx)) wo rfl ?_
    simp only [Act.put, zA, zB, zC]
    refine zr (.int .i64 (i : Int)) wo rfl ?_
    simp only [Act.put, zA, zB, zC]
    refine zr (.int .u8 32) wo (xs_idx tx i (32 : UInt8) HC.out Tryd.underlying9 rfl rfl rfl) ?_
    simp only [Act.put, zA, zB, zC]
    refine zr (.bool true) wo (xo_eqlT .u8 32 32 (by omega) rfl rfl rfl) ?_
    simp only [Act.put, zA, zB, zC]
    refine wpList_nil ?_
    go_upto_region 8 with fail
    refine wp_region_lit ?_
    refine zr (.string (sB o)) wo rfl ?_
    simp only [Act.put, zA, zB, zC]
    refine zr (.string (sB (o ++ ([32])))) wo (xs_add o ([32]) (by (try simp only [List.length_append, List.length_cons, List.length_nil]); omega) Tryd.underlying9 rfl rfl rfl) ?_
    simp only [Act.put, zA, zB, zC]
    refine zr (.pointer (some ⟨(w.heap.size + 1), 1, none⟩)) wo (by unfold execOp; go_simp) ?_
    simp only [Act.put, zA, zB, zC]
    refine zr (.int .u8 (n1 : Int)) wo (xo_load1 ⟨(w.heap.size + 1), 1, none⟩ _ (cells_at Fv1_3.out 1 rfl) Tryd.underlying5 rfl rfl rfl) ?_
    simp only [Act.put, zA, zB, zC]
    refine wpList_call (by kernel_rfl) 23 Tryd.func23 (by kernel_rfl) (by kernel_rfl) _ _ #[.int .u8 (n1 : Int)] rfl (by kernel_rfl) ?_
    refine (wspace_as n1 hn1 s1 HS1.out wo).mono ?_
    rintro e V2 ⟨rfl, hb⟩
    have B1 := Lib.hid hb
    clear hb 
    refine ⟨_, rfl, ?_⟩
    simp only [Act.put, zA, zB, zC]
    refine zr (.string (sB ((o ++ ([32])) ++ s1))) V2 (xs_add (o ++ ([32])) s1 (by (try simp only [List.length_append, List.length_cons, List.length_nil]); omega) Tryd.underlying9 rfl rfl rfl) ?_
    simp only [Act.put, zA, zB, zC]
    refine zr (.string (sB ((o ++ ([32])) ++ s1))) V2 rfl ?_
    simp only [Act.put, zA, zB, zC]
    refine wpList_nil ?_
    go_upto_region 6 with fail
    refine wp_region_lit ?_
    refine zr (.int .i64 (i : Int)) V2 rfl ?_
    simp only [Act.put, zA, zB, zC]
    refine zr (.int .i64 ((i + 1 : Nat) : Int)) V2 (xo_addI (i : Int) 1 ((i + 1 : Nat) : Int) (by omega) (by omega) (by omega) rfl rfl rfl) ?_
    simp only [Act.put, zA, zB, zC]
    refine zr (.int .i64 ((i + 1 : Nat) : Int)) V2 rfl ?_
    simp only [Act.put, zA, zB, zC]
    refine wpList_nil ?_
    have hrl : ((o ++ [32]) ++ s1) ++ Qu.wsG (32 :: s1) s2 s1 (Qu.preB tx (i + 1)) (tx.drop (i + 1)) = s0 ++ Qu.wsG (32 :: s1) s2 s1 false tx := by rw [← HREL.out, HST.out, if_pos rfl] <;> simp
    have hlo : ((o ++ [32]) ++ s1).length ≤ 4 + 11 * (i + 1) := by (try simp only [List.length_append, List.length_cons, List.length_nil]); omega
    have hf0 := (HFR2.out.keep B1.out)
    have hq16 := (heap_keep Fv0_2.out B1.out)
    have hq17 := (heap_keep Fv1_3.out B1.out)
    have hq18 := (heap_keep Fv5_6.out B1.out)
    have C0_2 := zb B0 B1
    have hq19 := C0_2.out
    go_wp2_with fail
    go_roundw
    case rel => exact ⟨i + 1, _, by omega, by go_num, rfl, hlo, hrl, hf0, hq16, hq17, hq18, hq19⟩
    case measure => simp [intOf]; omega
   ·have hn32 : ¬ ch.toNat = 32 := fun e => h32 (UInt8.toNat_inj.1 e)
    have hci16 : ¬ (((ch.toNat : Nat) : Int) = 32) := by omega
    go_upto_region 7 with fail
    refine wp_region_lit ?_
    refine zr (.string (sB tx)) wo rfl ?_
    simp only [Act.put, zA, zB, zC]
    refine zr (.int .i64 (i : Int)) wo rfl ?_
    simp only [Act.put, zA, zB, zC]
    refine zr (.int .u8 ((ch.toNat : Nat) : Int)) wo (xs_idx tx i ch HC.out Tryd.underlying9 rfl rfl rfl) ?_
    simp only [Act.put, zA, zB, zC]
    refine zr (.bool false) wo (xo_eqlF .u8 ((ch.toNat : Nat) : Int) 32 (by omega) rfl rfl rfl) ?_
    simp only [Act.put, zA, zB, zC]
    refine wpList_nil ?_
    by_cases h46 : ch = 46
    ·subst h46
     by_cases hi0 : 0 < i
     ·have hci17 : ((i : Int) > 0) := by omega
      obtain ⟨pc, hpc⟩ : ∃ c, tx[i - 1]? = some c := ⟨_, List.getElem?_eq_getElem (by rw [HTL.out]; omega)⟩
      have HP := Lib.hid hpc
      clear hpc
      by_cases hp46 : pc = 46
      ·have hpr : Qu.preB tx i = false := by unfold Qu.preB; rw [HP.out, hp46]; simp
       have HPR := Lib.hid hpr
       subst hp46
       clear hpr
       go_upto_region 9 with fail
       refine wp_region_lit ?_
       refine zr (.string (sB tx)) wo rfl ?_
       simp only [Act.put, zA, zB, zC]
       refine zr (.int .i64 (i : Int)) wo rfl ?_
       simp only [Act.put, zA, zB, zC]
       refine zr (.int .u8 46) wo (xs_idx tx i (46 : UInt8) HC.out Tryd.underlying9 rfl rfl rfl) ?_
       simp only [Act.put, zA, zB, zC]
       refine zr (.bool true) wo (xo_eqlT .u8 46 46 (by omega) rfl rfl rfl) ?_
       simp only [Act.put, zA, zB, zC]
       refine zr (.bool true) wo rfl ?_
       simp only [Act.put, zA, zB, zC]
       refine zr (.int .i64 (i : Int)) wo rfl ?_
       simp only [Act.put, zA, zB, zC]
       refine zr (.bool true) wo (xo_gtrT .i64 (i : Int) 0 (by omega) rfl rfl rfl) ?_
       simp only [Act.put, zA, zB, zC]
       refine zr (.bool true) wo rfl ?_
       simp only [Act.put, zA, zB, zC]
       refine zr (.bool true) wo rfl ?_
       simp only [Act.put, zA, zB, zC]
       refine zr (.string (sB tx)) wo rfl ?_
       simp only [Act.put, zA, zB, zC]
       refine zr (.int .i64 (i : Int)) wo rfl ?_
       simp only [Act.put, zA, zB, zC]
       refine zr (.int .i64 ((i - 1 : Nat) : Int)) wo (xo_subI (i : Int) 1 ((i - 1 : Nat) : Int) (by omega) (by omega) (by omega) rfl rfl rfl) ?_
       simp only [Act.put, zA, zB, zC]
       refine zr (.int .u8 46) wo (xs_idx tx (i - 1) (46 : UInt8) HP.out Tryd.underlying9 rfl rfl rfl) ?_
       simp only [Act.put, zA, zB, zC]
       refine zr (.bool false) wo (xo_neqF .u8 46 46 (by omega) rfl rfl rfl) ?_
       simp only [Act.put, zA, zB, zC]
       refine zr (.bool false) wo rfl ?_
       simp only [Act.put, zA, zB, zC]
       refine wpList_nil ?_
       go_upto_region 11 with fail
       refine wp_region_lit ?_
       refine zr (.string (sB tx)) wo rfl ?_
       simp only [Act.put, zA, zB, zC]
       refine zr (.int .i64 (i : Int)) wo rfl ?_
       simp only [Act.put, zA, zB, zC]
       refine zr (.int .u8 46) wo (xs_idx tx i (46 : UInt8) HC.out Tryd.underlying9 rfl rfl rfl) ?_
       simp only [Act.put, zA, zB, zC]
       refine zr (.bool false) wo (xo_neqF .u8 46 46 (by omega) rfl rfl rfl) ?_
       simp only [Act.put, zA, zB, zC]
       refine wpList_nil ?_
       go_upto_region 6 with fail
       refine wp_region_lit ?_
       refine zr (.int .i64 (i : Int)) wo rfl ?_
       simp only [Act.put, zA, zB, zC]
       refine zr (.int .i64 ((i + 1 : Nat) : Int)) wo (xo_addI (i : Int) 1 ((i + 1 : Nat) : Int) (by omega) (by omega) (by omega) rfl rfl rfl) ?_
       simp only [Act.put, zA, zB, zC]
       refine zr (.int .i64 ((i + 1 : Nat) : Int)) wo rfl ?_
       simp only [Act.put, zA, zB, zC]
       refine wpList_nil ?_
       have hrl : (o) ++ Qu.wsG (32 :: s1) s2 s1 (Qu.preB tx (i + 1)) (tx.drop (i + 1)) = s0 ++ Qu.wsG (32 :: s1) s2 s1 false tx := by rw [← HREL.out, HST.out, if_neg (by decide), if_pos rfl, HPR.out, if_neg (by decide), List.nil_append] <;> simp
       have hlo : (o).length ≤ 4 + 11 * (i + 1) := by (try simp only [List.length_append, List.length_cons, List.length_nil]); omega
       have hf0 := HFR2.out
       have hq18 := Fv0_2.out
       have hq19 := Fv1_3.out
       have hq20 := Fv5_6.out
       have hq21 := B0.out
       go_wp2_with fail
       go_roundw
       case rel => exact ⟨i + 1, _, by omega, by go_num, rfl, hlo, hrl, hf0, hq18, hq19, hq20, hq21⟩
       case measure => simp [intOf]; omega
      ·have hpn : ¬ pc.toNat = 46 := fun e => hp46 (UInt8.toNat_inj.1 e)
       have hpr : Qu.preB tx i = true := by unfold Qu.preB; rw [HP.out, decide_eq_true hi0, Bool.true_and, decide_eq_true (by simpa using hp46)]
       have HPR := Lib.hid hpr
       clear hpr
       have hci18 : (((pc.toNat : Nat) : Int) ≠ 46) := by omega
       go_upto_region 9 with fail
       refine wp_region_lit ?_
       refine zr (.string (sB tx)) wo rfl ?_
       simp only [Act.put, zA, zB, zC]
       refine zr (.int .i64 (i : Int)) wo rfl ?_
       simp only [Act.put, zA, zB, zC]
       refine zr (.int .u8 46) wo (xs_idx tx i (46 : UInt8) HC.out Tryd.underlying9 rfl rfl rfl) ?_
       simp only [Act.put, zA, zB, zC]
       refine zr (.bool true) wo (xo_eqlT .u8 46 46 (by omega) rfl rfl rfl) ?_
       simp only [Act.put, zA, zB, zC]
       refine zr (.bool true) wo rfl ?_
       simp only [Act.put, zA, zB, zC]
       refine zr (.int .i64 (i : Int)) wo rfl ?_
       simp only [Act.put, zA, zB, zC]
       refine zr (.bool true) wo (xo_gtrT .i64 (i : Int) 0 (by omega) rfl rfl rfl) ?_
       simp only [Act.put, zA, zB, zC]
       refine zr (.bool true) wo rfl ?_
       simp only [Act.put, zA, zB, zC]
       refine zr (.bool true) wo rfl ?_
       simp only [Act.put, zA, zB, zC]
       refine zr (.string (sB tx)) wo rfl ?_
       simp only [Act.put, zA, zB, zC]
       refine zr (.int .i64 (i : Int)) wo rfl ?_
       simp only [Act.put, zA, zB, zC]
       refine zr (.int .i64 ((i - 1 : Nat) : Int)) wo (xo_subI (i : Int) 1 ((i - 1 : Nat) : Int) (by omega) (by omega) (by omega) rfl rfl rfl) ?_
       simp only [Act.put, zA, zB, zC]
       refine zr (.int .u8 ((pc.toNat : Nat) : Int)) wo (xs_idx tx (i - 1) pc HP.out Tryd.underlying9 rfl rfl rfl) ?_
       simp only [Act.put, zA, zB, zC]
       refine zr (.bool true) wo (xo_neqT .u8 ((pc.toNat : Nat) : Int) 46 (by omega) rfl rfl rfl) ?_
       simp only [Act.put, zA, zB, zC]
       refine zr (.bool true) wo rfl ?_
       simp only [Act.put, zA, zB, zC]
       refine wpList_nil ?_
       go_upto_region 10 with fail
       refine wp_floatP [0, 1, 2, 3, 4, 5, 6, 7, 8, 9, 10] (l' := [_, _, _, _, _, _, _, _, _, _, _]) (by kernel_rfl) (lexOK_of (by kernel_rfl) (by kernel_rfl)) (ordOK_of (by kernel_rfl) (by kernel_rfl)) rfl rfl ?_
       simp only [List.getElem_toArray, List.getElem_cons_succ, List.getElem_cons_zero]
       intro V2 hb hSW
       have B1 := Lib.hid hb
       have HF2 := Lib.hid hSW
       clear hb hSW
       refine wpF_seg 3 (by kernel_rfl) ?_
       simp only [List.take_succ_cons, List.take_zero, List.drop_succ_cons, List.drop_zero]
       refine zv (.string (sB o)) (fun v hv => rfl) ?_
       simp only [Act.put, zA, zB, zC]
       refine zv (.pointer (some ⟨(w.heap.size + 1), 2, none⟩)) (fun v hv => (by unfold execOp; go_simp)) ?_
       simp only [Act.put, zA, zB, zC]
       refine zv (.int .u8 (n2 : Int)) (fun v hv => (xo_load1 ⟨(w.heap.size + 1), 2, none⟩ _ (cells_at (heap_keep Fv1_3.out (laterF hv)) 2 rfl) Tryd.underlying5 rfl rfl rfl)) ?_
       simp only [Act.put, zA, zB, zC]
       refine wpQuiet_nil ?_
       refine wpF_call 23 Tryd.func23 (by kernel_rfl) (by kernel_rfl) _ _ #[.int .u8 (n2 : Int)] rfl (by kernel_rfl) (by kernel_rfl) HF2.out (fun V3 hb => ?_)
       have B2 := Lib.hid hb
       have HF3 := Lib.hid (HF2.out.ext hb)
       clear hb
       refine (wspace_as n2 hn2 s2 HS2.out V3).mono ?_
       rintro e V4 ⟨rfl, hb⟩
       have B3 := Lib.hid hb
       have HF4 := Lib.hid (HF3.out.ext hb)
       refine ⟨_, rfl, hb, ?_⟩
       clear hb 
       simp only [Act.put, zA, zB, zC]
       refine wpF_seg 4 (by kernel_rfl) ?_
       simp only [List.take_succ_cons, List.take_zero, List.drop_succ_cons, List.drop_zero]
       refine zv (.string (sB (o ++ s2))) (fun v hv => (xs_add o s2 (by (try simp only [List.length_append, List.length_cons, List.length_nil]); omega) Tryd.underlying9 rfl rfl rfl)) ?_
       simp only [Act.put, zA, zB, zC]
       refine zv (.string (sB ((o ++ s2) ++ ([46, 46])))) (fun v hv => (xs_add (o ++ s2) ([46, 46]) (by (try simp only [List.length_append, List.length_cons, List.length_nil]); omega) Tryd.underlying9 rfl rfl rfl)) ?_
       simp only [Act.put, zA, zB, zC]
       refine zv (.pointer (some ⟨(w.heap.size + 1), 1, none⟩)) (fun v hv => (by unfold execOp; go_simp)) ?_
       simp only [Act.put, zA, zB, zC]
       refine zv (.int .u8 (n1 : Int)) (fun v hv => (xo_load1 ⟨(w.heap.size + 1), 1, none⟩ _ (cells_at (heap_keep Fv1_3.out (laterF hv)) 1 rfl) Tryd.underlying5 rfl rfl rfl)) ?_
       simp only [Act.put, zA, zB, zC]
       refine wpQuiet_nil ?_
       refine wpF_call 23 Tryd.func23 (by kernel_rfl) (by kernel_rfl) _ _ #[.int .u8 (n1 : Int)] rfl (by kernel_rfl) (by kernel_rfl) HF4.out (fun V5 hb => ?_)
       have B4 := Lib.hid hb
       have HF5 := Lib.hid (HF4.out.ext hb)
       clear hb
       refine (wspace_as n1 hn1 s1 HS1.out V5).mono ?_
       rintro e V6 ⟨rfl, hb⟩
       have B5 := Lib.hid hb
       have HF6 := Lib.hid (HF5.out.ext hb)
       refine ⟨_, rfl, hb, ?_⟩
       clear hb 
       simp only [Act.put, zA, zB, zC]
       refine wpF_seg 2 (by kernel_rfl) ?_
       simp only [List.take_succ_cons, List.take_zero, List.drop_succ_cons, List.drop_zero]
       refine zv (.string (sB (((o ++ s2) ++ ([46, 46])) ++ s1))) (fun v hv => (xs_add ((o ++ s2) ++ ([46, 46])) s1 (by (try simp only [List.length_append, List.length_cons, List.length_nil]); omega) Tryd.underlying9 rfl rfl rfl)) ?_
       simp only [Act.put, zA, zB, zC]
       refine zv (.string (sB (((o ++ s2) ++ ([46, 46])) ++ s1))) (fun v hv => rfl) ?_
       simp only [Act.put, zA, zB, zC]
       refine wpQuiet_nil ?_
       refine wpF_nil (fun V7 hb => ?_)
       have B6 := Lib.hid hb
       clear hb
       clear HF2
       clear HF3
       clear HF4
       clear HF5
       clear HF6
       go_upto_region 6 with fail
       refine wp_region_lit ?_
       refine zr (.int .i64 (i : Int)) V7 rfl ?_
       simp only [Act.put, zA, zB, zC]
       refine zr (.int .i64 ((i + 1 : Nat) : Int)) V7 (xo_addI (i : Int) 1 ((i + 1 : Nat) : Int) (by omega) (by omega) (by omega) rfl rfl rfl) ?_
       simp only [Act.put, zA, zB, zC]
       refine zr (.int .i64 ((i + 1 : Nat) : Int)) V7 rfl ?_
       simp only [Act.put, zA, zB, zC]
       refine wpList_nil ?_
       have hrl : (((o ++ s2) ++ [46, 46]) ++ s1) ++ Qu.wsG (32 :: s1) s2 s1 (Qu.preB tx (i + 1)) (tx.drop (i + 1)) = s0 ++ Qu.wsG (32 :: s1) s2 s1 false tx := by rw [← HREL.out, HST.out, if_neg (by decide), if_pos rfl, HPR.out, if_pos rfl] <;> simp
       have hlo : (((o ++ s2) ++ [46, 46]) ++ s1).length ≤ 4 + 11 * (i + 1) := by (try simp only [List.length_append, List.length_cons, List.length_nil]); omega
       have C1_3 := zb B1 B2
       have C1_4 := zb C1_3 B3
       have C1_5 := zb C1_4 B4
       have C1_6 := zb C1_5 B5
       have C1_7 := zb C1_6 B6
       have hf0 := (HFR2.out.keep C1_7.out)
       have hq19 := (heap_keep Fv0_2.out C1_7.out)
       have hq20 := (heap_keep Fv1_3.out C1_7.out)
       have hq21 := (heap_keep Fv5_6.out C1_7.out)
       have C0_2 := zb B0 B1
       have C0_3 := zb C0_2 B2
       have C0_4 := zb C0_3 B3
       have C0_5 := zb C0_4 B4
       have C0_6 := zb C0_5 B5
       have C0_7 := zb C0_6 B6
       have hq22 := C0_7.out
       go_wp2_with fail
       go_roundw
       case rel => exact ⟨i + 1, _, by omega, by go_num, rfl, hlo, hrl, hf0, hq19, hq20, hq21, hq22⟩
       case measure => simp [intOf]; omega
     ·have hci17 : ¬ ((i : Int) > 0) := by omega
      have HPR : Hid (Qu.preB tx i = false) := Lib.hid (by unfold Qu.preB; rw [decide_eq_false hi0]; rfl)
      go_upto_region 9 with fail
      refine wp_region_lit ?_
      refine zr (.string (sB tx)) wo rfl ?_
      simp only [Act.put, zA, zB, zC]
      refine zr (.int .i64 (i : Int)) wo rfl ?_
      simp only [Act.put, zA, zB, zC]
      refine zr (.int .u8 46) wo (xs_idx tx i (46 : UInt8) HC.out Tryd.underlying9 rfl rfl rfl) ?_
      simp only [Act.put, zA, zB, zC]
      refine zr (.bool true) wo (xo_eqlT .u8 46 46 (by omega) rfl rfl rfl) ?_
      simp only [Act.put, zA, zB, zC]
      refine zr (.bool true) wo rfl ?_
      simp only [Act.put, zA, zB, zC]
      refine zr (.int .i64 (i : Int)) wo rfl ?_
      simp only [Act.put, zA, zB, zC]
      refine zr (.bool false) wo (xo_gtrF .i64 (i : Int) 0 (by omega) rfl rfl rfl) ?_
      simp only [Act.put, zA, zB, zC]
      refine zr (.bool false) wo rfl ?_
      simp only [Act.put, zA, zB, zC]
      refine zr (.bool false) wo rfl ?_
      simp only [Act.put, zA, zB, zC]
      refine zl ?_
      try simp only [Act.put, zA, zB, zC]
      refine zl ?_
      try simp only [Act.put, zA, zB, zC]
      refine zl ?_
      try simp only [Act.put, zA, zB, zC]
      refine zl ?_
      try simp only [Act.put, zA, zB, zC]
      refine zl ?_
      try simp only [Act.put, zA, zB, zC]
      refine zr (.bool false) wo rfl ?_
      simp only [Act.put, zA, zB, zC]
      refine wpList_nil ?_
      go_upto_region 11 with fail
      refine wp_region_lit ?_
      refine zr (.string (sB tx)) wo rfl ?_
      simp only [Act.put, zA, zB, zC]
      refine zr (.int .i64 (i : Int)) wo rfl ?_
      simp only [Act.put, zA, zB, zC]
      refine zr (.int .u8 46) wo (xs_idx tx i (46 : UInt8) HC.out Tryd.underlying9 rfl rfl rfl) ?_
      simp only [Act.put, zA, zB, zC]
      refine zr (.bool false) wo (xo_neqF .u8 46 46 (by omega) rfl rfl rfl) ?_
      simp only [Act.put, zA, zB, zC]
      refine wpList_nil ?_
      go_upto_region 6 with fail
      refine wp_region_lit ?_
      refine zr (.int .i64 (i : Int)) wo rfl ?_
      simp only [Act.put, zA, zB, zC]
      refine zr (.int .i64 ((i + 1 : Nat) : Int)) wo (xo_addI (i : Int) 1 ((i + 1 : Nat) : Int) (by omega) (by omega) (by omega) rfl rfl rfl) ?_
      simp only [Act.put, zA, zB, zC]
      refine zr (.int .i64 ((i + 1 : Nat) : Int)) wo rfl ?_
      simp only [Act.put, zA, zB, zC]
      refine wpList_nil ?_
      have hrl : (o) ++ Qu.wsG (32 :: s1) s2 s1 (Qu.preB tx (i + 1)) (tx.drop (i + 1)) = s0 ++ Qu.wsG (32 :: s1) s2 s1 false tx := by rw [← HREL.out, HST.out, if_neg (by decide), if_pos rfl, HPR.out, if_neg (by decide), List.nil_append] <;> simp
      have hlo : (o).length ≤ 4 + 11 * (i + 1) := by (try simp only [List.length_append, List.length_cons, List.length_nil]); omega
      have hf0 := HFR2.out
      have hq18 := Fv0_2.out
      have hq19 := Fv1_3.out
      have hq20 := Fv5_6.out
      have hq21 := B0.out
      go_wp2_with fail
      go_roundw
      case rel => exact ⟨i + 1, _, by omega, by go_num, rfl, hlo, hrl, hf0, hq18, hq19, hq20, hq21⟩
      case measure => simp [intOf]; omega
    ·have hn46 : ¬ ch.toNat = 46 := fun e => h46 (UInt8.toNat_inj.1 e)
     have hci17 : ¬ (((ch.toNat : Nat) : Int) = 46) := by omega
     have hci18 : (((ch.toNat : Nat) : Int) ≠ 46) := by omega
     have hil : i + 1 ≤ tx.length := by rw [HTL.out]; exact hlt
     have hcl : ((tx.take (i + 1)).drop i).length = 1 := by rw [List.length_drop, List.length_take]; omega
     have hcs : (tx.take (i + 1)).drop i = [ch] := by rw [List.take_add_one, HC.out, List.drop_append_of_le_length (by rw [List.length_take]; omega), List.drop_take, Nat.sub_self, List.take_zero]; rfl
     have HCS := Lib.hid hcs
     clear hcs
     go_upto_region 9 with fail
     refine wp_region_lit ?_
     refine zr (.string (sB tx)) wo rfl ?_
     simp only [Act.put, zA, zB, zC]
     refine zr (.int .i64 (i : Int)) wo rfl ?_
     simp only [Act.put, zA, zB, zC]
     refine zr (.int .u8 ((ch.toNat : Nat) : Int)) wo (xs_idx tx i ch HC.out Tryd.underlying9 rfl rfl rfl) ?_
     simp only [Act.put, zA, zB, zC]
     refine zr (.bool false) wo (xo_eqlF .u8 ((ch.toNat : Nat) : Int) 46 (by omega) rfl rfl rfl) ?_
     simp only [Act.put, zA, zB, zC]
     refine zr (.bool false) wo rfl ?_
     simp only [Act.put, zA, zB, zC]
     refine zl ?_
     try simp only [Act.put, zA, zB, zC]
     refine zl ?_
     try simp only [Act.put, zA, zB, zC]
     refine zr (.bool false) wo rfl ?_
     simp only [Act.put, zA, zB, zC]
     refine zr (.bool false) wo rfl ?_
     simp only [Act.put, zA, zB, zC]
     refine zl ?_
     try simp only [Act.put, zA, zB, zC]
     refine zl ?_
     try simp only [Act.put, zA, zB, zC]
     refine zl ?_
     try simp only [Act.put, zA, zB, zC]
     refine zl ?_
     try simp only [Act.put, zA, zB, zC]
     refine zl ?_
     try simp only [Act.put, zA, zB, zC]
     refine zr (.bool false) wo rfl ?_
     simp only [Act.put, zA, zB, zC]
     refine wpList_nil ?_
     go_upto_region 11 with fail
     refine wp_region_lit ?_
     refine zr (.string (sB tx)) wo rfl ?_
     simp only [Act.put, zA, zB, zC]
     refine zr (.int .i64 (i : Int)) wo rfl ?_
     simp only [Act.put, zA, zB, zC]
     refine zr (.int .u8 ((ch.toNat : Nat) : Int)) wo (xs_idx tx i ch HC.out Tryd.underlying9 rfl rfl rfl) ?_
     simp only [Act.put, zA, zB, zC]
     refine zr (.bool true) wo (xo_neqT .u8 ((ch.toNat : Nat) : Int) 46 (by omega) rfl rfl rfl) ?_
     simp only [Act.put, zA, zB, zC]
     refine wpList_nil ?_
     go_upto_region 12 with fail
     refine wp_region_lit ?_
     refine zr (.string (sB o)) wo rfl ?_
     simp only [Act.put, zA, zB, zC]
     refine zr (.string (sB tx)) wo rfl ?_
     simp only [Act.put, zA, zB, zC]
     refine zr (.int .i64 (i : Int)) wo rfl ?_
     simp only [Act.put, zA, zB, zC]
     refine zr (.int .i64 (i : Int)) wo rfl ?_
     simp only [Act.put, zA, zB, zC]
     refine zr (.int .i64 ((i + 1 : Nat) : Int)) wo (xo_addI (i : Int) 1 ((i + 1 : Nat) : Int) (by omega) (by omega) (by omega) rfl rfl rfl) ?_
     simp only [Act.put, zA, zB, zC]
     refine zr (.string (sB ((tx.take (i + 1)).drop i))) wo (xs_cut tx i (i + 1) (by omega) (by omega) Tryd.underlying9 rfl rfl rfl rfl) ?_
     simp only [Act.put, zA, zB, zC]
     refine zr (.string (sB (o ++ ((tx.take (i + 1)).drop i)))) wo (xs_add o ((tx.take (i + 1)).drop i) (by rw [hcl]; omega) Tryd.underlying9 rfl rfl rfl) ?_
     simp only [Act.put, zA, zB, zC]
     refine zr (.string (sB (o ++ ((tx.take (i + 1)).drop i)))) wo rfl ?_
     simp only [Act.put, zA, zB, zC]
     refine wpList_nil ?_
     go_upto_region 6 with fail
     refine wp_region_lit ?_
     refine zr (.int .i64 (i : Int)) wo rfl ?_
     simp only [Act.put, zA, zB, zC]
     refine zr (.int .i64 ((i + 1 : Nat) : Int)) wo (xo_addI (i : Int) 1 ((i + 1 : Nat) : Int) (by omega) (by omega) (by omega) rfl rfl rfl) ?_
     simp only [Act.put, zA, zB, zC]
     refine zr (.int .i64 ((i + 1 : Nat) : Int)) wo rfl ?_
     simp only [Act.put, zA, zB, zC]
     refine wpList_nil ?_
     have hrl : (o ++ (tx.take (i + 1)).drop i) ++ Qu.wsG (32 :: s1) s2 s1 (Qu.preB tx (i + 1)) (tx.drop (i + 1)) = s0 ++ Qu.wsG (32 :: s1) s2 s1 false tx := by rw [← HREL.out, HST.out, if_neg h32, if_neg h46, ← HCS.out] <;> simp
     have hlo : (o ++ (tx.take (i + 1)).drop i).length ≤ 4 + 11 * (i + 1) := by (try simp only [List.length_append, List.length_cons, List.length_nil]); omega
     have hf0 := HFR2.out
     have hq19 := Fv0_2.out
     have hq20 := Fv1_3.out
     have hq21 := Fv5_6.out
     have hq22 := B0.out
     go_wp2_with fail
     go_roundw
     case rel => exact ⟨i + 1, _, by omega, by go_num, rfl, hlo, hrl, hf0, hq19, hq20, hq21, hq22⟩
     case measure => simp [intOf]; omega
  ·have hci15 : ¬ ((i : Int) < (tl : Int)) := by omega
   go_upto_region 5 with fail
   refine wp_region_lit ?_
   refine zr (.int .i64 (i : Int)) wo rfl ?_
   simp only [Act.put, zA, zB, zC]
   refine zr (.string (sB tx)) wo rfl ?_
   simp only [Act.put, zA, zB, zC]
   refine zr (.int .i64 (tl : Int)) wo (xs_lenN tx tl HTL.out Tryd.underlying9 rfl rfl) ?_
   simp only [Act.put, zA, zB, zC]
   refine zr (.bool false) wo (xo_lssF .i64 (i : Int) (tl : Int) (by omega) rfl rfl rfl) ?_
   simp only [Act.put, zA, zB, zC]
   refine wpList_nil ?_
   have eil : tl = i := by omega
   have hro : o = s0 ++ Qu.wsG (32 :: s1) s2 s1 false tx := by
       have h0 := HREL.out
       rw [List.drop_eq_nil_of_le (by rw [HTL.out]; omega)] at h0
       simpa [Qu.wsG] using h0
   have HP := Lib.hid (ws_parse q HOK.out s1 s2 s1 s0 (by rw [← HS1.out]; exact spN_sp _) (by rw [← HS2.out]; exact spN_sp _) (by rw [← HS1.out]; exact spN_sp _) (by rw [← HS0.out]; exact spN_sp _) (o ++ s2) (by rw [HTX.out, ← hro]))
   clear hro eil
   go_upto_region 13 with fail
   refine wp_region_lit ?_
   refine zr (.string (sB o)) wo rfl ?_
   simp only [Act.put, zA, zB, zC]
   refine zr (.pointer (some ⟨(w.heap.size + 1), 2, none⟩)) wo (by unfold execOp; go_simp) ?_
   simp only [Act.put, zA, zB, zC]
   refine zr (.int .u8 (n2 : Int)) wo (xo_load1 ⟨(w.heap.size + 1), 2, none⟩ _ (cells_at Fv1_3.out 2 rfl) Tryd.underlying5 rfl rfl rfl) ?_
   simp only [Act.put, zA, zB, zC]
   refine wpList_call (by kernel_rfl) 23 Tryd.func23 (by kernel_rfl) (by kernel_rfl) _ _ #[.int .u8 (n2 : Int)] rfl (by kernel_rfl) ?_
   refine (wspace_as n2 hn2 s2 HS2.out wo).mono ?_
   rintro e V2 ⟨rfl, hb⟩
   have B1 := Lib.hid hb
   clear hb 
   refine ⟨_, rfl, ?_⟩
   simp only [Act.put, zA, zB, zC]
   refine zr (.string (sB (o ++ s2))) V2 (xs_add o s2 (by (try simp only [List.length_append, List.length_cons, List.length_nil]); omega) Tryd.underlying9 rfl rfl rfl) ?_
   simp only [Act.put, zA, zB, zC]
   refine zr (.string (sB (o ++ s2))) V2 rfl ?_
   simp only [Act.put, zA, zB, zC]
   refine wpList_nil ?_
   by_cases hl : 400 < (o ++ s2).length
   ·go_upto_region 14 with fail
    refine wp_region_lit ?_
    refine zr (.string (sB (o ++ s2))) V2 rfl ?_
    simp only [Act.put, zA, zB, zC]
    have C0_2 := zb B0 B1
    refine wpList_call (by kernel_rfl) 20 Tryd.func20 (by kernel_rfl) (by kernel_rfl) _ _ #[.string (sB (o ++ s2))] rfl (by kernel_rfl) ?_
    refine (parse_as (o ++ s2) V2 (HG.out.keep C0_2.out) Qu.zeroQ 0 2 (HP.out.trans (if_pos hl))).mono ?_
    rintro e V3 ⟨A3, n3, c3, rfl, hfo, hb⟩
    have B2 := Lib.hid hb
    clear hfo
    clear hb 
    refine ⟨_, rfl, ?_⟩
    simp only [Act.put, zA, zB, zC]
    refine zr (.tuple #[.agg #[.int .i64 (Qu.zeroQ.kind : Int), .int .i64 (Qu.zeroQ.col : Int), .int .i64 (Qu.zeroQ.k : Int), .slice A3 n3 c3], .int .i64 0, .int .i64 2]) V3 rfl ?_
    simp only [Act.put, zA, zB, zC]
    refine zr (.agg #[.int .i64 (Qu.zeroQ.kind : Int), .int .i64 (Qu.zeroQ.col : Int), .int .i64 (Qu.zeroQ.k : Int), .slice A3 n3 c3]) V3 rfl ?_
    simp only [Act.put, zA, zB, zC]
    refine zr (.int .i64 0) V3 rfl ?_
    simp only [Act.put, zA, zB, zC]
    refine zr (.int .i64 2) V3 rfl ?_
    simp only [Act.put, zA, zB, zC]
    refine wpList_new #[.int .i64 0, .int .i64 0, .int .i64 0, .slice none 0 0] 24 (by kernel_rfl) (xo_alloc #[.int .i64 0, .int .i64 0, .int .i64 0, .slice none 0 0] (by kernel_rfl) rfl) ?_
    intro b10 V4 hge h0 hb
    have C1_3 := zb B1 B2
    have N16_0 : Hid (w.heap.size ≠ b10) := Lib.hid (xp_lt0 (heap_keep Fv0_2.out C1_3.out) hge)
    have N17_1 : Hid ((w.heap.size + 1) ≠ b10) := Lib.hid (xp_lt0 (heap_keep Fv1_3.out C1_3.out) hge)
    have N18_2 : Hid (b6 ≠ b10) := Lib.hid (xp_lt0 (heap_keep Fv5_6.out C1_3.out) hge)
    have Ge19 : Hid (V3.heap.size ≤ b10) := Lib.hid hge
    have B3 := Lib.hid hb
    have Fv20_10 : Hid (V4.heap[b10]? = some (.cells #[.int .i64 0, .int .i64 0, .int .i64 0, .slice none 0 0] 24 (0, 0))) := Lib.hid (h0)
    have Lt21 : Hid (b10 < V4.heap.size) := Lib.hid (xp_lt Fv20_10.out)
    clear hge h0 hb
    simp only [ptr, Act.put, zA, zB, zC]
    refine wpList_storeW b10 #[.int .i64 0, .int .i64 0, .int .i64 0, .slice none 0 0] #[.int .i64 (Qu.zeroQ.kind : Int), .int .i64 (Qu.zeroQ.col : Int), .int .i64 (Qu.zeroQ.k : Int), .slice A3 n3 c3] 24 (by kernel_rfl) Fv20_10.out (xo_storeW b10 #[.int .i64 0, .int .i64 0, .int .i64 0, .slice none 0 0] #[.int .i64 (Qu.zeroQ.kind : Int), .int .i64 (Qu.zeroQ.col : Int), .int .i64 (Qu.zeroQ.k : Int), .slice A3 n3 c3] Fv20_10.out (by kernel_rfl) rfl (by simp [Value.oneCell']) rfl rfl rfl) ?_
    intro X4_22 h1 hfar hbel hsz
    have hbr := hbel _ _ Ge19.out B3.out
    clear B3
    have B3 := Lib.hid hbr
    clear hbr
    clear Fv20_10
    have Fv20_10 : Hid (X4_22.heap[b10]? = some (.cells #[.int .i64 (Qu.zeroQ.kind : Int), .int .i64 (Qu.zeroQ.col : Int), .int .i64 (Qu.zeroQ.k : Int), .slice A3 n3 c3] 24 (0, 0))) := Lib.hid (h1)
    have HszX4_22 := Lib.hid hsz
    clear h1 hfar hbel hsz
    simp only [ptr, Act.put, zA, zB, zC]
    refine zr (.int .i64 0) X4_22 rfl ?_
    simp only [Act.put, zA, zB, zC]
    refine zr (.int .i64 2) X4_22 rfl ?_
    simp only [Act.put, zA, zB, zC]
    refine wpList_nil ?_
    go_upto_region 15 with fail
    refine wp_region_lit ?_
    refine zr (.string (sB (o ++ s2))) X4_22 rfl ?_
    simp only [Act.put, zA, zB, zC]
    refine zr (.int .i64 (((o ++ s2).length : Nat) : Int)) X4_22 (xs_len (o ++ s2) Tryd.underlying9 rfl rfl) ?_
    simp only [Act.put, zA, zB, zC]
    refine zr (.bool true) X4_22 (xo_gtrT .i64 (((o ++ s2).length : Nat) : Int) 400 (by omega) rfl rfl rfl) ?_
    simp only [Act.put, zA, zB, zC]
    refine wpList_nil ?_
    go_upto_region 16 with fail
    refine wp_region_lit ?_
    refine zr (.int .i64 2) X4_22 rfl ?_
    simp only [Act.put, zA, zB, zC]
    refine zr (.bool true) X4_22 (xo_eqlT .i64 2 2 (by omega) rfl rfl rfl) ?_
    simp only [Act.put, zA, zB, zC]
    refine zr (.bool true) X4_22 rfl ?_
    simp only [Act.put, zA, zB, zC]
    refine zr (.bool true) X4_22 rfl ?_
    simp only [Act.put, zA, zB, zC]
    refine zr (.bool true) X4_22 rfl ?_
    simp only [Act.put, zA, zB, zC]
    refine zr (.bool true) X4_22 rfl ?_
    simp only [Act.put, zA, zB, zC]
    refine wpList_nil ?_
    have C0_3 := zb C0_2 B2
    have C0_4 := zb C0_3 B3
    have hbf := C0_4.out
    go_wp2_with fail
    go_ret
    exact ⟨rfl, hbf⟩
   ·go_upto_region 14 with fail
    refine wp_region_lit ?_
    refine zr (.string (sB (o ++ s2))) V2 rfl ?_
    simp only [Act.put, zA, zB, zC]
    have C0_2 := zb B0 B1
    refine wpList_call (by kernel_rfl) 20 Tryd.func20 (by kernel_rfl) (by kernel_rfl) _ _ #[.string (sB (o ++ s2))] rfl (by kernel_rfl) ?_
    refine (parse_as (o ++ s2) V2 (HG.out.keep C0_2.out) q 0 0 (HP.out.trans (if_neg hl))).mono ?_
    rintro e V3 ⟨A3, n3, c3, rfl, hfo, hb⟩
    have B2 := Lib.hid hb
    obtain ⟨hn3, hs3, hfr⟩ := FsOwn.fsR hfo
    subst hn3
    clear hfo
    have HFR3 := Lib.hid hfr
    clear hb hfr
    refine ⟨_, rfl, ?_⟩
    simp only [Act.put, zA, zB, zC]
    refine zr (.tuple #[.agg #[.int .i64 (q.kind : Int), .int .i64 (q.col : Int), .int .i64 (q.k : Int), .slice A3 q.fs.length c3], .int .i64 0, .int .i64 0]) V3 rfl ?_
    simp only [Act.put, zA, zB, zC]
    refine zr (.agg #[.int .i64 (q.kind : Int), .int .i64 (q.col : Int), .int .i64 (q.k : Int), .slice A3 q.fs.length c3]) V3 rfl ?_
    simp only [Act.put, zA, zB, zC]
    refine zr (.int .i64 0) V3 rfl ?_
    simp only [Act.put, zA, zB, zC]
    refine zr (.int .i64 0) V3 rfl ?_
    simp only [Act.put, zA, zB, zC]
    refine wpList_new #[.int .i64 0, .int .i64 0, .int .i64 0, .slice none 0 0] 24 (by kernel_rfl) (xo_alloc #[.int .i64 0, .int .i64 0, .int .i64 0, .slice none 0 0] (by kernel_rfl) rfl) ?_
    intro b10 V4 hge h0 hb
    have C1_3 := zb B1 B2
    have N16_0 : Hid (w.heap.size ≠ b10) := Lib.hid (xp_lt0 (heap_keep Fv0_2.out C1_3.out) hge)
    have N17_1 : Hid ((w.heap.size + 1) ≠ b10) := Lib.hid (xp_lt0 (heap_keep Fv1_3.out C1_3.out) hge)
    have N18_2 : Hid (b6 ≠ b10) := Lib.hid (xp_lt0 (heap_keep Fv5_6.out C1_3.out) hge)
    have Ge19 : Hid (V3.heap.size ≤ b10) := Lib.hid hge
    have B3 := Lib.hid hb
    have Fv20_10 : Hid (V4.heap[b10]? = some (.cells #[.int .i64 0, .int .i64 0, .int .i64 0, .slice none 0 0] 24 (0, 0))) := Lib.hid (h0)
    have Lt21 : Hid (b10 < V4.heap.size) := Lib.hid (xp_lt Fv20_10.out)
    clear hge h0 hb
    simp only [ptr, Act.put, zA, zB, zC]
    refine wpList_storeW b10 #[.int .i64 0, .int .i64 0, .int .i64 0, .slice none 0 0] #[.int .i64 (q.kind : Int), .int .i64 (q.col : Int), .int .i64 (q.k : Int), .slice A3 q.fs.length c3] 24 (by kernel_rfl) Fv20_10.out (xo_storeW b10 #[.int .i64 0, .int .i64 0, .int .i64 0, .slice none 0 0] #[.int .i64 (q.kind : Int), .int .i64 (q.col : Int), .int .i64 (q.k : Int), .slice A3 q.fs.length c3] Fv20_10.out (by kernel_rfl) rfl (by simp [Value.oneCell']) rfl rfl rfl) ?_
    intro X4_22 h1 hfar hbel hsz
    have hbr := hbel _ _ Ge19.out B3.out
    clear B3
    have B3 := Lib.hid hbr
    clear hbr
    clear Fv20_10
    have Fv20_10 : Hid (X4_22.heap[b10]? = some (.cells #[.int .i64 (q.kind : Int), .int .i64 (q.col : Int), .int .i64 (q.k : Int), .slice A3 q.fs.length c3] 24 (0, 0))) := Lib.hid (h1)
    have HszX4_22 := Lib.hid hsz
    clear h1 hfar hbel hsz
    simp only [ptr, Act.put, zA, zB, zC]
    refine zr (.int .i64 0) X4_22 rfl ?_
    simp only [Act.put, zA, zB, zC]
    refine zr (.int .i64 0) X4_22 rfl ?_
    simp only [Act.put, zA, zB, zC]
    refine wpList_nil ?_
    go_upto_region 15 with fail
    refine wp_region_lit ?_
    refine zr (.string (sB (o ++ s2))) X4_22 rfl ?_
    simp only [Act.put, zA, zB, zC]
    refine zr (.int .i64 (((o ++ s2).length : Nat) : Int)) X4_22 (xs_len (o ++ s2) Tryd.underlying9 rfl rfl) ?_
    simp only [Act.put, zA, zB, zC]
    refine zr (.bool false) X4_22 (xo_gtrF .i64 (((o ++ s2).length : Nat) : Int) 400 (by omega) rfl rfl rfl) ?_
    simp only [Act.put, zA, zB, zC]
    refine wpList_nil ?_
    go_upto_region 17 with fail
    refine wp_region_lit ?_
    refine zr (.int .i64 0) X4_22 rfl ?_
    simp only [Act.put, zA, zB, zC]
    refine zr (.bool true) X4_22 (xo_eqlT .i64 0 0 (by omega) rfl rfl rfl) ?_
    simp only [Act.put, zA, zB, zC]
    refine zr (.bool true) X4_22 rfl ?_
    simp only [Act.put, zA, zB, zC]
    refine zr (.agg #[.int .i64 (q.kind : Int), .int .i64 (q.col : Int), .int .i64 (q.k : Int), .slice A3 q.fs.length c3]) X4_22 (xo_loadW b10 _ Fv20_10.out Tryd.underlying24 rfl (by kernel_rfl) rfl rfl) ?_
    simp only [Act.put, zA, zB, zC]
    have C1_4 := zb C1_3 B3
    refine zr (.agg #[.int .i64 (q.kind : Int), .int .i64 (q.col : Int), .int .i64 (q.k : Int), .slice A2 q.fs.length c2]) X4_22 (xo_loadW b6 _ (heap_keep Fv5_6.out C1_4.out) Tryd.underlying24 rfl (by kernel_rfl) rfl rfl) ?_
    simp only [Act.put, zA, zB, zC]
    refine wpList_call (by kernel_rfl) 22 Tryd.func22 (by kernel_rfl) (by kernel_rfl) _ _ #[.agg #[.int .i64 (q.kind : Int), .int .i64 (q.col : Int), .int .i64 (q.k : Int), .slice A3 q.fs.length c3], .agg #[.int .i64 (q.kind : Int), .int .i64 (q.col : Int), .int .i64 (q.k : Int), .slice A2 q.fs.length c2]] rfl (by kernel_rfl) ?_
    refine (same_yes (q.kind : Int) (q.col : Int) (q.k : Int) A3 q.fs.length c3 hs3 A2 c2 hs2 (q.fs.map (List.map Qu.Cd.ci)) X4_22 (HFR3.out.keep B3.out) (HFR2.out.keep C1_4.out)).mono ?_
    rintro e V5 ⟨rfl, hb⟩
    have B4 := Lib.hid hb
    clear hb 
    refine ⟨_, rfl, ?_⟩
    simp only [Act.put, zA, zB, zC]
    refine zr (.bool true) V5 rfl ?_
    simp only [Act.put, zA, zB, zC]
    refine zr (.bool true) V5 rfl ?_
    simp only [Act.put, zA, zB, zC]
    refine zr (.bool true) V5 rfl ?_
    simp only [Act.put, zA, zB, zC]
    refine zr (.bool true) V5 rfl ?_
    simp only [Act.put, zA, zB, zC]
    refine zr (.bool true) V5 rfl ?_
    simp only [Act.put, zA, zB, zC]
    refine wpList_nil ?_
    have C0_3 := zb C0_2 B2
    have C0_4 := zb C0_3 B3
    have C0_5 := zb C0_4 B4
    have hbf := C0_5.out
    go_wp2_with fail
    go_ret
    exact ⟨rfl, hbf⟩
end Go.Proofs.YtlicfidcfhbmpaaDoor
