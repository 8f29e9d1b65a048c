/- Several texts in one: Sl9, Sm9, Sn9. -/
import Derived.Scope
import Derived.WalkMore
import Derived.Test.YtkefijogpiofbaaH08
namespace Go.Proofs.Ytkefijogpiofbaa
set_option linter.unusedVariables false
set_option linter.unusedSimpArgs false
set_option linter.unusedSectionVars false
set_option maxRecDepth 8000
open Go.RowKit Go.Proofs.Ytkefijogpiofbaa.K
attribute [local irreducible] wpList wpQuiet
/-- the length of the first slice of a variable -/
def lnAt (w : World) (b : Nat) : Nat := match w.heap[b]? with
  | some (Obj.cells cs _ _) => (match cs[0]? with | some (Value.slice _ n _) => n | _ => 0)
  | _ => 0
theorem lnAt_eq {w : World} {b : Nat} {A : Option Addr} {n c : Nat} {v : Value} {t : TypeId} (h : w.heap[b]? = some (.cells #[.slice A n c, v] t (0, 0))) : lnAt w b = n := by unfold lnAt; rw [h]; rfl
theorem ApartV.ofBase {w w2 : World} {base base2 : Nat} {e e2 : TypeId} {n n2 : Nat} {v v2 : Value} {cs cs2 : List Value} (h : w.ownsRow base e 1 v n cs) (h2 : w2.ownsRow base2 e2 1 v2 n2 cs2) (hb : w.heap.size ≤ base2) : ApartV v v2 := fun q hq hq2 => by
  rcases h2.2 with ⟨rfl, _⟩ | ⟨g, cap, cur, rfl, hg, _⟩
  · cases hq2
  · simp only [Value.ownBlock, Option.some.injEq] at hq2
    subst hq2
    exact own_neL h (by omega) hq
set_option maxRecDepth 100000 in
set_option maxHeartbeats 16000000 in
theorem reduced_any (A : Option Addr) (c : Nat) (P : List Gold.F) (n k K : Nat) (hn : n = 2 ^ K) (hK : K ≤ 16) (hk1 : 1 ≤ k) (hk : k ≤ n) (wd : Nat → Gold.F) (hl : P.length ≤ n) (hPt : Gold.Trm P) (hv : ∀ i, i < n → Gold.evL P (Gold.ptF K i) = wd i) (V w : World) (hV : Below V.heap.size V w)
    (hX : w.ownsRow V.heap.size 29 1 (.slice A P.length c) P.length (fl feC P)) :
    Calls Try.prog 74 #[.slice A P.length c, .int .i64 (n : Int), .int .i64 (k : Int)] w fun e w' => ∃ (r d : Gold.PrF) (u1 u2 : Value), e = .returned (.agg #[u1, u2]) ∧ Gold.InvF n k K wd r d ∧ 2 * r.1.length < n + k + 2 ∧ w'.ownsRow V.heap.size 29 1 u1 r.1.length (fl feC r.1) ∧ w'.ownsRow V.heap.size 29 1 u2 r.2.length (fl feC r.2) ∧ ApartV u1 u2 ∧ Below V.heap.size V w' := by
  have hn65 : n ≤ 65536 := by rw [hn]; exact Gold.pow2_le hK
  have hn1 : 1 ≤ n := by rw [hn]; exact Nat.two_pow_pos K
  have B0 := Lib.hid hV
  have OP := Lib.hid hX
  have hV0 := hV.size
  have HI0 := Lib.hid (Gold.InvF.start hn hK hk hPt hl hv)
  clear hV hX hv hn
  go_enter Try.func74, Try.ntmps74
  go_upto_region 1 with fail
  refine wp_named1 (fun V2 hb g0 hlt => ?_)
  have B1 := Lib.hid hb
  have Fx0 : Hid (V2.heap[w.heap.size]? = some (.cells #[.slice none 0 0, .slice none 0 0] 81 (0, 0))) := Lib.hid (g0)
  have Gb0 : Hid (w.heap.size ≤ w.heap.size) := Lib.hid (by omega)
  have Lx0 : Hid (w.heap.size < V2.heap.size) := Lib.hid (xp_lt Fx0.out)
  clear hb g0 hlt
  refine wp_scope_straight ?_
  go_upto_region 1 with fail
  refine wp_region_lit ?_
  refine wpList_run (by kernel_rfl) (.slice A P.length c) V2 rfl ?_
  simp only [Act.put, List.setIfInBounds_toArray, List.set_cons_zero, List.set_cons_succ]
  refine wpList_mk (by kernel_rfl) ([(1 : Gold.F)].flatMap feC).toArray 29 1 1 (xg_lit (E := feC) (bytes := 8) (.int .u64 0) [.const (.int .u64 1)] [(1 : Gold.F)] 1 Try.underlying22 (by kernel_rfl) rfl (by decide) (by decide) rfl rfl) ?_
  intro g11 V3 hge h0 hb
  have N0_0 : Hid (w.heap.size ≠ g11) := Lib.hid (xp_lt0 Fx0.out hge)
  have Ge1 : Hid (V2.heap.size ≤ g11) := Lib.hid hge
  have B2 := Lib.hid hb
  have Fv2_11 : Hid (RowG feC V3 g11 29 ([(1 : Gold.F)])) := Lib.hid (h0)
  have Lt3 : Hid (g11 < V3.heap.size) := Lib.hid (xp_lt Fv2_11.out)
  clear hge h0 hb
  simp only [ptr, Act.put, List.setIfInBounds_toArray, List.set_cons_zero, List.set_cons_succ]
  refine wpList_run (by kernel_rfl) (.agg #[.slice A P.length c, .slice (some ⟨g11, 0, none⟩) 1 1]) V3 (by unfold execOp; go_simp) ?_
  simp only [Act.put, List.setIfInBounds_toArray, List.set_cons_zero, List.set_cons_succ]
  refine wpList_run (by kernel_rfl) (.int .i64 (n : Int)) V3 rfl ?_
  simp only [Act.put, List.setIfInBounds_toArray, List.set_cons_zero, List.set_cons_succ]
  refine wpList_call (by kernel_rfl) 88 Try.func88 (by kernel_rfl) (by kernel_rfl) _ _ #[.int .i64 (n : Int)] rfl (by kernel_rfl) ?_
  refine (rootsOfUnity_any n hn1 hn65 V3).mono ?_
  rintro e V4 ⟨gr, rfl, hro, hb⟩
  have B3 := Lib.hid hb
  have OR := Lib.hid hro
  clear hro
  clear hb 
  refine ⟨_, rfl, ?_⟩
  simp only [Act.put, List.setIfInBounds_toArray, List.set_cons_zero, List.set_cons_succ]
  have C1_3 := Lib.hid (bel_step B1.out B2.out)
  have C1_4 := Lib.hid (bel_step C1_3.out B3.out)
  have pq1 := own_keep OP.out C1_4.out
  have hgl : w.heap.size ≤ g11 := Nat.le_trans B1.out.size Ge1.out
  have pq2 := own_of_row (base := V.heap.size) (n := 1) (RowG.h (Fv2_11.out.keep B3.out)) (Nat.le_trans hV0 hgl) rfl (by unfold maxLen; omega)
  have C0_2 := Lib.hid (bel_step B0.out B1.out)
  have C0_3 := Lib.hid (bel_step C0_2.out B2.out)
  have pq3 := own_mono OR.out C0_3.out.size
  have ap12 : ApartV (.slice A P.length c) (.slice (some ⟨g11, 0, none⟩) 1 1) := ApartV.new OP.out hgl
  have ap13 : ApartV (.slice A P.length c) (.slice (some ⟨gr, 0, none⟩) (n + 1) (n + 1)) := ApartV.ofBase OP.out OR.out C1_3.out.size
  have ap23 : ApartV (.slice (some ⟨g11, 0, none⟩) 1 1) (.slice (some ⟨gr, 0, none⟩) (n + 1) (n + 1)) := ApartV.ofBase (own_of_row (base := 0) (n := 1) (RowG.h Fv2_11.out) (Nat.zero_le _) rfl (by unfold maxLen; omega)) OR.out (Nat.le_refl _)
  have hrl := Gold.ruF_length n
  have hpp : PP 29 V V4 (.slice A P.length c) (.slice (some ⟨g11, 0, none⟩) ([(1 : Gold.F)] : List Gold.F).length 1) (.slice (some ⟨gr, 0, none⟩) (Gold.ruF n).length (n + 1)) (.slice none ([] : List Gold.F).length 0) (P, [1]) (Gold.ruF n, []) := ⟨pq1, pq2, by simp only [hrl]; exact pq3, World.ownsRow_nil _ _ _ _, ap12, by simp only [hrl]; exact ap13, fun _ _ h => (by cases h), by simp only [hrl]; exact ap23, fun _ _ h => (by cases h), fun _ _ h => (by cases h)⟩
  have HPP := Lib.hid hpp
  clear hpp pq1 pq2 pq3 ap12 ap13 ap23 OP OR
  refine wpList_run (by kernel_rfl) (.agg #[.slice (some ⟨gr, 0, none⟩) (n + 1) (n + 1), .slice none 0 0]) V4 (by unfold execOp; go_simp) ?_
  simp only [Act.put, List.setIfInBounds_toArray, List.set_cons_zero, List.set_cons_succ]
  refine wpList_new #[.slice none 0 0, .slice none 0 0] 81 (by kernel_rfl) (xo_alloc #[.slice none 0 0, .slice none 0 0] (by kernel_rfl) rfl) ?_
  intro b7 V5 hge h0 hb
  have C2_4 := Lib.hid (bel_step B2.out B3.out)
  have N4_0 : Hid (w.heap.size ≠ b7) := Lib.hid (xp_lt0 (heap_keep Fx0.out C2_4.out) hge)
  have Ge5 : Hid (V4.heap.size ≤ b7) := Lib.hid hge
  have B4 := Lib.hid hb
  have Fv6_7 : Hid (V5.heap[b7]? = some (.cells #[.slice none 0 0, .slice none 0 0] 81 (0, 0))) := Lib.hid (h0)
  have Lt7 : Hid (b7 < V5.heap.size) := Lib.hid (xp_lt Fv6_7.out)
  clear hge h0 hb
  simp only [ptr, Act.put, List.setIfInBounds_toArray, List.set_cons_zero, List.set_cons_succ]
  refine wpList_new #[.slice none 0 0, .slice none 0 0] 81 (by kernel_rfl) (xo_alloc #[.slice none 0 0, .slice none 0 0] (by kernel_rfl) rfl) ?_
  intro b8 V6 hge h0 hb
  have C2_5 := Lib.hid (bel_step C2_4.out B4.out)
  have N8_0 : Hid (w.heap.size ≠ b8) := Lib.hid (xp_lt0 (heap_keep Fx0.out C2_5.out) hge)
  have N9_1 : Hid (b7 ≠ b8) := Lib.hid (xp_lt0 Fv6_7.out hge)
  have Ge10 : Hid (V5.heap.size ≤ b8) := Lib.hid hge
  have B5 := Lib.hid hb
  have Fv11_8 : Hid (V6.heap[b8]? = some (.cells #[.slice none 0 0, .slice none 0 0] 81 (0, 0))) := Lib.hid (h0)
  have Lt12 : Hid (b8 < V6.heap.size) := Lib.hid (xp_lt Fv11_8.out)
  clear hge h0 hb
  simp only [ptr, Act.put, List.setIfInBounds_toArray, List.set_cons_zero, List.set_cons_succ]
  refine wpList_storeW b7 #[.slice none 0 0, .slice none 0 0] #[.slice A P.length c, .slice (some ⟨g11, 0, none⟩) 1 1] 81 (by kernel_rfl) (heap_keep Fv6_7.out B5.out) (xo_storeW b7 #[.slice none 0 0, .slice none 0 0] #[.slice A P.length c, .slice (some ⟨g11, 0, none⟩) 1 1] (heap_keep Fv6_7.out B5.out) (by kernel_rfl) rfl (by simp [Value.oneCell']) rfl rfl rfl) ?_
  intro X6_13 h1 hfar hbel hsz
  have C4_6 := Lib.hid (bel_step B4.out B5.out)
  have YHPP : PP 29 V X6_13 (.slice A P.length c) (.slice (some ⟨g11, 0, none⟩) ([(1 : Gold.F)] : List Gold.F).length 1) (.slice (some ⟨gr, 0, none⟩) (Gold.ruF n).length (n + 1)) (.slice none ([] : List Gold.F).length 0) (P, [1]) (Gold.ruF n, []) := PP.far (HPP.out.keep C4_6.out) (heap_keep Fv6_7.out B5.out) (by decide) hfar
  have YFv11_8 : X6_13.heap[b8]? = some (.cells #[.slice none 0 0, .slice none 0 0] 81 (0, 0)) := hfar _ _ (Ne.symm N9_1.out) Fv11_8.out
  have Gs14 : Hid (V4.heap.size ≤ b8) := Lib.hid (Nat.le_trans B4.out.size Ge10.out)
  have hbr := hbel _ _ Ge5.out C4_6.out
  clear B4
  have B4 := Lib.hid hbr
  clear hbr
  clear Fv11_8
  have Fv11_8 : Hid (X6_13.heap[b8]? = some (.cells #[.slice none 0 0, .slice none 0 0] 81 (0, 0))) := Lib.hid YFv11_8
  clear YFv11_8
  clear HPP
  have HPP := Lib.hid YHPP
  clear YHPP
  clear Fv6_7
  have Fv6_7 : Hid (X6_13.heap[b7]? = some (.cells #[.slice A P.length c, .slice (some ⟨g11, 0, none⟩) 1 1] 81 (0, 0))) := Lib.hid (h1)
  have HszX6_13 := Lib.hid hsz
  clear h1 hfar hbel hsz
  simp only [ptr, Act.put, List.setIfInBounds_toArray, List.set_cons_zero, List.set_cons_succ]
  refine wpList_storeW b8 #[.slice none 0 0, .slice none 0 0] #[.slice (some ⟨gr, 0, none⟩) (n + 1) (n + 1), .slice none 0 0] 81 (by kernel_rfl) Fv11_8.out (xo_storeW b8 #[.slice none 0 0, .slice none 0 0] #[.slice (some ⟨gr, 0, none⟩) (n + 1) (n + 1), .slice none 0 0] Fv11_8.out (by kernel_rfl) rfl (by simp [Value.oneCell']) rfl rfl rfl) ?_
  intro X5_15 h1 hfar hbel hsz
  have YHPP : PP 29 V X5_15 (.slice A P.length c) (.slice (some ⟨g11, 0, none⟩) ([(1 : Gold.F)] : List Gold.F).length 1) (.slice (some ⟨gr, 0, none⟩) (Gold.ruF n).length (n + 1)) (.slice none ([] : List Gold.F).length 0) (P, [1]) (Gold.ruF n, []) := PP.far HPP.out Fv11_8.out (by decide) hfar
  have YFv6_7 : X5_15.heap[b7]? = some (.cells #[.slice A P.length c, .slice (some ⟨g11, 0, none⟩) 1 1] 81 (0, 0)) := hfar _ _ N9_1.out Fv6_7.out
  have hbr := hbel _ _ Gs14.out B4.out
  clear B4
  have B4 := Lib.hid hbr
  clear hbr
  clear Fv6_7
  have Fv6_7 : Hid (X5_15.heap[b7]? = some (.cells #[.slice A P.length c, .slice (some ⟨g11, 0, none⟩) 1 1] 81 (0, 0))) := Lib.hid YFv6_7
  clear YFv6_7
  clear HPP
  have HPP := Lib.hid YHPP
  clear YHPP
  clear Fv11_8
  have Fv11_8 : Hid (X5_15.heap[b8]? = some (.cells #[.slice (some ⟨gr, 0, none⟩) (n + 1) (n + 1), .slice none 0 0] 81 (0, 0))) := Lib.hid (h1)
  have HszX5_15 := Lib.hid hsz
  clear h1 hfar hbel hsz
  simp only [ptr, Act.put, List.setIfInBounds_toArray, List.set_cons_zero, List.set_cons_succ]
  refine wpList_nil ?_
  have hg6 := (Nat.le_trans B0.out.size Gb0.out)
  have C0_4 := Lib.hid (bel_step C0_3.out B3.out)
  have hg7 := (Nat.le_trans C0_4.out.size Ge5.out)
  have hg8 := (Nat.le_trans C0_4.out.size Gs14.out)
  have HG6 : Hid (V.heap.size ≤ w.heap.size) := Lib.hid hg6
  have HG7 : Hid (V.heap.size ≤ b7) := Lib.hid hg7
  have HG8 : Hid (V.heap.size ≤ b8) := Lib.hid hg8
  clear hg6 hg7 hg8
  have C2_5 := Lib.hid (bel_step C2_4.out B4.out)
  have s6 := (heap_keep Fx0.out C2_5.out)
  have s7 := Fv6_7.out
  have s8 := Fv11_8.out
  have spp := HPP.out
  have C0_5 := Lib.hid (bel_step C0_4.out B4.out)
  have sbb := C0_5.out
  go_wp2_with fail
  go_step3
  go_wp2_with fail
  go_loopw [9, 23, 30] (fun x y z wr => ∃ (A1 : Option Addr) (c1 : Nat) (A2 : Option Addr) (c2 : Nat) (D1 : Option Addr) (e1 : Nat) (D2 : Option Addr) (e2 : Nat) (r d : Gold.PrF), Gold.InvF n k K wd r d ∧ PP 29 V wr (.slice A1 r.1.length c1) (.slice A2 r.2.length c2) (.slice D1 d.1.length e1) (.slice D2 d.2.length e2) r d ∧ wr.heap[b7]? = some (.cells #[.slice A1 r.1.length c1, .slice A2 r.2.length c2] 81 (0, 0)) ∧ wr.heap[b8]? = some (.cells #[.slice D1 d.1.length e1, .slice D2 d.2.length e2] 81 (0, 0)) ∧ wr.heap[w.heap.size]? = some (.cells #[.slice none 0 0, .slice none 0 0] 81 (0, 0)) ∧ Below V.heap.size V wr) (fun _ _ _ wr => 2 * (lnAt wr b7 + lnAt wr b8) + if lnAt wr b7 < lnAt wr b8 then 1 else 0)
  case atStart => exact ⟨A, c, some ⟨g11, 0, none⟩, 1, some ⟨gr, 0, none⟩, n + 1, none, 0, (P, [1]), (Gold.ruF n, []), HI0.out, spp, s7, by simp only [hrl]; exact s8, s6, sbb⟩
  case round =>
    clear s6 s7 s8 spp sbb HPP HI0 hrl
    obtain ⟨wo, rfl⟩ : ∃ wo : World, wo = wr := ⟨_, rfl⟩
    obtain ⟨A1, c1, A2, c2, D1, e1, D2, e2, r, d, hI, hpp, h7, h8, h6, hbb⟩ := hrel
    have B0 := Lib.hid hbb
    have HI := Lib.hid hI
    have HPP := Lib.hid hpp
    have H7 := Lib.hid h7
    have H8 := Lib.hid h8
    have H6 := Lib.hid h6
    have hia := hI.a
    have hib := hI.b
    have hbig := hI.big
    have hVo := hbb.size
    have l7 := lnAt_eq h7
    have l8 := lnAt_eq h8
    have L7 := Lib.hid l7
    have L8 := Lib.hid l8
    have hlt7 := xp_lt h7
    have hlt8 := xp_lt h8
    have hlt6 := xp_lt h6
    clear hbb hI hpp h7 h8 h6 l7 l8
    by_cases hbk : 2 * r.1.length < n + k + 2
    · have hc1 : (2 * (((r.1.length : Nat) : Int) - 1)) < ((n + k : Nat) : Int) := by omega
      go_upto_region 2 with fail
      refine wp_region_lit ?_
      refine wpList_run (by kernel_rfl) (.pointer (some ⟨b7, 0, none⟩)) wo (xo_fld0 0 b7 0 (by kernel_rfl) rfl rfl) ?_
      simp only [Act.put, List.setIfInBounds_toArray, List.set_cons_zero, List.set_cons_succ]
      refine wpList_run (by kernel_rfl) (.slice A1 r.1.length c1) wo (xo_load1 ⟨b7, 0, none⟩ _ (cells_at H7.out 0 rfl) Try.underlying22 rfl rfl rfl) ?_
      simp only [Act.put, List.setIfInBounds_toArray, List.set_cons_zero, List.set_cons_succ]
      refine wpList_run (by kernel_rfl) (.int .i64 ((r.1.length : Nat) : Int)) wo (xo_len A1 r.1.length c1 Try.underlying22 rfl rfl) ?_
      simp only [Act.put, List.setIfInBounds_toArray, List.set_cons_zero, List.set_cons_succ]
      refine wpList_run (by kernel_rfl) (.int .i64 (((r.1.length : Nat) : Int) - 1)) wo (xo_subI ((r.1.length : Nat) : Int) 1 (((r.1.length : Nat) : Int) - 1) rfl (by omega) (by omega) rfl rfl rfl) ?_
      simp only [Act.put, List.setIfInBounds_toArray, List.set_cons_zero, List.set_cons_succ]
      refine wpList_run (by kernel_rfl) (.int .i64 (((r.1.length : Nat) : Int) - 1)) wo rfl ?_
      simp only [Act.put, List.setIfInBounds_toArray, List.set_cons_zero, List.set_cons_succ]
      refine wpList_nil ?_
      go_upto_region 4 with fail
      refine wp_region_lit ?_
      refine wpList_run (by kernel_rfl) (.int .i64 (((r.1.length : Nat) : Int) - 1)) wo rfl ?_
      simp only [Act.put, List.setIfInBounds_toArray, List.set_cons_zero, List.set_cons_succ]
      refine wpList_run (by kernel_rfl) (.int .i64 (2 * (((r.1.length : Nat) : Int) - 1))) wo (xo_mulI 2 (((r.1.length : Nat) : Int) - 1) (2 * (((r.1.length : Nat) : Int) - 1)) rfl (by omega) (by omega) rfl rfl rfl) ?_
      simp only [Act.put, List.setIfInBounds_toArray, List.set_cons_zero, List.set_cons_succ]
      refine wpList_run (by kernel_rfl) (.int .i64 (n : Int)) wo rfl ?_
      simp only [Act.put, List.setIfInBounds_toArray, List.set_cons_zero, List.set_cons_succ]
      refine wpList_run (by kernel_rfl) (.int .i64 (k : Int)) wo rfl ?_
      simp only [Act.put, List.setIfInBounds_toArray, List.set_cons_zero, List.set_cons_succ]
      refine wpList_run (by kernel_rfl) (.int .i64 ((n + k : Nat) : Int)) wo (xo_addI (n : Int) (k : Int) ((n + k : Nat) : Int) (by omega) (by omega) (by omega) rfl rfl rfl) ?_
      simp only [Act.put, List.setIfInBounds_toArray, List.set_cons_zero, List.set_cons_succ]
      refine wpList_run (by kernel_rfl) (.bool true) wo (xo_lssT .i64 (2 * (((r.1.length : Nat) : Int) - 1)) ((n + k : Nat) : Int) hc1 rfl rfl rfl) ?_
      simp only [Act.put, List.setIfInBounds_toArray, List.set_cons_zero, List.set_cons_succ]
      refine wpList_run (by kernel_rfl) (.bool true) wo rfl ?_
      simp only [Act.put, List.setIfInBounds_toArray, List.set_cons_zero, List.set_cons_succ]
      refine wpList_nil ?_
      go_upto_region 7 with fail
      refine wp_region_lit ?_
      refine wpList_run (by kernel_rfl) (.agg #[.slice A1 r.1.length c1, .slice A2 r.2.length c2]) wo (xo_loadW b7 _ H7.out Try.underlying81 rfl (by kernel_rfl) rfl rfl) ?_
      simp only [Act.put, List.setIfInBounds_toArray, List.set_cons_zero, List.set_cons_succ]
      refine wpList_storeW w.heap.size #[.slice none 0 0, .slice none 0 0] #[.slice A1 r.1.length c1, .slice A2 r.2.length c2] 81 (by kernel_rfl) H6.out (xo_storeW w.heap.size #[.slice none 0 0, .slice none 0 0] #[.slice A1 r.1.length c1, .slice A2 r.2.length c2] H6.out (by kernel_rfl) rfl (by simp [Value.oneCell']) rfl rfl rfl) ?_
      intro X1_16 h1 hfar hbel hsz
      have YHPP : PP 29 V X1_16 (.slice A1 r.1.length c1) (.slice A2 r.2.length c2) (.slice D1 d.1.length e1) (.slice D2 d.2.length e2) r d := PP.far HPP.out H6.out (by decide) hfar
      have YH7 : X1_16.heap[b7]? = some (.cells #[.slice A1 r.1.length c1, .slice A2 r.2.length c2] 81 (0, 0)) := hfar _ _ (Ne.symm N4_0.out) H7.out
      have YH8 : X1_16.heap[b8]? = some (.cells #[.slice D1 d.1.length e1, .slice D2 d.2.length e2] 81 (0, 0)) := hfar _ _ (Ne.symm N8_0.out) H8.out
      have hbr := hbel _ _ HG6.out B0.out
      clear B0
      have B0 := Lib.hid hbr
      clear hbr
      clear H7
      have H7 : Hid (X1_16.heap[b7]? = some (.cells #[.slice A1 r.1.length c1, .slice A2 r.2.length c2] 81 (0, 0))) := Lib.hid YH7
      clear YH7
      clear H8
      have H8 : Hid (X1_16.heap[b8]? = some (.cells #[.slice D1 d.1.length e1, .slice D2 d.2.length e2] 81 (0, 0))) := Lib.hid YH8
      clear YH8
      clear HPP
      have HPP := Lib.hid YHPP
      clear YHPP
      clear H6
      have H6 : Hid (X1_16.heap[w.heap.size]? = some (.cells #[.slice A1 r.1.length c1, .slice A2 r.2.length c2] 81 (0, 0))) := Lib.hid (h1)
      have HszX1_16 := Lib.hid hsz
      clear h1 hfar hbel hsz
      simp only [ptr, Act.put, List.setIfInBounds_toArray, List.set_cons_zero, List.set_cons_succ]
      refine wpList_nil ?_
      have hppz := HPP.out
      have hbz := B0.out
      have h6z := H6.out
      go_wp2_with fail
      rw [Exit.noGoto_ret]
      refine bodyPost_ret (v := .agg #[.slice A1 r.1.length c1, .slice A2 r.2.length c2]) ?_ rfl ⟨r, d, _, _, rfl, HI.out, hbk, hppz.p1, hppz.p2, hppz.a12, hbz⟩
      exact results_cell_row rfl _ _ w.heap.size 81 _ (0, 0) _ rfl h6z Try.underlying81 rfl (by kernel_rfl)
    · have hc1 : ¬ (2 * (((r.1.length : Nat) : Int) - 1)) < ((n + k : Nat) : Int) := by omega
      go_upto_region 2 with fail
      refine wp_region_lit ?_
      refine wpList_run (by kernel_rfl) (.pointer (some ⟨b7, 0, none⟩)) wo (xo_fld0 0 b7 0 (by kernel_rfl) rfl rfl) ?_
      simp only [Act.put, List.setIfInBounds_toArray, List.set_cons_zero, List.set_cons_succ]
      refine wpList_run (by kernel_rfl) (.slice A1 r.1.length c1) wo (xo_load1 ⟨b7, 0, none⟩ _ (cells_at H7.out 0 rfl) Try.underlying22 rfl rfl rfl) ?_
      simp only [Act.put, List.setIfInBounds_toArray, List.set_cons_zero, List.set_cons_succ]
      refine wpList_run (by kernel_rfl) (.int .i64 ((r.1.length : Nat) : Int)) wo (xo_len A1 r.1.length c1 Try.underlying22 rfl rfl) ?_
      simp only [Act.put, List.setIfInBounds_toArray, List.set_cons_zero, List.set_cons_succ]
      refine wpList_run (by kernel_rfl) (.int .i64 (((r.1.length : Nat) : Int) - 1)) wo (xo_subI ((r.1.length : Nat) : Int) 1 (((r.1.length : Nat) : Int) - 1) rfl (by omega) (by omega) rfl rfl rfl) ?_
      simp only [Act.put, List.setIfInBounds_toArray, List.set_cons_zero, List.set_cons_succ]
      refine wpList_run (by kernel_rfl) (.int .i64 (((r.1.length : Nat) : Int) - 1)) wo rfl ?_
      simp only [Act.put, List.setIfInBounds_toArray, List.set_cons_zero, List.set_cons_succ]
      refine wpList_nil ?_
      go_upto_region 4 with fail
      refine wp_region_lit ?_
      refine wpList_run (by kernel_rfl) (.int .i64 (((r.1.length : Nat) : Int) - 1)) wo rfl ?_
      simp only [Act.put, List.setIfInBounds_toArray, List.set_cons_zero, List.set_cons_succ]
      refine wpList_run (by kernel_rfl) (.int .i64 (2 * (((r.1.length : Nat) : Int) - 1))) wo (xo_mulI 2 (((r.1.length : Nat) : Int) - 1) (2 * (((r.1.length : Nat) : Int) - 1)) rfl (by omega) (by omega) rfl rfl rfl) ?_
      simp only [Act.put, List.setIfInBounds_toArray, List.set_cons_zero, List.set_cons_succ]
      refine wpList_run (by kernel_rfl) (.int .i64 (n : Int)) wo rfl ?_
      simp only [Act.put, List.setIfInBounds_toArray, List.set_cons_zero, List.set_cons_succ]
      refine wpList_run (by kernel_rfl) (.int .i64 (k : Int)) wo rfl ?_
      simp only [Act.put, List.setIfInBounds_toArray, List.set_cons_zero, List.set_cons_succ]
      refine wpList_run (by kernel_rfl) (.int .i64 ((n + k : Nat) : Int)) wo (xo_addI (n : Int) (k : Int) ((n + k : Nat) : Int) (by omega) (by omega) (by omega) rfl rfl rfl) ?_
      simp only [Act.put, List.setIfInBounds_toArray, List.set_cons_zero, List.set_cons_succ]
      refine wpList_run (by kernel_rfl) (.bool false) wo (xo_lssF .i64 (2 * (((r.1.length : Nat) : Int) - 1)) ((n + k : Nat) : Int) hc1 rfl rfl rfl) ?_
      simp only [Act.put, List.setIfInBounds_toArray, List.set_cons_zero, List.set_cons_succ]
      refine wpList_run (by kernel_rfl) (.bool false) wo rfl ?_
      simp only [Act.put, List.setIfInBounds_toArray, List.set_cons_zero, List.set_cons_succ]
      refine wpList_nil ?_
      by_cases hsw : r.1.length < d.1.length
      · have hc2 : (((r.1.length : Nat) : Int) - 1) < (((d.1.length : Nat) : Int) - 1) := by omega
        go_upto_region 5 with fail
        refine wp_region_lit ?_
        refine wpList_run (by kernel_rfl) (.int .i64 (((r.1.length : Nat) : Int) - 1)) wo rfl ?_
        simp only [Act.put, List.setIfInBounds_toArray, List.set_cons_zero, List.set_cons_succ]
        refine wpList_run (by kernel_rfl) (.pointer (some ⟨b8, 0, none⟩)) wo (xo_fld0 0 b8 0 (by kernel_rfl) rfl rfl) ?_
        simp only [Act.put, List.setIfInBounds_toArray, List.set_cons_zero, List.set_cons_succ]
        refine wpList_run (by kernel_rfl) (.slice D1 d.1.length e1) wo (xo_load1 ⟨b8, 0, none⟩ _ (cells_at H8.out 0 rfl) Try.underlying22 rfl rfl rfl) ?_
        simp only [Act.put, List.setIfInBounds_toArray, List.set_cons_zero, List.set_cons_succ]
        refine wpList_run (by kernel_rfl) (.int .i64 ((d.1.length : Nat) : Int)) wo (xo_len D1 d.1.length e1 Try.underlying22 rfl rfl) ?_
        simp only [Act.put, List.setIfInBounds_toArray, List.set_cons_zero, List.set_cons_succ]
        refine wpList_run (by kernel_rfl) (.int .i64 (((d.1.length : Nat) : Int) - 1)) wo (xo_subI ((d.1.length : Nat) : Int) 1 (((d.1.length : Nat) : Int) - 1) rfl (by omega) (by omega) rfl rfl rfl) ?_
        simp only [Act.put, List.setIfInBounds_toArray, List.set_cons_zero, List.set_cons_succ]
        refine wpList_run (by kernel_rfl) (.bool true) wo (xo_lssT .i64 (((r.1.length : Nat) : Int) - 1) (((d.1.length : Nat) : Int) - 1) hc2 rfl rfl rfl) ?_
        simp only [Act.put, List.setIfInBounds_toArray, List.set_cons_zero, List.set_cons_succ]
        refine wpList_run (by kernel_rfl) (.bool true) wo rfl ?_
        simp only [Act.put, List.setIfInBounds_toArray, List.set_cons_zero, List.set_cons_succ]
        refine wpList_nil ?_
        go_upto_region 6 with fail
        refine wp_region_lit ?_
        refine wpList_run (by kernel_rfl) (.agg #[.slice D1 d.1.length e1, .slice D2 d.2.length e2]) wo (xo_loadW b8 _ H8.out Try.underlying81 rfl (by kernel_rfl) rfl rfl) ?_
        simp only [Act.put, List.setIfInBounds_toArray, List.set_cons_zero, List.set_cons_succ]
        refine wpList_run (by kernel_rfl) (.agg #[.slice A1 r.1.length c1, .slice A2 r.2.length c2]) wo (xo_loadW b7 _ H7.out Try.underlying81 rfl (by kernel_rfl) rfl rfl) ?_
        simp only [Act.put, List.setIfInBounds_toArray, List.set_cons_zero, List.set_cons_succ]
        refine wpList_storeW b7 #[.slice A1 r.1.length c1, .slice A2 r.2.length c2] #[.slice D1 d.1.length e1, .slice D2 d.2.length e2] 81 (by kernel_rfl) H7.out (xo_storeW b7 #[.slice A1 r.1.length c1, .slice A2 r.2.length c2] #[.slice D1 d.1.length e1, .slice D2 d.2.length e2] H7.out (by kernel_rfl) rfl (by simp [Value.oneCell']) rfl rfl rfl) ?_
        intro X1_16 h1 hfar hbel hsz
        have YHPP : PP 29 V X1_16 (.slice A1 r.1.length c1) (.slice A2 r.2.length c2) (.slice D1 d.1.length e1) (.slice D2 d.2.length e2) r d := PP.far HPP.out H7.out (by decide) hfar
        have YH6 : X1_16.heap[w.heap.size]? = some (.cells #[.slice none 0 0, .slice none 0 0] 81 (0, 0)) := hfar _ _ N4_0.out H6.out
        have YH8 : X1_16.heap[b8]? = some (.cells #[.slice D1 d.1.length e1, .slice D2 d.2.length e2] 81 (0, 0)) := hfar _ _ (Ne.symm N9_1.out) H8.out
        have hbr := hbel _ _ HG7.out B0.out
        clear B0
        have B0 := Lib.hid hbr
        clear hbr
        clear H6
        have H6 : Hid (X1_16.heap[w.heap.size]? = some (.cells #[.slice none 0 0, .slice none 0 0] 81 (0, 0))) := Lib.hid YH6
        clear YH6
        clear H8
        have H8 : Hid (X1_16.heap[b8]? = some (.cells #[.slice D1 d.1.length e1, .slice D2 d.2.length e2] 81 (0, 0))) := Lib.hid YH8
        clear YH8
        clear HPP
        have HPP := Lib.hid YHPP
        clear YHPP
        clear H7
        have H7 : Hid (X1_16.heap[b7]? = some (.cells #[.slice D1 d.1.length e1, .slice D2 d.2.length e2] 81 (0, 0))) := Lib.hid (h1)
        have HszX1_16 := Lib.hid hsz
        clear h1 hfar hbel hsz
        simp only [ptr, Act.put, List.setIfInBounds_toArray, List.set_cons_zero, List.set_cons_succ]
        refine wpList_storeW b8 #[.slice D1 d.1.length e1, .slice D2 d.2.length e2] #[.slice A1 r.1.length c1, .slice A2 r.2.length c2] 81 (by kernel_rfl) H8.out (xo_storeW b8 #[.slice D1 d.1.length e1, .slice D2 d.2.length e2] #[.slice A1 r.1.length c1, .slice A2 r.2.length c2] H8.out (by kernel_rfl) rfl (by simp [Value.oneCell']) rfl rfl rfl) ?_
        intro X1_17 h1 hfar hbel hsz
        have YHPP : PP 29 V X1_17 (.slice A1 r.1.length c1) (.slice A2 r.2.length c2) (.slice D1 d.1.length e1) (.slice D2 d.2.length e2) r d := PP.far HPP.out H8.out (by decide) hfar
        have YH6 : X1_17.heap[w.heap.size]? = some (.cells #[.slice none 0 0, .slice none 0 0] 81 (0, 0)) := hfar _ _ N8_0.out H6.out
        have YH7 : X1_17.heap[b7]? = some (.cells #[.slice D1 d.1.length e1, .slice D2 d.2.length e2] 81 (0, 0)) := hfar _ _ N9_1.out H7.out
        have hbr := hbel _ _ HG8.out B0.out
        clear B0
        have B0 := Lib.hid hbr
        clear hbr
        clear H6
        have H6 : Hid (X1_17.heap[w.heap.size]? = some (.cells #[.slice none 0 0, .slice none 0 0] 81 (0, 0))) := Lib.hid YH6
        clear YH6
        clear H7
        have H7 : Hid (X1_17.heap[b7]? = some (.cells #[.slice D1 d.1.length e1, .slice D2 d.2.length e2] 81 (0, 0))) := Lib.hid YH7
        clear YH7
        clear HPP
        have HPP := Lib.hid YHPP
        clear YHPP
        clear H8
        have H8 : Hid (X1_17.heap[b8]? = some (.cells #[.slice A1 r.1.length c1, .slice A2 r.2.length c2] 81 (0, 0))) := Lib.hid (h1)
        have HszX1_17 := Lib.hid hsz
        clear h1 hfar hbel hsz
        simp only [ptr, Act.put, List.setIfInBounds_toArray, List.set_cons_zero, List.set_cons_succ]
        refine wpList_nil ?_
        have q7 := H7.out
        have q8 := H8.out
        have q6 := H6.out
        have qp := HPP.out
        have qb := B0.out
        go_wp2_with fail
        go_roundw
        case rel => exact ⟨D1, e1, D2, e2, A1, c1, A2, c2, d, r, HI.out.swap hbk, qp.swap, q7, q8, q6, qb⟩
        case measure => rw [lnAt_eq q7, lnAt_eq q8, L7.out, L8.out, if_neg (by omega), if_pos hsw]; omega
      · have hc2 : ¬ (((r.1.length : Nat) : Int) - 1) < (((d.1.length : Nat) : Int) - 1) := by omega
        go_upto_region 5 with fail
        refine wp_region_lit ?_
        refine wpList_run (by kernel_rfl) (.int .i64 (((r.1.length : Nat) : Int) - 1)) wo rfl ?_
        simp only [Act.put, List.setIfInBounds_toArray, List.set_cons_zero, List.set_cons_succ]
        refine wpList_run (by kernel_rfl) (.pointer (some ⟨b8, 0, none⟩)) wo (xo_fld0 0 b8 0 (by kernel_rfl) rfl rfl) ?_
        simp only [Act.put, List.setIfInBounds_toArray, List.set_cons_zero, List.set_cons_succ]
        refine wpList_run (by kernel_rfl) (.slice D1 d.1.length e1) wo (xo_load1 ⟨b8, 0, none⟩ _ (cells_at H8.out 0 rfl) Try.underlying22 rfl rfl rfl) ?_
        simp only [Act.put, List.setIfInBounds_toArray, List.set_cons_zero, List.set_cons_succ]
        refine wpList_run (by kernel_rfl) (.int .i64 ((d.1.length : Nat) : Int)) wo (xo_len D1 d.1.length e1 Try.underlying22 rfl rfl) ?_
        simp only [Act.put, List.setIfInBounds_toArray, List.set_cons_zero, List.set_cons_succ]
        refine wpList_run (by kernel_rfl) (.int .i64 (((d.1.length : Nat) : Int) - 1)) wo (xo_subI ((d.1.length : Nat) : Int) 1 (((d.1.length : Nat) : Int) - 1) rfl (by omega) (by omega) rfl rfl rfl) ?_
        simp only [Act.put, List.setIfInBounds_toArray, List.set_cons_zero, List.set_cons_succ]
        refine wpList_run (by kernel_rfl) (.bool false) wo (xo_lssF .i64 (((r.1.length : Nat) : Int) - 1) (((d.1.length : Nat) : Int) - 1) hc2 rfl rfl rfl) ?_
        simp only [Act.put, List.setIfInBounds_toArray, List.set_cons_zero, List.set_cons_succ]
        refine wpList_run (by kernel_rfl) (.bool false) wo rfl ?_
        simp only [Act.put, List.setIfInBounds_toArray, List.set_cons_zero, List.set_cons_succ]
        refine wpList_nil ?_
        go_upto_region 3 with fail
        refine wp_region_lit ?_
        refine wpList_run (by kernel_rfl) (.agg #[.slice A1 r.1.length c1, .slice A2 r.2.length c2]) wo (xo_loadW b7 _ H7.out Try.underlying81 rfl (by kernel_rfl) rfl rfl) ?_
        simp only [Act.put, List.setIfInBounds_toArray, List.set_cons_zero, List.set_cons_succ]
        refine wpList_run (by kernel_rfl) (.agg #[.slice D1 d.1.length e1, .slice D2 d.2.length e2]) wo (xo_loadW b8 _ H8.out Try.underlying81 rfl (by kernel_rfl) rfl rfl) ?_
        simp only [Act.put, List.setIfInBounds_toArray, List.set_cons_zero, List.set_cons_succ]
        have p0 := HPP.out
        have x7 := H7.out
        have x8 := H8.out
        have x6 := H6.out
        have n17 := own_neT p0.p1 x7 (by decide)
        have n27 := own_neT p0.p2 x7 (by decide)
        have n18 := own_neT p0.p1 x8 (by decide)
        have n28 := own_neT p0.p2 x8 (by decide)
        have n16 := own_neT p0.p1 x6 (by decide)
        have n26 := own_neT p0.p2 x6 (by decide)
        refine wpList_op (by kernel_rfl) ?_
        refine hOp_call 89 Try.func89 (by kernel_rfl) (by kernel_rfl) _ _ #[.agg #[.slice A1 r.1.length c1, .slice A2 r.2.length c2], .agg #[.slice D1 d.1.length e1, .slice D2 d.2.length e2]] rfl (by kernel_rfl) ?_
        refine (minusTerm_any A1 r.1.length c1 A2 r.2.length c2 D1 d.1.length e1 D2 d.2.length e2 r.1 r.2 d.1 d.2 rfl rfl rfl rfl HI.out.t2 (by omega) (by omega) (by omega) (by omega) (by omega) V wo B0.out p0).mono ?_
        rintro e X1 ⟨u1, u2, rfl, hp1, hfr, hl1, hl2, hbx⟩
        refine ⟨_, rfl, ?_⟩
        simp only [ptr, Act.put, List.setIfInBounds_toArray, List.set_cons_zero, List.set_cons_succ]
        have y7 := hfr _ _ n17 n27 x7
        have y8 := hfr _ _ n18 n28 x8
        have y6 := hfr _ _ n16 n26 x6
        obtain ⟨A3, c3, rfl⟩ := own_form hp1.p1
        obtain ⟨A4, c4, rfl⟩ := own_form hp1.p2
        replace hp1 : PP 29 V X1 (.slice A3 (Gold.stpF r d).1.length c3) (.slice A4 (Gold.stpF r d).2.length c4) (.slice D1 d.1.length e1) (.slice D2 d.2.length e2) (Gold.stpF r d) d := hp1
        clear HPP H7 H8 H6 B0 x7 x8 x6 p0 n17 n27 n18 n28 n16 n26 hfr hl1 hl2
        have B0 := Lib.hid hbx
        have HPP := Lib.hid hp1
        have H7 := Lib.hid y7
        have H8 := Lib.hid y8
        have H6 := Lib.hid y6
        clear hbx hp1 y7 y8 y6
        refine wpList_storeW b7 #[.slice A1 r.1.length c1, .slice A2 r.2.length c2] #[.slice A3 (Gold.stpF r d).1.length c3, .slice A4 (Gold.stpF r d).2.length c4] 81 (by kernel_rfl) H7.out (xo_storeW b7 #[.slice A1 r.1.length c1, .slice A2 r.2.length c2] #[.slice A3 (Gold.stpF r d).1.length c3, .slice A4 (Gold.stpF r d).2.length c4] H7.out (by kernel_rfl) rfl (by simp [Value.oneCell']) rfl rfl rfl) ?_
        intro X1_16 h1 hfar hbel hsz
        have YHPP : PP 29 V X1_16 (.slice A3 (Gold.stpF r d).1.length c3) (.slice A4 (Gold.stpF r d).2.length c4) (.slice D1 d.1.length e1) (.slice D2 d.2.length e2) (Gold.stpF r d) d := PP.far HPP.out H7.out (by decide) hfar
        have YH6 : X1_16.heap[w.heap.size]? = some (.cells #[.slice none 0 0, .slice none 0 0] 81 (0, 0)) := hfar _ _ N4_0.out H6.out
        have YH8 : X1_16.heap[b8]? = some (.cells #[.slice D1 d.1.length e1, .slice D2 d.2.length e2] 81 (0, 0)) := hfar _ _ (Ne.symm N9_1.out) H8.out
        have hbr := hbel _ _ HG7.out B0.out
        clear B0
        have B0 := Lib.hid hbr
        clear hbr
        clear H6
        have H6 : Hid (X1_16.heap[w.heap.size]? = some (.cells #[.slice none 0 0, .slice none 0 0] 81 (0, 0))) := Lib.hid YH6
        clear YH6
        clear H8
        have H8 : Hid (X1_16.heap[b8]? = some (.cells #[.slice D1 d.1.length e1, .slice D2 d.2.length e2] 81 (0, 0))) := Lib.hid YH8
        clear YH8
        clear HPP
        have HPP := Lib.hid YHPP
        clear YHPP
        clear H7
        have H7 : Hid (X1_16.heap[b7]? = some (.cells #[.slice A3 (Gold.stpF r d).1.length c3, .slice A4 (Gold.stpF r d).2.length c4] 81 (0, 0))) := Lib.hid (h1)
        have HszX1_16 := Lib.hid hsz
        clear h1 hfar hbel hsz
        simp only [ptr, Act.put, List.setIfInBounds_toArray, List.set_cons_zero, List.set_cons_succ]
        refine wpList_nil ?_
        have q7 := H7.out
        have q8 := H8.out
        have q6 := H6.out
        have qp := HPP.out
        have qb := B0.out
        have hlt9 := Gold.stpF_len (p := r) (d := d) HI.out.t2 (by omega) (by omega)
        go_wp2_with fail
        go_roundw
        case rel => exact ⟨A3, c3, A4, c4, D1, e1, D2, e2, Gold.stpF r d, d, HI.out.step (by omega), qp, q7, q8, q6, qb⟩
        case measure => rw [lnAt_eq q7, lnAt_eq q8, L7.out, L8.out, if_neg hsw]; split <;> omega
end Go.Proofs.Ytkefijogpiofbaa

namespace Go.Proofs.Ytkefijogpiofbaa
set_option linter.unusedVariables false
set_option linter.unusedSimpArgs false
set_option linter.unusedSectionVars false
set_option maxRecDepth 8000
open Go.RowKit Go.Proofs.Ytkefijogpiofbaa.K
attribute [local irreducible] wpList wpQuiet
set_option maxRecDepth 100000 in
set_option maxHeartbeats 16000000 in
theorem quotient_any (A : Option Addr) (c : Nat) (P : List Gold.F) (D : Option Addr) (e : Nat) (d : List Gold.F) (hPt : Gold.Trm P) (hdt : Gold.Trm d) (hd0 : d.length ≠ 0) (hPl : P.length ≤ 65540) (hdl : d.length ≤ 65540) (V w : World) (hV : Below V.heap.size V w)
    (hX : w.ownsRow V.heap.size 29 1 (.slice A P.length c) P.length (fl feC P)) (hD : w.ownsRow V.heap.size 29 1 (.slice D d.length e) d.length (fl feC d)) (hap : ApartV (.slice A P.length c) (.slice D d.length e)) :
    Calls Try.prog 75 #[.slice A P.length c, .slice D d.length e] w fun e9 w' => ∃ (q : Gold.PrF) (u : Value), e9 = .returned (.tuple #[u, .bool (decide (q.1.length = 0))]) ∧ Gold.QuoI P d q ∧ q.1.length < d.length ∧ w'.ownsRow V.heap.size 29 1 u q.2.length (fl feC q.2) ∧ Below V.heap.size V w' := by
  have B0 := Lib.hid hV
  have OP := Lib.hid hX
  have OD := Lib.hid hD
  have AP := Lib.hid hap
  have hV0 := hV.size
  have HQ0 := Lib.hid (Gold.QuoI.start (d := d) hPt)
  clear hV hX hD hap
  go_enter Try.func75, Try.ntmps75
  go_upto_region 1 with fail
  refine wp_region_lit ?_
  refine wpList_run (by kernel_rfl) (.slice A P.length c) w rfl ?_
  simp only [Act.put, List.setIfInBounds_toArray, List.set_cons_zero, List.set_cons_succ]
  refine wpList_run (by kernel_rfl) (.agg #[.slice A P.length c, .slice none 0 0]) w (by unfold execOp; go_simp) ?_
  simp only [Act.put, List.setIfInBounds_toArray, List.set_cons_zero, List.set_cons_succ]
  refine wpList_run (by kernel_rfl) (.slice D d.length e) w rfl ?_
  simp only [Act.put, List.setIfInBounds_toArray, List.set_cons_zero, List.set_cons_succ]
  refine wpList_call (by kernel_rfl) 90 Try.func90 (by kernel_rfl) (by kernel_rfl) _ _ #[.int .u64 1] rfl (by kernel_rfl) ?_
  refine (J.negF 1 w).mono ?_
  rintro e W1 ⟨rfl, hw1⟩
  rw [hw1]
  clear hw1 W1
  refine ⟨_, rfl, ?_⟩
  simp only [Act.put, List.setIfInBounds_toArray, List.set_cons_zero, List.set_cons_succ]
  refine wpList_mk (by kernel_rfl) ([(-1)].flatMap feC).toArray 29 1 1 (xg_lit (E := feC) (bytes := 8) (.int .u64 0) [.tmp 11] [(-1)] 1 Try.underlying22 (by kernel_rfl) rfl (by decide) (by decide) rfl rfl) ?_
  intro g12 V2 hge h0 hb
  have Ge0 : Hid (w.heap.size ≤ g12) := Lib.hid hge
  have B1 := Lib.hid hb
  have Fv1_12 : Hid (RowG feC V2 g12 29 ([(-1)])) := Lib.hid (h0)
  have Lt2 : Hid (g12 < V2.heap.size) := Lib.hid (xp_lt Fv1_12.out)
  clear hge h0 hb
  simp only [ptr, Act.put, List.setIfInBounds_toArray, List.set_cons_zero, List.set_cons_succ]
  have hgl : w.heap.size ≤ g12 := Nat.le_trans (Below.refl w.heap.size w).size Ge0.out
  have pq1 := own_keep OP.out B1.out
  have pq3 := own_keep OD.out B1.out
  have pq4 := own_of_row (base := V.heap.size) (n := 1) (RowG.h Fv1_12.out) (Nat.le_trans hV0 hgl) rfl (by unfold maxLen; omega)
  have hpp : PP 29 V V2 (.slice A P.length c) (.slice none ([] : List Gold.F).length 0) (.slice D d.length e) (.slice (some ⟨g12, 0, none⟩) ([(-1 : Gold.F)] : List Gold.F).length 1) (P, []) (d, [(-1 : Gold.F)]) := ⟨pq1, World.ownsRow_nil _ _ _ _, pq3, pq4, fun _ _ h => (by cases h), AP.out, ApartV.new OP.out hgl, fun _ h => (by cases h), fun _ h => (by cases h), ApartV.new OD.out hgl⟩
  have HPP := Lib.hid hpp
  clear hpp pq1 pq3 pq4 OP OD AP
  refine wpList_run (by kernel_rfl) (.agg #[.slice D d.length e, .slice (some ⟨g12, 0, none⟩) 1 1]) V2 (by unfold execOp; go_simp) ?_
  simp only [Act.put, List.setIfInBounds_toArray, List.set_cons_zero, List.set_cons_succ]
  refine wpList_new #[.slice none 0 0, .slice none 0 0] 81 (by kernel_rfl) (xo_alloc #[.slice none 0 0, .slice none 0 0] (by kernel_rfl) rfl) ?_
  intro b6 V3 hge h0 hb
  have Ge3 : Hid (V2.heap.size ≤ b6) := Lib.hid hge
  have B2 := Lib.hid hb
  have Fv4_6 : Hid (V3.heap[b6]? = some (.cells #[.slice none 0 0, .slice none 0 0] 81 (0, 0))) := Lib.hid (h0)
  have Lt5 : Hid (b6 < V3.heap.size) := Lib.hid (xp_lt Fv4_6.out)
  clear hge h0 hb
  simp only [ptr, Act.put, List.setIfInBounds_toArray, List.set_cons_zero, List.set_cons_succ]
  refine wpList_new #[.slice none 0 0, .slice none 0 0] 81 (by kernel_rfl) (xo_alloc #[.slice none 0 0, .slice none 0 0] (by kernel_rfl) rfl) ?_
  intro b7 V4 hge h0 hb
  have N6_0 : Hid (b6 ≠ b7) := Lib.hid (xp_lt0 Fv4_6.out hge)
  have Ge7 : Hid (V3.heap.size ≤ b7) := Lib.hid hge
  have B3 := Lib.hid hb
  have Fv8_7 : Hid (V4.heap[b7]? = some (.cells #[.slice none 0 0, .slice none 0 0] 81 (0, 0))) := Lib.hid (h0)
  have Lt9 : Hid (b7 < V4.heap.size) := Lib.hid (xp_lt Fv8_7.out)
  clear hge h0 hb
  simp only [ptr, Act.put, List.setIfInBounds_toArray, List.set_cons_zero, List.set_cons_succ]
  refine wpList_storeW b6 #[.slice none 0 0, .slice none 0 0] #[.slice A P.length c, .slice none 0 0] 81 (by kernel_rfl) (heap_keep Fv4_6.out B3.out) (xo_storeW b6 #[.slice none 0 0, .slice none 0 0] #[.slice A P.length c, .slice none 0 0] (heap_keep Fv4_6.out B3.out) (by kernel_rfl) rfl (by simp [Value.oneCell']) rfl rfl rfl) ?_
  intro X4_10 h1 hfar hbel hsz
  have C2_4 := Lib.hid (bel_step B2.out B3.out)
  have YHPP : PP 29 V X4_10 (.slice A P.length c) (.slice none ([] : List Gold.F).length 0) (.slice D d.length e) (.slice (some ⟨g12, 0, none⟩) ([(-1 : Gold.F)] : List Gold.F).length 1) (P, []) (d, [(-1 : Gold.F)]) := PP.far (HPP.out.keep C2_4.out) (heap_keep Fv4_6.out B3.out) (by decide) hfar
  have YFv8_7 : X4_10.heap[b7]? = some (.cells #[.slice none 0 0, .slice none 0 0] 81 (0, 0)) := hfar _ _ (Ne.symm N6_0.out) Fv8_7.out
  have Gs11 : Hid (V2.heap.size ≤ b7) := Lib.hid (Nat.le_trans B2.out.size Ge7.out)
  have hbr := hbel _ _ Ge3.out C2_4.out
  clear B2
  have B2 := Lib.hid hbr
  clear hbr
  clear Fv8_7
  have Fv8_7 : Hid (X4_10.heap[b7]? = some (.cells #[.slice none 0 0, .slice none 0 0] 81 (0, 0))) := Lib.hid YFv8_7
  clear YFv8_7
  clear HPP
  have HPP := Lib.hid YHPP
  clear YHPP
  clear Fv4_6
  have Fv4_6 : Hid (X4_10.heap[b6]? = some (.cells #[.slice A P.length c, .slice none 0 0] 81 (0, 0))) := Lib.hid (h1)
  have HszX4_10 := Lib.hid hsz
  clear h1 hfar hbel hsz
  simp only [ptr, Act.put, List.setIfInBounds_toArray, List.set_cons_zero, List.set_cons_succ]
  refine wpList_storeW b7 #[.slice none 0 0, .slice none 0 0] #[.slice D d.length e, .slice (some ⟨g12, 0, none⟩) 1 1] 81 (by kernel_rfl) Fv8_7.out (xo_storeW b7 #[.slice none 0 0, .slice none 0 0] #[.slice D d.length e, .slice (some ⟨g12, 0, none⟩) 1 1] Fv8_7.out (by kernel_rfl) rfl (by simp [Value.oneCell']) rfl rfl rfl) ?_
  intro X3_12 h1 hfar hbel hsz
  have YHPP : PP 29 V X3_12 (.slice A P.length c) (.slice none ([] : List Gold.F).length 0) (.slice D d.length e) (.slice (some ⟨g12, 0, none⟩) ([(-1 : Gold.F)] : List Gold.F).length 1) (P, []) (d, [(-1 : Gold.F)]) := PP.far HPP.out Fv8_7.out (by decide) hfar
  have YFv4_6 : X3_12.heap[b6]? = some (.cells #[.slice A P.length c, .slice none 0 0] 81 (0, 0)) := hfar _ _ N6_0.out Fv4_6.out
  have hbr := hbel _ _ Gs11.out B2.out
  clear B2
  have B2 := Lib.hid hbr
  clear hbr
  clear Fv4_6
  have Fv4_6 : Hid (X3_12.heap[b6]? = some (.cells #[.slice A P.length c, .slice none 0 0] 81 (0, 0))) := Lib.hid YFv4_6
  clear YFv4_6
  clear HPP
  have HPP := Lib.hid YHPP
  clear YHPP
  clear Fv8_7
  have Fv8_7 : Hid (X3_12.heap[b7]? = some (.cells #[.slice D d.length e, .slice (some ⟨g12, 0, none⟩) 1 1] 81 (0, 0))) := Lib.hid (h1)
  have HszX3_12 := Lib.hid hsz
  clear h1 hfar hbel hsz
  simp only [ptr, Act.put, List.setIfInBounds_toArray, List.set_cons_zero, List.set_cons_succ]
  refine wpList_nil ?_
  have C0_2 := Lib.hid (bel_step B0.out B1.out)
  have HG6 : Hid (V.heap.size ≤ b6) := Lib.hid (Nat.le_trans C0_2.out.size Ge3.out)
  have HG7 : Hid (V.heap.size ≤ b7) := Lib.hid (Nat.le_trans C0_2.out.size Gs11.out)
  have s6 := Fv4_6.out
  have s7 := Fv8_7.out
  have spp := HPP.out
  have C0_3 := Lib.hid (bel_step C0_2.out B2.out)
  have sbb := C0_3.out
  go_wp2_with fail
  go_loopw [] (fun wr => ∃ (A1 : Option Addr) (c1 : Nat) (A2 : Option Addr) (c2 : Nat) (r : Gold.PrF), Gold.QuoI P d r ∧ PP 29 V wr (.slice A1 r.1.length c1) (.slice A2 r.2.length c2) (.slice D d.length e) (.slice (some ⟨g12, 0, none⟩) ([(-1 : Gold.F)] : List Gold.F).length 1) r (d, [(-1 : Gold.F)]) ∧ wr.heap[b6]? = some (.cells #[.slice A1 r.1.length c1, .slice A2 r.2.length c2] 81 (0, 0)) ∧ wr.heap[b7]? = some (.cells #[.slice D d.length e, .slice (some ⟨g12, 0, none⟩) 1 1] 81 (0, 0)) ∧ Below V.heap.size V wr) (fun wr => lnAt wr b6)
  case atStart => exact ⟨A, c, none, 0, (P, []), HQ0.out, spp, s6, s7, sbb⟩
  case round =>
    clear s6 s7 spp sbb HPP HQ0
    obtain ⟨wo, rfl⟩ : ∃ wo : World, wo = wr := ⟨_, rfl⟩
    obtain ⟨A1, c1, A2, c2, r, hI, hpp, h6, h7, hbb⟩ := hrel
    have B0 := Lib.hid hbb
    have HI := Lib.hid hI
    have HPP := Lib.hid hpp
    have H6 := Lib.hid h6
    have H7 := Lib.hid h7
    have hia := hI.le
    have hib := hI.le2
    have hVo := hbb.size
    have L6 := Lib.hid (lnAt_eq h6)
    have hlt6 := xp_lt h6
    have hlt7 := xp_lt h7
    clear hbb hI hpp h6 h7
    by_cases hge : d.length ≤ r.1.length
    · have hc1 : ((r.1.length : Nat) : Int) ≥ ((d.length : Nat) : Int) := by omega
      go_upto_region 2 with fail
      refine wp_region_lit ?_
      refine wpList_run (by kernel_rfl) (.pointer (some ⟨b6, 0, none⟩)) wo (xo_fld0 0 b6 0 (by kernel_rfl) rfl rfl) ?_
      simp only [Act.put, List.setIfInBounds_toArray, List.set_cons_zero, List.set_cons_succ]
      refine wpList_run (by kernel_rfl) (.slice A1 r.1.length c1) wo (xo_load1 ⟨b6, 0, none⟩ _ (cells_at H6.out 0 rfl) Try.underlying22 rfl rfl rfl) ?_
      simp only [Act.put, List.setIfInBounds_toArray, List.set_cons_zero, List.set_cons_succ]
      refine wpList_run (by kernel_rfl) (.int .i64 ((r.1.length : Nat) : Int)) wo (xo_len A1 r.1.length c1 Try.underlying22 rfl rfl) ?_
      simp only [Act.put, List.setIfInBounds_toArray, List.set_cons_zero, List.set_cons_succ]
      refine wpList_run (by kernel_rfl) (.slice D d.length e) wo rfl ?_
      simp only [Act.put, List.setIfInBounds_toArray, List.set_cons_zero, List.set_cons_succ]
      refine wpList_run (by kernel_rfl) (.int .i64 ((d.length : Nat) : Int)) wo (xo_len D d.length e Try.underlying22 rfl rfl) ?_
      simp only [Act.put, List.setIfInBounds_toArray, List.set_cons_zero, List.set_cons_succ]
      refine wpList_run (by kernel_rfl) (.bool true) wo (xo_geqT .i64 ((r.1.length : Nat) : Int) ((d.length : Nat) : Int) hc1 rfl rfl rfl) ?_
      simp only [Act.put, List.setIfInBounds_toArray, List.set_cons_zero, List.set_cons_succ]
      refine wpList_nil ?_
      go_upto_region 3 with fail
      refine wp_region_lit ?_
      refine wpList_run (by kernel_rfl) (.agg #[.slice A1 r.1.length c1, .slice A2 r.2.length c2]) wo (xo_loadW b6 _ H6.out Try.underlying81 rfl (by kernel_rfl) rfl rfl) ?_
      simp only [Act.put, List.setIfInBounds_toArray, List.set_cons_zero, List.set_cons_succ]
      refine wpList_run (by kernel_rfl) (.agg #[.slice D d.length e, .slice (some ⟨g12, 0, none⟩) 1 1]) wo (xo_loadW b7 _ H7.out Try.underlying81 rfl (by kernel_rfl) rfl rfl) ?_
      simp only [Act.put, List.setIfInBounds_toArray, List.set_cons_zero, List.set_cons_succ]
      have p0 := HPP.out
      have x7 := H7.out
      have x6 := H6.out
      have n17 := own_neT p0.p1 x7 (by decide)
      have n27 := own_neT p0.p2 x7 (by decide)
      have n16 := own_neT p0.p1 x6 (by decide)
      have n26 := own_neT p0.p2 x6 (by decide)
      refine wpList_op (by kernel_rfl) ?_
      refine hOp_call 89 Try.func89 (by kernel_rfl) (by kernel_rfl) _ _ #[.agg #[.slice A1 r.1.length c1, .slice A2 r.2.length c2], .agg #[.slice D d.length e, .slice (some ⟨g12, 0, none⟩) 1 1]] rfl (by kernel_rfl) ?_
      refine (minusTerm_any A1 r.1.length c1 A2 r.2.length c2 D d.length e (some ⟨g12, 0, none⟩) 1 1 r.1 r.2 d [(-1 : Gold.F)] rfl rfl rfl rfl hdt (by omega) (by omega) (by omega) (by omega) (by omega) V wo B0.out p0).mono ?_
      rintro e9 X1 ⟨u1, u2, rfl, hp1, hfr, hl1, hl2, hbx⟩
      refine ⟨_, rfl, ?_⟩
      simp only [ptr, Act.put, List.setIfInBounds_toArray, List.set_cons_zero, List.set_cons_succ]
      have y7 := hfr _ _ n17 n27 x7
      have y6 := hfr _ _ n16 n26 x6
      obtain ⟨A3, c3, rfl⟩ := own_form hp1.p1
      obtain ⟨A4, c4, rfl⟩ := own_form hp1.p2
      replace hp1 : PP 29 V X1 (.slice A3 (Gold.stpF r (d, [(-1 : Gold.F)])).1.length c3) (.slice A4 (Gold.stpF r (d, [(-1 : Gold.F)])).2.length c4) (.slice D d.length e) (.slice (some ⟨g12, 0, none⟩) ([(-1 : Gold.F)] : List Gold.F).length 1) (Gold.stpF r (d, [(-1 : Gold.F)])) (d, [(-1 : Gold.F)]) := hp1
      clear HPP H7 H6 B0 x7 x6 p0 n17 n27 n16 n26 hfr hl1 hl2
      have B0 := Lib.hid hbx
      have HPP := Lib.hid hp1
      have H7 := Lib.hid y7
      have H6 := Lib.hid y6
      clear hbx hp1 y7 y6
      refine wpList_storeW b6 #[.slice A1 r.1.length c1, .slice A2 r.2.length c2] #[.slice A3 (Gold.stpF r (d, [(-1 : Gold.F)])).1.length c3, .slice A4 (Gold.stpF r (d, [(-1 : Gold.F)])).2.length c4] 81 (by kernel_rfl) H6.out (xo_storeW b6 #[.slice A1 r.1.length c1, .slice A2 r.2.length c2] #[.slice A3 (Gold.stpF r (d, [(-1 : Gold.F)])).1.length c3, .slice A4 (Gold.stpF r (d, [(-1 : Gold.F)])).2.length c4] H6.out (by kernel_rfl) rfl (by simp [Value.oneCell']) rfl rfl rfl) ?_
      intro X1_13 h1 hfar hbel hsz
      have YHPP : PP 29 V X1_13 (.slice A3 (Gold.stpF r (d, [(-1 : Gold.F)])).1.length c3) (.slice A4 (Gold.stpF r (d, [(-1 : Gold.F)])).2.length c4) (.slice D d.length e) (.slice (some ⟨g12, 0, none⟩) ([(-1 : Gold.F)] : List Gold.F).length 1) (Gold.stpF r (d, [(-1 : Gold.F)])) (d, [(-1 : Gold.F)]) := PP.far HPP.out H6.out (by decide) hfar
      have YH7 : X1_13.heap[b7]? = some (.cells #[.slice D d.length e, .slice (some ⟨g12, 0, none⟩) 1 1] 81 (0, 0)) := hfar _ _ (Ne.symm N6_0.out) H7.out
      have hbr := hbel _ _ HG6.out B0.out
      clear B0
      have B0 := Lib.hid hbr
      clear hbr
      clear H7
      have H7 : Hid (X1_13.heap[b7]? = some (.cells #[.slice D d.length e, .slice (some ⟨g12, 0, none⟩) 1 1] 81 (0, 0))) := Lib.hid YH7
      clear YH7
      clear HPP
      have HPP := Lib.hid YHPP
      clear YHPP
      clear H6
      have H6 : Hid (X1_13.heap[b6]? = some (.cells #[.slice A3 (Gold.stpF r (d, [(-1 : Gold.F)])).1.length c3, .slice A4 (Gold.stpF r (d, [(-1 : Gold.F)])).2.length c4] 81 (0, 0))) := Lib.hid (h1)
      have HszX1_13 := Lib.hid hsz
      clear h1 hfar hbel hsz
      simp only [ptr, Act.put, List.setIfInBounds_toArray, List.set_cons_zero, List.set_cons_succ]
      refine wpList_nil ?_
      have q6 := H6.out
      have q7 := H7.out
      have qp := HPP.out
      have qb := B0.out
      have hlt9 := Gold.stpF_len (p := r) (d := (d, [(-1 : Gold.F)])) hdt (show d.length ≠ 0 by omega) (show d.length ≤ _ by omega)
      go_wp2_with fail
      go_roundw
      case rel => exact ⟨A3, c3, A4, c4, Gold.stpF r (d, [(-1 : Gold.F)]), HI.out.step hdt (by omega) (by omega), qp, q6, q7, qb⟩
      case measure => rw [lnAt_eq q6, L6.out]; exact hlt9
    · have hc1 : ¬ (((r.1.length : Nat) : Int) ≥ ((d.length : Nat) : Int)) := by omega
      go_upto_region 2 with fail
      refine wp_region_lit ?_
      refine wpList_run (by kernel_rfl) (.pointer (some ⟨b6, 0, none⟩)) wo (xo_fld0 0 b6 0 (by kernel_rfl) rfl rfl) ?_
      simp only [Act.put, List.setIfInBounds_toArray, List.set_cons_zero, List.set_cons_succ]
      refine wpList_run (by kernel_rfl) (.slice A1 r.1.length c1) wo (xo_load1 ⟨b6, 0, none⟩ _ (cells_at H6.out 0 rfl) Try.underlying22 rfl rfl rfl) ?_
      simp only [Act.put, List.setIfInBounds_toArray, List.set_cons_zero, List.set_cons_succ]
      refine wpList_run (by kernel_rfl) (.int .i64 ((r.1.length : Nat) : Int)) wo (xo_len A1 r.1.length c1 Try.underlying22 rfl rfl) ?_
      simp only [Act.put, List.setIfInBounds_toArray, List.set_cons_zero, List.set_cons_succ]
      refine wpList_run (by kernel_rfl) (.slice D d.length e) wo rfl ?_
      simp only [Act.put, List.setIfInBounds_toArray, List.set_cons_zero, List.set_cons_succ]
      refine wpList_run (by kernel_rfl) (.int .i64 ((d.length : Nat) : Int)) wo (xo_len D d.length e Try.underlying22 rfl rfl) ?_
      simp only [Act.put, List.setIfInBounds_toArray, List.set_cons_zero, List.set_cons_succ]
      refine wpList_run (by kernel_rfl) (.bool false) wo (xo_geqF .i64 ((r.1.length : Nat) : Int) ((d.length : Nat) : Int) hc1 rfl rfl rfl) ?_
      simp only [Act.put, List.setIfInBounds_toArray, List.set_cons_zero, List.set_cons_succ]
      refine wpList_nil ?_
      go_upto_region 4 with fail
      refine wp_later_lex (by kernel_rfl) (lexOK_of (by kernel_rfl) (by kernel_rfl)) ?_
      refine wpQuiet_val (by kernel_rfl) (.pointer (some ⟨b6, 1, none⟩)) (fun v hv => (xo_fld0 1 b6 1 (by kernel_rfl) rfl rfl)) ?_
      simp only [Act.put, List.setIfInBounds_toArray, List.set_cons_zero, List.set_cons_succ]
      refine wpQuiet_val (by kernel_rfl) (.slice A2 r.2.length c2) (fun v hv => (xo_load1 ⟨b6, 1, none⟩ _ (cells_at (heap_keep H6.out (later_bel hv)) 1 rfl) Try.underlying22 rfl rfl rfl)) ?_
      simp only [Act.put, List.setIfInBounds_toArray, List.set_cons_zero, List.set_cons_succ]
      refine wpQuiet_val (by kernel_rfl) (.pointer (some ⟨b6, 0, none⟩)) (fun v hv => (xo_fld0 0 b6 0 (by kernel_rfl) rfl rfl)) ?_
      simp only [Act.put, List.setIfInBounds_toArray, List.set_cons_zero, List.set_cons_succ]
      refine wpQuiet_val (by kernel_rfl) (.slice A1 r.1.length c1) (fun v hv => (xo_load1 ⟨b6, 0, none⟩ _ (cells_at (heap_keep H6.out (later_bel hv)) 0 rfl) Try.underlying22 rfl rfl rfl)) ?_
      simp only [Act.put, List.setIfInBounds_toArray, List.set_cons_zero, List.set_cons_succ]
      refine wpQuiet_val (by kernel_rfl) (.int .i64 ((r.1.length : Nat) : Int)) (fun v hv => (xo_len A1 r.1.length c1 Try.underlying22 rfl rfl)) ?_
      simp only [Act.put, List.setIfInBounds_toArray, List.set_cons_zero, List.set_cons_succ]
      refine wpQuiet_val (by kernel_rfl) (.bool (decide (r.1.length = 0))) (fun v hv => (xo_cmp .eql .i64 ((r.1.length : Nat) : Int) 0 (decide (r.1.length = 0)) (.inl ⟨rfl, (by rw [Bool.eq_iff_iff, beq_iff_eq, decide_eq_true_iff]; omega)⟩) rfl rfl rfl)) ?_
      simp only [Act.put, List.setIfInBounds_toArray, List.set_cons_zero, List.set_cons_succ]
      refine wpQuiet_val (by kernel_rfl) (.slice A2 r.2.length c2) (fun v hv => rfl) ?_
      simp only [Act.put, List.setIfInBounds_toArray, List.set_cons_zero, List.set_cons_succ]
      refine wpQuiet_val (by kernel_rfl) (.bool (decide (r.1.length = 0))) (fun v hv => rfl) ?_
      simp only [Act.put, List.setIfInBounds_toArray, List.set_cons_zero, List.set_cons_succ]
      refine wpQuiet_nil ?_
      intro X1_13
      have hb := X1_13.below
      generalize X1_13.at = V2 at *
      have B1 := Lib.hid hb
      clear hb
      have hppz := (HPP.out.keep B1.out)
      have C0_2 := Lib.hid (bel_step B0.out B1.out)
      have hbz := C0_2.out
      go_wp2_with fail
      go_ret2
      exact ⟨r.1, r.2, _, rfl, HI.out, by omega, hppz.p2, hbz⟩
end Go.Proofs.Ytkefijogpiofbaa

namespace Go.Proofs.Ytkefijogpiofbaa
set_option linter.unusedVariables false
set_option linter.unusedSimpArgs false
set_option linter.unusedSectionVars false
set_option maxRecDepth 8000
open Go.RowKit Go.Proofs.Ytkefijogpiofbaa.K
attribute [local irreducible] wpList wpQuiet
end Go.Proofs.Ytkefijogpiofbaa
namespace Gold
set_option linter.unusedVariables false
set_option linter.unusedSimpArgs false
set_option linter.unusedSectionVars false
theorem differ_congr {n K : Nat} {w : Nat → F} {f g : List F} (h : ∀ x, evL f x = evL g x) : differF n K w f = differF n K w g := by
  unfold differF
  exact congrArg (fun p => (List.range n).filter p) (funext fun i => by rw [h])
theorem InvF.cases {n k K : Nat} {w : Nat → F} {r d q : PrF} (h : InvF n k K w r d) (hn : n = 2 ^ K) (hK : K ≤ 13) (hk1 : 1 ≤ k) (hk : k ≤ n) (hs : 2 * r.1.length < n + k + 2) (hq : QuoI r.1 r.2 q) (hlt : q.1.length < r.2.length) :
    (q.1.length = 0 ∧ q.2.length ≤ k → (differF n K w q.2).length ≤ (n - k) / 2) ∧ (¬(q.1.length = 0 ∧ q.2.length ≤ k) → ∀ f, f.length ≤ k → (n - k) / 2 < (differF n K w f).length) := by
  have hn13 : n ≤ 8192 := by rw [hn]; exact Nat.pow_le_pow_right (n := 2) (by omega) hK
  have ha := h.a
  have hb := h.big
  refine ⟨fun hh => h.near hn (by omega) hk hs fun x => ?_, fun hh f hf => ?_⟩
  · have h1 := hq.val x
    rw [List.eq_nil_of_length_eq_zero hh.1, evL_nil] at h1
    grind
  · rcases Nat.lt_or_ge ((n - k) / 2) (differF n K w f).length with h1 | h1
    · exact h1
    · exfalso
      have hle := trimF_le f
      rw [← differ_congr (f := trimF f) (evL_trimF f)] at h1
      have h2 := h.row hn (by omega) hk1 hk hs (f := trimF f) (by omega) h1
      have h3 := quo_exact hq h.u1 hlt (trimF_trm f) (by omega) h2
      exact hh ⟨by rw [h3.1]; rfl, by rw [h3.2]; omega⟩
end Gold
namespace Go.Proofs.Ytkefijogpiofbaa
set_option linter.unusedVariables false
set_option linter.unusedSimpArgs false
set_option linter.unusedSectionVars false
open Go.RowKit Go.Proofs.Ytkefijogpiofbaa.K
attribute [local irreducible] wpList wpQuiet
/-- what nearest answers -/
def nearPost (w : World) (e64 : TypeId) (n k K : Nat) (xs : List Gold.F) (e : Ending) (w' : World) : Prop := ∃ (v : Value) (bz : Bool), e = .returned (.tuple #[v, .bool bz]) ∧       ((bz = true ∧ ∃ f, Gold.Trm f ∧ f.length ≤ k ∧ (Gold.differF n K (Gold.cfF xs) f).length ≤ (n - k) / 2 ∧ ∃ g, v = .slice (some ⟨g, 0, none⟩) k k ∧ w'.ownsRow w.heap.size e64 1 v k (fl feC (Gold.tbF k (Gold.cfF f)))) ∨ (bz = false ∧ v = .slice none 0 0 ∧ ∀ f, f.length ≤ k → (n - k) / 2 < (Gold.differF n K (Gold.cfF xs) f).length)) ∧ Below w.heap.size w w'
set_option maxRecDepth 100000 in
set_option maxHeartbeats 16000000 in
theorem nearest_any (A : Option Addr) (n c : Nat) (xs : List Gold.F) (k K : Nat) (hn : n = 2 ^ K) (hK : K ≤ 13) (hk1 : 1 ≤ k) (hk : k ≤ n) (w : World) (hX : Sg feC 1 w A n c xs) :
    Calls Try.prog 50 #[.slice A n c, .int .i64 (k : Int)] w fun e w' => nearPost w 29 n k K xs e w' := by
  have hn13 : n ≤ 8192 := by rw [hn]; exact Nat.pow_le_pow_right (n := 2) (by omega) hK
  have hn1 : 1 ≤ n := by rw [hn]; exact Nat.two_pow_pos K
  have HX := Lib.hid hX
  have hxl := hX.len
  have HN := Lib.hid hn
  clear hX hn
  go_enter Try.func50, Try.ntmps50
  go_upto_region 1 with fail
  refine wp_region_lit ?_
  refine wpList_run (by kernel_rfl) (.slice A n c) w rfl ?_
  simp only [Act.put, List.setIfInBounds_toArray, List.set_cons_zero, List.set_cons_succ]
  refine wpList_call (by kernel_rfl) 48 Try.func48 (by kernel_rfl) (by kernel_rfl) _ _ #[.slice A n c] rfl (by kernel_rfl) ?_
  refine (interpolated_any A n c xs K HN.out (by omega) w HX.out).mono ?_
  rintro e V1 ⟨g, rfl, hro, hb⟩
  have B0 := Lib.hid hb
  have OI := Lib.hid hro
  clear hro
  clear hb 
  refine ⟨_, rfl, ?_⟩
  simp only [Act.put, List.setIfInBounds_toArray, List.set_cons_zero, List.set_cons_succ]
  refine wpList_run (by kernel_rfl) (.slice A n c) V1 rfl ?_
  simp only [Act.put, List.setIfInBounds_toArray, List.set_cons_zero, List.set_cons_succ]
  refine wpList_run (by kernel_rfl) (.int .i64 (n : Int)) V1 (xo_len A n c Try.underlying22 rfl rfl) ?_
  simp only [Act.put, List.setIfInBounds_toArray, List.set_cons_zero, List.set_cons_succ]
  refine wpList_run (by kernel_rfl) (.int .i64 (k : Int)) V1 rfl ?_
  simp only [Act.put, List.setIfInBounds_toArray, List.set_cons_zero, List.set_cons_succ]
  have oi := own_keep (own_mono OI.out (Below.refl w.heap.size w).size) (Below.refl V1.heap.size V1)
  refine wpList_op (by kernel_rfl) ?_
  refine hOp_call 74 Try.func74 (by kernel_rfl) (by kernel_rfl) _ _ #[.slice (some ⟨g, 0, none⟩) (Gold.inF xs K).length n, .int .i64 (n : Int), .int .i64 (k : Int)] rfl (by kernel_rfl) ?_
  refine (reduced_any (some ⟨g, 0, none⟩) n (Gold.inF xs K) n k K HN.out (by omega) hk1 hk (Gold.cfF xs) (by have := Gold.inF_le xs K; rw [← HN.out] at this; exact this) (Gold.inF_trm xs K) (fun i hi => Gold.inF_at (by omega) (by rw [← HN.out]; exact hi)) w V1 B0.out oi).mono ?_
  rintro e X1 ⟨r, d, u1, u2, rfl, hI, hsh, o1, o2, hap, hbx⟩
  refine ⟨_, rfl, ?_⟩
  simp only [ptr, Act.put, List.setIfInBounds_toArray, List.set_cons_zero, List.set_cons_succ]
  obtain ⟨A1, c1, rfl⟩ := own_form o1
  obtain ⟨A2, c2, rfl⟩ := own_form o2
  have HI := Lib.hid hI
  have HAP := Lib.hid hap
  have hia := hI.a
  have hib := hI.b
  have hbig := hI.big
  clear hI hap oi OI
  have B0n := Lib.hid hbx
  have YO1 := o1
  have YO2 := o2
  try clear B0
  have B0 := B0n
  clear B0n hbx
  have O1 := Lib.hid YO1
  clear YO1
  have O2 := Lib.hid YO2
  clear YO2
  clear o1 o2
  refine wpList_new #[.slice none 0 0, .slice none 0 0] 81 (by kernel_rfl) (xo_alloc #[.slice none 0 0, .slice none 0 0] (by kernel_rfl) rfl) ?_
  intro b6 V2 hge h0 hb
  have Ge0 : Hid (X1.heap.size ≤ b6) := Lib.hid hge
  have B1 := Lib.hid hb
  have Fv1_6 : Hid (V2.heap[b6]? = some (.cells #[.slice none 0 0, .slice none 0 0] 81 (0, 0))) := Lib.hid (h0)
  have Lt2 : Hid (b6 < V2.heap.size) := Lib.hid (xp_lt Fv1_6.out)
  clear hge h0 hb
  simp only [ptr, Act.put, List.setIfInBounds_toArray, List.set_cons_zero, List.set_cons_succ]
  refine wpList_storeW b6 #[.slice none 0 0, .slice none 0 0] #[.slice A1 r.1.length c1, .slice A2 r.2.length c2] 81 (by kernel_rfl) Fv1_6.out (xo_storeW b6 #[.slice none 0 0, .slice none 0 0] #[.slice A1 r.1.length c1, .slice A2 r.2.length c2] Fv1_6.out (by kernel_rfl) rfl (by simp [Value.oneCell']) rfl rfl rfl) ?_
  intro X2_3 h1 hfar hbel hsz
  have YO1 : X2_3.ownsRow w.heap.size 29 1 (.slice A1 r.1.length c1) r.1.length (fl feC r.1) := own_farT (own_keep O1.out B1.out) Fv1_6.out (by decide) hfar
  have YO2 : X2_3.ownsRow w.heap.size 29 1 (.slice A2 r.2.length c2) r.2.length (fl feC r.2) := own_farT (own_keep O2.out B1.out) Fv1_6.out (by decide) hfar
  have hbr := hbel _ _ Ge0.out B1.out
  clear B1
  have B1 := Lib.hid hbr
  clear hbr
  clear O1
  have O1 := Lib.hid YO1
  clear YO1
  clear O2
  have O2 := Lib.hid YO2
  clear YO2
  clear Fv1_6
  have Fv1_6 : Hid (X2_3.heap[b6]? = some (.cells #[.slice A1 r.1.length c1, .slice A2 r.2.length c2] 81 (0, 0))) := Lib.hid (h1)
  have HszX2_3 := Lib.hid hsz
  clear h1 hfar hbel hsz
  simp only [ptr, Act.put, List.setIfInBounds_toArray, List.set_cons_zero, List.set_cons_succ]
  refine wpList_nil ?_
  go_upto_region 2 with fail
  refine wp_region_lit ?_
  refine wpList_run (by kernel_rfl) (.pointer (some ⟨b6, 0, none⟩)) X2_3 (xo_fld0 0 b6 0 (by kernel_rfl) rfl rfl) ?_
  simp only [Act.put, List.setIfInBounds_toArray, List.set_cons_zero, List.set_cons_succ]
  refine wpList_run (by kernel_rfl) (.slice A1 r.1.length c1) X2_3 (xo_load1 ⟨b6, 0, none⟩ _ (cells_at Fv1_6.out 0 rfl) Try.underlying22 rfl rfl rfl) ?_
  simp only [Act.put, List.setIfInBounds_toArray, List.set_cons_zero, List.set_cons_succ]
  refine wpList_run (by kernel_rfl) (.pointer (some ⟨b6, 1, none⟩)) X2_3 (xo_fld0 1 b6 1 (by kernel_rfl) rfl rfl) ?_
  simp only [Act.put, List.setIfInBounds_toArray, List.set_cons_zero, List.set_cons_succ]
  refine wpList_run (by kernel_rfl) (.slice A2 r.2.length c2) X2_3 (xo_load1 ⟨b6, 1, none⟩ _ (cells_at Fv1_6.out 1 rfl) Try.underlying22 rfl rfl rfl) ?_
  simp only [Act.put, List.setIfInBounds_toArray, List.set_cons_zero, List.set_cons_succ]
  refine wpList_op (by kernel_rfl) ?_
  refine hOp_call 75 Try.func75 (by kernel_rfl) (by kernel_rfl) _ _ #[.slice A1 r.1.length c1, .slice A2 r.2.length c2] rfl (by kernel_rfl) ?_
  have C0_2 := Lib.hid (bel_step B0.out B1.out)
  refine (quotient_any A1 c1 r.1 A2 c2 r.2 HI.out.t1 HI.out.u1 (HI.out.factor HN.out (by omega) hk hsh) (by omega) (by omega) w X2_3 C0_2.out O1.out O2.out HAP.out).mono ?_
  rintro e X3 ⟨q, u3, rfl, hq, hql, o3, hbx⟩
  refine ⟨_, rfl, ?_⟩
  simp only [ptr, Act.put, List.setIfInBounds_toArray, List.set_cons_zero, List.set_cons_succ]
  have HCS := Lib.hid (HI.out.cases HN.out hK hk1 hk hsh hq hql)
  have hqt := hq.t2
  clear hq O1 O2
  have B0n := Lib.hid hbx
  have YO3 := o3
  try clear B0
  have B0 := B0n
  clear B0n hbx
  have O3 := Lib.hid YO3
  clear YO3
  clear o3
  obtain ⟨A3, c3, hu3⟩ := own_form O3.out
  subst hu3
  obtain ⟨bz, hbz⟩ : ∃ bz, decide (q.1.length = 0) = bz := ⟨_, rfl⟩
  rw [hbz]
  have HS3 := Lib.hid (Sg.ownS O3.out)
  refine wpList_run (by kernel_rfl) (.tuple #[.slice A3 q.2.length c3, .bool bz]) X3 rfl ?_
  simp only [Act.put, List.setIfInBounds_toArray, List.set_cons_zero, List.set_cons_succ]
  refine wpList_run (by kernel_rfl) (.slice A3 q.2.length c3) X3 rfl ?_
  simp only [Act.put, List.setIfInBounds_toArray, List.set_cons_zero, List.set_cons_succ]
  refine wpList_run (by kernel_rfl) (.bool bz) X3 rfl ?_
  simp only [Act.put, List.setIfInBounds_toArray, List.set_cons_zero, List.set_cons_succ]
  refine wpList_run (by kernel_rfl) (.slice A3 q.2.length c3) X3 rfl ?_
  simp only [Act.put, List.setIfInBounds_toArray, List.set_cons_zero, List.set_cons_succ]
  refine wpList_run (by kernel_rfl) (.bool bz) X3 rfl ?_
  simp only [Act.put, List.setIfInBounds_toArray, List.set_cons_zero, List.set_cons_succ]
  refine wpList_nil ?_
  cases bz with
  | false =>
    go_upto_region 3 with fail
    refine wp_region_lit ?_
    refine wpList_run (by kernel_rfl) (.bool false) X3 rfl ?_
    simp only [Act.put, List.setIfInBounds_toArray, List.set_cons_zero, List.set_cons_succ]
    refine wpList_run (by kernel_rfl) (.bool true) X3 rfl ?_
    simp only [Act.put, List.setIfInBounds_toArray, List.set_cons_zero, List.set_cons_succ]
    refine wpList_run (by kernel_rfl) (.bool true) X3 rfl ?_
    simp only [Act.put, List.setIfInBounds_toArray, List.set_cons_zero, List.set_cons_succ]
    refine wpList_skip (by kernel_rfl) ?_
    try simp only [Act.put, List.setIfInBounds_toArray, List.set_cons_zero, List.set_cons_succ]
    refine wpList_skip (by kernel_rfl) ?_
    try simp only [Act.put, List.setIfInBounds_toArray, List.set_cons_zero, List.set_cons_succ]
    refine wpList_skip (by kernel_rfl) ?_
    try simp only [Act.put, List.setIfInBounds_toArray, List.set_cons_zero, List.set_cons_succ]
    refine wpList_skip (by kernel_rfl) ?_
    try simp only [Act.put, List.setIfInBounds_toArray, List.set_cons_zero, List.set_cons_succ]
    refine wpList_run (by kernel_rfl) (.bool true) X3 rfl ?_
    simp only [Act.put, List.setIfInBounds_toArray, List.set_cons_zero, List.set_cons_succ]
    refine wpList_nil ?_
    go_upto_region 4 with fail
    refine wp_region_lit ?_
    refine wpList_run (by kernel_rfl) (.slice none 0 0) X3 rfl ?_
    simp only [Act.put, List.setIfInBounds_toArray, List.set_cons_zero, List.set_cons_succ]
    refine wpList_run (by kernel_rfl) (.bool false) X3 rfl ?_
    simp only [Act.put, List.setIfInBounds_toArray, List.set_cons_zero, List.set_cons_succ]
    refine wpList_nil ?_
    go_wp2_with fail
    go_ret2
    exact ⟨_, _, rfl, .inr ⟨rfl, rfl, HCS.out.2 (fun h => by have := of_decide_eq_false hbz; exact this h.1)⟩, B0.out⟩
  | true =>
    have hq10 := of_decide_eq_true hbz
    by_cases hfk : k < q.2.length
    · have hci4 : (((q.2.length : Nat) : Int) > (k : Int)) := by omega
      go_upto_region 3 with fail
      refine wp_region_lit ?_
      refine wpList_run (by kernel_rfl) (.bool true) X3 rfl ?_
      simp only [Act.put, List.setIfInBounds_toArray, List.set_cons_zero, List.set_cons_succ]
      refine wpList_run (by kernel_rfl) (.bool false) X3 rfl ?_
      simp only [Act.put, List.setIfInBounds_toArray, List.set_cons_zero, List.set_cons_succ]
      refine wpList_run (by kernel_rfl) (.bool false) X3 rfl ?_
      simp only [Act.put, List.setIfInBounds_toArray, List.set_cons_zero, List.set_cons_succ]
      refine wpList_run (by kernel_rfl) (.slice A3 q.2.length c3) X3 rfl ?_
      simp only [Act.put, List.setIfInBounds_toArray, List.set_cons_zero, List.set_cons_succ]
      refine wpList_run (by kernel_rfl) (.int .i64 ((q.2.length : Nat) : Int)) X3 (xo_len A3 q.2.length c3 Try.underlying22 rfl rfl) ?_
      simp only [Act.put, List.setIfInBounds_toArray, List.set_cons_zero, List.set_cons_succ]
      refine wpList_run (by kernel_rfl) (.int .i64 (k : Int)) X3 rfl ?_
      simp only [Act.put, List.setIfInBounds_toArray, List.set_cons_zero, List.set_cons_succ]
      refine wpList_run (by kernel_rfl) (.bool true) X3 (xo_gtrT .i64 ((q.2.length : Nat) : Int) (k : Int) (by omega) rfl rfl rfl) ?_
      simp only [Act.put, List.setIfInBounds_toArray, List.set_cons_zero, List.set_cons_succ]
      refine wpList_run (by kernel_rfl) (.bool true) X3 rfl ?_
      simp only [Act.put, List.setIfInBounds_toArray, List.set_cons_zero, List.set_cons_succ]
      refine wpList_nil ?_
      go_upto_region 4 with fail
      refine wp_region_lit ?_
      refine wpList_run (by kernel_rfl) (.slice none 0 0) X3 rfl ?_
      simp only [Act.put, List.setIfInBounds_toArray, List.set_cons_zero, List.set_cons_succ]
      refine wpList_run (by kernel_rfl) (.bool false) X3 rfl ?_
      simp only [Act.put, List.setIfInBounds_toArray, List.set_cons_zero, List.set_cons_succ]
      refine wpList_nil ?_
      go_wp2_with fail
      go_ret2
      exact ⟨_, _, rfl, .inr ⟨rfl, rfl, HCS.out.2 (fun h => by omega)⟩, B0.out⟩
    · have hci4 : ¬ (((q.2.length : Nat) : Int) > (k : Int)) := by omega
      go_upto_region 3 with fail
      refine wp_region_lit ?_
      refine wpList_run (by kernel_rfl) (.bool true) X3 rfl ?_
      simp only [Act.put, List.setIfInBounds_toArray, List.set_cons_zero, List.set_cons_succ]
      refine wpList_run (by kernel_rfl) (.bool false) X3 rfl ?_
      simp only [Act.put, List.setIfInBounds_toArray, List.set_cons_zero, List.set_cons_succ]
      refine wpList_run (by kernel_rfl) (.bool false) X3 rfl ?_
      simp only [Act.put, List.setIfInBounds_toArray, List.set_cons_zero, List.set_cons_succ]
      refine wpList_run (by kernel_rfl) (.slice A3 q.2.length c3) X3 rfl ?_
      simp only [Act.put, List.setIfInBounds_toArray, List.set_cons_zero, List.set_cons_succ]
      refine wpList_run (by kernel_rfl) (.int .i64 ((q.2.length : Nat) : Int)) X3 (xo_len A3 q.2.length c3 Try.underlying22 rfl rfl) ?_
      simp only [Act.put, List.setIfInBounds_toArray, List.set_cons_zero, List.set_cons_succ]
      refine wpList_run (by kernel_rfl) (.int .i64 (k : Int)) X3 rfl ?_
      simp only [Act.put, List.setIfInBounds_toArray, List.set_cons_zero, List.set_cons_succ]
      refine wpList_run (by kernel_rfl) (.bool false) X3 (xo_gtrF .i64 ((q.2.length : Nat) : Int) (k : Int) (by omega) rfl rfl rfl) ?_
      simp only [Act.put, List.setIfInBounds_toArray, List.set_cons_zero, List.set_cons_succ]
      refine wpList_run (by kernel_rfl) (.bool false) X3 rfl ?_
      simp only [Act.put, List.setIfInBounds_toArray, List.set_cons_zero, List.set_cons_succ]
      refine wpList_nil ?_
      go_upto_region 5 with fail
      refine wp_region_lit ?_
      refine wpList_run (by kernel_rfl) (.int .i64 (k : Int)) X3 rfl ?_
      simp only [Act.put, List.setIfInBounds_toArray, List.set_cons_zero, List.set_cons_succ]
      refine wpList_mk (by kernel_rfl) ((List.replicate k (0 : Gold.F)).flatMap feC).toArray 29 k k (xg_make (E := feC) (bytes := 8) (.int .u64 0) (0 : Gold.F) k .i64 Try.underlying22 (by kernel_rfl) rfl (by omega) (by omega) rfl rfl rfl) ?_
      intro g33 V2 hge h0 hb
      have Ge5 : Hid (X3.heap.size ≤ g33) := Lib.hid hge
      have B1 := Lib.hid hb
      have Fv6_33 : Hid (RowG feC V2 g33 29 (List.replicate k (0 : Gold.F))) := Lib.hid (h0)
      have Lt7 : Hid (g33 < V2.heap.size) := Lib.hid (xp_lt Fv6_33.out)
      clear hge h0 hb
      simp only [ptr, Act.put, List.setIfInBounds_toArray, List.set_cons_zero, List.set_cons_succ]
      refine wpList_run (by kernel_rfl) (.slice (some ⟨g33, 0, none⟩) k k) V2 rfl ?_
      simp only [Act.put, List.setIfInBounds_toArray, List.set_cons_zero, List.set_cons_succ]
      refine wpList_nil ?_
      go_upto_region 6 with fail
      refine wp_region_lit ?_
      refine wpList_run (by kernel_rfl) (.slice (some ⟨g33, 0, none⟩) k k) V2 rfl ?_
      simp only [Act.put, List.setIfInBounds_toArray, List.set_cons_zero, List.set_cons_succ]
      refine wpList_run (by kernel_rfl) (.slice A3 q.2.length c3) V2 rfl ?_
      simp only [Act.put, List.setIfInBounds_toArray, List.set_cons_zero, List.set_cons_succ]
      refine wpList_rowV (.int .i64 ((q.2.length : Nat) : Int)) g33 _ _ 29 (by kernel_rfl) (RowG.h Fv6_33.out) (xg_copy (dl := k) Fv6_33.out (List.length_replicate ..).symm (HS3.out.keep B1.out) (by omega) Try.underlying22 (by kernel_rfl) rfl rfl rfl) ?_
      intro X2_8 h1 hfar hbel hsz
      have hbr := hbel _ _ Ge5.out B1.out
      clear B1
      have B1 := Lib.hid hbr
      clear hbr
      clear Fv6_33
      have Fv6_33 : Hid (RowG feC X2_8 g33 29 (q.2 ++ (List.replicate k (0 : Gold.F)).drop q.2.length)) := Lib.hid (h1)
      have HszX2_8 := Lib.hid hsz
      clear h1 hfar hbel hsz
      simp only [ptr, Act.put, List.setIfInBounds_toArray, List.set_cons_zero, List.set_cons_succ]
      refine wpList_nil ?_
      go_upto_region 7 with fail
      refine wp_region_lit ?_
      refine wpList_run (by kernel_rfl) (.slice (some ⟨g33, 0, none⟩) k k) X2_8 rfl ?_
      simp only [Act.put, List.setIfInBounds_toArray, List.set_cons_zero, List.set_cons_succ]
      refine wpList_run (by kernel_rfl) (.slice (some ⟨g33, 0, none⟩) k k) X2_8 rfl ?_
      simp only [Act.put, List.setIfInBounds_toArray, List.set_cons_zero, List.set_cons_succ]
      refine wpList_run (by kernel_rfl) (.bool true) X2_8 rfl ?_
      simp only [Act.put, List.setIfInBounds_toArray, List.set_cons_zero, List.set_cons_succ]
      refine wpList_nil ?_
      have hro := Fv6_33.out
      have hge := (Nat.le_trans B0.out.size Ge5.out)
      have he : (q.2 ++ (List.replicate k (0 : Gold.F)).drop q.2.length) = Gold.tbF k (Gold.cfF q.2) := by rw [List.drop_replicate]; exact Gold.tbF_pad rfl (by omega)
      rw [he] at hro
      have ho := own_of_row (base := w.heap.size) (n := k) (RowG.h hro) hge (by rw [fl_len, Gold.tbF_length]) (by unfold maxLen; omega)
      go_wp2_with fail
      go_ret2
      have C0_2 := Lib.hid (bel_step B0.out B1.out)
      exact ⟨_, _, rfl, .inl ⟨rfl, q.2, hqt, by omega, HCS.out.1 ⟨hq10, by omega⟩, g33, rfl, ho⟩, C0_2.out⟩
end Go.Proofs.Ytkefijogpiofbaa

