/- Several texts in one: Smg, Smh, Smi, Smj, Smk, Sml. -/
import Derived.Test.YtombcjdhjcmhhaaGc
import Derived.Deep.CutRange
import Derived.Test.YtombcjdhjcmhhaaPolJ
import Derived.Test.YtombcjdhjcmhhaaGa
/- Contracts of package sumcheck: the round polynomial; valid sums. -/
namespace Go.Proofs.Ytombcjdhjcmhhaa
set_option maxRecDepth 8000
open Go.RowKit Gold

/-- column i of the tables with variable 0 put to r -/
def colB (Ls : List (List E2)) (r : E2) (i : Nat) : List E2 := tabE Ls.length fun j => bndF (cfE (tbl Ls j)) r i
def slopeE (L : List E2) (i : Nat) : E2 := cfE L (2 * i + 1) - cfE L (2 * i)
theorem tbl_bnd {Ls : List (List E2)} {r : E2} {j : Nat} (h : j < Ls.length) : tbl (bndS Ls r) j = bndE (tbl Ls j) r := by
  refine tbl_some ?_
  unfold bndS
  rw [List.getElem?_map, tbl_get h]
  rfl
theorem colE_bnd {Ls : List (List E2)} {ts : List Tm} {K : Nat} (h : OkS Ls ts (K + 1)) (r : E2) {i : Nat} (hi : i < 2 ^ K) : colE (bndS Ls r) i = colB Ls r i := by
  unfold colE colB
  rw [show (bndS Ls r).length = Ls.length by unfold bndS; simp]
  refine tabE_congr fun j hj => ?_
  rw [tbl_bnd hj]
  have hl : (tbl Ls j).length = 2 ^ (K + 1) := h.len _ (List.mem_of_getElem? (tbl_get hj))
  unfold bndE
  rw [cfE_tabE, if_pos (by rw [hl, Nat.pow_succ]; omega)]
theorem rndE_get {Ls : List (List E2)} {ts : List Tm} {K : Nat} (h : OkS Ls ts (K + 1)) : rndE Ls ts (2 ^ (K + 1)) = tabE (degT ts + 1) fun x => sumE (2 ^ K) fun i => finE ts (colB Ls (nd x) i) := by
  unfold rndE
  refine tabE_congr fun x _ => ?_
  rw [show 2 ^ (K + 1) / 2 = 2 ^ K by rw [Nat.pow_succ]; omega]
  unfold totE
  refine sumE_congr fun i hi => ?_
  rw [colE_bnd h _ hi]
theorem nd_next (x : Nat) : nd (x + 1) = nd x + E2.one := by
  unfold nd
  rw [show ((x + 1 : Nat) : Int) = (x : Int) + 1 by omega, ← ndZ_add]
  rfl
theorem bndF_next (L : List E2) (x i : Nat) : bndF (cfE L) (nd x) i + slopeE L i = bndF (cfE L) (nd (x + 1)) i := by
  rw [nd_next]
  unfold bndF btw slopeE
  rw [E2.add_mul, E2.one_mul, E2.add_assoc]
theorem bndF_start (L : List E2) (i : Nat) : bndF (cfE L) (nd 0) i = cfE L (2 * i) := by
  unfold bndF btw
  rw [nd_zero, E2.zero_mul, E2.add_zero]

theorem colB_length (Ls : List (List E2)) (r : E2) (i : Nat) : (colB Ls r i).length = Ls.length := tabE_length _ _
theorem colB_of {Ls : List (List E2)} {r : E2} {i : Nat} {ys : List E2} (hl : ys.length = Ls.length) (h : ∀ j, j < Ls.length → ys[j]? = some (bndF (cfE (tbl Ls j)) r i)) : ys = colB Ls r i := by
  apply List.ext_getElem?
  intro j
  unfold colB
  by_cases hj : j < Ls.length
  · rw [h j hj, tabE_get _ hj]
  · rw [List.getElem?_eq_none (by omega), List.getElem?_eq_none (by rw [tabE_length]; omega)]
def slopes (Ls : List (List E2)) (i : Nat) : List E2 := tabE Ls.length fun j => slopeE (tbl Ls j) i
theorem slopes_length (Ls : List (List E2)) (i : Nat) : (slopes Ls i).length = Ls.length := tabE_length _ _
theorem slopes_of {Ls : List (List E2)} {i : Nat} {ys : List E2} (hl : ys.length = Ls.length) (h : ∀ j, j < Ls.length → ys[j]? = some (slopeE (tbl Ls j) i)) : ys = slopes Ls i := by
  apply List.ext_getElem?
  intro j
  unfold slopes
  by_cases hj : j < Ls.length
  · rw [h j hj, tabE_get _ hj]
  · rw [List.getElem?_eq_none (by omega), List.getElem?_eq_none (by rw [tabE_length]; omega)]
theorem sums_step {F : Nat → Nat → E2} {N x h : Nat} (hx : x < N) : (tabE N fun y => sumE (if y < x then h + 1 else h) (F y)).set x (sumE h (F x) + F x h) = tabE N fun y => sumE (if y < x + 1 then h + 1 else h) (F y) := by
  apply List.ext_getElem?
  intro j
  rw [List.getElem?_set, tabE_length]
  by_cases hj : j < N
  · rw [tabE_get _ hj, tabE_get _ hj]
    by_cases e : x = j
    · subst e
      rw [if_pos rfl, if_pos hx, if_pos (Nat.lt_succ_self _)]
      rfl
    · rw [if_neg e]
      by_cases hl : j < x
      · rw [if_pos hl, if_pos (by omega)]
      · rw [if_neg hl, if_neg (by omega)]
  · rw [List.getElem?_eq_none (by rw [tabE_length]; omega), List.getElem?_eq_none (by rw [tabE_length]; omega), if_neg (by omega)]
/-- only the blocks g1 and g2 may have changed -/
def Grow2 (w w' : World) (g1 g2 : Nat) : Prop := ∀ b o, w.heap[b]? = some o → b ≠ g1 → b ≠ g2 → w'.heap[b]? = some o
theorem Grow2.cell {w w' : World} {g1 g2 : Nat} (h : Grow2 w w' g1 g2) {a : Addr} {v : Value} (hc : w.cell? a = some v) (h1 : a.block ≠ g1) (h2 : a.block ≠ g2) : w'.cell? a = some v := by
  have hb := World.block_lt_of_cell? w _ hc
  have e : w.heap[a.block]? = some w.heap[a.block] := Array.getElem?_eq_getElem hb
  exact cell_block hc ((h _ _ e h1 h2).trans e.symm)
theorem Grow2.below {w w' w2 : World} {g1 g2 : Nat} (h : Grow2 w w' g1 g2) (hb : Below w'.heap.size w' w2) : Grow2 w w2 g1 g2 := fun b o ho h1 h2 => heap_keep (h b o ho h1 h2) hb
theorem Grow2.set1 {w w' : World} {g1 g2 k : Nat} {u : Value} (h : Grow2 w w' g1 g2) : Grow2 w (w'.setCell ⟨g1, k, none⟩ u) g1 g2 := fun b o ho h1 h2 => (Below.heap_setCell w' _ u b h1).trans (h b o ho h1 h2)
theorem Grow2.set2 {w w' : World} {g1 g2 k : Nat} {u : Value} (h : Grow2 w w' g1 g2) : Grow2 w (w'.setCell ⟨g2, k, none⟩ u) g1 g2 := fun b o ho h1 h2 => (Below.heap_setCell w' _ u b h2).trans (h b o ho h1 h2)
theorem run_storeT {ev : Operand → Value} {o : Oper} {p x : Operand} {u1 u2 : Value} {w : World} (b i : Nat) (y : E2) (ho : o.op = .store 43 p x) (hp : ev p = .pointer (some ⟨b, i, none⟩)) (hx : ev x = .agg #[.int .u64 (vF y.A), .int .u64 (vF y.B)])
    (c0 : w.cell? ⟨b, i, none⟩ = some u1) (c1 : w.cell? ⟨b, i + 1, none⟩ = some u2) (f0 : w.frozen? ⟨b, i, none⟩ = false) (f1 : w.frozen? ⟨b, i + 1, none⟩ = false) :
    (execOp ev o).run Try.prog w = .ok .skip ((w.setCell ⟨b, i, none⟩ (.int .u64 (vF y.A))).setCell ⟨b, i + 1, none⟩ (.int .u64 (vF y.B))) := by
  unfold execOp
  rw [ho]
  simp only [hp, hx]
  go_simp
/-- what stays while the sums of a round are built: the sum's box, the terms' box -/
structure RdI (w0 wr : World) (bx bc : Nat) (X0 X1 M : Value) : Prop where
  x : Two wr bx 30 X0 X1
  c : One wr bc 28 M
  b : Below w0.heap.size w0 wr
theorem RdI.keep {w0 wr w' : World} {bx bc : Nat} {X0 X1 M : Value} (h : RdI w0 wr bx bc X0 X1 M) (hb : Below wr.heap.size wr w') : RdI w0 w' bx bc X0 X1 M := ⟨h.x.keep hb, h.c.keep hb, below_step h.b hb⟩
theorem RdI.far {w0 wr : World} {bx bc : Nat} {X0 X1 M : Value} (h : RdI w0 wr bx bc X0 X1 M) {a : Addr} (x : Value) (h1 : bx ≠ a.block) (h2 : bc ≠ a.block) (h3 : w0.heap.size ≤ a.block) : RdI w0 (wr.setCell a x) bx bc X0 X1 M := ⟨h.x.far x h1, h.c.far x h2, h.b.setCell h3 x⟩

set_option maxHeartbeats 8000000 in
theorem round0_any (A : Option Addr) (n c : Nat) (Ls : List (List E2)) (B : Option Addr) (m d : Nat) (ts : List Tm) (K : Nat) (w : World) (hT : ST w A n c Ls) (hM : TM w B m d ts) (hok : OkS Ls ts (K + 1)) :
    Calls Try.prog 43 #[.agg #[.slice A n c, .slice B m d]] w fun e w' => ∃ g q, e = .returned (.slice (some ⟨g, 0, none⟩) q q) ∧ q = degT ts + 1 ∧ Tab w' g (rndE Ls ts (2 ^ (K + 1))) ∧ w.heap.size ≤ g ∧ Below w.heap.size w w' := by
  have hcap := hT.cap
  have htop := hT.top
  have hn0 : 0 < n := by rw [hT.len]; exact hok.pos
  have hn16 : n ≤ 16 := by rw [hT.len]; exact hok.few
  have hd3 := hok.deg3
  obtain ⟨H, hH⟩ : ∃ H, H = 2 ^ K := ⟨_, rfl⟩
  have hN : ∀ L ∈ Ls, L.length = 2 * H := fun L hL => by rw [hok.len L hL, hH, Nat.pow_succ]; omega
  have hH1 : 2 * H ≤ 65536 := by rw [hH]; have := hok.pow; rw [Nat.pow_succ] at this; omega
  have hHp : 0 < H := by rw [hH]; exact Nat.two_pow_pos K
  have HH := Lib.hid hH
  have HN := Lib.hid hN
  have HT := Lib.hid hT
  have HM := Lib.hid hM
  have HOK := Lib.hid hok
  have HLn := Lib.hid hT.len
  clear hT hM hok hN hH
  go_enter Try.func43, Try.ntmps43
  go_upto_region 1 with fail
  refine wp_named1 (fun V hbV g0 hzV => ?_)
  have HX := Lib.hid (show Two V w.heap.size 30 (.slice A n c) (.slice B m d) from g0)
  have HB := Lib.hid hbV
  clear g0 hbV
  have x0 := HX.out.c0
  have x1 := HX.out.c1
  go_wp2_with fail
  clear x0 x1
  refine (combination_any B m d V).mono ?_
  rintro e W1 ⟨rfl, hO, hb⟩
  have HC1 := Lib.hid hO
  have HX1 := Lib.hid (HX.out.keep hb)
  have HB1 := Lib.hid (below_step HB.out hb)
  clear hO hb HX HB
  have x0 := HX1.out.c0
  have x1 := HX1.out.c1
  go_wp2_with fail
  clear x0 x1
  refine (sDegree_any (.slice A n c) B m d (rawT ts) W1 (HM.out.keep HB1.out) ⟨_, _, _, rfl⟩).mono ?_
  rintro e W2 ⟨rfl, hb⟩
  have HC2 := Lib.hid (HC1.out.keep hb)
  have HX2 := Lib.hid (HX1.out.keep hb)
  have HB2 := Lib.hid (below_step HB1.out hb)
  clear hb HC1 HX1 HB1
  rw [show degZ (rawT ts) = degT ts from rfl]
  generalize hdg : degT ts = D at *
  have HDG := Lib.hid hdg
  clear hdg
  have hmk := run_makeE (D + 1) (by omega)
  rw [show ((D + 1 : Nat) : Int) = (D : Int) + 1 by omega] at hmk
  generalize hr0 : List.replicate (D + 1) E2.zero = r0 at hmk
  have HR0 := Lib.hid hr0
  clear hr0
  go_upto_region 3 with fail
  clear hmk
  refine wp_named1 (fun V3 hbV g0 hzV3 => ?_)
  have HS3 := Lib.hid (Tab.of_row (show Row V3 W2.heap.size r0 from g0))
  have HI3 := Lib.hid (show RdI w V3 w.heap.size V.heap.size (.slice A n c) (.slice B m d) (.slice B m d) from ⟨HX2.out.keep hbV, HC2.out.keep hbV, below_step HB2.out hbV⟩)
  have hs2 : V.heap.size < W2.heap.size := HC2.out.lt
  clear g0 hbV HC2 HX2 HB2
  generalize W2.heap.size = g at *
  generalize V.heap.size = bc at *
  have x0 := HI3.out.x.c0
  have x1 := HI3.out.x.c1
  have hmk := run_makeE n (by omega)
  generalize hr1 : List.replicate n E2.zero = r1 at hmk
  have HR1 := Lib.hid hr1
  clear hr1
  go_cut [5, 6] from 19 to 26 (fun s t wx => ∃ ga gs, s = .slice (some ⟨ga, 0, none⟩) n n ∧ t = .slice (some ⟨gs, 0, none⟩) n n ∧ Tab wx ga r1 ∧ Tab wx gs r1 ∧ ga ≠ gs ∧ V3.heap.size ≤ ga ∧ V3.heap.size ≤ gs ∧ Below V3.heap.size V3 wx)
  case first =>
    have y0 := cell_alloc x0 (.cells (cellsE r1).toArray 43)
    have y1 := cell_alloc x1 (.cells (cellsE r1).toArray 43)
    have t1 := (Tab.of_row (show Row (V3.alloc (.cells (cellsE r1).toArray 43)) V3.heap.size r1 from heap_new _ _)).keep ((Below.refl _ _).alloc (Nat.le_refl _) (.cells (cellsE r1).toArray 43)).drew
    have t2 := (Tab.of_row (show Row ((V3.alloc (.cells (cellsE r1).toArray 43)).alloc (.cells (cellsE r1).toArray 43)) (V3.heap.size + 1) r1 by rw [← World.size_alloc V3 (.cells (cellsE r1).toArray 43)]; exact heap_new _ _)).keep (Below.refl _ _).drew
    have hb0 := (((Below.refl V3.heap.size V3).alloc (Nat.le_refl _) (.cells (cellsE r1).toArray 43)).alloc (by simp) (.cells (cellsE r1).toArray 43)).drew
    have T1 := Lib.hid t1
    have T2 := Lib.hid t2
    have HB0 := Lib.hid hb0
    clear t1 t2 hb0
    go_region
    all_goals
      go_wp2_with fail
      go_meet
    all_goals first
      | exact ⟨_, _, rfl, rfl, T1.out, T2.out, by omega, Nat.le_refl _, by omega, HB0.out⟩
      | exact ⟨_, _, rfl, rfl, T2.out, T1.out, by omega, by omega, Nat.le_refl _, HB0.out⟩
  case rest =>
    obtain ⟨ga, gs, rfl, rfl, hta, hts, hne, hga, hgs, hb⟩ := hcut
    clear x0 x1 hmk
    have HA := Lib.hid hta
    have HSl := Lib.hid hts
    have HS := Lib.hid (HS3.out.keep hb)
    have HI := Lib.hid (HI3.out.keep hb)
    have hag : g < ga := by omega
    have hsg : g < gs := by omega
    have hr1l : r1.length = n := by rw [← HR1.out, List.length_replicate]
    have HR1L := Lib.hid hr1l
    have hr0l : r0 = tabE (D + 1) fun x => sumE 0 fun i => finE ts (colB Ls (nd x) i) := by
      rw [← HR0.out]
      apply List.ext_getElem?
      intro j
      by_cases hj : j < D + 1
      · rw [tabE_get _ hj, List.getElem?_replicate, if_pos hj]
        rfl
      · rw [List.getElem?_eq_none (by rw [List.length_replicate]; omega), List.getElem?_eq_none (by rw [tabE_length]; omega)]
    have HR0L := Lib.hid hr0l
    clear hta hts hb HS3 HI3 hr1l hr0l HR1 HR0
    go_upto_region 5 with fail
    go_loopw [7] (fun s wr => ∃ (e2 h : Nat) (xa xs : List E2), e2 = 2 * h ∧ h ≤ H ∧ s = .int .i64 (e2 : Int) ∧ xa.length = n ∧ xs.length = n ∧ Tab wr ga xa ∧ Tab wr gs xs ∧ Tab wr g (tabE (D + 1) fun x => sumE h fun i => finE ts (colB Ls (nd x) i)) ∧ RdI w wr w.heap.size bc (.slice A n c) (.slice B m d) (.slice B m d)) (fun s _ => 2 * H - (intOf s).toNat)
    case atStart => exact ⟨0, 0, r1, r1, rfl, Nat.zero_le _, rfl, HR1L.out, HR1L.out, HA.out, HSl.out, by rw [← HR0L.out]; exact HS.out, HI.out⟩
    case round =>
      clear HA HSl HS HI HR1L HR0L
      obtain ⟨e2, h, xa, xs, he2, hh, rfl, hal, hsl, ha, hsS, hs, hI⟩ := hrel
      have HAL := Lib.hid hal
      have HSL := Lib.hid hsl
      have HA := Lib.hid ha
      have HSl := Lib.hid hsS
      have HS := Lib.hid hs
      have HI := Lib.hid hI
      have HE2 := Lib.hid he2
      clear hal hsl ha hsS hs hI
      obtain ⟨L0, hL0⟩ : ∃ L0, Ls[0]? = some L0 := ⟨Ls[0]'(by have := HLn.out; omega), List.getElem?_eq_getElem _⟩
      obtain ⟨ad, B0, m0, d0, rfl, h0, hs⟩ := HT.out.at_ hL0
      have hz0 : ad.add 0 = ad := by unfold Addr.add; rw [if_pos rfl]
      rw [hz0] at h0
      obtain ⟨N, hNN⟩ : ∃ N, N = 2 * H := ⟨_, rfl⟩
      have hm0 : m0 = N := by rw [hs.len, HN.out L0 (List.mem_of_getElem? hL0), hNN]
      subst hm0
      have HNN := Lib.hid hNN
      have y0 := cell_keep h0 HI.out.b
      have x0 := HI.out.x.c0
      have x1 := HI.out.x.c1
      clear hL0 hs h0 hz0
      by_cases hlt : h < H
      · have hh1 : (e2 : Int) < (m0 : Int) := by omega
        have hh2 : (e2 : Int) + 1 < (m0 : Int) := by omega
        have hh0 : (0 : Int) ≤ (e2 : Int) := by omega
        have hh3 : ((e2 : Int) + 1).toNat = e2 + 1 := by omega
        have hm64 : m0 ≤ 65536 := by omega
        clear he2 hNN
        go_upto_region 8 with fail
        clear x0 x1 y0
        go_loopw [39] (fun s w2 => ∃ (k : Nat) (za zs : List E2), k ≤ n ∧ s = .int .i64 k ∧ za.length = n ∧ zs.length = n ∧ (∀ j, j < k → za[j]? = some (cfE (tbl Ls j) (2 * h))) ∧ (∀ j, j < k → zs[j]? = some (slopeE (tbl Ls j) h)) ∧ Tab w2 ga za ∧ Tab w2 gs zs ∧ Tab w2 g (tabE (D + 1) fun x => sumE h fun i => finE ts (colB Ls (nd x) i)) ∧ RdI w w2 w.heap.size bc (.slice (some ad) n c) (.slice B m d) (.slice B m d)) (fun s _ => n - (intOf s).toNat)
        case atStart => exact ⟨0, xa, xs, Nat.zero_le _, rfl, HAL.out, HSL.out, fun j hj => absurd hj (Nat.not_lt_zero _), fun j hj => absurd hj (Nat.not_lt_zero _), HA.out, HSl.out, HS.out, HI.out⟩
        case round =>
          clear HA HSl HS HI HAL HSL
          obtain ⟨k, za, zs, hk, rfl, hal, hsl, hza, hzs, ha, hsS, hs, hI⟩ := hrel
          have HAL := Lib.hid hal
          have HSL := Lib.hid hsl
          have HZA := Lib.hid hza
          have HZS := Lib.hid hzs
          have HA := Lib.hid ha
          have HSl := Lib.hid hsS
          have HS := Lib.hid hs
          have HI := Lib.hid hI
          clear hal hsl hza hzs ha hsS hs hI
          by_cases hlk : k < n
          · obtain ⟨L, hL⟩ : ∃ L, Ls[k]? = some L := ⟨Ls[k]'(by have := HLn.out; omega), List.getElem?_eq_getElem _⟩
            obtain ⟨ad2, B2, m2, d2, e, h0, hs⟩ := HT.out.at_ hL
            injection e with e
            subst e
            have hm2 : m2 = m0 := by rw [hs.len, HN.out L (List.mem_of_getElem? hL), HNN.out]
            subst hm2
            obtain ⟨x, hx⟩ := hs.get (i := e2) (by omega)
            obtain ⟨ad3, rfl, p0, p1⟩ := hs.at_ hx
            obtain ⟨y, hy⟩ := hs.get (i := e2 + 1) (by omega)
            obtain ⟨ad4, e, q0, q1⟩ := hs.at_ hy
            injection e with e
            subst e
            have HXe := Lib.hid (show cfE (tbl Ls k) (2 * h) = x by rw [tbl_some hL, ← HE2.out, cfE_some hx])
            have HYe := Lib.hid (show slopeE (tbl Ls k) h = y - x by unfold slopeE; rw [tbl_some hL, ← HE2.out, cfE_some hx, cfE_some hy])
            have y0 := cell_keep h0 HI.out.b
            have hgw : w.heap.size ≤ ga := by omega
            have hgw2 : w.heap.size ≤ gs := by omega
            have key : ∀ {a : Addr} {v : Value}, w.cell? a = some v → ∀ w', Grow2 wr w' ga gs → w'.cell? a = some v := fun {a v} h w' hg => by
              have hb := World.block_lt_of_cell? w _ h
              exact hg.cell (cell_keep h HI.out.b) (by omega) (by omega)
            have l0 := LaterS.get (S := fun w' => Grow2 wr w' ga gs) (key p0)
            have l1 := LaterS.get (S := fun w' => Grow2 wr w' ga gs) (key p1)
            have l2 := LaterS.get (S := fun w' => Grow2 wr w' ga gs) (key q0)
            have l3 := LaterS.get (S := fun w' => Grow2 wr w' ga gs) (key q1)
            clear hL h0 hs hx hy p0 p1 q0 q1 key
            have hk1 : (k : Int) < (n : Int) := by omega
            have hk0 : (0 : Int) ≤ (k : Int) := by omega
            go_upto_region 10 with fail
            clear y0
            refine wp_heldS (fun w' => Grow2 wr w' ga gs) (by kernel_rfl) (lexOK_of (by kernel_rfl) (by kernel_rfl)) (chainOK_of (by kernel_rfl)) (fun _ _ h _ _ => h) (fun W hbW hSW hinh => ?_)
            have HA0 := Lib.hid (HA.out.keep hbW)
            have HSl0 := Lib.hid (HSl.out.keep hbW)
            have HS0 := Lib.hid (HS.out.keep hbW)
            have HI0 := Lib.hid (HI.out.keep hbW)
            have HG0 := Lib.hid hSW
            clear hSW hbW
            refine wpHeld_seg 17 (LaterS.some HG0.out) (by kernel_rfl) ?_
            simp only [List.take_succ_cons, List.take_zero, List.drop_succ_cons, List.drop_zero]
            repeat (go_big_quiet_step (fail))
            refine wpQuiet_nil ?_
            clear l0 l1 l2 l3
            refine wpHeld_call 60 Try.func60 (by kernel_rfl) (by kernel_rfl) _ _ #[.agg #[.int .u64 (vF (y).A), .int .u64 (vF (y).B)], .agg #[.int .u64 (vF (x).A), .int .u64 (vF (x).B)]] rfl (by kernel_rfl) (by kernel_rfl) ?_
            refine (extSub_any y x _).mono ?_
            rintro e WX ⟨rfl, hb⟩
            have HAX := Lib.hid (HA0.out.keep hb)
            have HSlX := Lib.hid (HSl0.out.keep hb)
            have HSX := Lib.hid (HS0.out.keep hb)
            have HIX := Lib.hid (HI0.out.keep hb)
            have HGX := Lib.hid (HG0.out.below hb)
            clear hb HA0 HSl0 HS0 HI0 HG0
            refine ⟨_, rfl, LaterS.some HGX.out, ?_⟩
            simp only [Act.put, List.setIfInBounds_toArray, List.set_cons_zero, List.set_cons_succ]
            refine wpHeld_seg 1 (LaterS.some HGX.out) (by kernel_rfl) ?_
            simp only [List.take_succ_cons, List.take_zero, List.drop_succ_cons, List.drop_zero]
            repeat (go_big_quiet_step (fail))
            refine wpQuiet_nil ?_
            obtain ⟨u, hu⟩ : ∃ u, za[k]? = some u := ⟨za[k]'(by have := HAL.out; omega), List.getElem?_eq_getElem _⟩
            obtain ⟨v, hv⟩ : ∃ v, zs[k]? = some v := ⟨zs[k]'(by have := HSL.out; omega), List.getElem?_eq_getElem _⟩
            have HG1 := Lib.hid ((HGX.out.set1 (k := k * 2) (u := .int .u64 (vF x.A))).set1 (k := k * 2 + 1) (u := .int .u64 (vF x.B)))
            refine wpHeld_run0 _ (by kernel_rfl) (by kernel_rfl) (run_storeT ga (k * 2) x rfl rfl rfl (HAX.out.at_ hu).1 (HAX.out.at_ hu).2 (HAX.out.free _) (HAX.out.free _)) (LaterS.some HG1.out) ?_
            have HSl1 := Lib.hid ((HSlX.out.far (a := ⟨ga, k * 2, none⟩) (.int .u64 (vF x.A)) (by simp; omega)).far (a := ⟨ga, k * 2 + 1, none⟩) (.int .u64 (vF x.B)) (by simp; omega))
            simp only [Act.put]
            refine wpHeld_seg 1 (LaterS.some HG1.out) (by kernel_rfl) ?_
            simp only [List.take_succ_cons, List.take_zero, List.drop_succ_cons, List.drop_zero]
            repeat (go_big_quiet_step (fail))
            refine wpQuiet_nil ?_
            refine wpHeld_run0 _ (by kernel_rfl) (by kernel_rfl) (run_storeT gs (k * 2) (y - x) rfl rfl rfl (HSl1.out.at_ hv).1 (HSl1.out.at_ hv).2 (HSl1.out.free _) (HSl1.out.free _)) (LaterS.some ((HG1.out.set2 (k := k * 2)).set2 (k := k * 2 + 1))) ?_
            refine wpHeld_nil ?_
            clear hu hv
            go_wp2_with fail
            go_roundw
            case rel =>
              have hw : w.heap.size ≤ ga := by omega
              have hw2 : w.heap.size ≤ gs := by omega
              refine ⟨k + 1, za.set k x, zs.set k (y - x), by omega, by go_num, by rw [List.length_set]; exact HAL.out, by rw [List.length_set]; exact HSL.out, fun j hj => ?_, fun j hj => ?_, ?_, ?_, ?_, ?_⟩
              · rw [List.getElem?_set]
                by_cases e : k = j
                · subst e
                  rw [if_pos rfl, if_pos (by have := HAL.out; omega), HXe.out]
                · rw [if_neg e]
                  exact HZA.out j (by omega)
              · rw [List.getElem?_set]
                by_cases e : k = j
                · subst e
                  rw [if_pos rfl, if_pos (by have := HSL.out; omega), HYe.out]
                · rw [if_neg e]
                  exact HZS.out j (by omega)
              · exact ((HAX.out.set k x).far _ (by simp; omega)).far _ (by simp; omega)
              · exact ((HSlX.out.far _ (by simp; omega)).far _ (by simp; omega)).set k (y - x)
              · exact (((HSX.out.far _ (by simp; omega)).far _ (by simp; omega)).far _ (by simp; omega)).far _ (by simp; omega)
              · exact (((HIX.out.far _ (by simp; omega) (by simp; omega) (by simp; omega)).far _ (by simp; omega) (by simp; omega) (by simp; omega)).far _ (by simp; omega) (by simp; omega) (by simp; omega)).far _ (by simp; omega) (by simp; omega) (by simp; omega)
            case measure => simp [intOf]; omega
          · have hkn : k = n := by omega
            subst hkn
            have hza : za = colB Ls (nd 0) h := colB_of (by rw [HAL.out, HLn.out]) (fun j hj => by rw [bndF_start]; exact HZA.out j (by rw [HLn.out]; exact hj))
            have hzs : zs = slopes Ls h := slopes_of (by rw [HSL.out, HLn.out]) (fun j hj => HZS.out j (by rw [HLn.out]; exact hj))
            subst hza
            subst hzs
            clear HZA HZS HAL HSL
            have hsum0 : (tabE (D + 1) fun x => sumE h fun i => finE ts (colB Ls (nd x) i)) = tabE (D + 1) fun x => sumE (if x < 0 then h + 1 else h) fun i => finE ts (colB Ls (nd x) i) := tabE_congr fun x _ => by rw [if_neg (Nat.not_lt_zero _)]
            have HS0 := Lib.hid (show Tab wr g (tabE (D + 1) fun x => sumE (if x < 0 then h + 1 else h) fun i => finE ts (colB Ls (nd x) i)) by rw [← hsum0]; exact HS.out)
            clear hsum0 HS
            go_wp2_with fail
            generalize wr = W5 at *
            go_loopw [67] (fun s w2 => ∃ x : Nat, x ≤ D + 1 ∧ s = .int .i64 x ∧ Tab w2 ga (colB Ls (nd x) h) ∧ Tab w2 gs (slopes Ls h) ∧ Tab w2 g (tabE (D + 1) fun y => sumE (if y < x then h + 1 else h) fun i => finE ts (colB Ls (nd y) i)) ∧ RdI w w2 w.heap.size bc (.slice (some ad) k c) (.slice B m d) (.slice B m d)) (fun s _ => D + 1 - (intOf s).toNat)
            case atStart => exact ⟨0, Nat.zero_le _, rfl, HA.out, HSl.out, HS0.out, HI.out⟩
            case round =>
              clear HA HSl HS0 HI
              obtain ⟨x, hx, rfl, ha, hsS, hs, hI⟩ := hrel
              have HA := Lib.hid ha
              have HSl := Lib.hid hsS
              have HS := Lib.hid hs
              have HI := Lib.hid hI
              clear ha hsS hs hI
              by_cases hlx : x < D + 1
              · have hx1 : (x : Int) < (D : Int) + 1 := by omega
                have hx0 : (0 : Int) ≤ (x : Int) := by omega
                obtain ⟨q, hq⟩ : ∃ q, (sumE h fun i => finE ts (colB Ls (nd x) i)) = q := ⟨_, rfl⟩
                have hget : (tabE (D + 1) fun y => sumE (if y < x then h + 1 else h) fun i => finE ts (colB Ls (nd y) i))[x]? = some q := by rw [tabE_get _ hlx, if_neg (Nat.lt_irrefl _), hq]
                have HQ := Lib.hid hq
                have HG := Lib.hid hget
                have s0 := Later.cell (HS.out.at_ hget).1
                have s1 := Later.cell (HS.out.at_ hget).2
                have HSl5 := Lib.hid (HA.out.sl (n := k) (c := k) (by rw [colB_length]; exact HLn.out) (Nat.le_refl _) (by omega))
                have HII := Lib.hid (show InT ts k by rw [HLn.out]; exact HOK.out.idx)
                clear hq hget
                go_upto_region 15 with fail
                refine wp_later_tail 11 (by kernel_rfl) (by kernel_rfl) ?_
                simp only [List.take_succ_cons, List.take_zero, List.drop_succ_cons, List.drop_zero]
                repeat (go_big_quiet_step (first
                  | (go_at_call 62; with_reducible exact Calls.later (combination1_any B m d ts (some ⟨ga, 0, none⟩) k k (colB Ls (nd x) h) bc _ ((HM.out.keep HI.out.b).keep (Later.below _)) (HSl5.out.keep (Later.below _)) (HI.out.c.keep (Later.below _)) HII.out))
                  | (go_at_call 47; with_reducible exact Calls.later (extAdd_any q (finE ts (colB Ls (nd x) h)) _))))
                refine wpQuiet_nil ?_
                intro X
                clear s0 s1 HSl5
                have HAX := Lib.hid (HA.out.keep X.below)
                have HSlX := Lib.hid (HSl.out.keep X.below)
                have HSX := Lib.hid (HS.out.keep X.below)
                have HIX := Lib.hid (HI.out.keep X.below)
                have c0 := (HSX.out.at_ HG.out).1
                have c1 := (HSX.out.at_ HG.out).2
                have f0 := HSX.out.free (x * 2)
                have f1 := HSX.out.free (x * 2 + 1)
                go_upto_region 16 with fail
                clear c0 c1 f0 f1
                refine wp_named (fun W => Tab W ga (colB Ls (nd x) h) ∧ Tab W gs (slopes Ls h) ∧ Tab W g (tabE (D + 1) fun y => sumE (if y < x + 1 then h + 1 else h) fun i => finE ts (colB Ls (nd y) i)) ∧ RdI w W w.heap.size bc (.slice (some ad) k c) (.slice B m d) (.slice B m d)) ?_ ?_
                · refine ⟨(HAX.out.far _ (by simp; omega)).far _ (by simp; omega), (HSlX.out.far _ (by simp; omega)).far _ (by simp; omega), ?_, (HIX.out.far _ (by simp; omega) (by simp; omega) (by simp; omega)).far _ (by simp; omega) (by simp; omega) (by simp; omega)⟩
                  rw [← sums_step (F := fun y i => finE ts (colB Ls (nd y) i)) hlx]
                  have := HSX.out.set x (q + finE ts (colB Ls (nd x) h))
                  rw [← HQ.out] at this ⊢
                  exact this
                · rintro W6 ⟨ha, hsS, hs, hI⟩
                  have HA6 := Lib.hid ha
                  have HSl6 := Lib.hid hsS
                  have HS6 := Lib.hid hs
                  have HI6 := Lib.hid hI
                  clear ha hsS hs hI HAX HSlX HSX HIX HA HSl HS HI HG
                  go_wp2_with fail
                  generalize W6 = W7 at *
                  go_loopw [83] (fun s w3 => ∃ (j : Nat) (za : List E2), j ≤ k ∧ s = .int .i64 j ∧ za.length = k ∧ (∀ i, i < j → za[i]? = some (bndF (cfE (tbl Ls i)) (nd (x + 1)) h)) ∧ (∀ i, j ≤ i → i < k → za[i]? = some (bndF (cfE (tbl Ls i)) (nd x) h)) ∧ Tab w3 ga za ∧ Tab w3 gs (slopes Ls h) ∧ Tab w3 g (tabE (D + 1) fun y => sumE (if y < x + 1 then h + 1 else h) fun i => finE ts (colB Ls (nd y) i)) ∧ RdI w w3 w.heap.size bc (.slice (some ad) k c) (.slice B m d) (.slice B m d)) (fun s _ => k - (intOf s).toNat)
                  case atStart => exact ⟨0, colB Ls (nd x) h, Nat.zero_le _, rfl, by rw [colB_length]; exact HLn.out.symm, fun i hi => absurd hi (Nat.not_lt_zero _), fun i _ hi => by unfold colB; rw [tabE_get _ (by rw [← HLn.out]; exact hi)], HA6.out, HSl6.out, HS6.out, HI6.out⟩
                  case round =>
                    clear HA6 HSl6 HS6 HI6
                    obtain ⟨j, za, hj, rfl, hal, hz1, hz2, ha, hsS, hs, hI⟩ := hrel
                    have HAL := Lib.hid hal
                    have HZ1 := Lib.hid hz1
                    have HZ2 := Lib.hid hz2
                    have HA := Lib.hid ha
                    have HSl := Lib.hid hsS
                    have HS := Lib.hid hs
                    have HI := Lib.hid hI
                    clear hal hz1 hz2 ha hsS hs hI
                    by_cases hlj : j < k
                    · have hj1 : (j : Int) < (k : Int) := by omega
                      have hj0 : (0 : Int) ≤ (j : Int) := by omega
                      obtain ⟨u, hu⟩ : ∃ u, bndF (cfE (tbl Ls j)) (nd x) h = u := ⟨_, rfl⟩
                      obtain ⟨v, hv⟩ : ∃ v, slopeE (tbl Ls j) h = v := ⟨_, rfl⟩
                      have gu : za[j]? = some u := by rw [HZ2.out j (Nat.le_refl _) hlj, hu]
                      have gv : (slopes Ls h)[j]? = some v := by unfold slopes; rw [tabE_get _ (by rw [← HLn.out]; exact hlj), hv]
                      have HUV := Lib.hid (show bndF (cfE (tbl Ls j)) (nd (x + 1)) h = u + v by rw [← bndF_next, hu, hv])
                      have GU := Lib.hid gu
                      have l0 := Later.cell (HA.out.at_ gu).1
                      have l1 := Later.cell (HA.out.at_ gu).2
                      have l2 := Later.cell (HSl.out.at_ gv).1
                      have l3 := Later.cell (HSl.out.at_ gv).2
                      clear hu hv gu gv
                      go_upto_region 19 with fail
                      refine wp_later_tail 12 (by kernel_rfl) (by kernel_rfl) ?_
                      simp only [List.take_succ_cons, List.take_zero, List.drop_succ_cons, List.drop_zero]
                      repeat (go_big_quiet_step ((go_at_call 47; with_reducible exact Calls.later (extAdd_any u v _))))
                      refine wpQuiet_nil ?_
                      intro X
                      clear l0 l1 l2 l3
                      have HAX := Lib.hid (HA.out.keep X.below)
                      have HSlX := Lib.hid (HSl.out.keep X.below)
                      have HSX := Lib.hid (HS.out.keep X.below)
                      have HIX := Lib.hid (HI.out.keep X.below)
                      have c0 := (HAX.out.at_ GU.out).1
                      have c1 := (HAX.out.at_ GU.out).2
                      have f0 := HAX.out.free (j * 2)
                      have f1 := HAX.out.free (j * 2 + 1)
                      go_wp2_with fail
                      go_roundw
                      case rel =>
                        refine ⟨j + 1, za.set j (u + v), by omega, by go_num, by rw [List.length_set]; exact HAL.out, fun i hi => ?_, fun i hi1 hi2 => ?_, HAX.out.set j (u + v), (HSlX.out.far _ (by simp; omega)).far _ (by simp; omega), (HSX.out.far _ (by simp; omega)).far _ (by simp; omega), (HIX.out.far _ (by simp; omega) (by simp; omega) (by simp; omega)).far _ (by simp; omega) (by simp; omega) (by simp; omega)⟩
                        · rw [List.getElem?_set]
                          by_cases e : j = i
                          · subst e
                            rw [if_pos rfl, if_pos (by have := HAL.out; omega), HUV.out]
                          · rw [if_neg e]
                            exact HZ1.out i (by omega)
                        · rw [List.getElem?_set, if_neg (by omega)]
                          exact HZ2.out i (by omega) hi2
                      case measure => simp [intOf]; omega
                    · have hjk : j = k := by omega
                      subst hjk
                      have hza : za = colB Ls (nd (x + 1)) h := colB_of (by rw [HAL.out, HLn.out]) (fun i hi => HZ1.out i (by rw [HLn.out]; exact hi))
                      subst hza
                      go_wp2_with fail
                      go_roundw
                      case rel => exact ⟨x + 1, by omega, by go_num, HA.out, HSl.out, HS.out, HI.out⟩
                      case measure => simp [intOf]; omega
              · have hxD : x = D + 1 := by omega
                subst hxD
                have hfin : (tabE (D + 1) fun y => sumE (if y < D + 1 then h + 1 else h) fun i => finE ts (colB Ls (nd y) i)) = tabE (D + 1) fun y => sumE (h + 1) fun i => finE ts (colB Ls (nd y) i) := tabE_congr fun y hy => by rw [if_pos hy]
                have HS9 := Lib.hid (show Tab wr g (tabE (D + 1) fun y => sumE (h + 1) fun i => finE ts (colB Ls (nd y) i)) by rw [← hfin]; exact HS.out)
                clear hfin HS
                go_wp2_with fail
                go_roundw
                case rel => exact ⟨e2 + 2, h + 1, colB Ls (nd (D + 1)) h, slopes Ls h, by have := HE2.out; omega, by omega, by go_num, by rw [colB_length]; exact HLn.out.symm, by rw [slopes_length]; exact HLn.out.symm, HA.out, HSl.out, HS9.out, HI.out⟩
                case measure => have := HNN.out; simp [intOf]; omega
      · have hhH : h = H := by omega
        have he : e2 = m0 := by omega
        subst he
        subst hhH
        have HR := Lib.hid (rndE_get HOK.out)
        go_wp2_with fail
        go_ret
        exact ⟨g, D + 1, rfl, by rw [HDG.out], by rw [HR.out, HDG.out, ← HH.out]; exact HS.out, by omega, HI.out.b⟩

end Go.Proofs.Ytombcjdhjcmhhaa

/- Contracts of package sumcheck: Round, Prove; valid sums. -/
namespace Go.Proofs.Ytombcjdhjcmhhaa
set_option maxRecDepth 8000
open Go.RowKit Gold

/-- the tables with the first variables put to coins -/
def bndC (Ls : List (List E2)) (cs : List E2) : List (List E2) := cs.foldl bndS Ls
theorem bndC_snoc {Ls : List (List E2)} {cs : List E2} {i : Nat} {x : E2} (h : cs[i]? = some x) : bndC Ls (cs.take (i + 1)) = bndS (bndC Ls (cs.take i)) x := by
  obtain ⟨hl, he⟩ := List.getElem?_eq_some_iff.1 h
  unfold bndC
  rw [List.take_succ_eq_append_getElem hl, List.foldl_append, he]
  rfl
theorem bndC_length (Ls : List (List E2)) (cs : List E2) : (bndC Ls cs).length = Ls.length := by
  unfold bndC
  induction cs generalizing Ls with
  | nil => rfl
  | cons c cs ih => rw [List.foldl_cons, ih]; unfold bndS; rw [List.length_map]
def rndC (Ls : List (List E2)) (ts : List Tm) (cs : List E2) (i : Nat) : List E2 := rndE (bndC Ls (cs.take i)) ts (2 ^ (cs.length - i))
/-- the rounds -/
def proR (Ls : List (List E2)) (ts : List Tm) (cs : List E2) : List (List E2) := (List.range cs.length).map (rndC Ls ts cs)
/-- the values that remain -/
def proV (Ls : List (List E2)) (cs : List E2) : List E2 := tabE Ls.length fun j => cfE (tbl (bndC Ls cs) j) 0
theorem proR_length (Ls : List (List E2)) (ts : List Tm) (cs : List E2) : (proR Ls ts cs).length = cs.length := by unfold proR; simp
theorem proR_get {Ls : List (List E2)} {ts : List Tm} {cs : List E2} {i : Nat} (h : i < cs.length) : (proR Ls ts cs)[i]? = some (rndC Ls ts cs i) := by
  unfold proR
  rw [List.getElem?_map, List.getElem?_range h]
  rfl
theorem OkS.take {Ls : List (List E2)} {ts : List Tm} {cs : List E2} (h : OkS Ls ts cs.length) : ∀ i, i ≤ cs.length → OkS (bndC Ls (cs.take i)) ts (cs.length - i)
  | 0, _ => by rw [List.take_zero, Nat.sub_zero]; exact h
  | i + 1, hi => by
    obtain ⟨x, hx⟩ : ∃ x, cs[i]? = some x := ⟨cs[i]'(by omega), List.getElem?_eq_getElem _⟩
    rw [bndC_snoc hx]
    have := h.take i (by omega)
    rw [show cs.length - i = cs.length - (i + 1) + 1 by omega] at this
    exact this.bnd x

set_option maxHeartbeats 4000000 in
theorem sRound_any (A : Option Addr) (n c : Nat) (Ls : List (List E2)) (B : Option Addr) (m d : Nat) (ts : List Tm) (K : Nat) (w : World) (hT : ST w A n c Ls) (hM : TM w B m d ts) (hok : OkS Ls ts (K + 1)) :
    Calls Try.prog 27 #[.agg #[.slice A n c, .slice B m d]] w fun e w' => ∃ g q, e = .returned (.slice (some ⟨g, 0, none⟩) q q) ∧ q = degT ts + 1 ∧ Tab w' g (rndE Ls ts (2 ^ (K + 1))) ∧ w.heap.size ≤ g ∧ Below w.heap.size w w' := by
  have HT := Lib.hid hT
  have HM := Lib.hid hM
  have HOK := Lib.hid hok
  clear hT hM hok
  go_enter Try.func27, Try.ntmps27
  go_upto_region 1 with fail
  refine wp_named1 (fun V hbV g0 hzV => ?_)
  have HX := Lib.hid (show Two V w.heap.size 30 (.slice A n c) (.slice B m d) from g0)
  have HB := Lib.hid hbV
  clear g0 hbV
  have x0 := HX.out.c0
  have x1 := HX.out.c1
  go_wp2_with fail
  clear x0 x1
  have hc := sVariables_any A n c (rawL Ls) B m d (rawT ts) V (SW.of (HT.out.keep HB.out)) (HM.out.keep HB.out)
  rw [HOK.out.vs] at hc
  refine hc.mono ?_
  rintro e W1 ⟨rfl, hb⟩
  have HX1 := Lib.hid (HX.out.keep hb)
  have HB1 := Lib.hid (below_step HB.out hb)
  have hKs : (((K + 1 : Nat) : Int) == 0) = false := by rw [beq_eq_false_iff_ne]; omega
  have x0 := HX1.out.c0
  have x1 := HX1.out.c1
  clear hc hb HX HB
  go_wp2_with fail
  clear x0 x1
  refine (round0_any A n c Ls B m d ts K W1 (HT.out.keep HB1.out) (HM.out.keep HB1.out) HOK.out).mono ?_
  rintro e W2 ⟨g, q, rfl, hq, hT2, hg, hb⟩
  have HB2 := Lib.hid (below_step HB1.out hb)
  have HT2 := Lib.hid hT2
  have HQ := Lib.hid hq
  have hs1 := HB1.out.size
  clear hb hT2 hq
  go_wp2_with fail
  go_ret
  exact ⟨g, q, rfl, HQ.out, HT2.out, by omega, HB2.out⟩

/-- the first i rounds lie in block gR, and none of them in block g -/
def OwP (w : World) (gR g n : Nat) (P : Nat → List E2) (i : Nat) : Prop :=
  ∃ cur : List Value, w.heap[gR]? = some (.cells cur.toArray 22 (0, 0)) ∧ cur.length = n ∧ (∀ (j : Nat), j < n → ∃ B m d, cur[j]? = some (Value.slice B m d)) ∧
    ∀ (j : Nat), j < i → ∃ B m d, cur[j]? = some (Value.slice B m d) ∧ Sl w B m d (P j) ∧ ∀ ad, B = some ad → ad.block ≠ g ∧ ad.block ≠ gR
section
variable {w w' : World} {gR g n i : Nat} {P : Nat → List E2}
theorem OwP.lt (h : OwP w gR g n P i) : gR < w.heap.size := by obtain ⟨cur, h1, _⟩ := h; exact (Array.getElem?_eq_some_iff.1 h1).1
theorem OwP.free (h : OwP w gR g n P i) (k : Nat) : w.frozen? ⟨gR, k, none⟩ = false := by
  obtain ⟨cur, h1, _⟩ := h
  simp [World.frozen?, h1]
theorem OwP.cell {k : Nat} (h : OwP w gR g n P i) (hk : k < n) : ∃ B m d, w.cell? ⟨gR, k, none⟩ = some (.slice B m d) := by
  obtain ⟨cur, h1, _, h3, _⟩ := h
  obtain ⟨B, m, d, hB⟩ := h3 k hk
  exact ⟨B, m, d, by simpa [World.cell?, h1] using hB⟩
theorem OwP.keep (h : OwP w gR g n P i) (hb : Below w.heap.size w w') : OwP w' gR g n P i := by
  obtain ⟨cur, h1, h2, h3, h4⟩ := h
  refine ⟨cur, heap_keep h1 hb, h2, h3, fun j hj => ?_⟩
  obtain ⟨B, m, d, k1, k2, k3⟩ := h4 j hj
  exact ⟨B, m, d, k1, k2.keep hb, k3⟩
theorem Sl.grown {A : Option Addr} {n c : Nat} {xs : List E2} (h : Sl w A n c xs) (hg : w.grownBy w' (some g)) (e : ∀ ad, A = some ad → ad.block ≠ g) : Sl w' A n c xs := by
  refine (⟨SlR.len h, SlR.cap h, SlR.top h, SlR.nil h, fun i p hp => ?_⟩ : SlR _ A n c (xs.map valE))
  obtain ⟨ad, ha, h0, h1⟩ := SlR.cells h i p hp
  have hb := World.block_lt_of_cell? w _ h0
  rw [add_block] at hb
  have hne : ∀ k : Nat, some (⟨(ad.add (i * 2)).block, k, Option.none⟩ : Addr).block ≠ some g := fun k q => by
    injection q with q
    have q' : (ad.add (i * 2)).block = g := q
    rw [add_block] at q'
    exact e ad ha q'
  refine ⟨ad, ha, (hg.cell_far _ (by rw [add_block]; exact hb) (by rw [add_block]; intro q; injection q with q; exact e ad ha q)).trans h0, (hg.cell_far _ (by show (ad.add (i * 2)).block < _; rw [add_block]; exact hb) (hne _)).trans h1⟩
theorem OwP.other (h : OwP w gR g n P i) (hg : w.grownBy w' (some g)) (hne : gR ≠ g) : OwP w' gR g n P i := by
  obtain ⟨cur, h1, h2, h3, h4⟩ := h
  refine ⟨cur, heap_other h1 hg hne, h2, h3, fun j hj => ?_⟩
  obtain ⟨B, m, d, k1, k2, k3⟩ := h4 j hj
  exact ⟨B, m, d, k1, k2.grown hg (fun ad e => (k3 ad e).1), k3⟩
theorem OwP.step {B : Option Addr} {m d : Nat} (h : OwP w gR g n P i) (hi : i < n) (hs : Sl w B m d (P i)) (hB : ∀ ad, B = some ad → ad.block ≠ g ∧ ad.block ≠ gR) : OwP (w.setCell ⟨gR, i, none⟩ (.slice B m d)) gR g n P (i + 1) := by
  obtain ⟨cur, h1, h2, h3, h4⟩ := h
  have k := heap_setCell_at (i := i) h1 (.slice B m d)
  refine ⟨cur.set i (.slice B m d), by rw [k]; simp, by simpa using h2, fun j hj => ?_, fun j hj => ?_⟩
  · rw [List.getElem?_set]
    by_cases e : i = j
    · subst e
      exact ⟨B, m, d, by rw [if_pos rfl, if_pos (by omega)]⟩
    · rw [if_neg e]
      exact h3 j hj
  · by_cases e : i = j
    · subst e
      exact ⟨B, m, d, by rw [List.getElem?_set, if_pos rfl, if_pos (by omega)], SlR.far hs _ (fun ad e => (hB ad e).2), hB⟩
    · obtain ⟨B', m', d', k1, k2, k3⟩ := h4 j (by omega)
      exact ⟨B', m', d', by rw [List.getElem?_set, if_neg e]; exact k1, SlR.far k2 _ (fun ad e => (k3 ad e).2), k3⟩
theorem OwP.st {Ps : List (List E2)} (h : OwP w gR g n P n) (hn : n = Ps.length) (h1 : n ≤ 65536) (hP : ∀ i, i < n → Ps[i]? = some (P i)) : ST w (some ⟨gR, 0, none⟩) n n Ps := by
  refine ⟨by simpa using hn, Nat.le_refl _, by omega, fun i p hp => ?_⟩
  rw [List.getElem?_map] at hp
  cases hL : Ps[i]? with
  | none => rw [hL] at hp; cases hp
  | some L =>
    have hi : i < n := by rw [hn]; exact (List.getElem?_eq_some_iff.1 hL).1
    rw [hP i hi] at hL
    injection hL with hL
    subst hL
    rw [hP i hi] at hp
    injection hp with hp
    subst hp
    obtain ⟨cur, g1, _, _, g4⟩ := h
    obtain ⟨B, m, d, k1, k2, _⟩ := g4 i hi
    exact ⟨_, B, m, d, rfl, by rw [add_base]; simpa [World.cell?, g1] using k1, k2⟩
theorem OwS.res {Ls : List (List E2)} (h : OwS w g Ls) {p : Addr} {B : Option Addr} {m d : Nat} (hp : w.cell? p = some (.slice B m d)) (x : Value) (hne : g ≠ p.block) : OwS (w.setCell p x) g Ls := by
  obtain ⟨cur, h1, h2, h3⟩ := h
  refine ⟨cur, (Below.heap_setCell w p x g hne).trans h1, h2, fun i L hL => ?_⟩
  obtain ⟨B', m', d', k1, k2, k3⟩ := h3 i L hL
  exact ⟨B', m', d', k1, k2.res hp x, k3⟩
theorem grown_new {a b : World} {row : Option Nat} (h : a.grownBy b row) {p : Addr} (hp : a.heap.size ≤ p.block) (x : Value) : a.grownBy (b.setCell p x) row :=
  ⟨h.os, h.tape, h.output, by simp [World.setCell]; exact h.size, fun k hk hn => (Below.heap_setCell b p x k (by omega)).trans (h.block k hk hn)⟩
end
theorem run_makeR (n : Nat) (hn : n ≤ 65536) (P : Nat → List E2) (g : Nat) : ∃ cs : Array Value, (∀ w : World, (Instr.makeSlice 36 (.int .i64 (n : Int)) (.int .i64 (n : Int))).run Try.prog w = .ok (.slice (some ⟨w.heap.size, 0, none⟩) n n) (w.alloc (.cells cs 22))) ∧ ∀ (w : World) (gR : Nat), w.heap[gR]? = some (.cells cs 22 (0, 0)) → OwP w gR g n P 0 := by
  obtain ⟨i, hi, hz, hs, hb⟩ := info_parts exts_info
  refine ⟨madeCells #[Value.slice none 0 0] (n * 1), fun w => ?_, fun w gR hR => ⟨List.replicate n (.slice none 0 0), ?_, by simp, fun j hj => ⟨none, 0, 0, by rw [List.getElem?_replicate, if_pos hj]⟩, fun j hj => absurd hj (Nat.not_lt_zero _)⟩⟩
  · have h1 : (i.bytes : Int) * (n : Int) ≤ 281474976710656 := by
      rw [hb]
      omega
    have hr := run_make (P := Try.prog) w 36 22 i (.slice none 0 0) Try.underlying36 hi hz .i64 .i64 (n : Int) (n : Int) (by omega) (by omega) h1 (by omega)
    simp only [Int.toNat_natCast] at hr
    rw [hr, hs]
    rfl
  · rw [hR]
    congr 2
    apply Array.ext
    · rw [size_madeCells]; simp
    · intro j h1 h2
      simp [madeCells, Nat.mod_one]

set_option maxHeartbeats 8000000 in
theorem sProve_any (A : Option Addr) (n c : Nat) (Ls : List (List E2)) (B : Option Addr) (m d : Nat) (ts : List Tm) (C : Option Addr) (k f : Nat) (cs : List E2) (w : World) (hT : ST w A n c Ls) (hM : TM w B m d ts) (hC : Sl w C k f cs) (hok : OkS Ls ts cs.length) :
    Calls Try.prog 15 #[.agg #[.slice A n c, .slice B m d], .slice C k f] w fun e w' => ∃ gR gv, e = .returned (.tuple #[.slice (some ⟨gR, 0, none⟩) k k, .slice (some ⟨gv, 0, none⟩) n n]) ∧ ST w' (some ⟨gR, 0, none⟩) k k (proR Ls ts cs) ∧ Sl w' (some ⟨gv, 0, none⟩) n n (proV Ls cs) ∧ Below w.heap.size w w' := by
  have hkf := hC.cap
  have hft := hC.top
  have hk16 : k ≤ 16 := by rw [hC.len]; exact hok.k16
  have hn0 : 0 < n := by rw [hT.len]; exact hok.pos
  have hn16 : n ≤ 16 := by rw [hT.len]; exact hok.few
  have hm16 : m ≤ 16 := by rw [hM.len]; exact hok.tfew
  have HT := Lib.hid hT
  have HM := Lib.hid hM
  have HC := Lib.hid hC
  have HOK := Lib.hid hok
  have HLn := Lib.hid hT.len
  have HLk := Lib.hid hC.len
  clear hT hM hC hok
  go_enter Try.func15, Try.ntmps15
  go_upto_region 1 with fail
  refine wp_named1 (fun V hbV g0 hzV => ?_)
  have HX := Lib.hid (show Two V w.heap.size 30 (.slice A n c) (.slice B m d) from g0)
  have HB := Lib.hid hbV
  clear g0 hbV
  have x0 := HX.out.c0
  have x1 := HX.out.c1
  go_wp2_with fail
  clear x0 x1
  have hc := sVariables_any A n c (rawL Ls) B m d (rawT ts) V (SW.of (HT.out.keep HB.out)) (HM.out.keep HB.out)
  rw [HOK.out.vs, ← HLk.out] at hc
  refine hc.mono ?_
  rintro e W1 ⟨rfl, hb⟩
  have HX1 := Lib.hid (HX.out.keep hb)
  have HB1 := Lib.hid (below_step HB.out hb)
  have x0 := HX1.out.c0
  have x1 := HX1.out.c1
  clear hc hb HX HB
  go_wp2_with fail
  clear x0 x1
  refine (sClone_any A n c Ls B m d (rawT ts) W1 (HT.out.keep HB1.out) (fun L h => by rw [HOK.out.len L h]; exact Nat.two_pow_pos _) (HM.out.keep HB1.out) HOK.out.raw hn0 (by omega) (by omega)).mono ?_
  rintro e W2 ⟨g, q, gM, rfl, hO, hq, hq2, hS, hg, hgM, hb⟩
  have hs1 := HB1.out.size
  have HO2 := Lib.hid hO
  have HS2 := Lib.hid hS
  have HB2 := Lib.hid (below_step HB1.out hb)
  have hgW : g < W2.heap.size := hO.lt
  clear hO hS hb HB1 HX1
  obtain ⟨cr, hmk, hcr⟩ := run_makeR k (by omega) (rndC Ls ts cs) g
  have HCR := Lib.hid hcr
  clear hcr
  go_upto_region 6 with fail
  clear hmk
  refine wp_named2 (fun V3 hbV g0 g1 hzV3 => ?_)
  have HX3 := Lib.hid (show Two V3 W2.heap.size 30 (.slice (some ⟨g, 0, none⟩) n q) (.slice (some ⟨gM, 0, none⟩) m m) from g0)
  have HR3 := Lib.hid (HCR.out V3 (W2.heap.size + 1) g1)
  have HO3 := Lib.hid (HO2.out.keep hbV)
  have HG3 := Lib.hid (grown_of_below (row := some g) hbV)
  clear g0 g1 hbV HCR HO2
  generalize hb8 : W2.heap.size = b8 at *
  have HB8 := Lib.hid (Nat.le_of_eq hb8)
  clear hb8
  go_wp2_with fail
  go_loopw [35] (fun s wr => ∃ i : Nat, i ≤ k ∧ s = .int .i64 i ∧ OwS wr g (bndC Ls (cs.take i)) ∧ OwP wr (b8 + 1) g k (rndC Ls ts cs) i ∧ Two wr b8 30 (.slice (some ⟨g, 0, none⟩) n q) (.slice (some ⟨gM, 0, none⟩) m m) ∧ W2.grownBy wr (some g)) (fun s _ => k - (intOf s).toNat)
  case atStart => exact ⟨0, Nat.zero_le _, rfl, HO3.out, HR3.out, HX3.out, HG3.out⟩
  case round =>
    clear HO3 HR3 HX3 HG3
    obtain ⟨i, hi, rfl, ho, hr, hx, hg3⟩ := hrel
    have HO := Lib.hid ho
    have HR := Lib.hid hr
    have HX := Lib.hid hx
    have HG := Lib.hid hg3
    have HB := Lib.hid (below_of_grown HB2.out hg3 (by omega) HB2.out.size)
    have hb8' := HB8.out
    clear ho hr hx hg3
    by_cases hlt : i < k
    · obtain ⟨x, hx⟩ := HC.out.get hlt
      obtain ⟨ad, rfl, p0, p1⟩ := (HC.out.keep HB.out).at_ hx
      have HXe := Lib.hid hx
      clear hx
      have hi1 : (i : Int) < (k : Int) := by omega
      have hi0 : (0 : Int) ≤ (i : Int) := by omega
      go_upto_region 9 with fail
      clear p0 p1
      refine wp_named1 (fun V5 hbV g0 hzV5 => ?_)
      have HY5 := Lib.hid (show Two V5 wr.heap.size 43 (.int .u64 (vF x.A)) (.int .u64 (vF x.B)) from g0)
      have HO5 := Lib.hid (HO.out.keep hbV)
      have HR5 := Lib.hid (HR.out.keep hbV)
      have HX5 := Lib.hid (HX.out.keep hbV)
      have HG5 := Lib.hid (grown_then HG.out (grown_of_below hbV))
      have hgr := HO.out.lt
      have hxr := HX.out.lt
      have hRr := HR.out.lt
      clear g0 hbV HO HR HX HG HB
      generalize wr.heap.size = b11 at *
      have x0 := HX5.out.c0
      have x1 := HX5.out.c1
      go_wp2_with fail
      clear x0 x1
      have hok2 := HOK.out.take i (by rw [← HLk.out]; omega)
      rw [show cs.length - i = cs.length - (i + 1) + 1 by have := HLk.out; omega] at hok2
      have HBL := Lib.hid (bndC_length Ls (cs.take i))
      refine (round0_any (some ⟨g, 0, none⟩) n q (bndC Ls (cs.take i)) (some ⟨gM, 0, none⟩) m m ts (cs.length - (i + 1)) V5 (HO5.out.st (by rw [HBL.out]; exact HLn.out) hq hq2) (HS2.out _ HG5.out) hok2).mono ?_
      rintro e W6 ⟨gr, qr, rfl, hqr, hTr, hgr2, hb⟩
      have HO6 := Lib.hid (HO5.out.keep hb)
      have HR6 := Lib.hid (HR5.out.keep hb)
      have HX6 := Lib.hid (HX5.out.keep hb)
      have HY6 := Lib.hid (HY5.out.keep hb)
      have HG6 := Lib.hid (grown_then HG5.out (grown_of_below hb))
      have hst : Sl W6 (some ⟨gr, 0, none⟩) qr qr (rndC Ls ts cs i) := by
        have h := hTr.sl (n := qr) (c := qr) (by rw [hqr]; unfold rndE; rw [tabE_length]) (Nat.le_refl _) (by have := HOK.out.deg3; omega)
        unfold rndC
        rw [show cs.length - i = cs.length - (i + 1) + 1 by have := HLk.out; omega]
        exact h
      have HST := Lib.hid hst
      have h56 : V5.heap.size ≤ W6.heap.size := hb.size
      clear hst hTr hb HO5 HR5 HX5 HG5 HY5 hok2 hqr
      obtain ⟨Bz, mz, dz, z0⟩ := HR6.out.cell hlt
      have f0 := HR6.out.free i
      have ZH := Lib.hid z0
      go_upto_region 10 with fail
      clear z0 f0
      have hfar : ∀ ad, some (⟨gr, 0, none⟩ : Addr) = some ad → ad.block ≠ g ∧ ad.block ≠ b8 + 1 := fun ad e => by injection e with e; subst e; exact ⟨by show gr ≠ g; omega, by show gr ≠ b8 + 1; omega⟩
      refine wp_named (fun W => OwS W g (bndC Ls (cs.take i)) ∧ OwP W (b8 + 1) g k (rndC Ls ts cs) (i + 1) ∧ Two W b8 30 (.slice (some ⟨g, 0, none⟩) n q) (.slice (some ⟨gM, 0, none⟩) m m) ∧ Two W b11 43 (.int .u64 (vF x.A)) (.int .u64 (vF x.B)) ∧ W2.grownBy W (some g)) ⟨HO6.out.res ZH.out _ (by show g ≠ b8 + 1; omega), HR6.out.step hlt HST.out hfar, HX6.out.far _ (by simp), HY6.out.far _ (by simp; omega), grown_new HG6.out (by show W2.heap.size ≤ b8 + 1; omega) _⟩ ?_
      rintro W7 ⟨ho, hr, hx, hy, hg7⟩
      have HO7 := Lib.hid ho
      have HR7 := Lib.hid hr
      have HX7 := Lib.hid hx
      have HG7 := Lib.hid hg7
      have y0 := hy.c0
      have y1 := hy.c1
      have x0 := HX7.out.c0
      have x1 := HX7.out.c1
      clear ho hr hx hy hg7 HO6 HR6 HX6 HY6 HG6 HST ZH
      go_wp2_with fail
      clear x0 x1 y0 y1
      refine (bind0_any g n q (bndC Ls (cs.take i)) x W7 HO7.out (by rw [HBL.out]; exact HLn.out) hq hq2 (fun L hL => by
        rw [(HOK.out.take i (by rw [← HLk.out]; omega)).len L hL]
        exact ⟨Nat.two_pow_pos _, (HOK.out.take i (by rw [← HLk.out]; omega)).pow⟩)).mono ?_
      rintro e W8 ⟨rfl, hO8, hG8⟩
      have HO8 := Lib.hid hO8
      have HR8 := Lib.hid (HR7.out.other hG8 (by omega))
      have HX8 := Lib.hid (HX7.out.other hG8 (by omega))
      have HG8 := Lib.hid (grown_then HG7.out hG8)
      clear hO8 hG8 HR7 HX7 HG7 HO7
      go_wp2_with fail
      go_roundw
      case rel => exact ⟨i + 1, by omega, by go_num, by rw [bndC_snoc HXe.out]; exact HO8.out, HR8.out, HX8.out, HG8.out⟩
      case measure => simp [intOf]; omega
    · have hik : i = k := by omega
      subst hik
      have htk : cs.take i = cs := by rw [HLk.out, List.take_length]
      rw [htk] at HO
      clear htk
      have hST := HR.out.st (Ps := proR Ls ts cs) (by rw [proR_length]; exact HLk.out) (by omega) (fun j hj => proR_get (by rw [← HLk.out]; exact hj))
      have HST := Lib.hid hST
      clear hST
      have hmk := run_makeE n (by omega)
      generalize hr1 : List.replicate n E2.zero = r1 at hmk
      have HR1 := Lib.hid (show r1.length = n by rw [← hr1, List.length_replicate])
      clear hr1
      have x0 := HX.out.c0
      have x1 := HX.out.c1
      go_upto_region 13 with fail
      clear hmk x0 x1
      generalize wr = W8 at *
      refine wp_named1 (fun V9 hbV g0 hzV9 => ?_)
      have HV9 := Lib.hid (Tab.of_row (show Row V9 W8.heap.size r1 from g0))
      have HB9 := Lib.hid hbV
      have HX9 := Lib.hid (HX.out.keep hbV)
      have hgr := HO.out.lt
      have hrr := HR.out.lt
      clear g0 hbV HX HR HG
      have x0 := HX9.out.c0
      have x1 := HX9.out.c1
      go_wp2_with fail
      clear x0 x1 HX9
      go_loopw [57] (fun s wr => ∃ (j : Nat) (zs : List E2), j ≤ n ∧ s = .int .i64 j ∧ zs.length = n ∧ (∀ l, l < j → zs[l]? = some (cfE (tbl (bndC Ls cs) l) 0)) ∧ Tab wr W8.heap.size zs ∧ Below W8.heap.size W8 wr) (fun s _ => n - (intOf s).toNat)
      case atStart => exact ⟨0, r1, Nat.zero_le _, rfl, HR1.out, fun l hl => absurd hl (Nat.not_lt_zero _), HV9.out, HB9.out⟩
      case round =>
        clear HV9 HB9 HR1
        obtain ⟨j, zs, hj, rfl, hzl, hzs, hv, hb⟩ := hrel
        have HZL := Lib.hid hzl
        have HZS := Lib.hid hzs
        have HV := Lib.hid hv
        have HBn := Lib.hid hb
        clear hzl hzs hv hb
        by_cases hlj : j < n
        · obtain ⟨L, hL⟩ : ∃ L, (bndC Ls cs)[j]? = some L := ⟨(bndC Ls cs)[j]'(by rw [bndC_length, ← HLn.out]; exact hlj), List.getElem?_eq_getElem _⟩
          obtain ⟨Bj, mj, dj, y0, hs, _⟩ := (HO.out.keep HBn.out).at_ hL
          have hok2 := HOK.out.take cs.length (Nat.le_refl _)
          rw [List.take_length, Nat.sub_self] at hok2
          have hl1 : L.length = 1 := by have := hok2.len L (List.mem_of_getElem? hL); simpa using this
          obtain ⟨x, hx⟩ := hs.get (i := 0) (by rw [hs.len, hl1]; omega)
          obtain ⟨ad, rfl, p0, p1⟩ := hs.at_ hx
          have hz0 : ad.add (0 * 2) = ad := by unfold Addr.add; simp
          rw [hz0] at p0 p1
          have hm1 : mj = 1 := by rw [hs.len, hl1]
          subst hm1
          have HXe := Lib.hid (show cfE (tbl (bndC Ls cs) j) 0 = x by rw [tbl_some hL, cfE_some hx])
          obtain ⟨u, hu⟩ : ∃ u, zs[j]? = some u := ⟨zs[j]'(by have := HZL.out; omega), List.getElem?_eq_getElem _⟩
          have c0 := (HV.out.at_ hu).1
          have c1 := (HV.out.at_ hu).2
          have f0 := HV.out.free (j * 2)
          have f1 := HV.out.free (j * 2 + 1)
          have hj1 : (j : Int) < (n : Int) := by omega
          have hj0 : (0 : Int) ≤ (j : Int) := by omega
          clear hL hs hok2 hl1 hx hu hz0
          go_wp2_with fail
          go_roundw
          case rel => exact ⟨j + 1, zs.set j x, by omega, by go_num, by rw [List.length_set]; exact HZL.out, fun l hl => by
            rw [List.getElem?_set]
            by_cases e : j = l
            · subst e
              rw [if_pos rfl, if_pos (by have := HZL.out; omega), HXe.out]
            · rw [if_neg e]
              exact HZS.out l (by omega), HV.out.set j x, (HBn.out.setCell (Nat.le_refl _) _).setCell (Nat.le_refl _) _⟩
          case measure => simp [intOf]; omega
        · have hjn : j = n := by omega
          subst hjn
          have hv : zs = proV Ls cs := by
            apply List.ext_getElem?
            intro l
            unfold proV
            by_cases hl : l < Ls.length
            · rw [HZS.out l (by rw [HLn.out]; exact hl), tabE_get _ hl]
            · rw [List.getElem?_eq_none (by have := HZL.out; have := HLn.out; omega), List.getElem?_eq_none (by rw [tabE_length]; omega)]
          subst hv
          have HVs := Lib.hid (HV.out.sl (n := j) (c := j) (by rw [HZL.out]) (Nat.le_refl _) (by omega))
          go_wp2_with fail
          go_ret2
          exact ⟨_, _, rfl, HST.out.keep HBn.out, HVs.out, below_step HB.out HBn.out⟩

end Go.Proofs.Ytombcjdhjcmhhaa

/- Contracts of package sumcheck: one round checked; no conditions but the degree's range. -/
namespace Go.Proofs.Ytombcjdhjcmhhaa
set_option maxRecDepth 8000
open Go.RowKit Gold

/-- one round checked: the claim that remains, and the error -/
def redE (v : E2) (L : List E2) (r : E2) (D : Nat) : E2 × Int :=
  if L.length = D + 1 then (if cfE L 0 + cfE L 1 = v then (atE L r, 0) else (E2.zero, 60)) else (E2.zero, 61)

theorem run_neqlE (x y : E2) (w : World) : (binOp .neq 43 (.agg #[.int .u64 (vF x.A), .int .u64 (vF x.B)]) (.agg #[.int .u64 (vF y.A), .int .u64 (vF y.B)])).run Try.prog w = .ok (.bool (!decide (x = y))) w := by
  by_cases hA : vF x.A = vF y.A
  · by_cases hB : vF x.B = vF y.B
    · rw [decide_eq_true (E2.ext' (vF_inj hA) (vF_inj hB))]
      simp [go_sem, Try.underlying43, hA, hB]
    · rw [decide_eq_false (fun e => hB (by rw [e]))]
      simp [go_sem, Try.underlying43, hA, hB]
  · rw [decide_eq_false (fun e => hA (by rw [e]))]
    simp [go_sem, Try.underlying43, hA]
set_option maxHeartbeats 4000000 in
theorem sReduce_any (v : E2) (A : Option Addr) (n c : Nat) (L : List E2) (r : E2) (D : Nat) (w : World) (h : Sl w A n c L) (hD : 1 ≤ D) (hD3 : D ≤ 3) :
    Calls Try.prog 70 #[.agg #[.int .u64 (vF v.A), .int .u64 (vF v.B)], .slice A n c, .agg #[.int .u64 (vF r.A), .int .u64 (vF r.B)], .int .i64 (D : Int)] w fun e w' => e = .returned (.tuple #[.agg #[.int .u64 (vF (redE v L r D).1.A), .int .u64 (vF (redE v L r D).1.B)], .int .i64 (redE v L r D).2]) ∧ Below w.heap.size w w' := by
  have hcap := h.cap
  have htop := h.top
  have HS := Lib.hid h
  have HL := Lib.hid h.len
  clear h
  go_enter Try.func70, Try.ntmps70
  go_upto_region 1 with fail
  refine wp_named3 (fun V hbV g0 g1 g2 hzV => ?_)
  have HV := Lib.hid (show Two V w.heap.size 43 (.int .u64 (vF v.A)) (.int .u64 (vF v.B)) from g0)
  have HR := Lib.hid (show Two V (w.heap.size + 1) 43 (.int .u64 (vF r.A)) (.int .u64 (vF r.B)) from g1)
  have HZ := Lib.hid (show Two V (w.heap.size + 1 + 1) 43 (.int .u64 0) (.int .u64 0) from g2)
  have HB := Lib.hid hbV
  clear g0 g1 g2 hbV
  by_cases hn : n = D + 1
  · have hn' : ((n : Int) != (D : Int) + 1) = false := by simp; omega
    obtain ⟨x, hx⟩ := HS.out.get (i := 0) (by omega)
    obtain ⟨y, hy⟩ := HS.out.get (i := 1) (by omega)
    obtain ⟨ad, rfl, p0, p1⟩ := (HS.out.keep HB.out).at_ hx
    obtain ⟨ad2, e, q0, q1⟩ := (HS.out.keep HB.out).at_ hy
    injection e with e
    subst e
    have hz0 : ad.add (0 * 2) = ad := by unfold Addr.add; simp
    rw [hz0] at p0 p1
    have hz1 : ad.add (1 * 2) = ⟨ad.block, ad.off + 2, none⟩ := by unfold Addr.add; simp
    rw [hz1] at q0 q1
    have HX := Lib.hid (cfE_some hx)
    have HY := Lib.hid (cfE_some hy)
    have hn1 : (1 : Int) < (n : Int) := by omega
    have hn3 : n ≤ 65536 := by omega
    have HN := Lib.hid hn
    clear hx hy hz0 hz1 hn
    have l0 := Later.cell p0
    have l1 := Later.cell p1
    have l2 := Later.cell q0
    have l3 := Later.cell q1
    have l4 := Later.cell HV.out.c0
    have l5 := Later.cell HV.out.c1
    have hq := run_neqlE (x + y) v
    clear p0 p1 q0 q1
    go_upto_region 3 with fail
    refine wp_later_lex (by kernel_rfl) (lexOK_of (by kernel_rfl) (by kernel_rfl)) ?_
    repeat (go_big_quiet_step ((go_at_call 47; with_reducible exact Calls.later (extAdd_any x y _))))
    refine wpQuiet_nil ?_
    intro X
    clear l0 l1 l2 l3 l4 l5 hq
    have HZX := Lib.hid (HZ.out.keep X.below)
    have HRX := Lib.hid (HR.out.keep X.below)
    have HBX := Lib.hid (below_step HB.out X.below)
    by_cases hv : x + y = v
    · have HE := Lib.hid (show redE v L r D = (atE L r, 0) by unfold redE; rw [if_pos (by rw [← HL.out]; exact HN.out), HX.out, HY.out, if_pos hv])
      have hd : (!decide (x + y = v)) = false := by simp [hv]
      have r0 := HRX.out.c0
      have r1 := HRX.out.c1
      rw [hd]
      go_wp2_with fail
      clear r0 r1
      refine (polyAt_any (some ad) n c L r X.at ((HS.out.keep HB.out).keep X.below) hn3).mono ?_
      rintro e W3 ⟨rfl, hb⟩
      have HZ3 := Lib.hid (HZX.out.keep hb)
      have HB3 := Lib.hid (below_step HBX.out hb)
      have z0 := HZ3.out.c0
      have z1 := HZ3.out.c1
      have f0 := HZ3.out.f0
      have f1 := HZ3.out.f1
      clear hb
      go_wp2_with fail
      refine bodyPost_ret (v := .tuple #[.agg #[.int .u64 (vF (atE L r).A), .int .u64 (vF (atE L r).B)], .int .i64 0]) (by simp [results, Try.results70, go_sem, z0, z1]) rfl ⟨by rw [HE.out], (HB3.out.setCell (by simp; omega) _).setCell (by simp; omega) _⟩
    · have HE := Lib.hid (show redE v L r D = (E2.zero, 60) by unfold redE; rw [if_pos (by rw [← HL.out]; exact HN.out), HX.out, HY.out, if_neg hv])
      have hd : (!decide (x + y = v)) = true := by simp [hv]
      have z0 := HZX.out.c0
      have z1 := HZX.out.c1
      have f0 := HZX.out.f0
      have f1 := HZX.out.f1
      rw [hd]
      go_wp2_with fail
      refine bodyPost_ret (v := .tuple #[.agg #[.int .u64 0, .int .u64 0], .int .i64 60]) (by simp [results, Try.results70, go_sem, z0, z1]) rfl ⟨by rw [HE.out]; rfl, (HBX.out.setCell (by simp; omega) _).setCell (by simp; omega) _⟩
  · have hn' : ((n : Int) != (D : Int) + 1) = true := by rw [bne_iff_ne]; omega
    have HE := Lib.hid (show redE v L r D = (E2.zero, 61) by unfold redE; rw [if_neg (by rw [← HL.out]; exact hn)])
    have z0 := HZ.out.c0
    have z1 := HZ.out.c1
    have f0 := HZ.out.f0
    have f1 := HZ.out.f1
    go_wp2_with fail
    refine bodyPost_ret (v := .tuple #[.agg #[.int .u64 0, .int .u64 0], .int .i64 61]) (by simp [results, Try.results70, go_sem, z0, z1]) rfl ⟨by rw [HE.out]; rfl, (HB.out.setCell (by simp; omega) _).setCell (by simp; omega) _⟩

theorem sReduce_as (v : E2) (A : Option Addr) (n c : Nat) (L : List E2) (r : E2) (D : Nat) (z : E2) (er : Int) (w : World) (h : Sl w A n c L) (hD : 1 ≤ D) (hD3 : D ≤ 3) (hr : redE v L r D = (z, er)) :
    Calls Try.prog 70 #[.agg #[.int .u64 (vF v.A), .int .u64 (vF v.B)], .slice A n c, .agg #[.int .u64 (vF r.A), .int .u64 (vF r.B)], .int .i64 (D : Int)] w fun e w' => e = .returned (.tuple #[.agg #[.int .u64 (vF z.A), .int .u64 (vF z.B)], .int .i64 er]) ∧ Below w.heap.size w w' := by
  have k := sReduce_any v A n c L r D w h hD hD3
  rw [hr] at k
  exact k
end Go.Proofs.Ytombcjdhjcmhhaa

/- A range over a function whose iterator has a variable of its own in memory: one law for the caller and the iterator. -/
namespace Go.Proofs.Ytombcjdhjcmhhaa
set_option maxRecDepth 8000
open Go.RowKit Gold
open Go.Shelf

/-- whatever lies at or beyond block N in A lies there in B -/
def KeepA (N : Nat) (A B : World) : Prop := A.heap.size ≤ B.heap.size ∧ ∀ b o, N ≤ b → A.heap[b]? = some o → B.heap[b]? = some o
theorem KeepA.refl (N : Nat) (A : World) : KeepA N A A := ⟨Nat.le_refl _, fun _ _ _ h => h⟩
theorem KeepA.trans {N : Nat} {A B C : World} (h : KeepA N A B) (k : KeepA N B C) : KeepA N A C := ⟨Nat.le_trans h.1 k.1, fun b o hb ho => k.2 b o hb (h.2 b o hb ho)⟩
theorem KeepA.of_below {N : Nat} {A B : World} (h : Below A.heap.size A B) : KeepA N A B := ⟨h.size, fun _ _ _ ho => heap_keep ho h⟩
theorem KeepA.set {N : Nat} {A B : World} (h : KeepA N A B) {p : Addr} (hp : p.block < N) (x : Value) : KeepA N A (B.setCell p x) :=
  ⟨by simp [World.setCell]; exact h.1, fun b o hb ho => (Below.heap_setCell B p x b (by omega)).trans (h.2 b o hb ho)⟩
theorem KeepA.mono {N M : Nat} {A B : World} (h : KeepA N A B) (hN : N ≤ M) : KeepA M A B := ⟨h.1, fun b o hb ho => h.2 b o (by omega) ho⟩

/-- what a round of the loop leaves -/
def ownEnd (N : Nat) (J1 : World → Prop) (Jx : World → Prop) (A : World) : Exit → Act → World → Prop
  | .normal, _, B => KeepA N A B ∧ J1 B
  | .ret, _, B => KeepA N A B ∧ Jx B
  | _, _, _ => False

theorem wpIn_rangeOwn {P : Program} {α : Type} {g : Operand} {ps : Array Tmp} {assign body : Code} {Q : Exit → Act → World → Prop} {a : Act} {w : World} {gf : Nat} {lb : Array Value}
    (hg : a.eval g = .func (.func gf) #[] lb) (eg : ∀ args w, (callFunc gf args).run P w = .ok (.enter gf args) w) (encs : α → Array Value) (hps : ∀ x, (encs x).size = ps.size)
    (n : Nat) (J : Nat → World → Prop) (Jx : Nat → World → Prop) (X : Nat → α → Prop) (hJ : ∀ i A B, J i A → Below w.heap.size A B → J i B) (hJx : ∀ i A B, Jx i A → Below w.heap.size A B → Jx i B) (h0 : J 0 w)
    (hiter : ∀ (l : Nat) (W : World) (J' Jx' : Nat → World → Prop), (∀ i A B, J' i A → Below W.heap.size A B → J' i B) → (∀ i A, J' i A → J i A ∧ W.heap.size ≤ A.heap.size) → w.heap.size ≤ W.heap.size →
      (∀ i x A, i < n → J' i A → X i x → YieldAt Fence.wide 1 P l (encs x) A fun e B => (e = .returned (.bool true) ∧ J' (i + 1) B ∧ KeepA W.heap.size A B) ∨ (e = .returned (.bool false) ∧ Jx' i B)) → J' 0 W →
      CallsIn Fence.wide 2 P gf (#[.func (.yield l) #[] #[]] ++ lb) W fun e B => (∃ v, e = .returned v) ∧ (J' n B ∨ ∃ i, i < n ∧ Jx' i B))
    (hround : ∀ (l i : Nat) (x : α) (A : World), i < n → w.heap.size ≤ l → l < A.heap.size → J i A → X i x →
      assign.wpIn (Fence.wide.inRound l) 1 P (Exit.then (fun a' B => KeepA w.heap.size A B ∧ J i B ∧ ∀ B2, KeepA (l + 1) B B2 → Below w.heap.size B B2 → (∀ b o, b ≠ l → B.heap[b]? = some o → B2.heap[b]? = some o) → body.wpIn (Fence.wide.inRound l) 1 P (ownEnd w.heap.size (J (i + 1)) (Jx i) B2) a' B2) (fun _ _ _ => False))
        { tmps := (ps.zip (encs x)).foldl (fun t (p, v) => t.setIfInBounds p v) a.tmps, defers := [] } A)
    (hdone : ∀ (D : Nat) (B : World), w.heap.size ≤ D → J n B → B.heap[D]? = some (.deferred (some [])) → Q .normal { a with defers := { target := .collected D, args := #[] } :: a.defers } B)
    (hstop : ∀ (D i : Nat) (B : World), w.heap.size ≤ D → i < n → Jx i B → B.heap[D]? = some (.deferred (some [])) → Code.ret.wpIn Fence.wide 3 P Q { a with defers := { target := .collected D, args := #[] } :: a.defers } B) :
    (Code.rangeFunc g ps assign body).wpIn Fence.wide 3 P Q a w := by
  refine wpIn_rangeFunc fun fn hfn => ?_
  let R : LoopState → Option Code → Loop := fun st pe => { state := st, pending := pe, fn := fn, tmps := a.tmps, params := ps, assign := assign, body := body, defers := w.heap.size }
  let W : World := (w.alloc (.deferred (some []))).alloc (.loop (R .ready none))
  have hsz : W.heap.size = w.heap.size + 1 + 1 := by simp [W]
  have hbW : Below w.heap.size w W := ((Below.refl _ w).alloc (Nat.le_refl _) _).alloc (by simp) _
  have hWL : W.heap[w.heap.size + 1]? = some (.loop (R .ready none)) := by
    have h := World.alloc_heap_new (w.alloc (.deferred (some []))) (.loop (R .ready none))
    rwa [World.size_alloc] at h
  have hWD : W.heap[w.heap.size]? = some (.deferred (some [])) := heap_old _ (heap_new w _)
  have put : ∀ (A : World) (o o' : Obj), A.heap[w.heap.size + 1]? = some o → Below w.heap.size A (A.putObj (w.heap.size + 1) o') ∧ KeepA (w.heap.size + 1 + 1) A (A.putObj (w.heap.size + 1) o') ∧ (A.putObj (w.heap.size + 1) o').heap[w.heap.size + 1]? = some o' ∧ ∀ b q, b ≠ w.heap.size + 1 → A.heap[b]? = some q → (A.putObj (w.heap.size + 1) o').heap[b]? = some q := fun A o o' h =>
    ⟨⟨rfl, rfl, rfl, by simp, fun k hk => World.putObj_heap_other (by omega)⟩, ⟨by simp, fun b q hb hq => (World.putObj_heap_other (by omega)).trans hq⟩, World.putObj_heap_same (Array.getElem?_eq_some_iff.1 h).1, fun b q hb hq => (World.putObj_heap_other hb).trans hq⟩
  refine ⟨w.heap.size + 1, [{ target := .collected w.heap.size, args := #[] }], W, { target := .fn (.func gf) lb, args := #[.func (.yield (w.heap.size + 1)) #[] #[]] }, W, gf, #[.func (.yield (w.heap.size + 1)) #[] #[]] ++ lb, W, run_enterLoop_outer _ _ _ _ _, ?_, fun _ _ => trivial, ?_, fun _ => by omega, ?_⟩
  · simp only [resolve, hg]
    simp [go_sem]
  · simp [invoke, go_sem, eg]
  · refine (hiter (w.heap.size + 1) W
      (fun i A => J i A ∧ W.heap.size ≤ A.heap.size ∧ A.heap[w.heap.size + 1]? = some (.loop (R .ready none)) ∧ A.heap[w.heap.size]? = some (.deferred (some [])))
      (fun i A => Jx i A ∧ A.heap[w.heap.size + 1]? = some (.loop (R .done (some .ret))) ∧ A.heap[w.heap.size]? = some (.deferred (some [])))
      (fun i A B h hb => ⟨hJ i A B h.1 (hb.mono hbW.size), Nat.le_trans h.2.1 hb.size, (hb.block _ (by omega)).trans h.2.2.1, (hb.block _ (by omega)).trans h.2.2.2⟩)
      (fun i A h => ⟨h.1, h.2.1⟩) hbW.size ?_ ⟨hJ 0 w W h0 hbW, Nat.le_refl _, hWL, hWD⟩).mono ?_
    · intro i x A hin ⟨hj, hs, hl, hd⟩ hx
      refine ⟨fn, _, assign, body, run_yield hl (hps x), roundIn_of_wpIn hfn ?_⟩
      refine wpIn_mono (hround (w.heap.size + 1) i x A hin (Nat.le_succ _) (Array.getElem?_eq_some_iff.1 hl).1 hj hx) ?_
      rintro e a' B hp
      cases e with
      | normal =>
        obtain ⟨hk, hjB, hbody⟩ := hp
        have hl2 := hk.2 _ _ (Nat.le_succ _) hl
        have hd2 := hk.2 _ _ (Nat.le_refl _) hd
        obtain ⟨p1, p2, p3, p4⟩ := put B _ (.loop (R .busy none)) hl2
        refine ⟨_, run_beginRound hl2 rfl, ?_⟩
        refine wpIn_mono (hbody _ p2 p1 p4) ?_
        rintro e2 a3 C hp2
        cases e2 with
        | normal =>
          obtain ⟨hk3, hj3⟩ := hp2
          have hl3 := hk3.2 _ _ (Nat.le_succ _) p3
          have hd3 := hk3.2 _ _ (Nat.le_refl _) (p4 _ _ (by omega) hd2)
          obtain ⟨q1, q2, q3, q4⟩ := put C _ (.loop (R .ready none)) hl3
          refine ⟨_, _, run_endRound none hl3, .inl ⟨rfl, ⟨hJ _ _ _ hj3 q1, ?_, q3, q4 _ _ (by omega) hd3⟩, ?_⟩⟩
          · exact Nat.le_trans hs (Nat.le_trans hk.1 (Nat.le_trans p2.1 (Nat.le_trans hk3.1 q2.1)))
          · rw [hsz]
            exact ((hk.mono (by omega)).trans p2).trans ((hk3.mono (by omega)).trans q2)
        | ret =>
          obtain ⟨hk3, hj3⟩ := hp2
          have hl3 := hk3.2 _ _ (Nat.le_succ _) p3
          have hd3 := hk3.2 _ _ (Nat.le_refl _) (p4 _ _ (by omega) hd2)
          obtain ⟨q1, q2, q3, q4⟩ := put C _ (.loop (R .done (some .ret))) hl3
          exact ⟨_, _, run_endRound (some .ret) hl3, .inr ⟨rfl, hJx _ _ _ hj3 q1, q3, q4 _ _ (by omega) hd3⟩⟩
        | exit id => exact hp2.elim
        | goto t => exact hp2.elim
        | panic ch => exact hp2.elim
        | outgrown => exact hp2.elim
      | _ => exact hp.elim
    · rintro e B ⟨⟨v, rfl⟩, (⟨hj, _, hl, hd⟩ | ⟨i, hin, hj, hl, hd⟩)⟩
      · obtain ⟨q1, q2, q3, q4⟩ := put B _ (.loop (R .exhausted none)) hl
        exact ⟨none, _, run_endLoop hl (by simp [R]), hdone _ _ (Nat.le_refl _) (hJ _ _ _ hj q1) (q4 _ _ (by omega) hd)⟩
      · obtain ⟨q1, q2, q3, q4⟩ := put B _ (.loop (R .exhausted (some .ret))) hl
        exact ⟨some .ret, _, run_endLoop hl (by simp [R]), hstop _ i _ (Nat.le_refl _) hin (hJx _ _ _ hj q1) (q4 _ _ (by omega) hd)⟩

end Go.Proofs.Ytombcjdhjcmhhaa

/- Contracts of package sumcheck: the iterator over the claims that remain, Verify; no conditions but that numbers are small. -/
namespace Go.Proofs.Ytombcjdhjcmhhaa
set_option maxRecDepth 8000
open Go.RowKit Gold
open Go.Shelf
attribute [local go_sem] Oper.semAt_some

/-- the claim after i rounds -/
def clm (v : E2) (Ls : List (List E2)) (rs : List E2) (D : Nat) : Nat → E2
  | 0 => v
  | i + 1 => (redE (clm v Ls rs D i) (tbl Ls i) (cfE rs i) D).1
def clx (v : E2) (Ls : List (List E2)) (rs : List E2) (D i : Nat) : E2 × Int := redE (clm v Ls rs D i) (tbl Ls i) (cfE rs i) D
/-- what the iterator reads -/
structure RemB (w0 W : World) (b1 b2 b3 : Nat) (v : E2) (u2 u3 : Value) (D : Nat) : Prop where
  b : Below w0.heap.size w0 W
  c1 : Two W b1 43 (.int .u64 (vF v.A)) (.int .u64 (vF v.B))
  c2 : One W b2 36 u2
  c3 : Two W b3 55 u3 (.int .i64 (D : Int))

set_option maxHeartbeats 1000000 in
theorem remaining_any (v : E2) (u : Value) (hu : ∃ A n c, u = .slice A n c) (C : Option Addr) (k f : Nat) (D : Int) (w : World) :
    Calls Try.prog 50 #[.agg #[.int .u64 (vF v.A), .int .u64 (vF v.B)], u, .agg #[.slice C k f, .int .i64 D]] w fun e w' => e = .returned (.func (.func 69) #[] #[.pointer (some ⟨w.heap.size, 0, none⟩), .pointer (some ⟨w.heap.size + 1, 0, none⟩), .pointer (some ⟨w.heap.size + 1 + 1, 0, none⟩)])
      ∧ w' = ((w.alloc (.cells #[.int .u64 (vF v.A), .int .u64 (vF v.B)] 43)).alloc (.cells #[u] 36)).alloc (.cells #[.slice C k f, .int .i64 D] 55) := by
  obtain ⟨A, n, c, rfl⟩ := hu
  go_enter Try.func50, Try.ntmps50
  go_wp2
  go_ret
  exact ⟨rfl, rfl⟩

set_option maxRecDepth 100000 in
set_option maxHeartbeats 4000000 in
theorem rem_iter (w0 : World) (v : E2) (A : Option Addr) (n c : Nat) (Ls : List (List E2)) (C : Option Addr) (k f : Nat) (rs : List E2) (D : Nat) (b1 b2 b3 : Nat) (hT : ST w0 A n c Ls) (hC : Sl w0 C k f rs) (hnk : n = k) (hD : 1 ≤ D) (hD3 : D ≤ 3) (hn : n ≤ 65536)
    (l : Nat) (W : World) (J Jx : Nat → World → Prop) (hJ : ∀ i A B, J i A → Below W.heap.size A B → J i B) (hJB : ∀ i B, J i B → RemB w0 B b1 b2 b3 v (.slice A n c) (.slice C k f) D ∧ W.heap.size ≤ B.heap.size)
    (hY : ∀ i (x : E2 × Int) B, i < n → J i B → x = clx v Ls rs D i → YieldAt Fence.wide 1 Try.prog l #[.agg #[.int .u64 (vF x.1.A), .int .u64 (vF x.1.B)], .int .i64 x.2] B fun e B' => (e = .returned (.bool true) ∧ J (i + 1) B' ∧ KeepA W.heap.size B B') ∨ (e = .returned (.bool false) ∧ Jx i B'))
    (hx0 : ∀ i B, J (i + 1) B → (clx v Ls rs D i).2 = 0) (h0 : J 0 W) :
    CallsIn Fence.wide 2 Try.prog 69 (#[.func (.yield l) #[] #[]] ++ #[.pointer (some ⟨b1, 0, none⟩), .pointer (some ⟨b2, 0, none⟩), .pointer (some ⟨b3, 0, none⟩)]) W fun e B => (∃ v, e = .returned v) ∧ (J n B ∨ ∃ i, i < n ∧ Jx i B) := by
  have hcap := hT.cap
  have htop := hT.top
  have hkf := hC.cap
  have hft := hC.top
  have HT := Lib.hid hT
  have HC := Lib.hid hC
  have HLn := Lib.hid hT.len
  have HLk := Lib.hid hC.len
  have HJ := Lib.hid hJ
  have HJB := Lib.hid hJB
  have HX0 := Lib.hid hx0
  have H0 := Lib.hid h0
  clear hT hC hJ hJB hx0 h0
  subst hnk
  have c10 := (HJB.out 0 W H0.out).1.c1.c0
  have c11 := (HJB.out 0 W H0.out).1.c1.c1
  have c2 := cell_alloc (HJB.out 0 W H0.out).1.c2.c (.cells #[.int .u64 (vF v.A), .int .u64 (vF v.B)] 43)
  refine callsIn_of_wp Try.func69 rfl trivial ?_ rfl
  simp only [Try.ntmps69, List.size_toArray, List.length_cons, List.length_nil, Nat.reduceAdd, Nat.reduceSub, Array.replicate_succ, Array.replicate_zero, List.push_toArray, List.append_toArray, List.nil_append, List.cons_append]
  have hb3 : b3 < W.heap.size := (HJB.out 0 W H0.out).1.c3.lt
  have hw0 : w0.heap.size ≤ W.heap.size := (HJB.out 0 W H0.out).1.b.size
  gi_wp2
  clear c10 c11 c2
  have hb0 : Below W.heap.size W (W.alloc (.cells #[.int .u64 (vF v.A), .int .u64 (vF v.B)] 43)) := (Below.refl _ _).alloc (Nat.le_refl _) _
  have HJ0 := Lib.hid (HJ.out 0 W _ H0.out hb0)
  have HC0 := Lib.hid (Two.new W 43 (.int .u64 (vF v.A)) (.int .u64 (vF v.B)))
  clear hb0 H0
  generalize W.alloc (.cells #[.int .u64 (vF v.A), .int .u64 (vF v.B)] 43) = W1 at *
  gi_loopw [12] (fun s wr => ∃ i : Nat, i ≤ n ∧ s = .int .i64 i ∧ J i wr ∧ Two wr W.heap.size 43 (.int .u64 (vF (clm v Ls rs D i).A)) (.int .u64 (vF (clm v Ls rs D i).B))) (fun s _ => n - (intOf s).toNat)
  case atStart => exact ⟨0, Nat.zero_le _, rfl, HJ0.out, HC0.out⟩
  case round =>
    clear HJ0 HC0
    obtain ⟨i, hi, rfl, hj, hc⟩ := hrel
    have HJi := Lib.hid hj
    have HCi := Lib.hid hc
    have HR := Lib.hid (HJB.out i wr hj).1
    have hWs := (HJB.out i wr hj).2
    clear hj hc
    by_cases hlt : i < n
    · obtain ⟨L, hL⟩ : ∃ L, Ls[i]? = some L := ⟨Ls[i]'(by have := HLn.out; omega), List.getElem?_eq_getElem _⟩
      obtain ⟨ad, B2, m2, d2, rfl, h0, hs⟩ := (HT.out.keep HR.out.b).at_ hL
      obtain ⟨x, hx⟩ : ∃ x, rs[i]? = some x := ⟨rs[i]'(by have := HLk.out; omega), List.getElem?_eq_getElem _⟩
      obtain ⟨ad2, rfl, p0, p1⟩ := HC.out.at_ hx
      have HL := Lib.hid (show tbl Ls i = L from tbl_some hL)
      have HX := Lib.hid (show cfE rs i = x from cfE_some hx)
      have HS := Lib.hid hs
      have hi1 : (i : Int) < (n : Int) := by omega
      have hi0 : (0 : Int) ≤ (i : Int) := by omega
      generalize hcl : clm v Ls rs D i = cl at *
      have HCL := Lib.hid hcl
      clear hL hs hx hcl
      have r0 := HCi.out.c0
      have r1 := HCi.out.c1
      have p0 := cell_keep p0 HR.out.b
      have p1 := cell_keep p1 HR.out.b
      have z0 := HR.out.c3.c0
      have z1 := HR.out.c3.c1
      gi_wp2
      clear h0
      refine wpIn_wide.2 ?_
      obtain ⟨z, er, hre⟩ : ∃ z er, redE cl L x D = (z, er) := ⟨_, _, rfl⟩
      have HRE := Lib.hid hre
      clear hre
      go_region_with (go_at_call 70; refine (sReduce_as cl B2 m2 d2 L x D z er _ (HS.out.keep (Below.refl _ _).drew) hD hD3 HRE.out).mono ?_; rintro e W5 ⟨rfl, hb⟩; have hb5 : Below wr.heap.size wr W5 := below_step (Below.refl _ wr).drew hb; have c50 := (HCi.out.keep hb5).c0; have c51 := (HCi.out.keep hb5).c1; have f50 := (HCi.out.keep hb5).f0; have f51 := (HCi.out.keep hb5).f1)
      all_goals
        have hbn : Below W.heap.size wr ((W5.setCell ⟨W.heap.size, 0, none⟩ (.int .u64 (vF z.A))).setCell ⟨W.heap.size, 1, none⟩ (.int .u64 (vF z.B))) := ((hb5.mono hWs).setCell (Nat.le_refl _) _).setCell (Nat.le_refl _) _
        have hjn := HJ.out i wr _ HJi.out hbn
        have hcn := ((HCi.out.keep hb5).set0 (.int .u64 (vF z.A))).set1 (.int .u64 (vF z.B))
        clear c50 c51 f50 f51 r0 r1 p0 p1 z0 z1 hb hb5 hbn
        generalize (W5.setCell ⟨W.heap.size, 0, none⟩ (.int .u64 (vF z.A))).setCell ⟨W.heap.size, 1, none⟩ (.int .u64 (vF z.B)) = W6 at hjn hcn ⊢
        obtain ⟨fn, tmps, assign, body, hy, hR⟩ := hY i (z, er) W6 hlt hjn (by unfold clx; rw [HCL.out, HL.out, HX.out, HRE.out])
        have HC6 := Lib.hid hcn
        have k0 := hcn.c0
        have k1 := hcn.c1
        clear hjn hcn
        gi_wp2
        clear k0 k1 hy
        refine hR.mono ?_
        rintro e W7 (⟨rfl, hj7, hk7⟩ | ⟨rfl, hx7⟩)
        · have her : er = 0 := by
            have := HX0.out i W7 hj7
            unfold clx at this
            rw [HCL.out, HL.out, HX.out, HRE.out] at this
            exact this
          subst her
          have HC7 := Lib.hid (show Two W7 W.heap.size 43 (.int .u64 (vF z.A)) (.int .u64 (vF z.B)) from hk7.2 _ _ (Nat.le_refl _) HC6.out)
          clear hk7
          gi_wp2
          go_roundw
          case rel => exact ⟨i + 1, by omega, by go_num, hj7, by rw [clm, HCL.out, HL.out, HX.out, HRE.out]; exact HC7.out⟩
          case measure => simp [intOf]; omega
        · gi_wp2
          refine bodyPost_ret (results_none rfl _ _ _) rfl ?_
          exact ⟨⟨_, rfl⟩, .inr ⟨i, hlt, hx7⟩⟩
    · have hin : i = n := by omega
      subst hin
      gi_wp2
      go_end0
      exact ⟨⟨_, rfl⟩, .inl HJi.out⟩

end Go.Proofs.Ytombcjdhjcmhhaa

/- Contracts of package sumcheck: Verify; no conditions but that numbers are small. -/
namespace Go.Proofs.Ytombcjdhjcmhhaa
set_option maxRecDepth 8000
open Go.RowKit Gold
open Go.Shelf
attribute [local go_sem] Oper.semAt_some

theorem redE_bad {v : E2} {L : List E2} {r : E2} {D : Nat} (h : (redE v L r D).2 ≠ 0) : (redE v L r D).1 = E2.zero := by
  unfold redE at h ⊢
  split
  · next h1 =>
    rw [if_pos h1] at h
    split
    · next h2 =>
      rw [if_pos h2] at h
      exact absurd rfl h
    · rfl
  · rfl
def verA (v : E2) (Ls : List (List E2)) (rs : List E2) (D : Nat) : Nat → E2 × Int
  | 0 => (v, 0)
  | n + 1 => if (verA v Ls rs D n).2 = 0 then redE (verA v Ls rs D n).1 (tbl Ls n) (cfE rs n) D else verA v Ls rs D n
theorem verA_ok {v : E2} {Ls : List (List E2)} {rs : List E2} {D : Nat} : ∀ n, (∀ i, i < n → (clx v Ls rs D i).2 = 0) → verA v Ls rs D n = (clm v Ls rs D n, 0)
  | 0, _ => rfl
  | n + 1, h => by
    have ih := verA_ok n fun i hi => h i (by omega)
    have h2 := h n (Nat.lt_succ_self n)
    unfold clx at h2
    rw [verA, ih, if_pos rfl, clm]
    show redE (clm v Ls rs D n) (tbl Ls n) (cfE rs n) D = _
    generalize redE (clm v Ls rs D n) (tbl Ls n) (cfE rs n) D = p at *
    obtain ⟨a, b⟩ := p
    simp at h2
    rw [h2]
theorem verA_bad {v : E2} {Ls : List (List E2)} {rs : List E2} {D i : Nat} (h : ∀ j, j < i → (clx v Ls rs D j).2 = 0) (hb : (clx v Ls rs D i).2 ≠ 0) : ∀ n, i < n → verA v Ls rs D n = (E2.zero, (clx v Ls rs D i).2)
  | 0, hn => absurd hn (Nat.not_lt_zero _)
  | n + 1, hn => by
    by_cases e : i = n
    · subst e
      have h1 := verA_ok i h
      have h2 : redE (clm v Ls rs D i) (tbl Ls i) (cfE rs i) D = clx v Ls rs D i := rfl
      rw [verA, h1, if_pos rfl]
      show redE (clm v Ls rs D i) (tbl Ls i) (cfE rs i) D = _
      rw [h2]
      have h3 : (clx v Ls rs D i).1 = E2.zero := redE_bad hb
      rw [← h3]
    · have ih := verA_bad h hb n (by omega)
      rw [verA, ih, if_neg hb]
def verZ (v : E2) (Ls : List (List E2)) (rs : List E2) (D : Int) : E2 × Int :=
  if 1 ≤ D ∧ D ≤ 3 ∧ Ls.length = rs.length then verA v Ls rs D.toNat Ls.length else (E2.zero, 1)

def VerJ (w : World) (b1 b2 b3 : Nat) (v : E2) (u2 u3 : Value) (Ls : List (List E2)) (rs : List E2) (D b6 b7 b8 i : Nat) (W : World) : Prop :=
  (∀ j, j < i → (clx v Ls rs D j).2 = 0) ∧ Two W b6 43 (.int .u64 0) (.int .u64 0) ∧ One W b7 51 (.int .i64 0) ∧ Two W b8 43 (.int .u64 (vF (clm v Ls rs D i).A)) (.int .u64 (vF (clm v Ls rs D i).B)) ∧ RemB w W b1 b2 b3 v u2 u3 D
def VerX (w : World) (v : E2) (Ls : List (List E2)) (rs : List E2) (D b6 b7 i : Nat) (W : World) : Prop :=
  (∀ j, j < i → (clx v Ls rs D j).2 = 0) ∧ (clx v Ls rs D i).2 ≠ 0 ∧ Two W b6 43 (.int .u64 0) (.int .u64 0) ∧ One W b7 51 (.int .i64 (clx v Ls rs D i).2) ∧ Below w.heap.size w W
theorem two_below {N : Nat} {A B : World} {b : Nat} {t : TypeId} {u v : Value} (h : Two A b t u v) (hb : Below N A B) (hN : b < N) : Two B b t u v := (hb.block b hN).trans h
theorem one_below {N : Nat} {A B : World} {b : Nat} {t : TypeId} {u : Value} (h : One A b t u) (hb : Below N A B) (hN : b < N) : One B b t u := (hb.block b hN).trans h

theorem alloc_at {W : World} {b : Nat} {o : Obj} (e : b = W.heap.size) : (W.alloc o).heap[b]? = some o := by rw [e]; exact heap_new W o

set_option maxRecDepth 100000 in
set_option maxHeartbeats 8000000 in
theorem sVerify_any (v : E2) (A : Option Addr) (n c : Nat) (Ls : List (List E2)) (C : Option Addr) (k f : Nat) (rs : List E2) (D : Int) (w : World) (hT : ST w A n c Ls) (hC : Sl w C k f rs) (hn : n ≤ 65536) :
    Calls Try.prog 30 #[.agg #[.int .u64 (vF v.A), .int .u64 (vF v.B)], .slice A n c, .agg #[.slice C k f, .int .i64 D]] w fun e w' => e = .returned (.tuple #[.agg #[.int .u64 (vF (verZ v Ls rs D).1.A), .int .u64 (vF (verZ v Ls rs D).1.B)], .int .i64 (verZ v Ls rs D).2]) ∧ Below w.heap.size w w' := by
  have hkf := hC.cap
  have hft := hC.top
  have hcap := hT.cap
  have htop := hT.top
  have HT := Lib.hid hT
  have HC := Lib.hid hC
  have HLn := Lib.hid hT.len
  have HLk := Lib.hid hC.len
  clear hT hC
  by_cases hok : 1 ≤ D ∧ D ≤ 3 ∧ n = k
  · obtain ⟨hD1, hD3, hnk⟩ := hok
    have HV := Lib.hid (show verZ v Ls rs D = verA v Ls rs D.toNat n by unfold verZ; rw [if_pos ⟨hD1, hD3, by rw [← HLn.out, ← HLk.out]; exact hnk⟩, HLn.out])
    obtain ⟨d, rfl⟩ : ∃ d : Nat, D = (d : Int) := ⟨D.toNat, by omega⟩
    subst hnk
    rw [Int.toNat_natCast] at HV
    have hd1 : decide ((d : Int) < 1) = false := by simp; omega
    have hd3 : decide ((3 : Int) < (d : Int)) = false := by simp; omega
    have hdn : 1 ≤ d ∧ d ≤ 3 := by omega
    clear hD1 hD3
    refine (callsIn_wide (n := 3)).1 ?_
    refine callsIn_of_wp_marks Try.func30 rfl trivial ?_ rfl
    simp only [Try.ntmps30, List.size_toArray, List.length_cons, List.length_nil, Nat.reduceAdd, Nat.reduceSub, Array.replicate_succ, Array.replicate_zero, List.push_toArray, List.append_toArray, List.nil_append, List.cons_append]
    gi_wp2_with (refine ⟨trivial, ?_⟩; gi_at_call 50; refine (callsIn_wide.2 (remaining_any v _ ⟨_, _, _, rfl⟩ C n f d _)).mono ?_; rintro e W2 ⟨rfl, rfl⟩)
    refine wpIn_named (fun W => VerJ w (w.heap.size + 1 + 1 + 1 + 1 + 1) (w.heap.size + 1 + 1 + 1 + 1 + 1 + 1) (w.heap.size + 1 + 1 + 1 + 1 + 1 + 1 + 1) v (.slice A n c) (.slice C n f) Ls rs d (w.heap.size + 1 + 1) (w.heap.size + 1 + 1 + 1) (w.heap.size + 1 + 1 + 1 + 1) 0 W ∧ w.heap.size + 1 + 1 + 1 + 1 + 1 + 1 + 1 < W.heap.size)
      ⟨⟨fun j hj => absurd hj (Nat.not_lt_zero _), heap_old _ (heap_old _ (heap_old _ (heap_old _ (heap_old _ (alloc_at (by simp)))))), heap_old _ (heap_old _ (heap_old _ (heap_old _ (alloc_at (by simp))))), heap_old _ (heap_old _ (heap_old _ (alloc_at (by simp)))), ⟨?_, heap_old _ (heap_old _ (alloc_at (by simp))), heap_old _ (alloc_at (by simp)), alloc_at (by simp)⟩⟩, by simp⟩ ?_
    · exact (((((((((Below.refl _ w).alloc (Nat.le_refl _) _).alloc (by simp) _).alloc (by simp; omega) _).alloc (by simp; omega) _).alloc (by simp; omega) _).alloc (by simp; omega) _).alloc (by simp; omega) _).alloc (by simp; omega) _)
    rintro W ⟨hJ, hsz⟩
    have HJ := Lib.hid hJ
    clear hJ
    obtain ⟨s, hs⟩ : ∃ s, w.heap.size = s := ⟨_, rfl⟩
    have HSs := Lib.hid hs
    rw [hs] at HJ hsz ⊢
    clear hs
    refine wpIn_rangeOwn (gf := 69) (lb := #[.pointer (some ⟨s + 1 + 1 + 1 + 1 + 1, 0, none⟩), .pointer (some ⟨s + 1 + 1 + 1 + 1 + 1 + 1, 0, none⟩), .pointer (some ⟨s + 1 + 1 + 1 + 1 + 1 + 1 + 1, 0, none⟩)]) rfl (enters_of Try.func69 (by kernel_rfl) rfl)
      (fun x : E2 × Int => #[.agg #[.int .u64 (vF x.1.A), .int .u64 (vF x.1.B)], .int .i64 x.2]) (fun _ => rfl) n
      (VerJ w (s + 1 + 1 + 1 + 1 + 1) (s + 1 + 1 + 1 + 1 + 1 + 1) (s + 1 + 1 + 1 + 1 + 1 + 1 + 1) v (.slice A n c) (.slice C n f) Ls rs d (s + 1 + 1) (s + 1 + 1 + 1) (s + 1 + 1 + 1 + 1))
      (VerX w v Ls rs d (s + 1 + 1) (s + 1 + 1 + 1)) (fun i x => x = clx v Ls rs d i)
      (fun i A B h hb => ⟨h.1, two_below h.2.1 hb (by omega), one_below h.2.2.1 hb (by omega), two_below h.2.2.2.1 hb (by omega), h.2.2.2.2.b.trans (hb.mono (by have := HSs.out; omega)), two_below h.2.2.2.2.c1 hb (by omega), one_below h.2.2.2.2.c2 hb (by omega), two_below h.2.2.2.2.c3 hb hsz⟩)
      (fun i A B h hb => ⟨h.1, h.2.1, two_below h.2.2.1 hb (by omega), one_below h.2.2.2.1 hb (by omega), h.2.2.2.2.trans (hb.mono (by have := HSs.out; omega))⟩) HJ.out ?iter ?round ?fin ?stop
    case iter =>
      intro l W0 J' Jx' hJ' hJB hWW hY h0
      exact rem_iter w v A n c Ls C n f rs d _ _ _ HT.out HC.out rfl hdn.1 hdn.2 hn l W0 J' Jx' hJ' (fun i B h => ⟨(hJB i B h).1.2.2.2.2, (hJB i B h).2⟩) (fun i x B hi hj hx => hY i x B hi hj hx) (fun i B h => (hJB (i + 1) B h).1.1 i (Nat.lt_succ_self i)) h0
    case round =>
      rintro l i x B hi hl hlB ⟨hz, h6, h7, h8, hR⟩ rfl
      generalize hp : clx v Ls rs d i = p
      obtain ⟨z, er⟩ := p
      have HP := Lib.hid hp
      have HZ := Lib.hid hz
      have H6 := Lib.hid h6
      have H7 := Lib.hid h7
      have H8 := Lib.hid h8
      have HR := Lib.hid hR
      clear hp hz h6 h7 h8 hR
      gi_wp2
      have hbA : Below B.heap.size B (B.alloc (.cells #[.int .u64 (vF z.A), .int .u64 (vF z.B)] 43)) := (Below.refl _ _).alloc (Nat.le_refl _) _
      refine ⟨KeepA.of_below hbA, ⟨HZ.out, H6.out.keep hbA, H7.out.keep hbA, H8.out.keep hbA, ⟨below_step HR.out.b hbA, HR.out.c1.keep hbA, HR.out.c2.keep hbA, HR.out.c3.keep hbA⟩⟩, fun B2 _ hb2 hk2 => ?_⟩
      have H62 := Lib.hid (show Two B2 (s + 1 + 1) 43 (.int .u64 0) (.int .u64 0) from hk2 _ _ (by omega) (H6.out.keep hbA))
      have H72 := Lib.hid (show One B2 (s + 1 + 1 + 1) 51 (.int .i64 0) from hk2 _ _ (by omega) (H7.out.keep hbA))
      have H82 := Lib.hid (show Two B2 (s + 1 + 1 + 1 + 1) 43 (.int .u64 (vF (clm v Ls rs d i).A)) (.int .u64 (vF (clm v Ls rs d i).B)) from hk2 _ _ (by omega) (H8.out.keep hbA))
      have H92 := Lib.hid (show Two B2 B.heap.size 43 (.int .u64 (vF z.A)) (.int .u64 (vF z.B)) from hk2 _ _ (by omega) (heap_new B _))
      have hws : w.heap.size ≤ W.heap.size := by have := HSs.out; omega
      have HR2 := Lib.hid (show RemB w B2 _ _ _ v (.slice A n c) (.slice C n f) d from ⟨(below_step HR.out.b hbA).trans (hb2.mono hws), hk2 _ _ (by omega) (HR.out.c1.keep hbA), hk2 _ _ (by omega) (HR.out.c2.keep hbA), hk2 _ _ (by omega) (HR.out.c3.keep hbA)⟩)
      clear hbA hb2 hk2 H6 H7 H8 HR
      generalize B.heap.size = b9 at *
      have c60 := H62.out.c0
      have c61 := H62.out.c1
      have f60 := H62.out.f0
      have f61 := H62.out.f1
      have c7 := H72.out.c
      have f7 := H72.out.f
      by_cases her : er = 0
      · subst her
        have c80 := H82.out.c0
        have c81 := H82.out.c1
        have f80 := H82.out.f0
        have f81 := H82.out.f1
        have c90 := H92.out.c0
        have c91 := H92.out.c1
        gi_wp2
        refine ⟨((KeepA.refl _ B2).set (by simp; try omega) _).set (by simp; try omega) _, fun j hj => ?_, (H62.out.far _ (by simp; try omega)).far _ (by simp; try omega), (H72.out.far _ (by simp; try omega)).far _ (by simp; try omega), ?_, ⟨(HR2.out.b.setCell (by simp; have := HSs.out; omega) _).setCell (by simp; have := HSs.out; omega) _, (HR2.out.c1.far _ (by simp; try omega)).far _ (by simp; try omega), (HR2.out.c2.far _ (by simp; try omega)).far _ (by simp; try omega), (HR2.out.c3.far _ (by simp; try omega)).far _ (by simp; try omega)⟩⟩
        · by_cases e : j = i
          · subst e
            rw [HP.out]
          · exact HZ.out j (by omega)
        · rw [show clm v Ls rs d (i + 1) = (clx v Ls rs d i).1 from rfl, HP.out]
          exact (H82.out.set0 _).set1 _
      · have hne : (er != 0) = true := by rw [bne_iff_ne]; exact her
        gi_wp2
        refine ⟨(((KeepA.refl _ B2).set (by simp; try omega) _).set (by simp; try omega) _).set (by simp; try omega) _, HZ.out, by rw [HP.out]; exact her, ((H62.out.set0 _).set1 _).far _ (by simp; try omega), ?_, ((HR2.out.b.setCell (by simp; have := HSs.out; omega) _).setCell (by simp; have := HSs.out; omega) _).setCell (by simp; have := HSs.out; omega) _⟩
        rw [HP.out]
        exact ((H72.out.far _ (by simp; try omega)).far _ (by simp; try omega)).set _
    case fin =>
      rintro Dk B hD ⟨hz, h6, h7, h8, hR⟩ hdk
      have HVo := Lib.hid (show verZ v Ls rs d = (clm v Ls rs d n, 0) by rw [HV.out]; exact verA_ok n hz)
      generalize clm v Ls rs d n = q at *
      have c60 := h6.c0
      have c61 := h6.c1
      have f60 := h6.f0
      have f61 := h6.f1
      have c7 := h7.c
      have f7 := h7.f
      have c80 := h8.c0
      have c81 := h8.c1
      have HB := Lib.hid hR.b
      have HDk := Lib.hid hdk
      have H6 := Lib.hid h6
      have H7 := Lib.hid h7
      clear h6 h7 h8 hR hdk
      gi_wp2
      have k1 : Below W.heap.size B B := Below.refl _ _
      have T6 : Two (((B.setCell ⟨s + 1 + 1, 0, none⟩ (.int .u64 (vF q.A))).setCell ⟨s + 1 + 1, 1, none⟩ (.int .u64 (vF q.B))).setCell ⟨s + 1 + 1 + 1, 0, none⟩ (.int .i64 0)) (s + 1 + 1) 43 (.int .u64 (vF q.A)) (.int .u64 (vF q.B)) := ((H6.out.set0 _).set1 _).far _ (by simp)
      have T7 : One (((B.setCell ⟨s + 1 + 1, 0, none⟩ (.int .u64 (vF q.A))).setCell ⟨s + 1 + 1, 1, none⟩ (.int .u64 (vF q.B))).setCell ⟨s + 1 + 1 + 1, 0, none⟩ (.int .i64 0)) (s + 1 + 1 + 1) 51 (.int .i64 0) := ((H7.out.far _ (by simp)).far _ (by simp)).set _
      have TD : (((B.setCell ⟨s + 1 + 1, 0, none⟩ (.int .u64 (vF q.A))).setCell ⟨s + 1 + 1, 1, none⟩ (.int .u64 (vF q.B))).setCell ⟨s + 1 + 1 + 1, 0, none⟩ (.int .i64 0)).heap[Dk]? = some (.deferred (some [])) := by
        rw [Below.heap_setCell _ _ _ _ (by simp; omega), Below.heap_setCell _ _ _ _ (by simp; omega), Below.heap_setCell _ _ _ _ (by simp; omega)]
        exact HDk.out
      have TB : Below w.heap.size w (((B.setCell ⟨s + 1 + 1, 0, none⟩ (.int .u64 (vF q.A))).setCell ⟨s + 1 + 1, 1, none⟩ (.int .u64 (vF q.B))).setCell ⟨s + 1 + 1 + 1, 0, none⟩ (.int .i64 0)) := ((HB.out.setCell (by simp; have := HSs.out; omega) _).setCell (by simp; have := HSs.out; omega) _).setCell (by simp; have := HSs.out; omega) _
      generalize ((B.setCell ⟨s + 1 + 1, 0, none⟩ (.int .u64 (vF q.A))).setCell ⟨s + 1 + 1, 1, none⟩ (.int .u64 (vF q.B))).setCell ⟨s + 1 + 1 + 1, 0, none⟩ (.int .i64 0) = B9 at *
      have hk6 := Two.c0 (show Two (B9.putObj Dk (.deferred none)) (s + 1 + 1) 43 (.int .u64 (vF q.A)) (.int .u64 (vF q.B)) from (World.putObj_heap_other (by omega)).trans T6)
      have hk61 := Two.c1 (show Two (B9.putObj Dk (.deferred none)) (s + 1 + 1) 43 (.int .u64 (vF q.A)) (.int .u64 (vF q.B)) from (World.putObj_heap_other (by omega)).trans T6)
      have hk7 := One.c (show One (B9.putObj Dk (.deferred none)) (s + 1 + 1 + 1) 51 (.int .i64 0) from (World.putObj_heap_other (by omega)).trans T7)
      have hbp : Below w.heap.size w (B9.putObj Dk (.deferred none)) := TB.trans ⟨rfl, rfl, rfl, by simp, fun k hk => World.putObj_heap_other (by have := HSs.out; omega)⟩
      refine ⟨by simp, .inl ⟨_, _, rfl, run_takeDeferred TD, ?_⟩⟩
      exact ⟨.tuple #[.agg #[.int .u64 (vF q.A), .int .u64 (vF q.B)], .int .i64 0], by simp [results, Try.f30, go_sem, hk6, hk61, hk7], by rw [HVo.out], hbp⟩
    case stop =>
      rintro Dk i B hD hi ⟨hz, he, h6, h7, hb⟩ hdk
      have HVo := Lib.hid (show verZ v Ls rs d = (E2.zero, (clx v Ls rs d i).2) by rw [HV.out]; exact verA_bad hz he n hi)
      have HB := Lib.hid hb
      have HDk := Lib.hid hdk
      have c60 := h6.c0
      have c61 := h6.c1
      have c7 := h7.c
      gi_wp2
      have hk6 := Two.c0 (show Two (B.putObj Dk (.deferred none)) (s + 1 + 1) 43 (.int .u64 0) (.int .u64 0) from (World.putObj_heap_other (by omega)).trans h6)
      have hk61 := Two.c1 (show Two (B.putObj Dk (.deferred none)) (s + 1 + 1) 43 (.int .u64 0) (.int .u64 0) from (World.putObj_heap_other (by omega)).trans h6)
      have hk7 := One.c (show One (B.putObj Dk (.deferred none)) (s + 1 + 1 + 1) 51 (.int .i64 (clx v Ls rs d i).2) from (World.putObj_heap_other (by omega)).trans h7)
      have hbp : Below w.heap.size w (B.putObj Dk (.deferred none)) := hb.trans ⟨rfl, rfl, rfl, by simp, fun k hk => World.putObj_heap_other (by have := HSs.out; omega)⟩
      refine ⟨by simp, .inl ⟨_, _, rfl, run_takeDeferred HDk.out, ?_⟩⟩
      exact ⟨.tuple #[.agg #[.int .u64 0, .int .u64 0], .int .i64 (clx v Ls rs d i).2], by simp [results, Try.f30, go_sem, hk6, hk61, hk7], by rw [HVo.out]; rfl, hbp⟩
  · have HV := Lib.hid (show verZ v Ls rs D = (E2.zero, 1) by unfold verZ; rw [if_neg (by rw [← HLn.out, ← HLk.out]; exact hok)])
    go_enter Try.func30, Try.ntmps30
    go_upto_region 1 with fail
    refine wp_named4 (fun V hbV g0 g1 g2 g3 hzV => ?_)
    have HC5 := Lib.hid (show Two V (w.heap.size + 1) 55 (.slice C k f) (.int .i64 D) from g1)
    have HZ := Lib.hid (show Two V (w.heap.size + 1 + 1) 43 (.int .u64 0) (.int .u64 0) from g2)
    have HE := Lib.hid (show One V (w.heap.size + 1 + 1 + 1) 51 (.int .i64 0) from g3)
    have HB := Lib.hid hbV
    clear g0 g1 g2 g3 hbV
    have x0 := HC5.out.c0
    have x1 := HC5.out.c1
    have z0 := HZ.out.c0
    have z1 := HZ.out.c1
    have f0 := HZ.out.f0
    have f1 := HZ.out.f1
    have e0 := HE.out.c
    have e1 := HE.out.f
    by_cases h1 : D < 1
    · go_wp2_with fail
      exact bodyPost_ret (v := .tuple #[.agg #[.int .u64 0, .int .u64 0], .int .i64 1]) (by simp [results, Try.results30, go_sem, z0, z1, e0]) rfl ⟨by rw [HV.out]; rfl, ((HB.out.setCell (by simp; omega) _).setCell (by simp; omega) _).setCell (by simp; omega) _⟩
    · by_cases h3 : 3 < D
      · go_wp2_with fail
        exact bodyPost_ret (v := .tuple #[.agg #[.int .u64 0, .int .u64 0], .int .i64 1]) (by simp [results, Try.results30, go_sem, z0, z1, e0]) rfl ⟨by rw [HV.out]; rfl, ((HB.out.setCell (by simp; omega) _).setCell (by simp; omega) _).setCell (by simp; omega) _⟩
      · have hnk : ((n : Int) != (k : Int)) = true := by rw [bne_iff_ne]; intro e; exact hok ⟨by omega, by omega, by omega⟩
        go_wp2_with fail
        exact bodyPost_ret (v := .tuple #[.agg #[.int .u64 0, .int .u64 0], .int .i64 1]) (by simp [results, Try.results30, go_sem, z0, z1, e0]) rfl ⟨by rw [HV.out]; rfl, ((HB.out.setCell (by simp; omega) _).setCell (by simp; omega) _).setCell (by simp; omega) _⟩

end Go.Proofs.Ytombcjdhjcmhhaa
