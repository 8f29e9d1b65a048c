/- Several texts in one: Snr, Sns, Snt, Sno, Snm, Snv. -/
import Derived.Test.YtombcjdhjcmhhaaGf
import Derived.Deep.CutRange
import Derived.Test.YtombcjdhjcmhhaaNbit
import Derived.Test.YtombcjdhjcmhhaaGe
import Derived.Test.YtombcjdhjcmhhaaRefA
/- Contracts of the reference of package sumcheck: Degree, Final, Total, Bind; no conditions but that the sums are valid. -/
namespace Go.Proofs.Ytombcjdhjcmhhaa
set_option maxRecDepth 8000
open Go.RowKit Gold

set_option maxHeartbeats 4000000 in
theorem rSDegree_any (A0 : Option Addr) (n0 c0 : Nat) (A : Option Addr) (n c : Nat) (ts : List (Int × Int × List Int)) (N : Nat) (w : World) (h : SlM w A n c ts) (hN : degZ ts = N) :
    Calls Try.prog 20 #[.agg #[.slice A0 n0 c0, .slice A n c]] w fun e w' => e = .returned (.int .i64 (N : Int)) ∧ Below w.heap.size w w' := by
  have hcap := h.cap
  have htop := h.top
  have HS := Lib.hid h
  have HL := Lib.hid h.len
  have HN := Lib.hid hN
  clear h hN
  go_enter Try.func20, Try.ntmps20
  go_wp2_with fail
  refine wp_named1 (fun V hb g hz => ?_)
  have X := Lib.hid (show Two V w.heap.size 30 (.slice A0 n0 c0) (.slice A n c) from g)
  have HB := Lib.hid hb
  have HSV := Lib.hid (HS.out.keep hb)
  clear hb g
  go_loopw [3, 4] (fun v s wr => ∃ k : Nat, k ≤ n ∧ s = .int .i64 k ∧ v = .int .i64 (degZ (ts.take k) : Nat) ∧ Below V.heap.size V wr) (fun _ s _ => n - (intOf s).toNat)
  case atStart => exact ⟨0, Nat.zero_le _, rfl, rfl, Below.refl _ _⟩
  case round =>
    obtain ⟨k, hk, rfl, rfl, hb⟩ := hrel
    have HBr := Lib.hid hb
    have x1 := (X.out.keep hb).c1
    clear hb
    by_cases hlt : k < n
    · obtain ⟨t, ht⟩ := HS.out.get hlt
      obtain ⟨ad, B, m, d, rfl, ha, hz⟩ := (HSV.out.keep HBr.out).cells _ _ ht
      obtain ⟨h0, h1, h2⟩ := ha
      have HT := Lib.hid ht
      have hmd := hz.cap
      have hdt := hz.top
      have HZ := Lib.hid hz
      clear ht hz
      have hk1 : (k : Int) < (n : Int) := by omega
      have HD := Lib.hid (show max ((degZ (ts.take k) : Nat) : Int) ((m : Nat) : Int) = ((degZ (ts.take (k + 1)) : Nat) : Int) by rw [degZ_take HT.out, HZ.out.len]; omega)
      go_wp2_with fail
      go_roundw
      case rel => exact ⟨k + 1, by omega, by go_num, by rw [← HD.out]; congr 1; split <;> omega, HBr.out⟩
      case measure => simp [intOf]; omega
    · have hkn : k = n := by omega
      subst hkn
      have HV := Lib.hid (show ts.take k = ts by rw [HL.out, List.take_length])
      go_wp2_with fail
      go_ret
      exact ⟨by rw [HV.out, HN.out]; rfl, below_step HB.out HBr.out⟩

set_option maxHeartbeats 8000000 in
theorem rSFinal_any (A0 : Option Addr) (n0 c0 : Nat) (A : Option Addr) (n c : Nat) (ts : List Tm) (E : Option Addr) (q f : Nat) (vs : List E2) (w : World) (hM : TM w A n c ts) (hV : Sl w E q f vs) (hI : InT ts q) :
    Calls Try.prog 24 #[.agg #[.slice A0 n0 c0, .slice A n c], .slice E q f] w fun e w' => e = .returned (.agg #[.int .u64 (vF (finE ts vs).A), .int .u64 (vF (finE ts vs).B)]) ∧ Below w.heap.size w w' := by
  have hcap := hM.cap
  have htop := hM.top
  have hqf := hV.cap
  have hft := hV.top
  have HM := Lib.hid hM
  have HL := Lib.hid hM.len
  have HVs := Lib.hid hV
  have HI := Lib.hid hI
  clear hM hV hI
  go_enter Try.func24, Try.ntmps24
  go_wp2_with fail
  refine wp_named3 (fun V hb g0 g1 g2 hz => ?_)
  have X := Lib.hid (show Two V w.heap.size 30 (.slice A0 n0 c0) (.slice A n c) from g0)
  have XR := Lib.hid (show Two V (w.heap.size + 1) 43 (.int .u64 0) (.int .u64 0) from g1)
  have XA := Lib.hid (show Two V (w.heap.size + 1 + 1) 43 (.int .u64 (vF (E2.zero).A)) (.int .u64 (vF (E2.zero).B)) from g2)
  have HB := Lib.hid hb
  clear hb g0 g1 g2
  go_loopw [6] (fun s wr => ∃ k : Nat, k ≤ n ∧ s = .int .i64 k ∧ Two wr (w.heap.size + 1 + 1) 43 (.int .u64 (vF (finF (ts.take k) (cfE vs)).A)) (.int .u64 (vF (finF (ts.take k) (cfE vs)).B)) ∧ Two wr w.heap.size 30 (.slice A0 n0 c0) (.slice A n c) ∧ Two wr (w.heap.size + 1) 43 (.int .u64 0) (.int .u64 0) ∧ Below w.heap.size w wr ∧ w.heap.size + 1 + 1 < wr.heap.size) (fun s _ => n - (intOf s).toNat)
  case atStart => exact ⟨0, Nat.zero_le _, rfl, XA.out, X.out, XR.out, HB.out, hz⟩
  case round =>
    obtain ⟨k, hk, rfl, ha, hx, hr, hb, hz1⟩ := hrel
    clear XA X XR HB
    have HA := Lib.hid ha
    have HX := Lib.hid hx
    have HR := Lib.hid hr
    have HB := Lib.hid hb
    have x1 := hx.c1
    clear ha hx hr hb
    by_cases hlt : k < n
    · obtain ⟨t, ht⟩ := HM.out.get hlt
      obtain ⟨ad, B, m, d, hA, ⟨p0, p1, p2⟩, hsi⟩ := (HM.out.keep HB.out).at_ ht
      subst hA
      have hm := hsi.len
      have hmd := hsi.cap
      have hdt := hsi.top
      have HT := Lib.hid ht
      have HSi := Lib.hid hsi
      have Hm := Lib.hid (show m = t.2.length by rw [hm, List.length_map])
      have hk1 : (k : Int) < (n : Int) := by omega
      obtain ⟨Wk, hWk⟩ : ∃ Wk : World, Wk = wr := ⟨_, rfl⟩
      subst hWk
      have P2 := Lib.hid p2
      clear ht hsi hm
      go_upto_region 6 with fail
      refine wp_named1 (fun V6 hb g6 hz6 => ?_)
      have XV := Lib.hid (show Two V6 Wk.heap.size 43 (.int .u64 (vF (t.1).A)) (.int .u64 (vF (t.1).B)) from g6)
      have HB6 := Lib.hid hb
      clear hb g6 p0 p1 p2 x1
      obtain ⟨bv, hbv⟩ : ∃ bv, Wk.heap.size = bv := ⟨_, rfl⟩
      have HBV := Lib.hid hbv
      rw [hbv] at XV hz6
      rw [hbv]
      clear hbv
      go_wp2_with fail
      go_loopw [8] (fun s w2 => ∃ j : Nat, j ≤ m ∧ s = .int .i64 j ∧ Two w2 bv 43 (.int .u64 (vF ((t.2.take j).foldl (fun p j => p * cfE vs j) t.1).A)) (.int .u64 (vF ((t.2.take j).foldl (fun p j => p * cfE vs j) t.1).B)) ∧ Below Wk.heap.size Wk w2 ∧ bv < w2.heap.size) (fun s _ => m - (intOf s).toNat)
      case atStart => exact ⟨0, Nat.zero_le _, rfl, XV.out, HB6.out, hz6⟩
      case round =>
        obtain ⟨j, hj, rfl, hv, hb, hzb⟩ := hrel
        have HV := Lib.hid hv
        have HL2 := Lib.hid hb
        have x1 := (HX.out.keep hb).c1
        have p2 := cell_keep P2.out hb
        clear hv hb
        by_cases hjm : j < m
        · obtain ⟨x, hx⟩ : ∃ x, t.2[j]? = some x := ⟨t.2[j]'(by have := Hm.out; omega), List.getElem?_eq_getElem _⟩
          obtain ⟨adz, rfl, z0⟩ := (HSi.out.keep HL2.out).cells j (x : Int) (by rw [List.getElem?_map, hx]; rfl)
          have hxq := HI.out.get HT.out hx
          obtain ⟨y, hy⟩ : ∃ y, vs[x]? = some y := HVs.out.get hxq
          obtain ⟨adv, rfl, v0, v1⟩ := ((HVs.out.keep HB.out).keep HL2.out).at_ hy
          have HXx := Lib.hid hx
          have HY := Lib.hid (cfE_some hy)
          have hb0 : bv < bv + 1 := Nat.lt_succ_self _
          have hwz := HBV.out
          have l0 := Later.cell HV.out.c0
          have l1 := Later.cell HV.out.c1
          have l2 := Later.cell x1
          have l3 := Later.cell p2
          have l4 := Later.cell z0
          have l5 := Later.cell v0
          have l6 := Later.cell v1
          have j1 : (j : Int) < (m : Int) := by omega
          have x0 : (0 : Int) ≤ (x : Int) := by omega
          have x2 : (x : Int) < (q : Int) := by omega
          obtain ⟨pv, hpv⟩ : ∃ pv, (t.2.take j).foldl (fun p j => p * cfE vs j) t.1 = pv := ⟨_, rfl⟩
          rw [hpv] at l0 l1
          have HPV := Lib.hid hpv
          clear z0 v0 v1 hx hy hpv
          go_upto_region 9 with fail
          refine wp_later_tail 14 (by kernel_rfl) (by kernel_rfl) ?_
          simp only [List.take_succ_cons, List.take_zero, List.drop_succ_cons, List.drop_zero]
          repeat (go_big_quiet_step ((go_at_call 36; with_reducible exact Calls.later (rMul_any pv y _))))
          refine wpQuiet_nil ?_
          intro X
          clear l0 l1 l2 l3 l4 l5 l6 x1 p2
          have k0 := HV.out.keep X.below
          have f0 := k0.f0
          have f1 := k0.f1
          have t0 := k0.c0
          have t1 := k0.c1
          go_wp2_with fail
          go_roundw
          case rel => exact ⟨j + 1, by omega, by go_num, by rw [prodT_take HXx.out, HPV.out, HY.out]; exact (k0.set0 _).set1 _, ((below_step HL2.out X.below).setCell (by show Wk.heap.size ≤ bv; omega) _).setCell (by show Wk.heap.size ≤ bv; omega) _, by have := X.below.size; simp; omega⟩
          case measure => simp [intOf]; omega
        · have hjm2 : j = m := by omega
          have HPt := Lib.hid (show (t.2.take j).foldl (fun p j => p * cfE vs j) t.1 = prodT t (cfE vs) by unfold prodT; rw [List.take_of_length_le (by have := Hm.out; omega)])
          have hj1 : ¬ ((j : Int) < (m : Int)) := by omega
          have HA2 := Lib.hid (HA.out.keep HL2.out)
          have v0 := HV.out.c0
          have v1 := HV.out.c1
          have a0 := HA2.out.c0
          have a1 := HA2.out.c1
          rw [HPt.out] at v0 v1
          clear hjm2
          go_wp2_with fail
          refine (rAdd_any (finF (ts.take k) (cfE vs)) (prodT t (cfE vs)) _).mono ?_
          rintro e W10 ⟨rfl, hb⟩
          have HL3 := Lib.hid (below_step HL2.out hb)
          have HA3 := HA2.out.keep hb
          have f0 := HA3.f0
          have f1 := HA3.f1
          have c0 := HA3.c0
          have c1 := HA3.c1
          have hw0 := HL3.out.size
          clear hb v0 v1 a0 a1 x1 p2
          go_wp2_with fail
          go_roundw
          case rel => exact ⟨k + 1, by omega, by go_num, by rw [finF_take HT.out]; exact (HA3.set0 _).set1 _, ((HX.out.keep HL3.out).far _ (by show w.heap.size ≠ w.heap.size + 1 + 1; omega)).far _ (by show w.heap.size ≠ w.heap.size + 1 + 1; omega), ((HR.out.keep HL3.out).far _ (by show w.heap.size + 1 ≠ w.heap.size + 1 + 1; omega)).far _ (by show w.heap.size + 1 ≠ w.heap.size + 1 + 1; omega), ((below_step HB.out HL3.out).setCell (by show w.heap.size ≤ w.heap.size + 1 + 1; omega) _).setCell (by show w.heap.size ≤ w.heap.size + 1 + 1; omega) _, by simp; omega⟩
          case measure => simp [intOf]; omega
    · have hkn : k = n := by omega
      have HF := Lib.hid (show finF (ts.take k) (cfE vs) = finE ts vs by unfold finE; rw [List.take_of_length_le (by have := HL.out; omega)])
      have hk1 : ¬ ((k : Int) < (n : Int)) := by omega
      have a0 := HA.out.c0
      have a1 := HA.out.c1
      have r0 := HR.out.c0
      have r1 := HR.out.c1
      have f0 := HR.out.f0
      have f1 := HR.out.f1
      rw [HF.out] at a0 a1
      clear hkn
      go_wp2_with fail
      have YF := (HR.out.set0 (.int .u64 (vF (finE ts vs).A))).set1 (.int .u64 (vF (finE ts vs).B))
      have y0 := YF.c0
      have y1 := YF.c1
      refine bodyPost_ret (v := .agg #[.int .u64 (vF (finE ts vs).A), .int .u64 (vF (finE ts vs).B)]) (by simp [results, Try.results24, go_sem, y0, y1]) rfl ?_
      exact ⟨rfl, (HB.out.setCell (by show w.heap.size ≤ w.heap.size + 1; omega) _).setCell (by show w.heap.size ≤ w.heap.size + 1; omega) _⟩

theorem rSFinal_as (A0 : Option Addr) (n0 c0 : Nat) (A : Option Addr) (n c : Nat) (ts : List Tm) (E : Option Addr) (q f : Nat) (vs : List E2) (v : E2) (w : World) (hM : TM w A n c ts) (hV : Sl w E q f vs) (hI : InT ts q) (hv : finE ts vs = v) :
    Calls Try.prog 24 #[.agg #[.slice A0 n0 c0, .slice A n c], .slice E q f] w fun e w' => e = .returned (.agg #[.int .u64 (vF v.A), .int .u64 (vF v.B)]) ∧ Below w.heap.size w w' := hv ▸ rSFinal_any A0 n0 c0 A n c ts E q f vs w hM hV hI

theorem run_storeX {ev : Operand → Value} {o : Oper} {p x : Operand} {u1 u2 : Value} {w : World} (b : Nat) (y : E2) (ho : o.op = .store 43 p x) (hp : ev p = .pointer (some ⟨b, 0, none⟩)) (hx : ev x = .agg #[.int .u64 (vF y.A), .int .u64 (vF y.B)]) (h : Two w b 43 u1 u2) :
    (execOp ev o).run Try.prog w = .ok .skip ((w.setCell ⟨b, 0, none⟩ (.int .u64 (vF y.A))).setCell ⟨b, 1, none⟩ (.int .u64 (vF y.B))) := run_storeE b y ho hp hx h
set_option maxHeartbeats 8000000 in
theorem rSTotal_any (A : Option Addr) (n c : Nat) (Ls : List (List E2)) (B : Option Addr) (m d : Nat) (ts : List Tm) (K : Nat) (w : World) (hT : ST w A n c Ls) (hM : TM w B m d ts) (hok : OkS Ls ts K) :
    Calls Try.prog 22 #[.agg #[.slice A n c, .slice B m d]] w fun e w' => e = .returned (.agg #[.int .u64 (vF (totE Ls ts (2 ^ K)).A), .int .u64 (vF (totE Ls ts (2 ^ K)).B)]) ∧ Below w.heap.size w w' := by
  have hcap := hT.cap
  have htop := hT.top
  have hn0 : 0 < n := by rw [hT.len]; exact hok.pos
  have hn16 : n ≤ 16 := by rw [hT.len]; exact hok.few
  obtain ⟨N, hN⟩ : ∃ N, N = 2 ^ K := ⟨_, rfl⟩
  have hN1 : N ≤ 65536 := by rw [hN]; exact hok.pow
  have HNe := Lib.hid hN
  rw [← hN]
  have HT := Lib.hid hT
  have HM := Lib.hid hM
  have HOK := Lib.hid hok
  have HLn := Lib.hid hT.len
  clear hT hM hok hN
  go_enter Try.func22, Try.ntmps22
  go_wp2_with fail
  refine wp_named3 (fun V hb g0 g1 g2 hz => ?_)
  have X := Lib.hid (show Two V w.heap.size 30 (.slice A n c) (.slice B m d) from g0)
  have XR := Lib.hid (show Two V (w.heap.size + 1) 43 (.int .u64 0) (.int .u64 0) from g1)
  have XA := Lib.hid (show Two V (w.heap.size + 1 + 1) 43 (.int .u64 (vF (E2.zero).A)) (.int .u64 (vF (E2.zero).B)) from g2)
  have HB := Lib.hid hb
  clear hb g0 g1 g2
  go_loopw [4] (fun s wr => ∃ i : Nat, i ≤ N ∧ s = .int .i64 i ∧ Two wr (w.heap.size + 1 + 1) 43 (.int .u64 (vF (sumE i fun i => finE ts (colE Ls i)).A)) (.int .u64 (vF (sumE i fun i => finE ts (colE Ls i)).B)) ∧ Two wr w.heap.size 30 (.slice A n c) (.slice B m d) ∧ Two wr (w.heap.size + 1) 43 (.int .u64 0) (.int .u64 0) ∧ Below w.heap.size w wr ∧ w.heap.size + 1 + 1 < wr.heap.size) (fun s _ => N - (intOf s).toNat)
  case atStart => exact ⟨0, Nat.zero_le _, rfl, XA.out, X.out, XR.out, HB.out, hz⟩
  case round =>
    obtain ⟨i, hi, rfl, ha, hx, hr, hb, hz1⟩ := hrel
    clear XA X XR HB
    have HA := Lib.hid ha
    have HX := Lib.hid hx
    have HR := Lib.hid hr
    have HB := Lib.hid hb
    have x0 := hx.c0
    clear ha hx hr hb
    obtain ⟨L0, hL0⟩ := HT.out.get hn0
    obtain ⟨ad, B1, m1, d1, hA, y0, hs0⟩ := (HT.out.keep HB.out).at_ hL0
    subst hA
    rw [show ad.add (0 : Nat) = ad by cases ad; rfl] at y0
    have hm1 : m1 = N := by rw [hs0.len, HNe.out]; exact HOK.out.len _ (List.mem_of_getElem? hL0)
    subst hm1
    have hd1 := hs0.cap
    have hd2 := hs0.top
    have hnn : (0 : Int) < (n : Int) := by omega
    clear hs0 hL0
    by_cases hlt : i < m1
    · have hi1 : (i : Int) < (m1 : Int) := by omega
      have hi0 : (0 : Int) ≤ (i : Int) := by omega
      obtain ⟨Wk, hWk⟩ : ∃ Wk : World, Wk = wr := ⟨_, rfl⟩
      subst hWk
      go_wp2_with fail
      go_loopw [5, 6] (fun v s w2 => ∃ k : Nat, k ≤ n ∧ s = .int .i64 k ∧ OwE w2 Wk.heap.size v k (tabE k fun j => cfE (tbl Ls j) i) ∧ Below Wk.heap.size Wk w2) (fun _ s _ => n - (intOf s).toNat)
      case atStart => exact ⟨0, Nat.zero_le _, rfl, OwE.made Wk _ (Nat.le_refl _), (Below.refl _ _).alloc (Nat.le_refl _) _⟩
      case round =>
        obtain ⟨k, hk, rfl, ho, hb⟩ := hrel
        have HO := Lib.hid ho
        have HL2 := Lib.hid hb
        have x1 := (HX.out.keep hb).c0
        clear ho hb y0
        by_cases hkn : k < n
        · obtain ⟨L, hL⟩ := HT.out.get hkn
          obtain ⟨ad', B2, m2, d2, hA, y1, hs⟩ := ((HT.out.keep HB.out).keep HL2.out).at_ hL
          injection hA with hA
          subst hA
          have hm2 : m2 = m1 := by rw [hs.len, HNe.out]; exact HOK.out.len _ (List.mem_of_getElem? hL)
          subst hm2
          obtain ⟨x, hx⟩ := hs.get hlt
          obtain ⟨ad2, rfl, z0, z1⟩ := hs.at_ hx
          have HXx := Lib.hid (show cfE (tbl Ls k) i = x by rw [tbl_some hL, cfE_some hx])
          have hk1 : (k : Int) < (n : Int) := by omega
          have hwz := HL2.out.size
          clear hs hx hL
          go_wp2_with (at_builtin; refine wpList_appendE rfl (.tmp 25) (.tmp 34) rfl Wk.heap.size _ k _ rfl (HO.out.keep ((Below.refl _ _).alloc (Nat.le_refl _) _)) wr.heap.size 1 x rfl (Two.new wr _ _ _) (by omega) (by rw [World.size_alloc]; omega) ?_; intro v1 w1 hown1 hg1; have HO1 := Lib.hid hown1; have HG1 := Lib.hid (Below.grown (HL2.out.alloc hwz (.cells #[.int .u64 (vF x.A), .int .u64 (vF x.B)] 43)) hg1 (by rw [World.size_alloc]; omega) (fun q hq => (World.ownsRow.lt HO.out q hq).1)); clear hown1 hg1)
          go_roundw
          case rel => exact ⟨k + 1, by omega, by go_num, by rw [tabE_succ, HXx.out]; exact HO1.out, HG1.out⟩
          case measure => simp [intOf]; omega
        · have hke : k = n := by omega
          have hkl : k = Ls.length := by have := HLn.out; omega
          have HC := Lib.hid (show tabE k (fun j => cfE (tbl Ls j) i) = colE Ls i by unfold colE; rw [hkl])
          obtain ⟨Av, cv, rfl, hsv⟩ := HO.out.sl
          rw [HC.out] at hsv
          have HSv := Lib.hid hsv
          have hk1 : ¬ ((k : Int) < (n : Int)) := by omega
          have HL1 := HL2.out.size
          obtain ⟨fv, hfv⟩ : ∃ fv, finE ts (colE Ls i) = fv := ⟨_, rfl⟩
          obtain ⟨sv, hsv2⟩ : ∃ sv, (sumE i fun i => finE ts (colE Ls i)) = sv := ⟨_, rfl⟩
          have HFv := Lib.hid hfv
          have HSs := Lib.hid hsv2
          have HA2 := Lib.hid (HA.out.keep HL2.out)
          have HX2 := Lib.hid (HX.out.keep HL2.out)
          have HR2 := Lib.hid (HR.out.keep HL2.out)
          have HI := Lib.hid (show InT ts k by have := HOK.out.idx; rw [hkl]; exact this)
          have l0 := LaterB.cell (B := w.heap.size + 1 + 1 + 1) HA2.out.c0 (Nat.lt_succ_self _)
          have l1 := LaterB.cell (B := w.heap.size + 1 + 1 + 1) HA2.out.c1 (Nat.lt_succ_self _)
          have l2 := LaterB.cell (B := w.heap.size + 1 + 1 + 1) HX2.out.c0 (show w.heap.size < w.heap.size + 1 + 1 + 1 by omega)
          have l3 := LaterB.cell (B := w.heap.size + 1 + 1 + 1) HX2.out.c1 (show w.heap.size < w.heap.size + 1 + 1 + 1 by omega)
          rw [hsv2] at l0 l1
          clear hsv hke hkl hfv hsv2
          go_upto_region 10 with fail
          clear x1
          refine Tl.wp_held_tailB 5 (w.heap.size + 1 + 1 + 1) (by kernel_rfl) (lexOK_of (by kernel_rfl) (by kernel_rfl)) (Tl.chainW_of (by kernel_rfl)) rfl (by kernel_rfl) (by kernel_rfl) (fun W0 hbW hSW => ?_)
          have HW := Lib.hid hbW
          have HSS := Lib.hid hSW
          have hz0 : w.heap.size + 1 + 1 + 1 ≤ W0.heap.size := by have := hbW.size; omega
          clear hbW hSW
          refine wpHeld_seg 3 HSS.out (by kernel_rfl) ?_
          simp only [List.take_succ_cons, List.take_zero, List.drop_succ_cons, List.drop_zero]
          repeat (go_big_quiet_step (fail))
          refine wpQuiet_nil ?_
          clear l0 l1 l2 l3
          refine wpHeld_call 24 Try.func24 (by kernel_rfl) (by kernel_rfl) _ _ #[.agg #[.slice (some ad) n c, .slice B m d], .slice Av k cv] rfl (by kernel_rfl) (by kernel_rfl) ?_
          refine (rSFinal_as (some ad) n c B m d ts Av k cv (colE Ls i) fv _ (HM.out.keep (below_step HB.out (below_step HL2.out HW.out))) (HSv.out.keep HW.out) HI.out HFv.out).mono ?_
          rintro e W1 ⟨rfl, hb⟩
          have HW1 := Lib.hid (below_step HW.out hb)
          have HS1 := Lib.hid (LaterB.step HSS.out (hb.mono hz0))
          have hz2 : w.heap.size + 1 + 1 + 1 ≤ W1.heap.size := by have := hb.size; omega
          clear hb
          refine ⟨_, rfl, HS1.out, ?_⟩
          simp only [Act.put, List.setIfInBounds_toArray, List.set_cons_zero, List.set_cons_succ]
          refine wpHeld_call 32 Try.func32 (by kernel_rfl) (by kernel_rfl) _ _ #[.agg #[.int .u64 (vF sv.A), .int .u64 (vF sv.B)], .agg #[.int .u64 (vF fv.A), .int .u64 (vF fv.B)]] rfl (by kernel_rfl) (by kernel_rfl) ?_
          refine (rAdd_any sv fv _).mono ?_
          rintro e W2 ⟨rfl, hb⟩
          have HW2 := Lib.hid (below_step HW1.out hb)
          have HS2 := Lib.hid (LaterB.step HS1.out (hb.mono hz2))
          have hz3 : w.heap.size + 1 + 1 + 1 ≤ W2.heap.size := by have := hb.size; omega
          clear hb
          refine ⟨_, rfl, HS2.out, ?_⟩
          simp only [Act.put, List.setIfInBounds_toArray, List.set_cons_zero, List.set_cons_succ]
          refine wpHeld_nil ?_
          have HA3 := HA2.out.keep HW2.out
          refine mOp_run0 _ rfl rfl (run_storeX (w.heap.size + 1 + 1) (sv + fv) rfl rfl rfl HA3) ?_
          go_wp2_with fail
          go_roundw
          case rel => exact ⟨i + 1, by omega, by go_num, by rw [sumE, HSs.out, HFv.out]; exact (HA3.set0 _).set1 _, ((HX2.out.keep HW2.out).far _ (by show w.heap.size ≠ w.heap.size + 1 + 1; omega)).far _ (by show w.heap.size ≠ w.heap.size + 1 + 1; omega), ((HR2.out.keep HW2.out).far _ (by show w.heap.size + 1 ≠ w.heap.size + 1 + 1; omega)).far _ (by show w.heap.size + 1 ≠ w.heap.size + 1 + 1; omega), ((below_step HB.out (below_step HL2.out HW2.out)).setCell (by show w.heap.size ≤ w.heap.size + 1 + 1; omega) _).setCell (by show w.heap.size ≤ w.heap.size + 1 + 1; omega) _, by simp; omega⟩
          case measure => simp [intOf]; omega
    · have hie : i = m1 := by omega
      have hk1 : ¬ ((i : Int) < (m1 : Int)) := by omega
      have HF := Lib.hid (show (sumE i fun i => finE ts (colE Ls i)) = totE Ls ts m1 by rw [hie]; rfl)
      have a0 := HA.out.c0
      have a1 := HA.out.c1
      have r0 := HR.out.c0
      have r1 := HR.out.c1
      have f0 := HR.out.f0
      have f1 := HR.out.f1
      rw [HF.out] at a0 a1
      clear hie
      go_wp2_with fail
      have YF := (HR.out.set0 (.int .u64 (vF (totE Ls ts m1).A))).set1 (.int .u64 (vF (totE Ls ts m1).B))
      have y0 := YF.c0
      have y1 := YF.c1
      refine bodyPost_ret (v := .agg #[.int .u64 (vF (totE Ls ts m1).A), .int .u64 (vF (totE Ls ts m1).B)]) (by simp [results, Try.results22, go_sem, y0, y1]) rfl ?_
      exact ⟨rfl, (HB.out.setCell (by show w.heap.size ≤ w.heap.size + 1; omega) _).setCell (by show w.heap.size ≤ w.heap.size + 1; omega) _⟩

end Go.Proofs.Ytombcjdhjcmhhaa

/- Contracts of the reference of package sumcheck: Bind, Round, Prove, SameRounds; no conditions but that the sums are valid. -/
namespace Go.Proofs.Ytombcjdhjcmhhaa
set_option maxRecDepth 8000
open Go.RowKit Gold

theorem OwR.lowR {w : World} {base base' : Nat} {v : Value} {n : Nat} {Ps : List (List E2)} (h : OwR w base v n Ps) (e : base' ≤ base) : OwR w base' v n Ps := by
  obtain ⟨vals, h1, h2, h3, h4⟩ := h
  refine ⟨vals, ⟨h1.1, h1.2.imp id fun ⟨g1, cap1, cur1, e1, e2, e3⟩ => ⟨g1, cap1, cur1, e1, by omega, e3⟩⟩, h2, fun i L hL => ?_, h4⟩
  obtain ⟨B, m, d, k1, k2, k3⟩ := h3 i L hL
  exact ⟨B, m, d, k1, k2.low e, k3⟩
theorem OwR.grownLow {w w' : World} {base : Nat} {v : Value} {n : Nat} {Ps : List (List E2)} (h : OwR w base v n Ps) {row : Option Nat} (hg : w.grownBy w' row) (hr : ∀ q, row = some q → q < base) : OwR w' base v n Ps :=
  h.same fun b hb hlt => hg.block b hlt (fun e => by have := hr b e.symm; omega)

set_option maxHeartbeats 4000000 in
theorem rBindO_any (A : Option Addr) (n c : Nat) (xs : List E2) (r : E2) (w : World) (h : Sl w A n c xs) (hn : n ≤ 65536) :
    Calls Try.prog 26 #[.slice A n c, .agg #[.int .u64 (vF r.A), .int .u64 (vF r.B)]] w fun e w' => ∃ A' c', e = .returned (.slice A' (n / 2) c') ∧ OwE w' w.heap.size (.slice A' (n / 2) c') (n / 2) (bndE xs r) ∧ Below w.heap.size w w' := by
  have hcap := h.cap
  have htop := h.top
  have HS := Lib.hid h
  have HL := Lib.hid h.len
  clear h
  go_enter Try.func26, Try.ntmps26
  go_wp2_with fail
  go_loopw [5, 6] (fun v s wr => ∃ k : Nat, k ≤ n / 2 ∧ s = .int .i64 k ∧ OwE wr (w.heap.size + 1) v k (tabE k (bndF (cfE xs) r)) ∧ Two wr w.heap.size 43 (.int .u64 (vF r.A)) (.int .u64 (vF r.B)) ∧ Below w.heap.size w wr) (fun _ s _ => n / 2 - (intOf s).toNat)
  case atStart => exact ⟨0, Nat.zero_le _, rfl, by have := OwE.made (w.alloc (.cells #[.int .u64 (vF r.A), .int .u64 (vF r.B)] 43)) (w.heap.size + 1) (by simp); rw [World.size_alloc] at this; exact this, (Two.new w _ _ _).alloc _, ((Below.refl _ _).alloc (Nat.le_refl _) _).alloc (by simp) _⟩
  case round =>
    obtain ⟨k, hk, rfl, ho, hy, hb⟩ := hrel
    have HO := Lib.hid ho
    have HY := Lib.hid hy
    have HB := Lib.hid hb
    clear ho hy hb
    by_cases hlt : k < n / 2
    · obtain ⟨x, hx⟩ := HS.out.get (i := 2 * k) (by omega)
      obtain ⟨ad, rfl, p0, p1⟩ := HS.out.at_ hx
      obtain ⟨y, hy⟩ := HS.out.get (i := 2 * k + 1) (by omega)
      obtain ⟨ad', had, q0, q1⟩ := HS.out.at_ hy
      injection had with had
      subst had
      have HX := Lib.hid (cfE_some hx)
      have HYv := Lib.hid (cfE_some hy)
      have l0 := LaterB.cell (B := w.heap.size + 1) (cell_keep p0 HB.out) (Nat.lt_succ_of_lt (World.block_lt_of_cell? w _ p0))
      have l1 := LaterB.cell (B := w.heap.size + 1) (cell_keep p1 HB.out) (Nat.lt_succ_of_lt (World.block_lt_of_cell? w _ p1))
      have l2 := LaterB.cell (B := w.heap.size + 1) (cell_keep q0 HB.out) (Nat.lt_succ_of_lt (World.block_lt_of_cell? w _ q0))
      have l3 := LaterB.cell (B := w.heap.size + 1) (cell_keep q1 HB.out) (Nat.lt_succ_of_lt (World.block_lt_of_cell? w _ q1))
      have l4 := LaterB.cell (B := w.heap.size + 1) HY.out.c0 (Nat.lt_succ_self _)
      have l5 := LaterB.cell (B := w.heap.size + 1) HY.out.c1 (Nat.lt_succ_self _)
      clear hx hy p0 p1 q0 q1
      have i0 : (0 : Int) ≤ (k : Int) := by omega
      have i1 : 2 * (k : Int) < (n : Int) := by omega
      have i2 : 2 * (k : Int) + 1 < (n : Int) := by omega
      have i4 : (2 * (k : Int)).toNat = 2 * k := by omega
      have i5 : (2 * (k : Int) + 1).toNat = 2 * k + 1 := by omega
      go_wp2_with fail
      refine wp_heldB (w.heap.size + 1) (by kernel_rfl) (lexOK_of (by kernel_rfl) (by kernel_rfl)) (chainOK_of (by kernel_rfl)) (fun W0 hbW hSW => ?_)
      have HO0 := Lib.hid (HO.out.keep hbW)
      have HY0 := Lib.hid (HY.out.keep hbW)
      have HB0 := Lib.hid (below_step HB.out hbW)
      have HS0 := Lib.hid hSW
      have hz0 : w.heap.size + 1 ≤ W0.heap.size := HY0.out.lt
      clear hbW hSW
      refine wpHeld_seg 18 HS0.out (by kernel_rfl) ?_
      simp only [List.take_succ_cons, List.take_zero, List.drop_succ_cons, List.drop_zero]
      repeat (go_big_quiet_step (fail))
      refine wpQuiet_nil ?_
      clear l0 l1 l2 l3 l4 l5
      refine wpHeld_call 35 Try.func35 (by kernel_rfl) (by kernel_rfl) _ _ #[.agg #[.int .u64 (vF (y).A), .int .u64 (vF (y).B)], .agg #[.int .u64 (vF (x).A), .int .u64 (vF (x).B)]] rfl (by kernel_rfl) (by kernel_rfl) ?_
      refine (rSub_any y x _).mono ?_
      rintro e W1 ⟨rfl, hb⟩
      have HO1 := Lib.hid (HO0.out.keep hb)
      have HY1 := Lib.hid (HY0.out.keep hb)
      have HB1 := Lib.hid (below_step HB0.out hb)
      have HS1 := Lib.hid (LaterB.step HS0.out (hb.mono hz0))
      have hz1 : w.heap.size + 1 ≤ W1.heap.size := HY1.out.lt
      clear hb
      refine ⟨_, rfl, HS1.out, ?_⟩
      simp only [Act.put, List.setIfInBounds_toArray, List.set_cons_zero, List.set_cons_succ]
      refine wpHeld_call 36 Try.func36 (by kernel_rfl) (by kernel_rfl) _ _ #[.agg #[.int .u64 (vF (r).A), .int .u64 (vF (r).B)], .agg #[.int .u64 (vF (y - x).A), .int .u64 (vF (y - x).B)]] rfl (by kernel_rfl) (by kernel_rfl) ?_
      refine (rMul_any r (y - x) _).mono ?_
      rintro e W2 ⟨rfl, hb⟩
      have HO2 := Lib.hid (HO1.out.keep hb)
      have HY2 := Lib.hid (HY1.out.keep hb)
      have HB2 := Lib.hid (below_step HB1.out hb)
      have HS2 := Lib.hid (LaterB.step HS1.out (hb.mono hz1))
      have hz2 : w.heap.size + 1 ≤ W2.heap.size := HY2.out.lt
      clear hb
      refine ⟨_, rfl, HS2.out, ?_⟩
      simp only [Act.put, List.setIfInBounds_toArray, List.set_cons_zero, List.set_cons_succ]
      refine wpHeld_call 32 Try.func32 (by kernel_rfl) (by kernel_rfl) _ _ #[.agg #[.int .u64 (vF (x).A), .int .u64 (vF (x).B)], .agg #[.int .u64 (vF (r * (y - x)).A), .int .u64 (vF (r * (y - x)).B)]] rfl (by kernel_rfl) (by kernel_rfl) ?_
      refine (rAdd_any x (r * (y - x)) _).mono ?_
      rintro e W3 ⟨rfl, hb⟩
      have HO3 := Lib.hid (HO2.out.keep hb)
      have HY3 := Lib.hid (HY2.out.keep hb)
      have HB3 := Lib.hid (below_step HB2.out hb)
      have HS3 := Lib.hid (LaterB.step HS2.out (hb.mono hz2))
      have hz3 : w.heap.size + 1 ≤ W3.heap.size := HY3.out.lt
      clear hb
      refine ⟨_, rfl, HS3.out, ?_⟩
      simp only [Act.put, List.setIfInBounds_toArray, List.set_cons_zero, List.set_cons_succ]
      have HSa := Lib.hid (LaterB.step HS3.out ((Below.refl (w.heap.size + 1) W3).alloc hz3 (.cells #[.int .u64 (vF (x + r * (y - x)).A), .int .u64 (vF (x + r * (y - x)).B)] 43)))
      refine wpHeld_run _ _ (by kernel_rfl) (by kernel_rfl) (run_buildE (x + r * (y - x)) rfl rfl _) HSa.out ?_
      simp only [Act.put, List.setIfInBounds_toArray, List.set_cons_zero, List.set_cons_succ]
      have HOa := Lib.hid (HO3.out.keep ((Below.refl _ _).alloc (Nat.le_refl _) (.cells #[.int .u64 (vF (x + r * (y - x)).A), .int .u64 (vF (x + r * (y - x)).B)] 43)))
      have HTa := Lib.hid (Two.new W3 43 (.int .u64 (vF (x + r * (y - x)).A)) (.int .u64 (vF (x + r * (y - x)).B)))
      have HYa := Lib.hid (HY3.out.alloc (.cells #[.int .u64 (vF (x + r * (y - x)).A), .int .u64 (vF (x + r * (y - x)).B)] 43))
      have HBa := Lib.hid (HB3.out.alloc HB3.out.size (.cells #[.int .u64 (vF (x + r * (y - x)).A), .int .u64 (vF (x + r * (y - x)).B)] 43))
      refine wpHeld_op (by kernel_rfl) (by kernel_rfl) ?_
      refine hOp_appendE (.tmp 16) (.tmp 37) rfl (w.heap.size + 1) _ k _ rfl HOa.out W3.heap.size 1 (x + r * (y - x)) rfl HTa.out (by omega) (by simp; omega) ?_
      intro v1 w1 hown1 hg1
      have HOz := Lib.hid hown1
      have HYz := Lib.hid (two_grown HYa.out hg1 HOa.out (Nat.lt_succ_self _))
      have HBz := Lib.hid (below_grown (w0 := w) HBa.out hg1 HOa.out (Nat.le_succ _))
      have HSz := Lib.hid (LaterB.step HSa.out (Below.grown (Below.refl (w.heap.size + 1) _) hg1 (by simp; omega) (fun q hq => (HOa.out.lt q hq).1)))
      clear hown1 hg1
      refine ⟨HSz.out, ?_⟩
      simp only [Act.put, List.setIfInBounds_toArray, List.set_cons_zero, List.set_cons_succ]
      refine wpHeld_seg 1 HSz.out (by kernel_rfl) ?_
      simp only [List.take_succ_cons, List.take_zero, List.drop_succ_cons, List.drop_zero]
      repeat (go_big_quiet_step (fail))
      refine wpQuiet_nil (wpHeld_nil ?_)
      go_wp2_with fail
      have HE := Lib.hid (show bndF (cfE xs) r k = x + r * (y - x) by unfold bndF btw; rw [HX.out, HYv.out])
      go_roundw
      case rel => exact ⟨k + 1, by omega, by go_num, by rw [tabE_succ, HE.out]; exact HOz.out, HYz.out, HBz.out⟩
      case measure => simp [intOf]; omega
    · have hkn : k = n / 2 := by omega
      subst hkn
      have i2 : ¬ (2 * ((n / 2 : Nat) : Int) + 1 < (n : Int)) := by omega
      obtain ⟨A1, c1, rfl, hs1⟩ := HO.out.sl
      clear hs1
      go_wp2_with fail
      go_ret
      exact ⟨A1, c1, rfl, by have := HO.out; unfold bndE; rw [← HL.out]; exact this.low (Nat.le_succ _), HB.out⟩

set_option maxHeartbeats 8000000 in
theorem rSBind_any (A : Option Addr) (n c : Nat) (Ls : List (List E2)) (B : Option Addr) (m d : Nat) (r : E2) (w : World) (hT : ST w A n c Ls) (hL : ∀ L ∈ Ls, L.length ≤ 65536) (hn : n ≤ 65536) :
    Calls Try.prog 45 #[.agg #[.slice A n c, .slice B m d], .agg #[.int .u64 (vF r.A), .int .u64 (vF r.B)]] w fun e w' => ∃ A' c', e = .returned (.agg #[.slice A' n c', .slice B m d]) ∧ ST w' A' n c' (bndS Ls r) ∧ Below w.heap.size w w' ∧ OwR w' (w.heap.size + 1) (.slice A' n c') n (bndS Ls r) := by
  have hcap := hT.cap
  have htop := hT.top
  have HT := Lib.hid hT
  have HLs := Lib.hid hL
  have HLn := Lib.hid hT.len
  clear hT hL
  go_enter Try.func45, Try.ntmps45
  go_wp2_with fail
  refine wp_named4 (fun V hb g0 g1 g2 g3 hz => ?_)
  have X := Lib.hid (show Two V w.heap.size 30 (.slice A n c) (.slice B m d) from g0)
  have XE := Lib.hid (show Two V (w.heap.size + 1) 43 (.int .u64 (vF r.A)) (.int .u64 (vF r.B)) from g1)
  have XR := Lib.hid (show Two V (w.heap.size + 1 + 1) 30 (.slice none 0 0) (.slice none 0 0) from g2)
  have XO := Lib.hid (show Two V (w.heap.size + 1 + 1 + 1) 30 (.slice none 0 0) (.slice B m d) from g3)
  have HB := Lib.hid hb
  clear hb g0 g1 g2 g3
  go_loopw [6] (fun s wr => ∃ (k : Nat) (v : Value), k ≤ n ∧ s = .int .i64 k ∧ OwR wr V.heap.size v k ((Ls.take k).map (bndE · r)) ∧ Two wr (w.heap.size + 1 + 1 + 1) 30 v (.slice B m d) ∧ Two wr w.heap.size 30 (.slice A n c) (.slice B m d) ∧ Two wr (w.heap.size + 1) 43 (.int .u64 (vF r.A)) (.int .u64 (vF r.B)) ∧ Two wr (w.heap.size + 1 + 1) 30 (.slice none 0 0) (.slice none 0 0) ∧ Below w.heap.size w wr ∧ V.heap.size ≤ wr.heap.size) (fun s _ => n - (intOf s).toNat)
  case atStart => exact ⟨0, _, Nat.zero_le _, rfl, OwR.nil _ _, XO.out, X.out, XE.out, XR.out, HB.out, Nat.le_refl _⟩
  case round =>
    obtain ⟨k, v, hk, rfl, ho, hs, hx, he, hr, hb, hV⟩ := hrel
    clear XO X XE XR HB
    have HO := Lib.hid ho
    have HS := Lib.hid hs
    have HX := Lib.hid hx
    have HE := Lib.hid he
    have HR := Lib.hid hr
    have HBr := Lib.hid hb
    have x0 := hx.c0
    clear ho hs hx he hr hb
    by_cases hkn : k < n
    · obtain ⟨L, hL⟩ := HT.out.get hkn
      obtain ⟨ad, Bq, mq, dq, hA, y0, hs1⟩ := (HT.out.keep HBr.out).at_ hL
      subst hA
      have hmq : mq ≤ 65536 := by have := hs1.len; have := HLs.out L (List.mem_of_getElem? hL); omega
      have HS1 := Lib.hid hs1
      have HLk := Lib.hid hL
      have hk1 : (k : Int) < (n : Int) := by omega
      have hk0 : (0 : Int) ≤ (k : Int) := by omega
      have hyb := World.block_lt_of_cell? _ _ (show w.cell? (ad.add k) = some (.slice Bq mq dq) by
        obtain ⟨ad', B', m', d', hA, y0', _⟩ := HT.out.at_ hL
        injection hA with hA
        subst hA
        have := cell_keep y0' HBr.out
        rw [y0] at this
        injection this with this
        rw [this]
        exact y0')
      obtain ⟨Av, cv, hve, _, _⟩ := HO.out.shape
      subst hve
      have l0 := LaterB.cell (B := V.heap.size) HS.out.c0 hz
      have l1 := LaterB.cell (B := V.heap.size) HX.out.c0 (show w.heap.size < V.heap.size by omega)
      have l2 := LaterB.cell (B := V.heap.size) y0 (show _ < V.heap.size by omega)
      have l3 := LaterB.cell (B := V.heap.size) HE.out.c0 (show w.heap.size + 1 < V.heap.size by omega)
      have l4 := LaterB.cell (B := V.heap.size) HE.out.c1 (show w.heap.size + 1 < V.heap.size by omega)
      clear hs1 hL y0 hyb
      go_upto_region 5 with fail
      clear x0
      refine wp_held_tailB 12 V.heap.size (by kernel_rfl) (lexOK_of (by kernel_rfl) (by kernel_rfl)) (chainOK_of (by kernel_rfl)) rfl (by kernel_rfl) (by kernel_rfl) (fun W0 hbW hSW => ?_)
      have HO0 := Lib.hid (HO.out.keep hbW)
      have HS0 := Lib.hid (HS.out.keep hbW)
      have HX0 := Lib.hid (HX.out.keep hbW)
      have HE0 := Lib.hid (HE.out.keep hbW)
      have HR0 := Lib.hid (HR.out.keep hbW)
      have HB0 := Lib.hid (below_step HBr.out hbW)
      have HS10 := Lib.hid (HS1.out.keep hbW)
      have HSS := Lib.hid hSW
      have hz0 : V.heap.size ≤ W0.heap.size := by have := hbW.size; omega
      clear hbW hSW
      refine wpHeld_seg 8 HSS.out (by kernel_rfl) ?_
      simp only [List.take_succ_cons, List.take_zero, List.drop_succ_cons, List.drop_zero]
      repeat (go_big_quiet_step (fail))
      refine wpQuiet_nil ?_
      clear l0 l1 l2 l3 l4
      refine wpHeld_call 26 Try.func26 (by kernel_rfl) (by kernel_rfl) _ _ #[.slice Bq mq dq, .agg #[.int .u64 (vF r.A), .int .u64 (vF r.B)]] rfl (by kernel_rfl) (by kernel_rfl) ?_
      refine (rBindO_any Bq mq dq L r _ HS10.out hmq).mono ?_
      rintro e Wa ⟨A', c', rfl, hoA, hba⟩
      have hza := hba.size
      have HOA := Lib.hid hoA
      have HBa := Lib.hid hba
      have HSa := Lib.hid (LaterB.step HSS.out (hba.mono hz0))
      clear hoA hba
      refine ⟨_, rfl, HSa.out, ?_⟩
      simp only [Act.put, List.setIfInBounds_toArray, List.set_cons_zero, List.set_cons_succ]
      have HSb := Lib.hid (LaterB.step HSa.out ((Below.refl V.heap.size Wa).alloc (by omega) (.cells #[.slice A' (mq / 2) c'] 22)))
      refine wpHeld_run _ _ (by kernel_rfl) (by kernel_rfl) (run_buildT A' (mq / 2) c' rfl rfl _) HSb.out ?_
      simp only [Act.put, List.setIfInBounds_toArray, List.set_cons_zero, List.set_cons_succ]
      have HBb := Lib.hid (HBa.out.alloc HBa.out.size (.cells #[.slice A' (mq / 2) c'] 22))
      refine wpHeld_op (by kernel_rfl) (by kernel_rfl) ?_
      refine hOp_appendT W0 (.tmp 18) (.tmp 26) rfl V.heap.size _ k _ rfl HO0.out HBb.out Wa.heap.size 1 A' (mq / 2) c' (bndE L r) rfl (One.new Wa _ _) (HOA.out.keep ((Below.refl _ _).alloc (Nat.le_refl _) _)) (by omega) hz0 ?_
      intro v1 w1 hown1 hg1
      have hlv : ∀ q, (Value.slice Av k cv).ownBlock = some q → V.heap.size ≤ q := fun q hq => HO0.out.lt hq
      have HO1 := Lib.hid hown1
      have HS2 := Lib.hid (two_grownR (HS0.out.keep HBb.out) hg1 hlv hz)
      have HX1 := Lib.hid (two_grownR (HX0.out.keep HBb.out) hg1 hlv (by omega))
      have HE1 := Lib.hid (two_grownR (HE0.out.keep HBb.out) hg1 hlv (by omega))
      have HR1 := Lib.hid (two_grownR (HR0.out.keep HBb.out) hg1 hlv (by omega))
      have HB1 := Lib.hid (Below.grown (below_step HB0.out HBb.out) hg1 (by have := HB0.out.size; have := HBb.out.size; omega) (fun q hq => by have := hlv q hq; omega))
      have HSz := Lib.hid (LaterB.step HSb.out (Below.grown (Below.refl V.heap.size _) hg1 (by have := HBb.out.size; omega) hlv))
      have hz1 : V.heap.size ≤ w1.heap.size := by have := hg1.size; have := HBb.out.size; omega
      clear hown1 hg1
      refine ⟨HSz.out, ?_⟩
      simp only [Act.put, List.setIfInBounds_toArray, List.set_cons_zero, List.set_cons_succ]
      obtain ⟨A1, c1, rfl, _⟩ := HO1.out.shape
      refine wpHeld_seg 1 HSz.out (by kernel_rfl) ?_
      simp only [List.take_succ_cons, List.take_zero, List.drop_succ_cons, List.drop_zero]
      repeat (go_big_quiet_step (fail))
      refine wpQuiet_nil (wpHeld_nil ?_)
      refine mOp_run0 _ rfl rfl (run_storeTs (w.heap.size + 1 + 1 + 1) _ ⟨_, _, _, rfl⟩ rfl rfl rfl HS2.out) ?_
      have HOn := Lib.hid (show OwR w1 V.heap.size (.slice A1 (k + 1) c1) (k + 1) ((Ls.take (k + 1)).map (bndE · r)) by
        have h := HO1.out
        obtain ⟨hl, he⟩ := List.getElem?_eq_some_iff.1 HLk.out
        rw [List.take_succ_eq_append_getElem hl, List.map_append, he]
        exact h)
      go_wp2_with fail
      go_roundw
      case rel => exact ⟨k + 1, _, by omega, by go_num, HOn.out.far _ hz, HS2.out.set0 _, HX1.out.far _ (by show w.heap.size ≠ w.heap.size + 1 + 1 + 1; omega), HE1.out.far _ (by show w.heap.size + 1 ≠ w.heap.size + 1 + 1 + 1; omega), HR1.out.far _ (by show w.heap.size + 1 + 1 ≠ w.heap.size + 1 + 1 + 1; omega), HB1.out.setCell (by show w.heap.size ≤ w.heap.size + 1 + 1 + 1; omega) _, by simpa using hz1⟩
      case measure => simp [intOf]; omega
    · have hke : k = n := by omega
      have hk1 : ¬ ((k : Int) < (n : Int)) := by omega
      obtain ⟨Av, cv, rfl, _, _⟩ := HO.out.shape
      have HOe : Hid (OwR wr V.heap.size (.slice Av k cv) k (bndS Ls r)) := Lib.hid (by have h := HO.out; rw [List.take_of_length_le (by have := HLn.out; omega)] at h; exact h)
      have s0 := HS.out.c0
      have s1 := HS.out.c1
      have r0 := HR.out.c0
      have r1 := HR.out.c1
      have f0 := HR.out.f0
      have f1 := HR.out.f1
      have Hke := Lib.hid hke
      clear hke
      go_wp2_with fail
      have YF := (HR.out.set0 (.slice Av k cv)).set1 (.slice B m d)
      have y0 := YF.c0
      have y1 := YF.c1
      refine bodyPost_ret (v := .agg #[.slice Av k cv, .slice B m d]) (by simp [results, Try.results45, go_sem, y0, y1]) rfl ?_
      have e1 := Hke.out
      subst e1
      exact ⟨Av, cv, rfl, ((HOe.out.far (a := ⟨w.heap.size + 1 + 1, 0, none⟩) _ (show w.heap.size + 1 + 1 < V.heap.size by omega)).far (a := ⟨w.heap.size + 1 + 1, 1, none⟩) _ (show w.heap.size + 1 + 1 < V.heap.size by omega)).st, (HBr.out.setCell (by show w.heap.size ≤ w.heap.size + 1 + 1; omega) _).setCell (by show w.heap.size ≤ w.heap.size + 1 + 1; omega) _, ((HOe.out.far (a := ⟨w.heap.size + 1 + 1, 0, none⟩) _ (show w.heap.size + 1 + 1 < V.heap.size by omega)).far (a := ⟨w.heap.size + 1 + 1, 1, none⟩) _ (show w.heap.size + 1 + 1 < V.heap.size by omega)).lowR (by omega)⟩

theorem rSTotal_as (A : Option Addr) (n c : Nat) (Ls : List (List E2)) (B : Option Addr) (m d : Nat) (ts : List Tm) (K : Nat) (v : E2) (w : World) (hT : ST w A n c Ls) (hM : TM w B m d ts) (hok : OkS Ls ts K) (hv : totE Ls ts (2 ^ K) = v) :
    Calls Try.prog 22 #[.agg #[.slice A n c, .slice B m d]] w fun e w' => e = .returned (.agg #[.int .u64 (vF v.A), .int .u64 (vF v.B)]) ∧ Below w.heap.size w w' := hv ▸ rSTotal_any A n c Ls B m d ts K w hT hM hok

set_option maxHeartbeats 8000000 in
theorem rSRound_any (A : Option Addr) (n c : Nat) (Ls : List (List E2)) (B : Option Addr) (m d : Nat) (ts : List Tm) (K D : Nat) (w : World) (hT : ST w A n c Ls) (hM : TM w B m d ts) (hok : OkS Ls ts (K + 1)) (hD : degT ts = D) :
    Calls Try.prog 28 #[.agg #[.slice A n c, .slice B m d]] w fun e w' => ∃ A' c', e = .returned (.slice A' (D + 1) c') ∧ OwE w' w.heap.size (.slice A' (D + 1) c') (D + 1) (rndE Ls ts (2 ^ (K + 1))) ∧ Below w.heap.size w w' := by
  have hn16 : n ≤ 16 := by rw [hT.len]; exact hok.few
  have hD3 : D ≤ 3 := by rw [← hD]; exact hok.deg3
  have HT := Lib.hid hT
  have HM := Lib.hid hM
  have HOK := Lib.hid hok
  have HD := Lib.hid hD
  clear hT hM hok hD
  go_enter Try.func28, Try.ntmps28
  go_upto_region 1 with fail
  refine wp_named1 (fun V0 hb g0 hz0 => ?_)
  have X := Lib.hid (show Two V0 w.heap.size 30 (.slice A n c) (.slice B m d) from g0)
  have HB0 := Lib.hid hb
  clear hb g0
  go_wp2_with fail
  go_loopw [3, 4] (fun v s wr => ∃ x : Nat, x ≤ D + 1 ∧ s = .int .i64 x ∧ OwE wr V0.heap.size v x (tabE x fun x => totE (bndS Ls (nd x)) ts (2 ^ K)) ∧ Below V0.heap.size V0 wr) (fun _ s _ => D + 1 - (intOf s).toNat)
  case atStart => exact ⟨0, Nat.zero_le _, rfl, OwE.made V0 _ (Nat.le_refl _), (Below.refl _ _).alloc (Nat.le_refl _) _⟩
  case round =>
    obtain ⟨x, hx, rfl, ho, hb⟩ := hrel
    have HO := Lib.hid ho
    have HL := Lib.hid hb
    have XX := X.out.keep hb
    have x0 := XX.c0
    have x1 := XX.c1
    clear ho hb XX
    go_wp2_with fail
    refine (rSDegree_any A n c B m d (rawT ts) D _ (HM.out.keep (below_step HB0.out HL.out)) HD.out).mono ?_
    rintro e W1 ⟨rfl, hb⟩
    have HO1 := Lib.hid (HO.out.keep hb)
    have HL1 := Lib.hid (below_step HL.out hb)
    clear hb HO HL x0 x1
    by_cases hlt : x < D + 1
    · have hx1 : (x : Int) ≤ (D : Int) := by omega
      obtain ⟨tv, htv⟩ : ∃ tv, totE (bndS Ls (nd x)) ts (2 ^ K) = tv := ⟨_, rfl⟩
      have HTv := Lib.hid htv
      have XX := X.out.keep HL1.out
      have l0 := LaterB.cell (B := V0.heap.size) XX.c0 (show w.heap.size < V0.heap.size from hz0)
      have l1 := LaterB.cell (B := V0.heap.size) XX.c1 (show w.heap.size < V0.heap.size from hz0)
      clear htv XX
      go_upto_region 5 with fail
      refine wp_heldB V0.heap.size (by kernel_rfl) (lexOK_of (by kernel_rfl) (by kernel_rfl)) (chainOK_of (by kernel_rfl)) (fun W0 hbW hSW => ?_)
      have HO2 := Lib.hid (HO1.out.keep hbW)
      have HL2 := Lib.hid (below_step HL1.out hbW)
      have HSS := Lib.hid hSW
      have hz1 : V0.heap.size ≤ W0.heap.size := HL2.out.size
      clear hbW hSW
      refine wpHeld_seg 3 HSS.out (by kernel_rfl) ?_
      simp only [List.take_succ_cons, List.take_zero, List.drop_succ_cons, List.drop_zero]
      repeat (go_big_quiet_step (fail))
      refine wpQuiet_nil ?_
      refine wpHeld_call 37 Try.func37 (by kernel_rfl) (by kernel_rfl) _ _ #[.int .i64 (x : Int)] rfl (by kernel_rfl) (by kernel_rfl) ?_
      refine (rFromNd5 (x : Int) _ (by omega) (by omega)).mono ?_
      rintro e W2 ⟨rfl, hb⟩
      have HO3 := Lib.hid (HO2.out.keep hb)
      have HL3 := Lib.hid (below_step HL2.out hb)
      have HS3 := Lib.hid (LaterB.step HSS.out (hb.mono hz1))
      have hz2 : V0.heap.size ≤ W2.heap.size := HL3.out.size
      clear hb
      refine ⟨_, rfl, HS3.out, ?_⟩
      simp only [Act.put, List.setIfInBounds_toArray, List.set_cons_zero, List.set_cons_succ]
      refine wpHeld_call 45 Try.func45 (by kernel_rfl) (by kernel_rfl) _ _ #[.agg #[.slice A n c, .slice B m d], .agg #[.int .u64 (vF (nd x).A), .int .u64 (vF (nd x).B)]] rfl (by kernel_rfl) (by kernel_rfl) ?_
      refine (rSBind_any A n c Ls B m d (nd x) _ (HT.out.keep (below_step HB0.out HL3.out)) (fun L hL => by rw [HOK.out.len L hL]; exact HOK.out.pow) (by omega)).mono ?_
      rintro e W3 ⟨A', c', rfl, hT', hb, _⟩
      have HO4 := Lib.hid (HO3.out.keep hb)
      have HL4 := Lib.hid (below_step HL3.out hb)
      have HS4 := Lib.hid (LaterB.step HS3.out (hb.mono hz2))
      have hz3 : V0.heap.size ≤ W3.heap.size := HL4.out.size
      have HT' := Lib.hid hT'
      clear hb hT'
      refine ⟨_, rfl, HS4.out, ?_⟩
      simp only [Act.put, List.setIfInBounds_toArray, List.set_cons_zero, List.set_cons_succ]
      refine wpHeld_call 22 Try.func22 (by kernel_rfl) (by kernel_rfl) _ _ #[.agg #[.slice A' n c', .slice B m d]] rfl (by kernel_rfl) (by kernel_rfl) ?_
      refine (rSTotal_as A' n c' (bndS Ls (nd x)) B m d ts K tv _ HT'.out (HM.out.keep (below_step HB0.out HL4.out)) (HOK.out.bnd _) HTv.out).mono ?_
      rintro e W4 ⟨rfl, hb⟩
      have HO5 := Lib.hid (HO4.out.keep hb)
      have HL5 := Lib.hid (below_step HL4.out hb)
      have HS5 := Lib.hid (LaterB.step HS4.out (hb.mono hz3))
      have hz4 : V0.heap.size ≤ W4.heap.size := HL5.out.size
      clear hb
      refine ⟨_, rfl, HS5.out, ?_⟩
      simp only [Act.put, List.setIfInBounds_toArray, List.set_cons_zero, List.set_cons_succ]
      have HSb := Lib.hid (LaterB.step HS5.out ((Below.refl V0.heap.size W4).alloc hz4 (.cells #[.int .u64 (vF tv.A), .int .u64 (vF tv.B)] 43)))
      refine wpHeld_run _ _ (by kernel_rfl) (by kernel_rfl) (run_buildE tv rfl rfl _) HSb.out ?_
      simp only [Act.put, List.setIfInBounds_toArray, List.set_cons_zero, List.set_cons_succ]
      have HBb := Lib.hid (HL5.out.alloc hz4 (.cells #[.int .u64 (vF tv.A), .int .u64 (vF tv.B)] 43))
      refine wpHeld_op (by kernel_rfl) (by kernel_rfl) ?_
      refine hOp_appendE (.tmp 12) (.tmp 18) rfl V0.heap.size _ x _ rfl (HO5.out.keep ((Below.refl _ _).alloc (Nat.le_refl _) _)) W4.heap.size 1 tv rfl (Two.new W4 _ _ _) (by omega) (by rw [World.size_alloc]; omega) ?_
      intro v1 w1 hown1 hg1
      have hlv := fun q hq => (World.ownsRow.lt HO5.out q hq).1
      have HO6 := Lib.hid hown1
      have HL6 := Lib.hid (Below.grown HBb.out hg1 HBb.out.size hlv)
      have HSz := Lib.hid (LaterB.step HSb.out (Below.grown (Below.refl V0.heap.size _) hg1 HBb.out.size hlv))
      clear hown1 hg1
      refine ⟨HSz.out, ?_⟩
      simp only [Act.put, List.setIfInBounds_toArray, List.set_cons_zero, List.set_cons_succ]
      refine wpHeld_seg 1 HSz.out (by kernel_rfl) ?_
      simp only [List.take_succ_cons, List.take_zero, List.drop_succ_cons, List.drop_zero]
      repeat (go_big_quiet_step (fail))
      refine wpQuiet_nil (wpHeld_nil ?_)
      clear l0 l1
      go_wp2_with fail
      go_roundw
      case rel => exact ⟨x + 1, by omega, by go_num, by rw [tabE_succ, HTv.out]; exact HO6.out, HL6.out⟩
      case measure => simp [intOf]; omega
    · have hxe : x = D + 1 := by omega
      have HR := Lib.hid (show (tabE x fun x => totE (bndS Ls (nd x)) ts (2 ^ K)) = rndE Ls ts (2 ^ (K + 1)) by unfold rndE; rw [HD.out, hxe, show 2 ^ (K + 1) / 2 = 2 ^ K by rw [Nat.pow_succ]; omega])
      have hx1 : ¬ ((x : Int) ≤ (D : Int)) := by omega
      have Hxe := Lib.hid hxe
      obtain ⟨Av, cv, rfl, hsv⟩ := HO1.out.sl
      clear hxe hsv
      go_wp2_with fail
      go_ret
      have e1 := Hxe.out
      subst e1
      exact ⟨Av, cv, rfl, by have := HO1.out; rw [HR.out] at this; exact this.low (by have := HB0.out.size; omega), below_step HB0.out HL1.out⟩

end Go.Proofs.Ytombcjdhjcmhhaa

/- Contracts of the reference of package sumcheck: Prove, SameRounds; no conditions but that the sums are valid. -/
namespace Go.Proofs.Ytombcjdhjcmhhaa
set_option maxRecDepth 8000
open Go.RowKit Gold

theorem run_storeSm {ev : Operand → Value} {o : Oper} {p x : Operand} {u1 u2 : Value} {w : World} {t : TypeId} (b : Nat) (A B : Option Addr) (n c m d : Nat) (ho : o.op = .store 30 p x) (hp : ev p = .pointer (some ⟨b, 0, none⟩)) (hx : ev x = .agg #[.slice A n c, .slice B m d]) (h : Two w b t u1 u2) :
    (execOp ev o).run Try.prog w = .ok .skip ((w.setCell ⟨b, 0, none⟩ (.slice A n c)).setCell ⟨b, 1, none⟩ (.slice B m d)) := by
  have c0 := h.c0
  have c1 := h.c1
  have f0 := h.f0
  have f1 := h.f1
  unfold execOp
  rw [ho]
  simp only [hp, hx]
  go_simp
/-- tables that came in, or that lie behind all of the rounds' own memory -/
def TbP (w wr : World) (A : Option Addr) (n c : Nat) (Ls : List (List E2)) (v : Value) : Prop := ST w A n c Ls ∨ ∃ bt, OwR wr bt (.slice A n c) n Ls ∧ w.heap.size < bt ∧ bt ≤ wr.heap.size ∧ ∀ q, v.ownBlock = some q → q < bt
theorem TbP.st {w wr : World} {A : Option Addr} {n c : Nat} {Ls : List (List E2)} {v : Value} (h : TbP w wr A n c Ls v) (hb : Below w.heap.size w wr) : ST wr A n c Ls := by
  rcases h with h | ⟨bt, h, _⟩
  · exact h.keep hb
  · exact h.st
theorem TbP.keep {w wr w' : World} {A : Option Addr} {n c : Nat} {Ls : List (List E2)} {v : Value} (h : TbP w wr A n c Ls v) (hb : Below wr.heap.size wr w') : TbP w w' A n c Ls v := by
  rcases h with h | ⟨bt, h, h1, h2, h3⟩
  · exact .inl h
  · exact .inr ⟨bt, h.keep hb, h1, by have := hb.size; omega, h3⟩

set_option maxHeartbeats 8000000 in
theorem rSProve_any (A : Option Addr) (n c : Nat) (Ls : List (List E2)) (B : Option Addr) (m d : Nat) (ts : List Tm) (C : Option Addr) (k f : Nat) (cs : List E2) (w : World) (hT : ST w A n c Ls) (hM : TM w B m d ts) (hC : Sl w C k f cs) (hok : OkS Ls ts cs.length) :
    Calls Try.prog 16 #[.agg #[.slice A n c, .slice B m d], .slice C k f] w fun e w' => ∃ AR cR Av cv, e = .returned (.tuple #[.slice AR k cR, .slice Av n cv]) ∧ ST w' AR k cR (proR Ls ts cs) ∧ Sl w' Av n cv (proV Ls cs) ∧ Below w.heap.size w w' := by
  have hkf := hC.cap
  have hft := hC.top
  have hk16 : k ≤ 16 := by rw [hC.len]; exact hok.k16
  have hn0 : 0 < n := by rw [hT.len]; exact hok.pos
  have hn16 : n ≤ 16 := by rw [hT.len]; exact hok.few
  obtain ⟨D, hD⟩ : ∃ D, degT ts = D := ⟨_, rfl⟩
  have HDd := Lib.hid hD
  have HT := Lib.hid hT
  have HM := Lib.hid hM
  have HC := Lib.hid hC
  have HOK := Lib.hid hok
  have HLn := Lib.hid hT.len
  have HLk := Lib.hid hC.len
  clear hT hM hC hok hD
  go_enter Try.func16, Try.ntmps16
  go_upto_region 1 with fail
  refine wp_named1 (fun V hb g0 hz => ?_)
  have X := Lib.hid (show Two V w.heap.size 30 (.slice A n c) (.slice B m d) from g0)
  have HB := Lib.hid hb
  clear hb g0
  go_wp2_with fail
  go_loopw [6, 7] (fun v s wr => ∃ (i : Nat) (A' : Option Addr) (c' : Nat), i ≤ k ∧ s = .int .i64 i ∧ OwR wr V.heap.size v i ((List.range i).map (rndC Ls ts cs)) ∧ TbP w wr A' n c' (bndC Ls (cs.take i)) v ∧ Two wr w.heap.size 30 (.slice A' n c') (.slice B m d) ∧ Below w.heap.size w wr ∧ V.heap.size ≤ wr.heap.size) (fun _ s _ => k - (intOf s).toNat)
  case atStart => exact ⟨0, A, c, Nat.zero_le _, rfl, OwR.made V _ (Nat.le_refl _), .inl (by rw [List.take_zero]; exact HT.out), X.out.keep ((Below.refl _ _).alloc (Nat.le_refl _) _), below_step HB.out ((Below.refl _ _).alloc (Nat.le_refl _) _), by simp⟩
  case round =>
    obtain ⟨i, A', c', hi, rfl, ho, ht, hx, hb, hV⟩ := hrel
    have HO := Lib.hid ho
    have HTb := Lib.hid ht
    have HTt := Lib.hid (ht.st hb)
    have HX := Lib.hid hx
    have HBr := Lib.hid hb
    have x0 := hx.c0
    have x1 := hx.c1
    clear ho ht hx hb
    by_cases hik : i < k
    · have hi1 : (i : Int) < (k : Int) := by omega
      have hi0 : (0 : Int) ≤ (i : Int) := by omega
      obtain ⟨x, hx⟩ := HC.out.get hik
      have hoi := HOK.out.take i (by have := HLk.out; omega)
      obtain ⟨K', hK'⟩ : ∃ K', cs.length - i = K' + 1 := ⟨cs.length - i - 1, by have := HLk.out; omega⟩
      have HOi := Lib.hid (hK' ▸ hoi)
      have HXx := Lib.hid hx
      have HRi := Lib.hid (show rndE (bndC Ls (cs.take i)) ts (2 ^ (K' + 1)) = rndC Ls ts cs i by unfold rndC; rw [hK'])
      obtain ⟨Wi, hWi⟩ : ∃ Wi : World, Wi = wr := ⟨_, rfl⟩
      subst hWi
      clear hoi hK' hx
      go_wp2_with fail
      refine (rSRound_any A' n c' (bndC Ls (cs.take i)) B m d ts K' D _ HTt.out (HM.out.keep HBr.out) HOi.out HDd.out).mono ?_
      rintro e W1 ⟨A1, c1, rfl, ho1, hb⟩
      have HO1 := Lib.hid ho1
      have HB1 := Lib.hid hb
      clear ho1 hb x0 x1
      obtain ⟨Av, cv, rfl, _, _⟩ := HO.out.shape
      go_upto_region 6 with (at_builtin; refine wpList_appendR Wi rfl (.tmp 17) (.tmp 20) rfl V.heap.size _ i _ rfl HO.out (HB1.out.alloc HB1.out.size _) W1.heap.size 1 A1 (D + 1) c1 _ rfl (One.new W1 _ _) (HO1.out.keep ((Below.refl _ _).alloc (Nat.le_refl _) _)) (by omega) hV ?_; intro v1 w1 hown1 hg1; have HO2 := Lib.hid hown1; have HG := Lib.hid hg1; clear hown1 hg1)
      have hlv : ∀ q, (Value.slice Av i cv).ownBlock = some q → V.heap.size ≤ q := fun q hq => HO.out.lt hq
      have HB2 : Hid (Below W1.heap.size W1 (W1.alloc (.cells #[.slice A1 (D + 1) c1] 22))) := Lib.hid ((Below.refl _ _).alloc (Nat.le_refl _) _)
      have HX2 := Lib.hid (two_grownR ((HX.out.keep HB1.out).keep HB2.out) HG.out hlv hz)
      have HB3 := Lib.hid (Below.grown (below_step (below_step HBr.out HB1.out) HB2.out) HG.out (by have := HBr.out.size; have := HB1.out.size; have := HB2.out.size; omega) (fun q hq => by have := hlv q hq; omega))
      have HT2 : Hid (ST w1 A' n c' (bndC Ls (cs.take i))) := Lib.hid (by
        rcases HTb.out with h | ⟨bt, h, h1, h2, h3⟩
        · exact h.keep HB3.out
        · exact (((h.keep HB1.out).keep HB2.out).grownLow HG.out h3).st)
      have hz1 : V.heap.size ≤ w1.heap.size := by have := HG.out.size; have := HB1.out.size; have := HB2.out.size; omega
      have hvlt : ∀ q, v1.ownBlock = some q → q < w1.heap.size := fun q hq => by obtain ⟨vals, h1, _⟩ := HO2.out; exact (World.ownsRow.lt h1 q hq).2
      obtain ⟨adc, rfl, p0, p1⟩ := (HC.out.keep HB3.out).at_ HXx.out
      have hws : w.heap.size < w.heap.size + 1 := Nat.lt_succ_self _
      obtain ⟨adc', hadc, q0, q1⟩ := HC.out.at_ HXx.out
      injection hadc with hadc
      subst hadc
      have l0 := LaterB.cell (B := w.heap.size + 1) HX2.out.c0 hws
      have l1 := LaterB.cell (B := w.heap.size + 1) HX2.out.c1 hws
      have l2 := LaterB.cell (B := w.heap.size + 1) p0 (Nat.lt_succ_of_lt (World.block_lt_of_cell? _ _ q0))
      have l3 := LaterB.cell (B := w.heap.size + 1) p1 (Nat.lt_succ_of_lt (World.block_lt_of_cell? _ _ q1))
      clear p0 p1 q0 q1
      refine Tl.wp_held_tailB 6 (w.heap.size + 1) (by kernel_rfl) (lexOK_of (by kernel_rfl) (by kernel_rfl)) (Tl.chainW_of (by kernel_rfl)) rfl (by kernel_rfl) (by kernel_rfl) (fun W0 hbW hSW => ?_)
      have HW := Lib.hid hbW
      have HSS := Lib.hid hSW
      have hz2 : w.heap.size + 1 ≤ W0.heap.size := by have := hbW.size; omega
      clear hbW hSW
      refine wpHeld_seg 5 HSS.out (by kernel_rfl) ?_
      simp only [List.take_succ_cons, List.take_zero, List.drop_succ_cons, List.drop_zero]
      repeat (go_big_quiet_step (fail))
      refine wpQuiet_nil ?_
      clear l0 l1 l2 l3
      refine wpHeld_call 45 Try.func45 (by kernel_rfl) (by kernel_rfl) _ _ #[.agg #[.slice A' n c', .slice B m d], .agg #[.int .u64 (vF x.A), .int .u64 (vF x.B)]] rfl (by kernel_rfl) (by kernel_rfl) ?_
      refine (rSBind_any A' n c' (bndC Ls (cs.take i)) B m d x _ (HT2.out.keep HW.out) (fun L hL => by rw [HOi.out.len L hL]; exact HOi.out.pow) (by omega)).mono ?_
      rintro e W3 ⟨A3, c3, rfl, hT3, hb, hO3⟩
      have HO3 := Lib.hid hO3
      have HB4 := Lib.hid hb
      have HS3 := Lib.hid (LaterB.step HSS.out (hb.mono hz2))
      clear hT3 hb hO3
      refine ⟨_, rfl, HS3.out, ?_⟩
      simp only [Act.put, List.setIfInBounds_toArray, List.set_cons_zero, List.set_cons_succ]
      refine wpHeld_nil ?_
      have HX3 := Lib.hid ((HX2.out.keep HW.out).keep HB4.out)
      refine mOp_run0 _ rfl rfl (run_storeSm w.heap.size A3 B n c3 m d rfl rfl rfl HX3.out) ?_
      have hs3 := HW.out.size
      have hs4 := HB4.out.size
      have hcs : bndC Ls (cs.take (i + 1)) = bndS (bndC Ls (cs.take i)) x := bndC_snoc HXx.out
      have hrs : (List.range (i + 1)).map (rndC Ls ts cs) = (List.range i).map (rndC Ls ts cs) ++ [rndE (bndC Ls (cs.take i)) ts (2 ^ (K' + 1))] := by rw [HRi.out, List.range_succ, List.map_append]; rfl
      have HCS := Lib.hid hcs
      have HRS := Lib.hid hrs
      clear hcs hrs
      obtain ⟨Av1, cv1, rfl, _, _⟩ := HO2.out.shape
      go_wp2_with fail
      go_roundw
      case rel => exact ⟨i + 1, A3, c3, by omega, by go_num, by rw [HRS.out]; exact (((HO2.out.keep HW.out).keep HB4.out).far _ hz).far _ hz, .inr ⟨W0.heap.size + 1, by rw [HCS.out]; exact (HO3.out.far _ (by show w.heap.size < _; omega)).far _ (by show w.heap.size < _; omega), by omega, by simp; have := HO3.out.st.len; have h := HO3.out; obtain ⟨vals, h1, _⟩ := h; rcases h1.2 with ⟨_, e0⟩ | ⟨g, cap, cur, e1, hbs, hgg, _⟩; omega; have := (Array.getElem?_eq_some_iff.1 hgg).1; omega, fun q hq => by have := hvlt q hq; omega⟩, (HX3.out.set0 _).set1 _, ((below_step (below_step HB3.out HW.out) HB4.out).setCell (Nat.le_refl _) _).setCell (Nat.le_refl _) _, by simp; omega⟩
      case measure => simp [intOf]; omega
    · have hik2 : i = k := by omega
      have hlk := HLk.out
      have hi1 : ¬ ((i : Int) < (k : Int)) := by omega
      have HBc := Lib.hid (show bndC Ls (cs.take i) = bndC Ls cs by rw [List.take_of_length_le (by omega)])
      have HRs := Lib.hid (show (List.range i).map (rndC Ls ts cs) = proR Ls ts cs by unfold proR; rw [hik2, hlk])
      obtain ⟨Av, cv, rfl, _, _⟩ := HO.out.shape
      have HO1 : Hid (OwR wr V.heap.size (.slice Av i cv) i (proR Ls ts cs)) := Lib.hid (HRs.out ▸ HO.out)
      have HT1 : Hid (ST wr A' n c' (bndC Ls cs)) := Lib.hid (HBc.out ▸ HTt.out)
      obtain ⟨Wd, hWd⟩ : ∃ Wd : World, Wd = wr := ⟨_, rfl⟩
      subst hWd
      have Hik := Lib.hid hik2
      have htc := HT1.out.cap
      have htt := HT1.out.top
      clear hik2 hlk HBc HRs HO HTt HTb
      go_wp2_with fail
      go_loopw [8, 9] (fun v s wr => ∃ j : Nat, j ≤ n ∧ s = .int .i64 j ∧ OwE wr Wd.heap.size v j (tabE j fun j => cfE (tbl (bndC Ls cs) j) 0) ∧ Below Wd.heap.size Wd wr) (fun _ s _ => n - (intOf s).toNat)
      case atStart => exact ⟨0, Nat.zero_le _, rfl, OwE.made Wd _ (Nat.le_refl _), (Below.refl _ _).alloc (Nat.le_refl _) _⟩
      case round =>
        obtain ⟨j, hj, rfl, ho, hb⟩ := hrel
        have HOv := Lib.hid ho
        have HL2 := Lib.hid hb
        have XX := HX.out.keep hb
        have y0 := XX.c0
        clear ho hb x0 x1 XX
        by_cases hjn : j < n
        · obtain ⟨L, hL⟩ := HT1.out.get hjn
          obtain ⟨ad, B2, m2, d2, hA, y1, hs⟩ := (HT1.out.keep HL2.out).at_ hL
          subst hA
          have hm2 : m2 = 2 ^ (cs.length - i) := by
            have h1 := HOK.out.take i (by have := HLk.out; have := Hik.out; omega)
            rw [List.take_of_length_le (by have := HLk.out; have := Hik.out; omega)] at h1
            rw [hs.len]
            exact h1.len L (List.mem_of_getElem? hL)
          have hm0 : 0 < m2 := by rw [hm2]; exact Nat.two_pow_pos _
          obtain ⟨x, hx⟩ := hs.get hm0
          obtain ⟨ad2, rfl, z0, z1⟩ := hs.at_ hx
          rw [show ad2.add (0 * 2) = ad2 by cases ad2; rfl] at z0 z1
          have HXx := Lib.hid (show cfE (tbl (bndC Ls cs) j) 0 = x by rw [tbl_some hL, cfE_some hx])
          have hj1 : (j : Int) < (n : Int) := by omega
          have hm1 : (0 : Int) < (m2 : Int) := by omega
          have hwz := HL2.out.size
          clear hs hx hL hm2
          go_wp2_with (at_builtin; refine wpList_appendE rfl (.tmp 36) (.tmp 44) rfl Wd.heap.size _ j _ rfl (HOv.out.keep ((Below.refl _ _).alloc (Nat.le_refl _) _)) wr.heap.size 1 x rfl (Two.new wr _ _ _) (by omega) (by rw [World.size_alloc]; omega) ?_; intro v1 w1 hown1 hg1; have HO2 := Lib.hid hown1; have HG1 := Lib.hid (Below.grown (HL2.out.alloc hwz (.cells #[.int .u64 (vF x.A), .int .u64 (vF x.B)] 43)) hg1 (by rw [World.size_alloc]; omega) (fun q hq => (World.ownsRow.lt HOv.out q hq).1)); clear hown1 hg1)
          go_roundw
          case rel => exact ⟨j + 1, by omega, by go_num, by rw [tabE_succ, HXx.out]; exact HO2.out, HG1.out⟩
          case measure => simp [intOf]; omega
        · have hje : j = n := by omega
          have hj1 : ¬ ((j : Int) < (n : Int)) := by omega
          obtain ⟨Aw, cw, rfl, hsw⟩ := HOv.out.sl
          have HV := Lib.hid (show Sl wr Aw j cw (proV Ls cs) by unfold proV; rw [← HLn.out, ← hje]; exact hsw)
          have Hje := Lib.hid hje
          clear hsw hje
          go_wp2_with fail
          refine bodyPost_ret (v := .tuple #[.slice Av i cv, .slice Aw j cw]) (by simp [results, Try.results16, go_sem]) rfl ?_
          have e1 := Hik.out
          have e2 := Hje.out
          subst e1
          subst e2
          exact ⟨Av, cv, Aw, cw, rfl, HO1.out.st.keep HL2.out, HV.out, below_step HBr.out HL2.out⟩

set_option maxHeartbeats 4000000 in
theorem sameRounds_yes (A : Option Addr) (n c : Nat) (B : Option Addr) (m d : Nat) (Rs : List (List E2)) (w : World) (hA : ST w A n c Rs) (hB : ST w B m d Rs) :
    Calls Try.prog 17 #[.slice A n c, .slice B m d] w fun e w' => e = .returned (.bool true) ∧ Below w.heap.size w w' := by
  have hcap := hA.cap
  have htop := hA.top
  have hcap2 := hB.cap
  have htop2 := hB.top
  have hmn : m = n := by rw [hA.len, hB.len]
  subst hmn
  have HA := Lib.hid hA
  have HB := Lib.hid hB
  clear hA hB
  go_enter Try.func17, Try.ntmps17
  go_wp2_with fail
  go_loopw [5] (fun s wr => ∃ i : Nat, i ≤ m ∧ s = .int .i64 i ∧ Below w.heap.size w wr) (fun s _ => m - (intOf s).toNat)
  case atStart => exact ⟨0, Nat.zero_le _, rfl, Below.refl _ _⟩
  case round =>
    obtain ⟨i, hi, rfl, hb⟩ := hrel
    have HL := Lib.hid hb
    clear hb
    by_cases him : i < m
    · obtain ⟨L, hL⟩ := HA.out.get him
      obtain ⟨ad1, B1, m1, d1, hA1, y1, hs1⟩ := (HA.out.keep HL.out).at_ hL
      obtain ⟨ad2, B2, m2, d2, hA2, y2, hs2⟩ := (HB.out.keep HL.out).at_ hL
      subst hA1
      subst hA2
      have HS1 := Lib.hid hs1
      have HS2 := Lib.hid hs2
      have hi1 : (i : Int) < (m : Int) := by omega
      have hi0 : (0 : Int) ≤ (i : Int) := by omega
      have l0 := Later.cell y1
      have l1 := Later.cell y2
      clear hs1 hs2 y1 y2 hL
      go_upto_region 6 with fail
      refine wp_floatN (by kernel_rfl) (lexOK_of (by kernel_rfl) (by kernel_rfl)) (chainOF_of (by kernel_rfl)) (fun V12 hb hS => ?_)
      have HW0 := Lib.hid hb
      have HSL0 := Lib.hid hS
      clear hb hS
      refine wpF_seg 8 (by kernel_rfl) ?_
      simp only [List.take_succ_cons, List.take_zero, List.drop_succ_cons, List.drop_zero]
      repeat (go_big_quiet_step (fail))
      refine wpQuiet_nil ?_
      refine wpF_call 18 Try.func18 (by kernel_rfl) (by kernel_rfl) _ _ #[.slice B1 m1 d1, .slice B2 m2 d2] rfl (by kernel_rfl) (by kernel_rfl) HSL0.out (fun VV hV => ?_)
      have HW := Lib.hid (below_step HW0.out hV)
      refine (same_yes B1 m1 d1 B2 m2 d2 L _ (HS1.out.keep HW.out) (HS2.out.keep HW.out)).mono ?_
      rintro e WW ⟨rfl, hb⟩
      have hb2 := ext_trans hV hb
      have HWn := Lib.hid (below_step HW0.out hb2)
      have HSLn := Lib.hid (HSL0.out.ext hb2)
      clear HW0 HSL0 HW
      have HW0 := HWn
      have HSL0 := HSLn
      clear HWn HSLn
      refine ⟨_, rfl, hb, ?_⟩
      clear hb hb2 hV
      simp only [Act.put, List.setIfInBounds_toArray, List.set_cons_zero, List.set_cons_succ]
      refine wpF_seg 1 (by kernel_rfl) ?_
      simp only [List.take_succ_cons, List.take_zero, List.drop_succ_cons, List.drop_zero]
      repeat (go_big_quiet_step (fail))
      refine wpQuiet_nil ?_
      clear l0 l1
      refine wpF_nil (fun Yf hY0 => ?_)
      have HLf := Lib.hid (below_step HL.out (below_step HW0.out hY0))
      clear HW0 HSL0 hY0
      go_wp2_with fail
      go_roundw
      case rel => exact ⟨i + 1, by omega, by go_num, HLf.out⟩
      case measure => simp [intOf]; omega
    · have hi1 : ¬ ((i : Int) < (m : Int)) := by omega
      go_wp2_with fail
      go_ret
      exact ⟨rfl, HL.out⟩

end Go.Proofs.Ytombcjdhjcmhhaa

/- Contracts for raw sums: the reference's Valid of package attestorref06, and small; no conditions. -/
namespace Go.Proofs.Ytombcjdhjcmhhaa
set_option maxRecDepth 8000
open Go.RowKit Gold

/-! ### What Valid says -/
theorem valP_inv {q : List (Int × Int)} (h : (valP q).2 = true) : ∃ K : Nat, valP q = ((K : Int), true) ∧ q.length = 2 ^ K ∧ K ≤ 16 ∧ allV q = true := by
  unfold valP at h ⊢
  split at h
  · next hc => exact ⟨_, by rw [if_pos hc], hc.1, hc.2.1, hc.2.2⟩
  · cases h
theorem okF_spec (p : Int) : ∀ (l : List (List (Int × Int))) (b : Bool), l.foldl (fun b q => b && (valP q).2 && decide ((valP q).1 = p)) b = true ↔ b = true ∧ ∀ q ∈ l, (valP q).2 = true ∧ (valP q).1 = p
  | [], b => by simp
  | q :: l, b => by
    rw [List.foldl_cons, okF_spec p l]
    simp only [Bool.and_eq_true, decide_eq_true_eq, List.mem_cons]
    constructor
    · rintro ⟨⟨⟨h1, h2⟩, h3⟩, h4⟩
      exact ⟨h1, fun r hr => by rcases hr with rfl | hr; exact ⟨h2, h3⟩; exact h4 r hr⟩
    · rintro ⟨h1, h2⟩
      exact ⟨⟨⟨h1, (h2 q (.inl rfl)).1⟩, (h2 q (.inl rfl)).2⟩, fun r hr => h2 r (.inr hr)⟩
theorem okF_true {p : Int × Bool} {l : List (List (Int × Int))} : okF p l = true ↔ p.2 = true ∧ ∀ q ∈ l, (valP q).2 = true ∧ (valP q).1 = p.1 := okF_spec p.1 l p.2
theorem varS_true {q0 : List (Int × Int)} {l : List (List (Int × Int))} {ts : List (Int × Int × List Int)} : (varS (q0 :: l) ts).2 = true ↔ okTs ((l.length + 1 : Nat) : Int) ts = true ∧ ∃ K : Nat, K ≤ 16 ∧ q0.length = 2 ^ K ∧ ∀ q ∈ q0 :: l, q.length = q0.length ∧ allV q = true := by
  show (if okTs ((l.length + 1 : Nat) : Int) ts = true then ((valP q0).1, okF (valP q0) l) else (0, false)).2 = true ↔ _
  split
  · next ho =>
    show okF (valP q0) l = true ↔ _
    rw [okF_true]
    constructor
    · rintro ⟨h1, h2⟩
      obtain ⟨K, k1, k2, k3, k4⟩ := valP_inv h1
      refine ⟨ho, K, k3, k2, fun q hq => ?_⟩
      rcases List.mem_cons.1 hq with rfl | hq
      · exact ⟨rfl, k4⟩
      · obtain ⟨h3, h4⟩ := h2 q hq
        obtain ⟨K2, j1, j2, j3, j4⟩ := valP_inv h3
        rw [j1, k1] at h4
        have h5 : (K2 : Int) = (K : Int) := h4
        have h6 : K2 = K := by omega
        exact ⟨by rw [j2, k2, h6], j4⟩
    · rintro ⟨_, K, k1, k2, k3⟩
      have h0 := k3 q0 (List.mem_cons_self ..)
      have e0 := valP_yes k2 k1 h0.2
      refine ⟨by rw [e0], fun q hq => ?_⟩
      have h1 := k3 q (List.mem_cons_of_mem _ hq)
      have e1 := valP_yes (h1.1.trans k2) k1 h1.2
      rw [e0, e1]
      exact ⟨rfl, rfl⟩
  · next ho =>
    constructor
    · intro h; cases h
    · rintro ⟨h, _⟩; exact absurd h ho

set_option maxHeartbeats 8000000 in
theorem rSValid_any (A : Option Addr) (n c : Nat) (Qs : List (List (Int × Int))) (B : Option Addr) (m d : Nat) (ts : List (Int × Int × List Int)) (b : Bool) (w : World) (hT : SW w A n c Qs) (hM : SlM w B m d ts) (hb : (varS Qs ts).2 = b) :
    Calls Try.prog 11 #[.agg #[.slice A n c, .slice B m d]] w fun e w' => e = .returned (.bool b) ∧ Below w.heap.size w w' := by
  have hcap := SlS.cap hT
  have htop := SlS.top hT
  have hcm := hM.cap
  have htm := hM.top
  have HT := Lib.hid hT
  have HM := Lib.hid hM
  have HLn := Lib.hid hT.len
  have HLm := Lib.hid hM.len
  have HBb := Lib.hid hb
  clear hT hM hb
  go_enter Try.func11, Try.ntmps11
  go_upto_region 1 with fail
  refine wp_named1 (fun V hb g0 hz => ?_)
  have X := Lib.hid (show Two V w.heap.size 30 (.slice A n c) (.slice B m d) from g0)
  have HB := Lib.hid hb
  have x0 := X.out.c0
  have x1 := X.out.c1
  clear hb g0
  cases hQs : Qs with
  | nil =>
    have hn0 : n = 0 := by have := HLn.out; rw [hQs] at this; simpa using this
    have hbf : b = false := by rw [← HBb.out, hQs]; rfl
    subst hbf
    subst hn0
    clear hQs
    go_wp2_with fail
    go_ret
    exact ⟨rfl, HB.out⟩
  | cons q0 l =>
    have hnl : n = l.length + 1 := by have := HLn.out; rw [hQs] at this; simpa using this
    have HQs := Lib.hid hQs
    have HNl := Lib.hid hnl
    have hn0 : 0 < n := by omega
    have hn1 : ¬ ((n : Int) = 0) := by omega
    have hn2 : (0 : Int) < (n : Int) := by omega
    have hfalse : (¬ (okTs (n : Int) ts = true ∧ ∃ K : Nat, K ≤ 16 ∧ q0.length = 2 ^ K ∧ ∀ q ∈ Qs, q.length = q0.length ∧ allV q = true)) → b = false := fun h => by
      cases hbb : b with
      | false => rfl
      | true =>
        have h1 := HBb.out
        rw [hbb, hQs, varS_true] at h1
        rw [hQs, hnl] at h
        exact absurd h1 h
    have hrue : okTs (n : Int) ts = true → (∃ K : Nat, K ≤ 16 ∧ q0.length = 2 ^ K) → (∀ q ∈ Qs, q.length = q0.length ∧ allV q = true) → b = true := fun h1 ⟨K, h2, h3⟩ h4 => by
      rw [← HBb.out, hQs, varS_true]
      rw [hQs] at h4
      rw [hnl] at h1
      exact ⟨h1, K, h2, h3, h4⟩
    have HF := Lib.hid hfalse
    have HTr := Lib.hid hrue
    have hq0 : Qs[0]? = some q0 := by rw [hQs]; rfl
    obtain ⟨ad, B1, N, d1, hA, y0, hs0⟩ := (HT.out.keep HB.out).at_ hq0
    subst hA
    rw [show ad.add (0 : Nat) = ad by cases ad; rfl] at y0
    have HN := Lib.hid (show N = q0.length by have := SlR.len hs0; simpa using this)
    have hd1 := SlR.cap hs0
    have hd2 := SlR.top hs0
    clear hs0 hfalse hrue hQs hnl hq0
    by_cases hpow : ∃ K : Nat, K ≤ 16 ∧ q0.length = 2 ^ K
    · have HP := Lib.hid hpow
      have hN1 : 1 ≤ N ∧ N ≤ 65536 ∧ N &&& (N - 1) = 0 := by
        obtain ⟨K, k1, k2⟩ := hpow
        have h1 := Nat.two_pow_pos K
        have h2 : 2 ^ K ≤ 65536 := pow2_le k1
        have h3 := HN.out
        rw [k2] at h3
        exact ⟨by omega, by omega, by rw [h3]; exact and_pred K⟩
      obtain ⟨hNa, hNb, hNc⟩ := hN1
      have hbit : bits .and .i64 (N : Int) ((N : Int) - 1) = 0 := by
        rw [show (N : Int) - 1 = ((N - 1 : Nat) : Int) by omega, bits_and_i64_nat _ _ (by omega) (by omega), hNc]
        rfl
      have i1 : ¬ ((N : Int) < 1) := by omega
      have i2 : ¬ (65536 < (N : Int)) := by omega
      clear hpow hNc
      go_upto_region 6 with fail
      clear hbit
      go_wp2_with fail
      go_loopw [4] (fun s wr => ∃ i : Nat, i ≤ n ∧ s = .int .i64 i ∧ (∀ q ∈ Qs.take i, q.length = q0.length ∧ allV q = true) ∧ Below V.heap.size V wr) (fun s _ => n - (intOf s).toNat)
      case atStart => exact ⟨0, Nat.zero_le _, rfl, fun q hq => (by cases hq), Below.refl _ _⟩
      case round =>
        obtain ⟨i, hi, rfl, hq, hb⟩ := hrel
        have HQ := Lib.hid hq
        have HL := Lib.hid hb
        have XX := X.out.keep hb
        have z0 := XX.c0
        have z1 := XX.c1
        clear hq hb x0 x1 XX y0
        by_cases hin : i < n
        · obtain ⟨q, hqi⟩ := HT.out.get hin
          obtain ⟨ad2, B2, m2, d2, hA, y1, hs⟩ := ((HT.out.keep HB.out).keep HL.out).at_ hqi
          injection hA with hA
          subst hA
          have hm2 : m2 = q.length := by have := SlR.len hs; simpa using this
          have hd3 := SlR.cap hs
          have hd4 := SlR.top hs
          have HSq := Lib.hid hs
          have HQi := Lib.hid hqi
          have HM2 := Lib.hid hm2
          have hi1 : (i : Int) < (n : Int) := by omega
          have hi0 : (0 : Int) ≤ (i : Int) := by omega
          clear hs hqi hm2
          by_cases hmN : m2 = N
          · subst hmN
            go_wp2_with fail
            go_loopw [5] (fun s w2 => ∃ k : Nat, k ≤ m2 ∧ s = .int .i64 k ∧ (∀ p ∈ q.take k, evalid p.1 p.2 = true) ∧ Below V.heap.size V w2) (fun s _ => m2 - (intOf s).toNat)
            case atStart => exact ⟨0, Nat.zero_le _, rfl, fun q hq => (by cases hq), HL.out⟩
            case round =>
              obtain ⟨k, hk, rfl, hp, hb⟩ := hrel
              have HP2 := Lib.hid hp
              have HL2 := Lib.hid hb
              have XX := X.out.keep hb
              have v0 := XX.c0
              clear hp hb XX z0 z1 y1
              by_cases hkm : k < m2
              · obtain ⟨p, hpk⟩ : ∃ p, q[k]? = some p := ⟨q[k]'(by have := HM2.out; omega), List.getElem?_eq_getElem _⟩
                obtain ⟨ad3, B3, m3, d3, hA, y2, hs2⟩ := ((HT.out.keep HB.out).keep HL2.out).at_ HQi.out
                injection hA with hA
                subst hA
                obtain ⟨ad4, hB3, p0, p1⟩ := SlR.cells hs2 k (.int .u64 p.1, .int .u64 p.2) (by rw [List.getElem?_map, hpk]; rfl)
                subst hB3
                have hm3 : (k : Int) < (m3 : Int) := by have := SlR.len hs2; simp at this; have := HM2.out; omega
                have hk1 : (k : Int) < (m2 : Int) := by omega
                have hk0 : (0 : Int) ≤ (k : Int) := by omega
                have HPk := Lib.hid hpk
                clear hs2 hpk
                go_wp2_with fail
                refine (rValidE_any p.1 p.2 _).mono ?_
                rintro e W1 ⟨rfl, hb⟩
                have HL3 := Lib.hid (below_step HL2.out hb)
                clear hb
                cases hev : evalid p.1 p.2 with
                | true =>
                  have HEv := Lib.hid hev
                  clear hev
                  go_wp2_with fail
                  go_roundw
                  case rel => exact ⟨k + 1, by omega, by go_num, fun r hr => by
                    rw [List.take_succ_eq_append_getElem (by have := HM2.out; omega)] at hr
                    rcases List.mem_append.1 hr with h | h
                    · exact HP2.out r h
                    · rw [List.mem_singleton.1 h]
                      have h1 := (List.getElem?_eq_some_iff.1 HPk.out).2
                      rw [h1]
                      exact HEv.out, HL3.out⟩
                  case measure => simp [intOf]; omega
                | false =>
                  have hbf := HF.out (fun ⟨_, K, _, _, h⟩ => by
                    have := (h q (List.mem_of_getElem? HQi.out)).2
                    rw [allV_no HPk.out hev] at this
                    cases this)
                  subst hbf
                  clear hev
                  go_wp2_with fail
                  go_ret
                  exact ⟨rfl, below_step HB.out HL3.out⟩
              · have hkm1 : ¬ ((k : Int) < (m2 : Int)) := by omega
                have HAll := Lib.hid (show allV q = true by
                  unfold allV
                  rw [List.all_eq_true]
                  have := HP2.out
                  rw [List.take_of_length_le (by have := HM2.out; omega)] at this
                  exact this)
                go_wp2_with fail
                go_roundw
                case rel => exact ⟨i + 1, by omega, by go_num, fun r hr => by
                  rw [List.take_succ_eq_append_getElem (List.getElem?_eq_some_iff.1 HQi.out).1] at hr
                  rcases List.mem_append.1 hr with h | h
                  · exact HQ.out r h
                  · rw [List.mem_singleton.1 h]
                    have h1 := (List.getElem?_eq_some_iff.1 HQi.out).2
                    rw [h1]
                    exact ⟨by rw [← HM2.out]; exact HN.out, HAll.out⟩, HL2.out⟩
                case measure => simp [intOf]; omega
          · have hmN1 : ¬ ((m2 : Int) = (N : Int)) := by omega
            have hbf := HF.out (fun ⟨_, K, _, _, h⟩ => by
              have := (h q (List.mem_of_getElem? HQi.out)).1
              have h1 := HM2.out
              have h2 := HN.out
              omega)
            subst hbf
            go_wp2_with fail
            go_ret
            exact ⟨rfl, below_step HB.out HL.out⟩
        · have hin1 : ¬ ((i : Int) < (n : Int)) := by omega
          have HQa := Lib.hid (show ∀ q ∈ Qs, q.length = q0.length ∧ allV q = true by
            have := HQ.out
            rw [List.take_of_length_le (by have := HLn.out; omega)] at this
            exact this)
          clear HQ
          go_wp2_with fail
          go_loopw [6] (fun s w2 => ∃ j : Nat, j ≤ m ∧ s = .int .i64 j ∧ (∀ t ∈ ts.take j, okT (n : Int) t = true) ∧ Below V.heap.size V w2) (fun s _ => m - (intOf s).toNat)
          case atStart => exact ⟨0, Nat.zero_le _, rfl, fun q hq => (by cases hq), HL.out⟩
          case round =>
            obtain ⟨j, hj, rfl, ho, hb⟩ := hrel
            have HO := Lib.hid ho
            have HL2 := Lib.hid hb
            have XX := X.out.keep hb
            have v1 := XX.c1
            clear ho hb XX z0 z1
            by_cases hjm : j < m
            · obtain ⟨t, htj⟩ := HM.out.get hjm
              obtain ⟨ad5, B5, m5, d5, hA, ⟨p0, p1, p2⟩, hsz⟩ := ((HM.out.keep HB.out).keep HL2.out).cells j t htj
              subst hA
              have hm5 : m5 = t.2.2.length := hsz.len
              have hc5 := hsz.cap
              have ht5 := hsz.top
              have HSz := Lib.hid hsz
              have HTj := Lib.hid htj
              have HM5 := Lib.hid hm5
              have hj1 : (j : Int) < (m : Int) := by omega
              have hj0 : (0 : Int) ≤ (j : Int) := by omega
              clear hsz htj hm5
              go_upto_region 20 with fail
              refine wp_named1 (fun V6 hb g6 hz6 => ?_)
              have XT := Lib.hid (show Tri V6 _ 65 (.int .u64 t.1) (.int .u64 t.2.1) (.slice B5 m5 d5) from g6)
              have HS6 := Lib.hid (HSz.out.keep hb)
              have HL6 := Lib.hid (below_step HL2.out hb)
              have y0 := XT.out.c0
              have y1 := XT.out.c1
              have y2 := XT.out.c2
              clear hb g6 p0 p1 p2
              have hokF : okT (n : Int) t = false → b = false := fun h => HF.out (fun ⟨h1, _⟩ => by rw [okTs_no HTj.out h] at h1; cases h1)
              have HOF := Lib.hid hokF
              clear hokF
              obtain ⟨bt, hbt⟩ : ∃ bt, wr.heap.size = bt := ⟨_, rfl⟩
              rw [hbt] at XT y0 y1 y2 hz6
              rw [hbt]
              clear hbt v1
              go_wp2_with fail
              refine (rValidE_any t.1 t.2.1 _).mono ?_
              rintro e W7 ⟨rfl, hb⟩
              have XT7 := Lib.hid (XT.out.keep hb)
              have HS7 := Lib.hid (HS6.out.keep hb)
              have HL7 := Lib.hid (below_step HL6.out hb)
              have y2 := XT7.out.c2
              clear hb XT HS6 HL6 y0 y1
              cases hev : evalid t.1 t.2.1 with
              | false =>
                have hbf := HOF.out (by unfold okT; rw [hev]; rfl)
                subst hbf
                clear hev
                go_wp2_with fail
                go_ret
                exact ⟨rfl, below_step HB.out HL7.out⟩
              | true =>
                have HEv := Lib.hid hev
                clear hev
                by_cases hm1 : m5 < 1
                · have i5 : (m5 : Int) < 1 := by omega
                  have hbf := HOF.out (by unfold okT; rw [decide_eq_false (show ¬ 1 ≤ t.2.2.length by have := HM5.out; omega)]; simp)
                  subst hbf
                  go_wp2_with fail
                  go_ret
                  exact ⟨rfl, below_step HB.out HL7.out⟩
                · have i5 : ¬ ((m5 : Int) < 1) := by omega
                  by_cases hm3 : 3 < m5
                  · have i6 : 3 < (m5 : Int) := by omega
                    have hbf := HOF.out (by unfold okT; rw [decide_eq_false (show ¬ t.2.2.length ≤ 3 by have := HM5.out; omega)]; simp)
                    subst hbf
                    go_wp2_with fail
                    go_ret
                    exact ⟨rfl, below_step HB.out HL7.out⟩
                  · have i6 : ¬ (3 < (m5 : Int)) := by omega
                    obtain ⟨W7', hW7⟩ : ∃ W7' : World, W7' = W7 := ⟨_, rfl⟩
                    subst hW7
                    go_wp2_with fail
                    go_loopw [8] (fun s w3 => ∃ k : Nat, k ≤ m5 ∧ s = .int .i64 k ∧ (∀ z ∈ t.2.2.take k, 0 ≤ z ∧ z < (n : Int)) ∧ Below W7'.heap.size W7' w3) (fun s _ => m5 - (intOf s).toNat)
                    case atStart => exact ⟨0, Nat.zero_le _, rfl, fun q hq => (by cases hq), Below.refl _ _⟩
                    case round =>
                      obtain ⟨k, hk, rfl, hzz, hb⟩ := hrel
                      have HZ := Lib.hid hzz
                      have HLw := Lib.hid hb
                      have HL8 := Lib.hid (below_step HL7.out hb)
                      have y2 := (XT7.out.keep hb).c2
                      have HS8 := Lib.hid (HS7.out.keep hb)
                      clear hzz hb
                      by_cases hkm : k < m5
                      · obtain ⟨z, hzk⟩ : ∃ z, t.2.2[k]? = some z := ⟨t.2.2[k]'(by have := HM5.out; omega), List.getElem?_eq_getElem _⟩
                        obtain ⟨adz, rfl, z0⟩ := HS8.out.cells k z hzk
                        have XX := X.out.keep HL8.out
                        have x0 := XX.c0
                        have HZk := Lib.hid hzk
                        have hk1 : (k : Int) < (m5 : Int) := by omega
                        have hk0 : (0 : Int) ≤ (k : Int) := by omega
                        have l0 := Later.cell y2
                        have l1 := Later.cell z0
                        have l2 := Later.cell x0
                        clear XX z0 hzk
                        have hbad : (¬ (0 ≤ z ∧ z < (n : Int))) → b = false := fun h => HOF.out (by
                          unfold okT
                          rw [show (t.2.2.all fun j => decide (0 ≤ j) && decide (j < (n : Int))) = false by
                            rw [← Bool.not_eq_true, List.all_eq_true]
                            intro hall
                            have := hall z (List.mem_of_getElem? HZk.out)
                            simp at this
                            exact h this]
                          simp)
                        have HBad := Lib.hid hbad
                        clear hbad
                        by_cases hz0 : z < 0
                        · have hbf := HBad.out (by omega)
                          subst hbf
                          go_upto_region 25 with fail
                          refine wp_floatN (by kernel_rfl) (lexOK_of (by kernel_rfl) (by kernel_rfl)) (chainOF_of (by kernel_rfl)) (fun V12 hb hS => ?_)
                          have HW0 := Lib.hid hb
                          clear hb hS x0 y2
                          refine wpF_seg 14 (by kernel_rfl) ?_
                          simp only [List.take_succ_cons, List.take_zero, List.drop_succ_cons, List.drop_zero]
                          repeat (go_big_quiet_step (fail))
                          refine wpQuiet_nil ?_
                          refine wpF_skip (by kernel_rfl) ?_
                          simp only [Act.put, List.setIfInBounds_toArray, List.set_cons_zero, List.set_cons_succ]
                          refine wpF_seg 2 (by kernel_rfl) ?_
                          simp only [List.take_succ_cons, List.take_zero, List.drop_succ_cons, List.drop_zero]
                          repeat (go_big_quiet_step (fail))
                          refine wpQuiet_nil ?_
                          clear l0 l1 l2
                          refine wpF_nil (fun Yf hY0 => ?_)
                          have HLf := Lib.hid (below_step HL8.out (below_step HW0.out hY0))
                          clear HW0 hY0
                          go_wp2_with fail
                          go_ret
                          exact ⟨rfl, below_step HB.out HLf.out⟩
                        · by_cases hzn : z < (n : Int)
                          · have hzn1 : ¬ ((n : Int) ≤ z) := by omega
                            go_upto_region 25 with fail
                            refine wp_floatN (by kernel_rfl) (lexOK_of (by kernel_rfl) (by kernel_rfl)) (chainOF_of (by kernel_rfl)) (fun V12 hb hS => ?_)
                            have HW0 := Lib.hid hb
                            have HSL0 := Lib.hid hS
                            clear hb hS x0 y2
                            refine wpF_seg 14 (by kernel_rfl) ?_
                            simp only [List.take_succ_cons, List.take_zero, List.drop_succ_cons, List.drop_zero]
                            repeat (go_big_quiet_step (fail))
                            refine wpQuiet_nil ?_
                            refine wpF_len (some ad) n c rfl rfl (fun W => by go_simp) (by kernel_rfl) HSL0.out (fun V19 hb => ?_)
                            have HW1 := Lib.hid (below_step HW0.out hb)
                            simp only [Act.put, List.setIfInBounds_toArray, List.set_cons_zero, List.set_cons_succ]
                            clear hb HW0
                            refine wpF_seg 2 (by kernel_rfl) ?_
                            simp only [List.take_succ_cons, List.take_zero, List.drop_succ_cons, List.drop_zero]
                            repeat (go_big_quiet_step (fail))
                            refine wpQuiet_nil ?_
                            clear l0 l1 l2
                            refine wpF_nil (fun Yf hY0 => ?_)
                            have HLg := Lib.hid (below_step HLw.out (below_step HW1.out hY0))
                            clear HW1 hY0
                            go_wp2_with fail
                            go_roundw
                            case rel => exact ⟨k + 1, by omega, by go_num, fun r hr => by
                              rw [List.take_succ_eq_append_getElem (by have := HM5.out; omega)] at hr
                              rcases List.mem_append.1 hr with h | h
                              · exact HZ.out r h
                              · rw [List.mem_singleton.1 h]
                                have h1 := (List.getElem?_eq_some_iff.1 HZk.out).2
                                rw [h1]
                                exact ⟨by omega, hzn⟩, HLg.out⟩
                            case measure => simp [intOf]; omega
                          · have hzn1 : (n : Int) ≤ z := by omega
                            have hbf := HBad.out (by omega)
                            subst hbf
                            go_upto_region 25 with fail
                            refine wp_floatN (by kernel_rfl) (lexOK_of (by kernel_rfl) (by kernel_rfl)) (chainOF_of (by kernel_rfl)) (fun V12 hb hS => ?_)
                            have HW0 := Lib.hid hb
                            have HSL0 := Lib.hid hS
                            clear hb hS x0 y2
                            refine wpF_seg 14 (by kernel_rfl) ?_
                            simp only [List.take_succ_cons, List.take_zero, List.drop_succ_cons, List.drop_zero]
                            repeat (go_big_quiet_step (fail))
                            refine wpQuiet_nil ?_
                            refine wpF_len (some ad) n c rfl rfl (fun W => by go_simp) (by kernel_rfl) HSL0.out (fun V19 hb => ?_)
                            have HW1 := Lib.hid (below_step HW0.out hb)
                            simp only [Act.put, List.setIfInBounds_toArray, List.set_cons_zero, List.set_cons_succ]
                            clear hb HW0
                            refine wpF_seg 2 (by kernel_rfl) ?_
                            simp only [List.take_succ_cons, List.take_zero, List.drop_succ_cons, List.drop_zero]
                            repeat (go_big_quiet_step (fail))
                            refine wpQuiet_nil ?_
                            clear l0 l1 l2
                            refine wpF_nil (fun Yf hY0 => ?_)
                            have HLf := Lib.hid (below_step HL8.out (below_step HW1.out hY0))
                            clear HW1 hY0
                            go_wp2_with fail
                            go_ret
                            exact ⟨rfl, below_step HB.out HLf.out⟩
                      · have hkm1 : ¬ ((k : Int) < (m5 : Int)) := by omega
                        have hokT : okT (n : Int) t = true := by
                          have h1 := HZ.out
                          rw [List.take_of_length_le (by have := HM5.out; omega)] at h1
                          unfold okT
                          rw [HEv.out, decide_eq_true (show 1 ≤ t.2.2.length by have := HM5.out; omega), decide_eq_true (show t.2.2.length ≤ 3 by have := HM5.out; omega)]
                          have : (t.2.2.all fun j => decide (0 ≤ j) && decide (j < (n : Int))) = true := by
                            rw [List.all_eq_true]
                            intro x hx
                            have := h1 x hx
                            simp
                            omega
                          rw [this]
                          rfl
                        have HOk := Lib.hid hokT
                        clear hokT
                        go_wp2_with fail
                        go_roundw
                        case rel => exact ⟨j + 1, by omega, by go_num, fun r hr => by
                          rw [List.take_succ_eq_append_getElem (List.getElem?_eq_some_iff.1 HTj.out).1] at hr
                          rcases List.mem_append.1 hr with h | h
                          · exact HO.out r h
                          · rw [List.mem_singleton.1 h]
                            have h1 := (List.getElem?_eq_some_iff.1 HTj.out).2
                            rw [h1]
                            exact HOk.out, HL8.out⟩
                        case measure => simp [intOf]; omega
            · have hjm1 : ¬ ((j : Int) < (m : Int)) := by omega
              have hall : okTs (n : Int) ts = true := by
                unfold okTs
                rw [List.all_eq_true]
                have := HO.out
                rw [List.take_of_length_le (by have := HLm.out; omega)] at this
                exact this
              have hbt := HTr.out hall HP.out HQa.out
              subst hbt
              clear hall
              go_wp2_with fail
              go_ret
              exact ⟨rfl, below_step HB.out HL2.out⟩
    · have hbf := HF.out (fun ⟨_, K, h1, h2, _⟩ => hpow ⟨K, h1, h2⟩)
      subst hbf
      by_cases h1 : N < 1
      · have i1 : (N : Int) < 1 := by omega
        clear hpow
        go_wp2_with fail
        go_ret
        exact ⟨rfl, HB.out⟩
      · have i1 : ¬ ((N : Int) < 1) := by omega
        by_cases h2 : 65536 < N
        · have i2 : (65536 : Int) < (N : Int) := by omega
          clear hpow
          go_wp2_with fail
          go_ret
          exact ⟨rfl, HB.out⟩
        · have i2 : ¬ ((65536 : Int) < (N : Int)) := by omega
          obtain ⟨zz, hzz⟩ : ∃ zz, bits .and .i64 (N : Int) ((N : Int) - 1) = zz := ⟨_, rfl⟩
          have hz0 : ¬ zz = 0 := fun e => by
            rw [e, show (N : Int) - 1 = ((N - 1 : Nat) : Int) by omega, bits_and_i64_nat _ _ (by omega) (by omega)] at hzz
            obtain ⟨k, hk⟩ := pow_of_and (n := N) (by omega) (by omega)
            refine hpow ⟨k, Classical.byContradiction fun hn => ?_, by rw [← HN.out, hk]⟩
            have : 2 ^ 17 ≤ 2 ^ k := Nat.pow_le_pow_right (by omega) (by omega)
            omega
          clear hpow
          go_wp2_with fail
          go_ret
          exact ⟨rfl, HB.out⟩

/-- a call hands back a truth value -/
def IsB (e : Ending) : Prop := ∃ b : Bool, e = .returned (.bool b)
set_option maxHeartbeats 8000000 in
theorem small_any (A : Option Addr) (n c : Nat) (Qs : List (List (Int × Int))) (B : Option Addr) (m d : Nat) (ts : List (Int × Int × List Int)) (w : World) (hT : SW w A n c Qs) (hM : SlM w B m d ts) :
    Calls Try.prog 9 #[.agg #[.slice A n c, .slice B m d]] w fun e w' => IsB e ∧ Below w.heap.size w w' := by
  have hcap := SlS.cap hT
  have htop := SlS.top hT
  have hcm := hM.cap
  have htm := hM.top
  have HT := Lib.hid hT
  have HM := Lib.hid hM
  have HLn := Lib.hid hT.len
  have HLm := Lib.hid hM.len
  clear hT hM
  go_enter Try.func9, Try.ntmps9
  go_upto_region 1 with fail
  refine wp_named1 (fun V hb g0 hz => ?_)
  have X := Lib.hid (show Two V w.heap.size 30 (.slice A n c) (.slice B m d) from g0)
  have HB := Lib.hid hb
  have x0 := X.out.c0
  have x1 := X.out.c1
  clear hb g0
  by_cases h6 : 6 < n
  · have i6 : 6 < (n : Int) := by omega
    go_wp2_with fail
    go_ret
    exact ⟨⟨false, rfl⟩, HB.out⟩
  · have i6 : ¬ (6 < (n : Int)) := by omega
    by_cases h8 : 8 < m
    · have i8 : 8 < (m : Int) := by omega
      go_wp2_with fail
      go_ret
      exact ⟨⟨false, rfl⟩, HB.out⟩
    · have i8 : ¬ (8 < (m : Int)) := by omega
      go_wp2_with fail
      go_loopw [3] (fun s wr => ∃ i : Nat, i ≤ n ∧ s = .int .i64 i ∧ Below V.heap.size V wr) (fun s _ => n - (intOf s).toNat)
      case atStart => exact ⟨0, Nat.zero_le _, rfl, Below.refl _ _⟩
      case round =>
        obtain ⟨i, hi, rfl, hb⟩ := hrel
        have HL := Lib.hid hb
        have XX := X.out.keep hb
        have z0 := XX.c0
        have z1 := XX.c1
        clear hb x0 x1 XX
        by_cases hin : i < n
        · obtain ⟨q, hqi⟩ := HT.out.get hin
          obtain ⟨ad2, B2, m2, d2, hA, y1, hs⟩ := ((HT.out.keep HB.out).keep HL.out).at_ hqi
          subst hA
          have hd3 := SlR.cap hs
          have hd4 := SlR.top hs
          have hi1 : (i : Int) < (n : Int) := by omega
          have hi0 : (0 : Int) ≤ (i : Int) := by omega
          clear hs hqi
          by_cases h40 : 40 < m2
          · have i40 : 40 < (m2 : Int) := by omega
            go_wp2_with fail
            go_ret
            exact ⟨⟨false, rfl⟩, below_step HB.out HL.out⟩
          · have i40 : ¬ (40 < (m2 : Int)) := by omega
            go_wp2_with fail
            go_roundw
            case rel => exact ⟨i + 1, by omega, by go_num, HL.out⟩
            case measure => simp [intOf]; omega
        · have hin1 : ¬ ((i : Int) < (n : Int)) := by omega
          go_wp2_with fail
          go_loopw [4] (fun s wr => ∃ i : Nat, i ≤ m ∧ s = .int .i64 i ∧ Below V.heap.size V wr) (fun s _ => m - (intOf s).toNat)
          case atStart => exact ⟨0, Nat.zero_le _, rfl, HL.out⟩
          case round =>
            obtain ⟨j, hj, rfl, hb⟩ := hrel
            have HL2 := Lib.hid hb
            have XX := X.out.keep hb
            have v1 := XX.c1
            clear hb XX z0 z1
            by_cases hjm : j < m
            · obtain ⟨t, htj⟩ := HM.out.get hjm
              obtain ⟨ad5, B5, m5, d5, hA, ⟨p0, p1, p2⟩, hsz⟩ := ((HM.out.keep HB.out).keep HL2.out).cells j t htj
              subst hA
              have hc5 := hsz.cap
              have ht5 := hsz.top
              have hj1 : (j : Int) < (m : Int) := by omega
              have hj0 : (0 : Int) ≤ (j : Int) := by omega
              clear hsz htj
              by_cases h88 : 8 < m5
              · have i88 : 8 < (m5 : Int) := by omega
                go_wp2_with fail
                go_ret
                exact ⟨⟨false, rfl⟩, below_step HB.out HL2.out⟩
              · have i88 : ¬ (8 < (m5 : Int)) := by omega
                go_wp2_with fail
                go_roundw
                case rel => exact ⟨j + 1, by omega, by go_num, HL2.out⟩
                case measure => simp [intOf]; omega
            · have hjm1 : ¬ ((j : Int) < (m : Int)) := by omega
              go_wp2_with fail
              go_ret
              exact ⟨⟨true, rfl⟩, below_step HB.out HL2.out⟩

end Go.Proofs.Ytombcjdhjcmhhaa

/- The walk of the law SumcheckMatchesReference: every function of package sumcheck answers as the reference does; no conditions. -/
namespace Go.Proofs.Ytombcjdhjcmhhaa
set_option maxRecDepth 8000
open Go.RowKit Gold

/-- a raw sum that came in -/
structure SumRaw (w : World) (v : Value) : Prop where
  ex : ∃ (A B : Option Addr) (n c m d : Nat) (Qs : List (List (Int × Int))) (ts : List (Int × Int × List Int)), v = .agg #[.slice A n c, .slice B m d] ∧ SW w A n c Qs ∧ SlM w B m d ts
theorem run_neqE_q (x : E2) (w : World) : (binOp .neq 43 (.agg #[.int .u64 (vF x.A), .int .u64 (vF x.B)]) (.agg #[.int .u64 (vF x.A), .int .u64 (vF x.B)])).run Try.prog w = .ok (.bool false) w := by
  simp [go_sem, Try.underlying43]
theorem two_below2 {N b : Nat} {A B : World} (h : Below N A B) (hb : N ≤ b) (u v : Value) : Below N A ((B.setCell ⟨b, 0, none⟩ u).setCell ⟨b, 1, none⟩ v) := by
  have h1 : Below N A (B.setCell ⟨b, 0, none⟩ u) := h.setCell hb u
  exact h1.setCell hb v
theorem run_allocSm (ev : Operand → Value) (o : Oper) (w : World) (h : o.op = .alloc 30) : (execOp ev o).run Try.prog w = .ok (.value (ptr w.heap.size)) (w.alloc (.cells #[.slice none 0 0, .slice none 0 0] 30)) := by
  unfold execOp ptr
  rw [h]
  go_simp

theorem ST.resN {W : World} {A : Option Addr} {n c : Nat} {Ls : List (List E2)} (h : ST W A n c Ls) (hL : ∀ L ∈ Ls, 0 < L.length) {p : Addr} (hp : W.cell? p = some (.slice none 0 0)) (x : Value) : ST (W.setCell p x) A n c Ls := by
  refine ⟨SlS.len h, SlS.cap h, SlS.top h, fun i q hq => ?_⟩
  rw [List.getElem?_map] at hq
  cases hLi : Ls[i]? with
  | none => rw [hLi] at hq; cases hq
  | some L =>
    rw [hLi] at hq
    injection hq with hq
    subst hq
    obtain ⟨ad, B', m', d', ha, h0, h1⟩ := h.at_ hLi
    refine ⟨ad, B', m', d', ha, cell_kind h0 hp (fun e => ?_), h1.res hp x⟩
    injection e with e _ _
    subst e
    have := hL L (List.mem_of_getElem? hLi)
    obtain ⟨y, hy⟩ := h1.get (i := 0) (by rw [h1.len]; exact this)
    obtain ⟨ad', e', _⟩ := h1.at_ hy
    cases e'
set_option maxHeartbeats 16000000 in
set_option maxRecDepth 100000 in
theorem sumcheckMatchesReference_any (x y : Value) (C0 : Option Addr) (k0 f0 : Nat) (us : List (Int × Int)) (w : World) (hx : RawS w x) (hy : SumRaw w y) (hC : Sr w C0 k0 f0 us) (wC : Nums us) :
    Calls Try.prog 3 #[x, y, .slice C0 k0 f0] w fun e w' => e = .returned (.bool true) ∧ Below w.heap.size w w' := by
  obtain ⟨A0, A1, A2, B, n0, c0, n1, c1, n2, c2, m, e, q0, q1, q2, rs, N, rfl, hN, h0, h1, h2, w0, w1, w2, hR, wR⟩ := hx.ex
  obtain ⟨At, Bt, nt, ct, mt, dt, Qt, tt, rfl, hQt, hMt⟩ := hy.ex
  have H0 := Lib.hid h0
  have H1 := Lib.hid h1
  have H2 := Lib.hid h2
  have HR := Lib.hid hR
  have WR := Lib.hid wR
  have HC := Lib.hid hC
  have WC := Lib.hid wC
  have HQt := Lib.hid hQt
  have HMt := Lib.hid hMt
  clear hx hy h0 h1 h2 hR wR hC wC hQt hMt
  go_enter Try.func3, Try.ntmps3
  go_wp2_with fail
  refine calls_named2 (fun V1 hbV g0 g1 hzV => ?_)
  have X0 := Lib.hid (show Five V1 w.heap.size 26 (.slice A0 n0 c0) (.slice A1 n1 c1) (.slice A2 n2 c2) (.slice B m e) (.int .u8 N) from g0)
  have X1 := Lib.hid (show Two V1 (w.heap.size + 1) 30 (.slice At nt ct) (.slice Bt mt dt) from g1)
  have HBa := Lib.hid hbV
  clear hbV g0 g1
  refine (sanity6_any _).mono ?_
  rintro e W2 ⟨rfl, hb⟩
  have X2 := Lib.hid (X1.out.keep hb)
  have X02 := Lib.hid (X0.out.keep hb)
  have HB2 := Lib.hid (below_step HBa.out hb)
  clear hb X0 X1 HBa
  go_upto_region 2 with fail
  go_cut [27] from 19 to 27 (fun v wx => v = .bool false ∧ Below W2.heap.size W2 wx)
  case first =>
    have l0 := Later.cell X2.out.c0
    have l1 := Later.cell X2.out.c1
    obtain ⟨bv, hbv⟩ : ∃ bv, (varS Qt tt).2 = bv := ⟨_, rfl⟩
    have HBv := Lib.hid hbv
    clear hbv
    refine wp_floatN (by kernel_rfl) (lexOK_of (by kernel_rfl) (by kernel_rfl)) (chainOF_of (by kernel_rfl)) (fun V12 hb hS => ?_)
    have HW0 := Lib.hid hb
    have HSL0 := Lib.hid hS
    clear hb hS
    refine wpF_seg 1 (by kernel_rfl) ?_
    simp only [List.take_succ_cons, List.take_zero, List.drop_succ_cons, List.drop_zero]
    repeat (go_big_quiet_step (fail))
    refine wpQuiet_nil ?_
    refine wpF_call 9 Try.func9 (by kernel_rfl) (by kernel_rfl) _ _ #[.agg #[.slice At nt ct, .slice Bt mt dt]] rfl (by kernel_rfl) (by kernel_rfl) HSL0.out (fun VV hV => ?_)
    have HW := Lib.hid (below_step HB2.out (below_step HW0.out hV))
    refine (small_any At nt ct Qt Bt mt dt tt _ (SlS.keep HQt.out HW.out) (HMt.out.keep HW.out)).mono ?_
    rintro e WW ⟨⟨bs, rfl⟩, hb⟩
    have hb2 := ext_trans hV hb
    have HWn := Lib.hid (below_step HW0.out hb2)
    have HSLn := Lib.hid (HSL0.out.ext hb2)
    clear HW0 HSL0 HW
    have HW0 := HWn
    have HSL0 := HSLn
    clear HWn HSLn
    refine ⟨_, rfl, hb, ?_⟩
    clear hb hb2 hV
    simp only [Act.put, List.setIfInBounds_toArray, List.set_cons_zero, List.set_cons_succ]
    cases bs
    · skip
      refine wpF_seg 2 (by kernel_rfl) ?_
      simp only [List.take_succ_cons, List.take_zero, List.drop_succ_cons, List.drop_zero]
      repeat (go_big_quiet_step (fail))
      refine wpQuiet_nil ?_
      refine wpF_skip (by kernel_rfl) ?_
      simp only [Act.put, List.setIfInBounds_toArray, List.set_cons_zero, List.set_cons_succ]
      refine wpF_seg 1 (by kernel_rfl) ?_
      simp only [List.take_succ_cons, List.take_zero, List.drop_succ_cons, List.drop_zero]
      repeat (go_big_quiet_step (fail))
      refine wpQuiet_nil ?_
      refine wpF_skip (by kernel_rfl) ?_
      simp only [Act.put, List.setIfInBounds_toArray, List.set_cons_zero, List.set_cons_succ]
      refine wpF_seg 2 (by kernel_rfl) ?_
      simp only [List.take_succ_cons, List.take_zero, List.drop_succ_cons, List.drop_zero]
      repeat (go_big_quiet_step (fail))
      refine wpQuiet_nil ?_
      clear l0 l1
      refine wpF_nil (fun Yf hY0 => ?_)
      have HLf := below_step HW0.out hY0
      go_wp2_with fail
      go_meet
      exact ⟨rfl, HLf⟩
    · skip
      refine wpF_seg 2 (by kernel_rfl) ?_
      simp only [List.take_succ_cons, List.take_zero, List.drop_succ_cons, List.drop_zero]
      repeat (go_big_quiet_step (fail))
      refine wpQuiet_nil ?_
      refine wpF_call 10 Try.func10 (by kernel_rfl) (by kernel_rfl) _ _ #[.agg #[.slice At nt ct, .slice Bt mt dt]] rfl (by kernel_rfl) (by kernel_rfl) HSL0.out (fun VV hV => ?_)
      have HW := Lib.hid (below_step HW0.out hV)
      refine (sValid_as At nt ct Qt Bt mt dt tt bv _ (SlS.keep HQt.out (below_step HB2.out HW.out)) (HMt.out.keep (below_step HB2.out HW.out)) HBv.out).mono ?_
      rintro e WW ⟨rfl, hb⟩
      have hb2 := ext_trans hV hb
      have HWn := Lib.hid (below_step HW0.out hb2)
      have HSLn := Lib.hid (HSL0.out.ext hb2)
      clear HW0 HSL0 HW
      have HW0 := HWn
      have HSL0 := HSLn
      clear HWn HSLn
      refine ⟨_, rfl, hb, ?_⟩
      clear hb hb2 hV
      simp only [Act.put, List.setIfInBounds_toArray, List.set_cons_zero, List.set_cons_succ]
      refine wpF_seg 1 (by kernel_rfl) ?_
      simp only [List.take_succ_cons, List.take_zero, List.drop_succ_cons, List.drop_zero]
      repeat (go_big_quiet_step (fail))
      refine wpQuiet_nil ?_
      refine wpF_call 11 Try.func11 (by kernel_rfl) (by kernel_rfl) _ _ #[.agg #[.slice At nt ct, .slice Bt mt dt]] rfl (by kernel_rfl) (by kernel_rfl) HSL0.out (fun VV hV => ?_)
      have HW := Lib.hid (below_step HW0.out hV)
      refine (rSValid_any At nt ct Qt Bt mt dt tt bv _ (SlS.keep HQt.out (below_step HB2.out HW.out)) (HMt.out.keep (below_step HB2.out HW.out)) HBv.out).mono ?_
      rintro e WW ⟨rfl, hb⟩
      have hb2 := ext_trans hV hb
      have HWn := Lib.hid (below_step HW0.out hb2)
      have HSLn := Lib.hid (HSL0.out.ext hb2)
      clear HW0 HSL0 HW
      have HW0 := HWn
      have HSL0 := HSLn
      clear HWn HSLn
      refine ⟨_, rfl, hb, ?_⟩
      clear hb hb2 hV
      simp only [Act.put, List.setIfInBounds_toArray, List.set_cons_zero, List.set_cons_succ]
      cases bv
      all_goals
        refine wpF_seg 2 (by kernel_rfl) ?_
        simp only [List.take_succ_cons, List.take_zero, List.drop_succ_cons, List.drop_zero]
        repeat (go_big_quiet_step (fail))
        refine wpQuiet_nil ?_
        clear l0 l1
        refine wpF_nil (fun Yf hY0 => ?_)
        have HLf := below_step HW0.out hY0
        go_wp2_with fail
        go_meet
        exact ⟨rfl, HLf⟩
  case rest =>
    obtain ⟨rfl, hbc⟩ := hcut
    have X3 := Lib.hid (X02.out.keep hbc)
    have HB3 := Lib.hid (below_step HB2.out hbc)
    have x0 := X3.out.c0
    have x1 := X3.out.c1
    have x2 := X3.out.c2
    have x3 := X3.out.c3
    have x4 := X3.out.c4
    clear hbc X2 X02 HB2 HQt HMt
    go_wp2_with fail
    refine (rSumMade_any A0 A1 A2 B n0 c0 n1 c1 n2 c2 m _ q0 q1 q2 rs N 4 _ (by omega) hN (Sr.keep H0.out HB3.out) (Sr.keep H1.out HB3.out) (Sr.keep H2.out HB3.out) w0 w1 w2 (HR.out.keep HB3.out) WR.out).mono ?_
    rintro e W4 ⟨A, c, B', m', c', Ls, ts, d, rfl, hT, hM, hok, hd, hl3, ht4, hb⟩
    clear x0 x1 x2 x3 x4
    have HS := Lib.hid (SumIn.mk hT hM hok)
    have HB4 := Lib.hid (below_step HB3.out hb)
    have hmc := hM.cap
    have hct := hM.top
    have hTc := hT.cap
    have hTt := hT.top
    clear hb hT hM hok H0 H1 H2 HR WR w0 w1 w2 HB3 hN X3
    go_upto_region 5 with fail
    refine wp_named1 (fun V5 hb g5 hz5 => ?_)
    have XS := Lib.hid (show Two V5 W4.heap.size 30 (.slice A 3 c) (.slice B' m' c') from g5)
    have HS5 := Lib.hid (HS.out.keep hb)
    have HB5 := Lib.hid (below_step HB4.out hb)
    clear hb g5 HS HB4
    generalize W4.heap.size = bS at *
    have s0 := XS.out.c0
    have s1 := XS.out.c1
    go_wp2_with fail
    obtain ⟨L, hL⟩ : ∃ L, Ls[0]? = some L := ⟨Ls[0], List.getElem?_eq_getElem _⟩
    have hLd := HS5.out.ok.len L (List.mem_of_getElem? hL)
    refine (rLog_any A 3 c (.slice B' m' c') Ls L d _ HS5.out.t hL hLd (by omega)).mono ?_
    rintro e W6 ⟨rfl, hb⟩
    have XS6 := Lib.hid (XS.out.keep hb)
    have HS6 := Lib.hid (HS5.out.keep hb)
    have HB6 := Lib.hid (below_step HB5.out hb)
    clear hb XS HS5 HB5 s0 s1 hL hLd
    go_wp2_with fail
    refine (rPExactlyO_any C0 k0 f0 us d _ (Sr.keep HC.out HB6.out) WC.out (by omega)).mono ?_
    rintro e W7 ⟨Ac, cc, rfl, hOc, hb⟩
    have hcl := hOc.len
    obtain ⟨cs, hcs⟩ : ∃ cs, exactE us d = cs := ⟨_, rfl⟩
    rw [hcs] at hOc hcl
    have HSc := Lib.hid hOc.sl'
    have XS7 := Lib.hid (XS6.out.keep hb)
    have HS7 := Lib.hid (HS6.out.keep hb)
    have HB7 := Lib.hid (below_step HB6.out hb)
    have HDl := Lib.hid hcl
    clear hb XS6 HS6 HB6 hOc hcs hcl
    have hok7 : OkS Ls ts cs.length := HDl.out ▸ HS7.out.ok
    have HOK := Lib.hid hok7
    clear hok7
    go_wp2_with fail
    refine (rPExactlyO_any C0 k0 f0 us 3 _ (Sr.keep HC.out HB7.out) WC.out (by omega)).mono ?_
    rintro e W8 ⟨Av, cv, rfl, hOv, hb⟩
    have hvl := hOv.len
    obtain ⟨vs, hvs⟩ : ∃ vs, exactE us 3 = vs := ⟨_, rfl⟩
    rw [hvs] at hOv hvl
    have HVs := Lib.hid hOv.sl'
    have XS8 := Lib.hid (XS7.out.keep hb)
    have HS8 := Lib.hid (HS7.out.keep hb)
    have HC8 := Lib.hid (HSc.out.keep hb)
    have HB8 := Lib.hid (below_step HB7.out hb)
    have HVl := Lib.hid hvl
    clear hb XS7 HS7 HB7 hOv hvs hvl HSc HC WC
    have s0 := XS8.out.c0
    have s1 := XS8.out.c1
    go_wp2_with fail
    refine (sProve_any A 3 c Ls B' m' c' ts Ac d cc cs _ HS8.out.t HS8.out.m HC8.out HOK.out).mono ?_
    rintro e W9 ⟨gR, gv, rfl, hR9, hV9, hb⟩
    have XS9 := Lib.hid (XS8.out.keep hb)
    have HS9 := Lib.hid (HS8.out.keep hb)
    have HC9 := Lib.hid (HC8.out.keep hb)
    have HVs9 := Lib.hid (HVs.out.keep hb)
    have HB9 := Lib.hid (below_step HB8.out hb)
    have HR9 := Lib.hid hR9
    have HV9 := Lib.hid hV9
    clear hb XS8 HS8 HC8 HB8 HVs hR9 hV9 s0 s1
    have s0 := XS9.out.c0
    have s1 := XS9.out.c1
    go_wp2_with fail
    refine (rSProve_any A 3 c Ls B' m' c' ts Ac d cc cs _ HS9.out.t HS9.out.m HC9.out HOK.out).mono ?_
    rintro e Wb ⟨AR, cR, Aw, cw, rfl, hRb, hWb, hb⟩
    have XS := Lib.hid (XS9.out.keep hb)
    have HS := Lib.hid (HS9.out.keep hb)
    have HVs := Lib.hid (HVs9.out.keep hb)
    have HR := Lib.hid (HR9.out.keep hb)
    have HV := Lib.hid (HV9.out.keep hb)
    have HB := Lib.hid (below_step HB9.out hb)
    have HRb := Lib.hid hRb
    have HWb := Lib.hid hWb
    clear hb XS9 HS9 HC9 HVs9 HB9 HR9 HV9 hRb hWb s0 s1
    obtain ⟨tv, htv⟩ : ∃ tv, totE Ls ts (2 ^ d) = tv := ⟨_, rfl⟩
    obtain ⟨fv, hfv⟩ : ∃ fv, finE ts vs = fv := ⟨_, rfl⟩
    obtain ⟨D, hD⟩ : ∃ D, degT ts = D := ⟨_, rfl⟩
    have HTv := Lib.hid htv
    have HFv := Lib.hid hfv
    have HD := Lib.hid hD
    have hoks := HS.out.ok.oks
    have hidx := HS.out.ok.idx
    rw [hl3] at hoks hidx
    have HOs := Lib.hid hoks
    have HIx := Lib.hid hidx
    have HVal := Lib.hid (show (varS (rawL Ls) (rawT ts)).2 = true by rw [HS.out.ok.vs])
    clear htv hfv hD hoks hidx
    go_upto_region 10 with fail
    have l0 := Later.cell XS.out.c0
    have l1 := Later.cell XS.out.c1
    have hq1 := run_neqE_q tv
    have hq2 := run_neqE_q fv
    refine wp_floatN (by kernel_rfl) (lexOK_of (by kernel_rfl) (by kernel_rfl)) (chainOF_of (by kernel_rfl)) (fun V12 hb hS => ?_)
    have HW0 := Lib.hid hb
    have HSL0 := Lib.hid hS
    clear hb hS
    refine wpF_seg 2 (by kernel_rfl) ?_
    simp only [List.take_succ_cons, List.take_zero, List.drop_succ_cons, List.drop_zero]
    repeat (go_big_quiet_step (fail))
    refine wpQuiet_nil ?_
    refine wpF_call 17 Try.func17 (by kernel_rfl) (by kernel_rfl) _ _ #[.slice (some ⟨gR, 0, none⟩) d d, .slice AR d cR] rfl (by kernel_rfl) (by kernel_rfl) HSL0.out (fun VV hV => ?_)
    have HW := Lib.hid (below_step HW0.out hV)
    refine (sameRounds_yes (some ⟨gR, 0, none⟩) d d AR d cR (proR Ls ts cs) _ (HR.out.keep HW.out) (HRb.out.keep HW.out)).mono ?_
    rintro e WW ⟨rfl, hb⟩
    have hb2 := ext_trans hV hb
    have HWn := Lib.hid (below_step HW0.out hb2)
    have HSLn := Lib.hid (HSL0.out.ext hb2)
    clear HW0 HSL0 HW
    have HW0 := HWn
    have HSL0 := HSLn
    clear HWn HSLn
    refine ⟨_, rfl, hb, ?_⟩
    clear hb hb2 hV
    simp only [Act.put, List.setIfInBounds_toArray, List.set_cons_zero, List.set_cons_succ]
    refine wpF_seg 4 (by kernel_rfl) ?_
    simp only [List.take_succ_cons, List.take_zero, List.drop_succ_cons, List.drop_zero]
    repeat (go_big_quiet_step (fail))
    refine wpQuiet_nil ?_
    refine wpF_call 18 Try.func18 (by kernel_rfl) (by kernel_rfl) _ _ #[.slice (some ⟨gv, 0, none⟩) 3 3, .slice Aw 3 cw] rfl (by kernel_rfl) (by kernel_rfl) HSL0.out (fun VV hV => ?_)
    have HW := Lib.hid (below_step HW0.out hV)
    refine (same_yes (some ⟨gv, 0, none⟩) 3 3 Aw 3 cw (proV Ls cs) _ (HV.out.keep HW.out) (HWb.out.keep HW.out)).mono ?_
    rintro e WW ⟨rfl, hb⟩
    have hb2 := ext_trans hV hb
    have HWn := Lib.hid (below_step HW0.out hb2)
    have HSLn := Lib.hid (HSL0.out.ext hb2)
    clear HW0 HSL0 HW
    have HW0 := HWn
    have HSL0 := HSLn
    clear HWn HSLn
    refine ⟨_, rfl, hb, ?_⟩
    clear hb hb2 hV
    simp only [Act.put, List.setIfInBounds_toArray, List.set_cons_zero, List.set_cons_succ]
    refine wpF_seg 4 (by kernel_rfl) ?_
    simp only [List.take_succ_cons, List.take_zero, List.drop_succ_cons, List.drop_zero]
    repeat (go_big_quiet_step (fail))
    refine wpQuiet_nil ?_
    refine wpF_call 19 Try.func19 (by kernel_rfl) (by kernel_rfl) _ _ #[.agg #[.slice A 3 c, .slice B' m' c']] rfl (by kernel_rfl) (by kernel_rfl) HSL0.out (fun VV hV => ?_)
    have HW := Lib.hid (below_step HW0.out hV)
    refine (sDegree_as (.slice A 3 c) B' m' c' (rawT ts) D _ (HS.out.m.keep HW.out) ⟨_, _, _, rfl⟩ HD.out).mono ?_
    rintro e WW ⟨rfl, hb⟩
    have hb2 := ext_trans hV hb
    have HWn := Lib.hid (below_step HW0.out hb2)
    have HSLn := Lib.hid (HSL0.out.ext hb2)
    clear HW0 HSL0 HW
    have HW0 := HWn
    have HSL0 := HSLn
    clear HWn HSLn
    refine ⟨_, rfl, hb, ?_⟩
    clear hb hb2 hV
    simp only [Act.put, List.setIfInBounds_toArray, List.set_cons_zero, List.set_cons_succ]
    refine wpF_seg 1 (by kernel_rfl) ?_
    simp only [List.take_succ_cons, List.take_zero, List.drop_succ_cons, List.drop_zero]
    repeat (go_big_quiet_step (fail))
    refine wpQuiet_nil ?_
    refine wpF_call 20 Try.func20 (by kernel_rfl) (by kernel_rfl) _ _ #[.agg #[.slice A 3 c, .slice B' m' c']] rfl (by kernel_rfl) (by kernel_rfl) HSL0.out (fun VV hV => ?_)
    have HW := Lib.hid (below_step HW0.out hV)
    refine (rSDegree_any A 3 c B' m' c' (rawT ts) D _ (HS.out.m.keep HW.out) HD.out).mono ?_
    rintro e WW ⟨rfl, hb⟩
    have hb2 := ext_trans hV hb
    have HWn := Lib.hid (below_step HW0.out hb2)
    have HSLn := Lib.hid (HSL0.out.ext hb2)
    clear HW0 HSL0 HW
    have HW0 := HWn
    have HSL0 := HSLn
    clear HWn HSLn
    refine ⟨_, rfl, hb, ?_⟩
    clear hb hb2 hV
    simp only [Act.put, List.setIfInBounds_toArray, List.set_cons_zero, List.set_cons_succ]
    refine wpF_seg 4 (by kernel_rfl) ?_
    simp only [List.take_succ_cons, List.take_zero, List.drop_succ_cons, List.drop_zero]
    repeat (go_big_quiet_step (fail))
    refine wpQuiet_nil ?_
    refine wpF_call 21 Try.func21 (by kernel_rfl) (by kernel_rfl) _ _ #[.agg #[.slice A 3 c, .slice B' m' c']] rfl (by kernel_rfl) (by kernel_rfl) HSL0.out (fun VV hV => ?_)
    have HW := Lib.hid (below_step HW0.out hV)
    refine (sTotal_as A 3 c Ls B' m' c' ts d tv _ (HS.out.t.keep HW.out) (HS.out.m.keep HW.out) HS.out.ok HTv.out).mono ?_
    rintro e WW ⟨rfl, hb⟩
    have hb2 := ext_trans hV hb
    have HWn := Lib.hid (below_step HW0.out hb2)
    have HSLn := Lib.hid (HSL0.out.ext hb2)
    clear HW0 HSL0 HW
    have HW0 := HWn
    have HSL0 := HSLn
    clear HWn HSLn
    refine ⟨_, rfl, hb, ?_⟩
    clear hb hb2 hV
    simp only [Act.put, List.setIfInBounds_toArray, List.set_cons_zero, List.set_cons_succ]
    refine wpF_seg 1 (by kernel_rfl) ?_
    simp only [List.take_succ_cons, List.take_zero, List.drop_succ_cons, List.drop_zero]
    repeat (go_big_quiet_step (fail))
    refine wpQuiet_nil ?_
    refine wpF_call 22 Try.func22 (by kernel_rfl) (by kernel_rfl) _ _ #[.agg #[.slice A 3 c, .slice B' m' c']] rfl (by kernel_rfl) (by kernel_rfl) HSL0.out (fun VV hV => ?_)
    have HW := Lib.hid (below_step HW0.out hV)
    refine (rSTotal_as A 3 c Ls B' m' c' ts d tv _ (HS.out.t.keep HW.out) (HS.out.m.keep HW.out) HS.out.ok HTv.out).mono ?_
    rintro e WW ⟨rfl, hb⟩
    have hb2 := ext_trans hV hb
    have HWn := Lib.hid (below_step HW0.out hb2)
    have HSLn := Lib.hid (HSL0.out.ext hb2)
    clear HW0 HSL0 HW
    have HW0 := HWn
    have HSL0 := HSLn
    clear HWn HSLn
    refine ⟨_, rfl, hb, ?_⟩
    clear hb hb2 hV
    simp only [Act.put, List.setIfInBounds_toArray, List.set_cons_zero, List.set_cons_succ]
    refine wpF_seg 5 (by kernel_rfl) ?_
    simp only [List.take_succ_cons, List.take_zero, List.drop_succ_cons, List.drop_zero]
    repeat (go_big_quiet_step (fail))
    refine wpQuiet_nil ?_
    refine wpF_call 23 Try.func23 (by kernel_rfl) (by kernel_rfl) _ _ #[.agg #[.slice A 3 c, .slice B' m' c'], .slice Av 3 cv] rfl (by kernel_rfl) (by kernel_rfl) HSL0.out (fun VV hV => ?_)
    have HW := Lib.hid (below_step HW0.out hV)
    refine (sFinal_as A 3 c B' m' c' ts Av 3 cv vs fv _ (HS.out.m.keep HW.out) (HVs.out.keep HW.out) HOs.out HIx.out HFv.out).mono ?_
    rintro e WW ⟨rfl, hb⟩
    have hb2 := ext_trans hV hb
    have HWn := Lib.hid (below_step HW0.out hb2)
    have HSLn := Lib.hid (HSL0.out.ext hb2)
    clear HW0 HSL0 HW
    have HW0 := HWn
    have HSL0 := HSLn
    clear HWn HSLn
    refine ⟨_, rfl, hb, ?_⟩
    clear hb hb2 hV
    simp only [Act.put, List.setIfInBounds_toArray, List.set_cons_zero, List.set_cons_succ]
    refine wpF_seg 2 (by kernel_rfl) ?_
    simp only [List.take_succ_cons, List.take_zero, List.drop_succ_cons, List.drop_zero]
    repeat (go_big_quiet_step (fail))
    refine wpQuiet_nil ?_
    refine wpF_call 24 Try.func24 (by kernel_rfl) (by kernel_rfl) _ _ #[.agg #[.slice A 3 c, .slice B' m' c'], .slice Av 3 cv] rfl (by kernel_rfl) (by kernel_rfl) HSL0.out (fun VV hV => ?_)
    have HW := Lib.hid (below_step HW0.out hV)
    refine (rSFinal_as A 3 c B' m' c' ts Av 3 cv vs fv _ (HS.out.m.keep HW.out) (HVs.out.keep HW.out) HIx.out HFv.out).mono ?_
    rintro e WW ⟨rfl, hb⟩
    have hb2 := ext_trans hV hb
    have HWn := Lib.hid (below_step HW0.out hb2)
    have HSLn := Lib.hid (HSL0.out.ext hb2)
    clear HW0 HSL0 HW
    have HW0 := HWn
    have HSL0 := HSLn
    clear HWn HSLn
    refine ⟨_, rfl, hb, ?_⟩
    clear hb hb2 hV
    simp only [Act.put, List.setIfInBounds_toArray, List.set_cons_zero, List.set_cons_succ]
    refine wpF_seg 4 (by kernel_rfl) ?_
    simp only [List.take_succ_cons, List.take_zero, List.drop_succ_cons, List.drop_zero]
    repeat (go_big_quiet_step (fail))
    refine wpQuiet_nil ?_
    refine wpF_call 10 Try.func10 (by kernel_rfl) (by kernel_rfl) _ _ #[.agg #[.slice A 3 c, .slice B' m' c']] rfl (by kernel_rfl) (by kernel_rfl) HSL0.out (fun VV hV => ?_)
    have HW := Lib.hid (below_step HW0.out hV)
    refine (sValid_as A 3 c (rawL Ls) B' m' c' (rawT ts) true _ (SW.of (HS.out.t.keep HW.out)) (HS.out.m.keep HW.out) HVal.out).mono ?_
    rintro e WW ⟨rfl, hb⟩
    have hb2 := ext_trans hV hb
    have HWn := Lib.hid (below_step HW0.out hb2)
    have HSLn := Lib.hid (HSL0.out.ext hb2)
    clear HW0 HSL0 HW
    have HW0 := HWn
    have HSL0 := HSLn
    clear HWn HSLn
    refine ⟨_, rfl, hb, ?_⟩
    clear hb hb2 hV
    simp only [Act.put, List.setIfInBounds_toArray, List.set_cons_zero, List.set_cons_succ]
    refine wpF_seg 2 (by kernel_rfl) ?_
    simp only [List.take_succ_cons, List.take_zero, List.drop_succ_cons, List.drop_zero]
    repeat (go_big_quiet_step (fail))
    refine wpQuiet_nil ?_
    clear l0 l1 hq1 hq2
    refine wpF_nil (fun Ye hY0 => ?_)
    have HLe := Lib.hid (below_step HW0.out hY0)
    clear HW0 HSL0 hY0
    go_upto_region 12 with fail
    cases d with
    | zero =>
      go_wp2_with fail
      go_ret
      exact ⟨rfl, below_step HB.out HLe.out⟩
    | succ K =>
      have hK0 : ¬ (((K + 1 : Nat) : Int) = 0) := by omega
      have hK1 : ¬ ((K : Int) + 1 = 0) := by omega
      obtain ⟨r, hr⟩ : ∃ r, vs[0]? = some r := ⟨vs[0]'(by have := HVl.out; omega), List.getElem?_eq_getElem _⟩
      obtain ⟨adv, hadv, p0, p1⟩ := (HVs.out.keep HLe.out).at_ hr
      subst hadv
      rw [show adv.add (0 * 2) = adv by cases adv; rfl] at p0 p1
      have XSe := XS.out.keep HLe.out
      have Hr := Lib.hid hr
      clear hr
      go_upto_region 14 with fail
      have l0 := Later.cell XSe.c0
      have l1 := Later.cell XSe.c1
      have l2 := Later.cell p0
      have l3 := Later.cell p1
      have hpw := HS.out.ok.pow
      have hml := HS.out.m.len
      have hm4 : m' ≤ 65536 := by omega
      have HLg := HLe
      have HLq := HLe
      clear p0 p1 XSe hml HLe
      refine Fl.wp_floatN (by kernel_rfl) (lexOK_of (by kernel_rfl) (by kernel_rfl)) (chainOF_of (by kernel_rfl)) (fun V12 hb hS => ?_)
      have HW0 := Lib.hid hb
      have HSL0 := Lib.hid hS
      clear hb hS
      refine Fl.wpF_seg 4 (by kernel_rfl) ?_
      simp only [List.take_succ_cons, List.take_zero, List.drop_succ_cons, List.drop_zero]
      repeat (go_big_quiet_step (fail))
      refine wpQuiet_nil ?_
      refine Fl.wpF_call 25 Try.func25 (by kernel_rfl) (by kernel_rfl) _ _ #[.agg #[.slice (A) 3 c, .slice B' m' c'], .agg #[.int .u64 (vF r.A), .int .u64 (vF r.B)]] rfl (by kernel_rfl) (by kernel_rfl) HSL0.out (fun VV hV => ?_)
      have HW := Lib.hid (below_step HW0.out hV)
      refine (sBind_any A 3 c Ls B' m' c' (rawT ts) r _ (HS.out.t.keep (below_step HLg.out HW.out)) (fun L hL => by rw [HS.out.ok.len L hL]; exact ⟨Nat.two_pow_pos _, hpw⟩) (HS.out.m.keep (below_step HLg.out HW.out)) HS.out.ok.raw (by omega) (by omega) hm4).mono ?_
      rintro e WW ⟨A', c1', B'', d', rfl, hT14, hM14, hb⟩
      have hb2 := ext_trans hV hb
      have HWs := Lib.hid (below_step HW0.out hb2)
      have HSLn := Lib.hid (HSL0.out.ext hb2)
      have HLn := Lib.hid (below_step HLg.out HWs.out)
      clear HW0 HSL0 HW HLg
      have HLg := HLn
      have HSL0 := HSLn
      have HW0 := Lib.hid (Below.refl WW.heap.size WW)
      clear HSLn HLn
      refine ⟨_, rfl, hb, ?_⟩
      clear hb hb2 hV
      simp only [Act.put, List.setIfInBounds_toArray, List.set_cons_zero, List.set_cons_succ]
      have HT14 := Lib.hid hT14
      clear hT14 hM14 HWs
      refine Fl.wpF_make (.cells #[.slice none 0 0, .slice none 0 0] 30) (by kernel_rfl) (by kernel_rfl) (by kernel_rfl) (fun w1 => run_allocSm _ _ w1 rfl) (fun bQ W11 hb11 hbA hbw => ?_)
      have XT := Lib.hid (show Two W11 bQ 30 (.slice none 0 0) (.slice none 0 0) from hbA)
      have HW7 := Lib.hid (below_step HW0.out hb11)
      have HSL7 := Lib.hid (HSL0.out.ext hb11)
      have HLh := Lib.hid (below_step HLg.out HW7.out)
      have hT11 := HT14.out.keep hb11
      have hLen : ∀ L ∈ bndS Ls r, 0 < L.length := fun L hL => by
        rw [(HS.out.ok.bnd r).len L hL]
        exact Nat.two_pow_pos _
      have HT11 := Lib.hid hT11
      have HLen := Lib.hid hLen
      clear HW0 HSL0 hbA hb11 hT11 hLen HT14 HLg
      simp only [Act.put, mkVal, List.setIfInBounds_toArray, List.set_cons_zero, List.set_cons_succ]
      refine Fl.wpF_store (fun W => (W.setCell ⟨bQ, 0, none⟩ (.slice A' 3 c1')).setCell ⟨bQ, 1, none⟩ (.slice B'' m' d')) (by kernel_rfl) (by kernel_rfl) (by kernel_rfl) (by kernel_rfl) (fun W hW => run_storeSm bQ A' B'' 3 c1' m' d' rfl rfl rfl (XT.out.keep hW)) (fun W hW => ⟨⟨_, two_below2 (below_step HSL7.out.below hW) hbw _ _⟩, rfl⟩) (fun W15 hW15 => ?_)
      have hX15 := XT.out.keep hW15
      have XQ1 := Lib.hid ((hX15.set0 (.slice A' 3 c1')).set1 (.slice B'' m' d'))
      have HTq := Lib.hid (ST.resN (ST.resN (HT11.out.keep hW15) HLen.out (p := ⟨bQ, 0, none⟩) hX15.c0 (.slice A' 3 c1')) HLen.out (p := ⟨bQ, 1, none⟩) (hX15.set0 _).c1 (.slice B'' m' d'))
      have hwq : Wb.heap.size ≤ bQ := by have := HLq.out.size; omega
      have HLi := Lib.hid (two_below2 (below_step HLh.out hW15) hwq (.slice A' 3 c1') (.slice B'' m' d'))
      clear XT HW7 HSL7 hW15 hX15 HT11 HLh
      simp only [Act.put]
      clear l0 l1 l2 l3
      refine Fl.wpF_nil (fun Ya hY0 => ?_)
      have XQ := Lib.hid (XQ1.out.keep hY0)
      have HTa := Lib.hid (HTq.out.keep hY0)
      have HLa := Lib.hid (below_step HLi.out hY0)
      clear XQ1 HTq HLi hY0
      have XSa := XS.out.keep HLa.out
      have q0' := XQ.out.c0
      have q1' := XQ.out.c1
      have s0 := XSa.c0
      have s1 := XSa.c1
      clear XSa
      have hcc := HTa.out.cap
      have hct2 := HTa.out.top
      obtain ⟨Wl, hWl⟩ : ∃ Wl : World, Wl = Ya := ⟨_, rfl⟩
      subst hWl
      go_wp2_with fail
      go_loopw [17] (fun s wr => ∃ j : Nat, j ≤ 3 ∧ s = .int .i64 j ∧ Below Wl.heap.size Wl wr) (fun s _ => 3 - (intOf s).toNat)
      case atStart => exact ⟨0, Nat.zero_le _, rfl, Below.refl _ _⟩
      case round =>
        obtain ⟨j, hj, rfl, hb⟩ := hrel
        have HL := Lib.hid hb
        clear hb q0' q1' s0 s1
        by_cases hj3 : j < 3
        · have hj1 : (j : Int) < 3 := by omega
          have hj0 : (0 : Int) ≤ (j : Int) := by omega
          obtain ⟨T, hTj⟩ : ∃ T, Ls[j]? = some T := ⟨Ls[j]'(by omega), List.getElem?_eq_getElem _⟩
          have hTb : (bndS Ls r)[j]? = some (bndE T r) := by unfold bndS; rw [List.getElem?_map, hTj]; rfl
          obtain ⟨ad1, B1, m1, d1, hA1, y1, hs1⟩ := (HTa.out.keep HL.out).at_ hTb
          obtain ⟨ad2, B2, m2, d2, hA2, y2, hs2⟩ := (HS.out.t.keep (below_step HLa.out HL.out)).at_ hTj
          subst hA1
          subst hA2
          have hm2 : m2 ≤ 65536 := by rw [hs2.len, HS.out.ok.len T (List.mem_of_getElem? hTj)]; exact hpw
          obtain ⟨adv', hadv, p0, p1⟩ := (HVs.out.keep (below_step HLa.out HL.out)).at_ Hr.out
          injection hadv with hadv
          subst hadv
          rw [show adv.add (0 * 2) = adv by cases adv; rfl] at p0 p1
          have XQr := XQ.out.keep HL.out
          have XSr := XS.out.keep (below_step HLa.out HL.out)
          have HS1 := Lib.hid hs1
          have HS2 := Lib.hid hs2
          have l0 := Later.cell y1
          have l1 := Later.cell y2
          have l2 := Later.cell p0
          have l3 := Later.cell p1
          have l4 := Later.cell XQr.c0
          have l5 := Later.cell XSr.c0
          clear y1 y2 p0 p1 XQr XSr hs1 hs2 hTj hTb
          have HLg := HL
          go_upto_region 20 with fail
          refine wp_floatN (by kernel_rfl) (lexOK_of (by kernel_rfl) (by kernel_rfl)) (chainOF_of (by kernel_rfl)) (fun V12 hb hS => ?_)
          have HW0 := Lib.hid hb
          have HSL0 := Lib.hid hS
          clear hb hS
          refine wpF_seg 13 (by kernel_rfl) ?_
          simp only [List.take_succ_cons, List.take_zero, List.drop_succ_cons, List.drop_zero]
          repeat (go_big_quiet_step (fail))
          refine wpQuiet_nil ?_
          refine wpF_call 26 Try.func26 (by kernel_rfl) (by kernel_rfl) _ _ #[.slice B2 m2 d2, .agg #[.int .u64 (vF r.A), .int .u64 (vF r.B)]] rfl (by kernel_rfl) (by kernel_rfl) HSL0.out (fun VV hV => ?_)
          have HW := Lib.hid (below_step HW0.out hV)
          refine (rBind_any B2 m2 d2 T r _ (HS2.out.keep HW.out) hm2).mono ?_
          rintro e WW ⟨A5, c5, rfl, hs5, hb⟩
          have hb2 := ext_trans hV hb
          have HWs := Lib.hid (below_step HW0.out hb2)
          have HSLn := Lib.hid (HSL0.out.ext hb2)
          have HLn := Lib.hid (below_step HLg.out HWs.out)
          clear HW0 HSL0 HW HLg
          have HLg := HLn
          have HSL0 := HSLn
          have HW0 := Lib.hid (Below.refl WW.heap.size WW)
          clear HSLn HLn
          refine ⟨_, rfl, hb, ?_⟩
          clear hb hb2 hV
          simp only [Act.put, List.setIfInBounds_toArray, List.set_cons_zero, List.set_cons_succ]
          have HS5 := Lib.hid hs5
          have HS6 := Lib.hid (HS1.out.keep HWs.out)
          clear hs5 HWs
          refine wpF_call 18 Try.func18 (by kernel_rfl) (by kernel_rfl) _ _ #[.slice B1 m1 d1, .slice A5 (m2 / 2) c5] rfl (by kernel_rfl) (by kernel_rfl) HSL0.out (fun VV hV => ?_)
          have HW := Lib.hid (below_step HW0.out hV)
          refine (same_yes B1 m1 d1 A5 (m2 / 2) c5 (bndE T r) _ (HS6.out.keep HW.out) (HS5.out.keep HW.out)).mono ?_
          rintro e WW ⟨rfl, hb⟩
          have hb2 := ext_trans hV hb
          have HWn := Lib.hid (below_step HW0.out hb2)
          have HSLn := Lib.hid (HSL0.out.ext hb2)
          clear HW0 HSL0 HW
          have HW0 := HWn
          have HSL0 := HSLn
          clear HWn HSLn
          refine ⟨_, rfl, hb, ?_⟩
          clear hb hb2 hV
          simp only [Act.put, List.setIfInBounds_toArray, List.set_cons_zero, List.set_cons_succ]
          refine wpF_seg 1 (by kernel_rfl) ?_
          simp only [List.take_succ_cons, List.take_zero, List.drop_succ_cons, List.drop_zero]
          repeat (go_big_quiet_step (fail))
          refine wpQuiet_nil ?_
          clear l0 l1 l2 l3 l4 l5
          refine wpF_nil (fun Yf hY0 => ?_)
          have HLf := Lib.hid (below_step HLg.out (below_step HW0.out hY0))
          clear HW0 HSL0 hY0
          go_wp2_with fail
          go_roundw
          case rel => exact ⟨j + 1, by omega, by go_num, HLf.out⟩
          case measure => simp [intOf]; omega
        · have hj4 : j = 3 := by omega
          subst hj4
          obtain ⟨D', hD'⟩ : ∃ D', degT ts + 1 = D' := ⟨_, rfl⟩
          obtain ⟨Rr, hRr⟩ : ∃ Rr, rndE Ls ts (2 ^ (K + 1)) = Rr := ⟨_, rfl⟩
          have HD' := Lib.hid hD'
          have HRr := Lib.hid hRr
          have HLz := Lib.hid (below_step HLa.out HL.out)
          have XSr := XS.out.keep HLz.out
          have l0 := Later.cell XSr.c0
          have l1 := Later.cell XSr.c1
          clear hD' hRr XSr
          have HLg := HLz
          go_upto_region 22 with fail
          refine wp_floatN (by kernel_rfl) (lexOK_of (by kernel_rfl) (by kernel_rfl)) (chainOF_of (by kernel_rfl)) (fun V12 hb hS => ?_)
          have HW0 := Lib.hid hb
          have HSL0 := Lib.hid hS
          clear hb hS
          refine wpF_seg 3 (by kernel_rfl) ?_
          simp only [List.take_succ_cons, List.take_zero, List.drop_succ_cons, List.drop_zero]
          repeat (go_big_quiet_step (fail))
          refine wpQuiet_nil ?_
          refine wpF_call 27 Try.func27 (by kernel_rfl) (by kernel_rfl) _ _ #[.agg #[.slice A 3 c, .slice B' m' c']] rfl (by kernel_rfl) (by kernel_rfl) HSL0.out (fun VV hV => ?_)
          have HW := Lib.hid (below_step HW0.out hV)
          refine (sRound_as A 3 c Ls B' m' c' ts K Rr D' _ (HS.out.t.keep (below_step HLg.out HW.out)) (HS.out.m.keep (below_step HLg.out HW.out)) HS.out.ok HRr.out HD'.out).mono ?_
          rintro e WW ⟨A5, c5, rfl, hs5, hb⟩
          have hb2 := ext_trans hV hb
          have HWs := Lib.hid (below_step HW0.out hb2)
          have HSLn := Lib.hid (HSL0.out.ext hb2)
          have HLn := Lib.hid (below_step HLg.out HWs.out)
          clear HW0 HSL0 HW HLg
          have HLg := HLn
          have HSL0 := HSLn
          have HW0 := Lib.hid (Below.refl WW.heap.size WW)
          clear HSLn HLn
          refine ⟨_, rfl, hb, ?_⟩
          clear hb hb2 hV
          simp only [Act.put, List.setIfInBounds_toArray, List.set_cons_zero, List.set_cons_succ]
          have HS5 := Lib.hid hs5
          clear hs5 HWs
          refine wpF_seg 1 (by kernel_rfl) ?_
          simp only [List.take_succ_cons, List.take_zero, List.drop_succ_cons, List.drop_zero]
          repeat (go_big_quiet_step (fail))
          refine wpQuiet_nil ?_
          refine wpF_call 28 Try.func28 (by kernel_rfl) (by kernel_rfl) _ _ #[.agg #[.slice A 3 c, .slice B' m' c']] rfl (by kernel_rfl) (by kernel_rfl) HSL0.out (fun VV hV => ?_)
          have HW := Lib.hid (below_step HW0.out hV)
          refine (rSRound_any A 3 c Ls B' m' c' ts K D _ (HS.out.t.keep (below_step HLg.out HW.out)) (HS.out.m.keep (below_step HLg.out HW.out)) HS.out.ok HD.out).mono ?_
          rintro e WW ⟨A6, c6, rfl, hs6, hb⟩
          have hb2 := ext_trans hV hb
          have HWs := Lib.hid (below_step HW0.out hb2)
          have HSLn := Lib.hid (HSL0.out.ext hb2)
          have HLn := Lib.hid (below_step HLg.out HWs.out)
          clear HW0 HSL0 HW HLg
          have HLg := HLn
          have HSL0 := HSLn
          have HW0 := Lib.hid (Below.refl WW.heap.size WW)
          clear HSLn HLn
          refine ⟨_, rfl, hb, ?_⟩
          clear hb hb2 hV
          simp only [Act.put, List.setIfInBounds_toArray, List.set_cons_zero, List.set_cons_succ]
          have HS6 := Lib.hid (HRr.out ▸ hs6.sl')
          have HS7 := Lib.hid (HS5.out.keep HWs.out)
          clear hs6 HWs HS5
          refine wpF_call 18 Try.func18 (by kernel_rfl) (by kernel_rfl) _ _ #[.slice A5 D' c5, .slice A6 (D + 1) c6] rfl (by kernel_rfl) (by kernel_rfl) HSL0.out (fun VV hV => ?_)
          have HW := Lib.hid (below_step HW0.out hV)
          refine (same_yes A5 D' c5 A6 (D + 1) c6 Rr _ (HS7.out.keep HW.out) (HS6.out.keep HW.out)).mono ?_
          rintro e WW ⟨rfl, hb⟩
          have hb2 := ext_trans hV hb
          have HWn := Lib.hid (below_step HW0.out hb2)
          have HSLn := Lib.hid (HSL0.out.ext hb2)
          clear HW0 HSL0 HW
          have HW0 := HWn
          have HSL0 := HSLn
          clear HWn HSLn
          refine ⟨_, rfl, hb, ?_⟩
          clear hb hb2 hV
          simp only [Act.put, List.setIfInBounds_toArray, List.set_cons_zero, List.set_cons_succ]
          refine wpF_seg 2 (by kernel_rfl) ?_
          simp only [List.take_succ_cons, List.take_zero, List.drop_succ_cons, List.drop_zero]
          repeat (go_big_quiet_step (fail))
          refine wpQuiet_nil ?_
          clear l0 l1
          refine wpF_nil (fun Yf hY0 => ?_)
          have HLf := Lib.hid (below_step HLg.out (below_step HW0.out hY0))
          clear HW0 HSL0 hY0
          go_wp2_with fail
          go_ret
          exact ⟨rfl, below_step HB.out HLf.out⟩

end Go.Proofs.Ytombcjdhjcmhhaa

/- The frame of the law SumcheckMatchesReference: raw sums that come in are opened. -/
namespace Go.Proofs.Ytombcjdhjcmhhaa
set_option maxRecDepth 8000
open Go.ChangeShapes Go.WideShapes Go.ChangeAt Go.RowKit Go.Joins Go.Deep Gold
section
variable {H : Type} {enc : TypeId × Value → H} {W : World} {base : Nat} {sp : Nat → Bool} {b1 : Nat} {hd : Bool} {v : Value} {d : DataW H} {p : List MemPlace}
theorem cellsIn : Try.prog.cellsOf 3 = 1 := by kernel_rfl
theorem cellsIs : Try.prog.cellsOf 63 = 1 := by kernel_rfl
theorem cellsPr : Try.prog.cellsOf 65 = 3 := by kernel_rfl
theorem cellsPs : Try.prog.cellsOf 28 = 1 := by kernel_rfl
theorem cellsTt : Try.prog.cellsOf 27 = 1 := by kernel_rfl
theorem cellsSu : Try.prog.cellsOf 30 = 2 := by kernel_rfl
theorem trod_rows {m : Nat} {c0 : Value} {y : DataW H × List MemPlace} (h : DataW.trod enc Try.prog W b1 sp hd m 27 [c0] = some y) : ∃ (A : Option Addr) (n c : Nat) (Qs : List (List (Int × Int))), c0 = .slice A n c ∧ SW W A n c Qs ∧ ∀ q ∈ Qs, Nums q := by
  obtain ⟨d, p⟩ := y
  rcases open_slice Try.underlying27 h with ⟨hcs, _⟩ | ⟨a, len, cap, m', n', D, Pl, hcs, _, hl, hm, hmm, _, hi⟩
  · injection hcs with hcs
    subst hcs
    exact ⟨none, 0, 0, [], rfl, SlS.nil _, fun p hp => by cases hp⟩
  · injection hcs with hcs
    subst hcs
    unfold maxLen at hm
    have hC : ∀ i, i < len → ∃ q : List (Int × Int), (∃ B m d, W.cell? (a.add i) = some (.slice B m d) ∧ Sr W B m d q) ∧ Nums q := fun i hin => by
      obtain ⟨cs', hc, ht⟩ := hi i (by rw [hmm]; split <;> omega)
      rw [cellsS] at hc
      obtain ⟨_, hcl, hat⟩ := World.cells?_some hc
      match cs', hcl with
      | [c0], _ =>
        obtain ⟨B, m, d, ps, rfl, hs, hn⟩ := trod_exts ht
        have h0 := hat 0 (by omega)
        simp only [Nat.mul_one] at h0
        exact ⟨ps, ⟨B, m, d, h0, hs⟩, hn⟩
    obtain ⟨Qs, hpl, hpp⟩ := list_of len _ hC
    refine ⟨some a, len, cap, Qs, rfl, ⟨by simp [hpl], hl, by omega, fun i q hq => ?_⟩, fun q hq => ?_⟩
    · rw [List.getElem?_map] at hq
      cases hx : Qs[i]? with
      | none => rw [hx] at hq; cases hq
      | some x =>
        rw [hx] at hq
        injection hq with hq
        subst hq
        obtain ⟨⟨B, m, d, k1, k2⟩, _⟩ := hpp i x hx
        exact ⟨a, B, m, d, rfl, k1, k2⟩
    · obtain ⟨i, hi'⟩ := List.getElem?_of_mem hq
      exact (hpp i q hi').2
theorem trod_idx {m : Nat} {c0 : Value} {y : DataW H × List MemPlace} (h : DataW.trod enc Try.prog W b1 sp hd m 63 [c0] = some y) : ∃ (A : Option Addr) (n c : Nat) (zs : List Int), c0 = .slice A n c ∧ SiZ W A n c zs := by
  obtain ⟨d, p⟩ := y
  rcases open_slice Try.underlying63 h with ⟨hcs, _⟩ | ⟨a, len, cap, m', n', D, Pl, hcs, _, hl, hm, hmm, _, hi⟩
  · injection hcs with hcs
    subst hcs
    exact ⟨none, 0, 0, [], rfl, ⟨rfl, Nat.le_refl _, Nat.zero_le _, fun _ => rfl, fun i p hp => by simp at hp⟩⟩
  · injection hcs with hcs
    subst hcs
    unfold maxLen at hm
    have hC : ∀ i, i < len → ∃ z : Int, W.cell? (a.add i) = some (.int .i64 z) ∧ True := fun i hin => by
      obtain ⟨cs', hc, ht⟩ := hi i (by rw [hmm]; split <;> omega)
      rw [cellsIn] at hc
      obtain ⟨_, hcl, hat⟩ := World.cells?_some hc
      match cs', hcl with
      | [c0], _ =>
        obtain ⟨z, e, _, _⟩ := DataW.trod_int Try.underlying3 ht
        simp at e
        subst e
        have h0 := hat 0 (by omega)
        simp only [Nat.mul_one] at h0
        exact ⟨z, h0, trivial⟩
    obtain ⟨zs, hpl, hpp⟩ := list_of len _ hC
    exact ⟨some a, len, cap, zs, rfl, ⟨by simp [hpl], hl, by omega, (fun e => by cases e), fun i z hz => ⟨a, rfl, (hpp i z hz).1⟩⟩⟩
theorem trod_prods {m : Nat} {c0 : Value} {y : DataW H × List MemPlace} (h : DataW.trod enc Try.prog W b1 sp hd m 28 [c0] = some y) : ∃ (A : Option Addr) (n c : Nat) (ts : List (Int × Int × List Int)), c0 = .slice A n c ∧ SlM W A n c ts := by
  obtain ⟨d, p⟩ := y
  rcases open_slice Try.underlying28 h with ⟨hcs, _⟩ | ⟨a, len, cap, m', n', D, Pl, hcs, _, hl, hm, hmm, _, hi⟩
  · injection hcs with hcs
    subst hcs
    exact ⟨none, 0, 0, [], rfl, SlM.nil _⟩
  · injection hcs with hcs
    subst hcs
    unfold maxLen at hm
    have hC : ∀ i, i < len → ∃ t : Int × Int × List Int, (∃ B m d, AtM W (a.add (i * 3)) t.1 t.2.1 (.slice B m d) ∧ SiZ W B m d t.2.2) ∧ True := fun i hin => by
      obtain ⟨cs', hc, ht⟩ := hi i (by rw [hmm]; split <;> omega)
      rw [cellsPr] at hc
      obtain ⟨_, hcl, hat⟩ := World.cells?_some hc
      match cs', hcl with
      | [c0, c1, c2], _ =>
        obtain ⟨xs, m2, _, _, _, hn, hel⟩ := DataW.trod_struct Try.underlying65 ht
        match xs, hn with
        | [y0, y1], _ =>
          have g0 : DataW.trod enc Try.prog W b1 sp hd m2 43 [c0, c1] = some y0 := by simpa [cellsX, cellsIs] using hel 0 _ rfl
          have g1 : DataW.trod enc Try.prog W b1 sp hd m2 63 [c2] = some y1 := by simpa [cellsX, cellsIs] using hel 1 _ rfl
          obtain ⟨x, y, rfl, rfl, _, _⟩ := trod_ext g0
          obtain ⟨B, n2, d2, zs, rfl, hz⟩ := trod_idx g1
          have key : ∀ k, 0 < k → (a.add (i * 3)).add k = ⟨(a.add (i * 3)).block, (a.add (i * 3)).off + k, none⟩ := fun k hk => by
            unfold Addr.add
            rw [if_neg (by omega)]
          have h0 := hat 0 (by omega)
          have h1 := hat 1 (by omega)
          have h2 := hat 2 (by omega)
          rw [key 1 (by omega)] at h1
          rw [key 2 (by omega)] at h2
          exact ⟨(x, y, zs), ⟨B, n2, d2, ⟨h0, h1, h2⟩, hz⟩, trivial⟩
    obtain ⟨ts, hpl, hpp⟩ := list_of len _ hC
    refine ⟨some a, len, cap, ts, rfl, ⟨by simp [hpl], hl, by omega, fun i t ht => ?_⟩⟩
    obtain ⟨⟨B, m, d, k1, k2⟩, _⟩ := hpp i t ht
    exact ⟨a, B, m, d, rfl, k1, k2⟩
theorem open_sum (hv : Value.okWide Try.prog W .any base 30 v) (h : DataW.Trod enc Try.prog W b1 sp hd 30 v d p) : SumRaw W v := by
  obtain ⟨cs, rfl, hsz, _⟩ : ∃ cs, v = .agg cs ∧ cs.size = Try.prog.cellsOf 30 ∧ Row.okWide Try.prog W .any base 30 cs := by
    simpa [Value.okWide, Try.underlying30] using hv
  rw [cellsSu] at hsz
  obtain ⟨c0, c1, rfl⟩ : ∃ c0 c1, cs = #[c0, c1] := by
    match cs, hsz with
    | ⟨[c0, c1]⟩, _ => exact ⟨c0, c1, rfl⟩
  obtain ⟨fuel, hf⟩ := h
  obtain ⟨xs, m', _, _, _, hn, hel⟩ := DataW.trod_struct Try.underlying30 (show DataW.trod enc Try.prog W b1 sp hd fuel 30 [c0, c1] = some (d, p) by simpa [Value.cells] using hf)
  match xs, hn with
  | [y0, y1], _ =>
    have g0 : DataW.trod enc Try.prog W b1 sp hd m' 27 [c0] = some y0 := by simpa [cellsTt, cellsPs] using hel 0 _ rfl
    have g1 : DataW.trod enc Try.prog W b1 sp hd m' 28 [c1] = some y1 := by simpa [cellsTt, cellsPs] using hel 1 _ rfl
    obtain ⟨A, n, c, Qs, rfl, s0, _⟩ := trod_rows g0
    obtain ⟨B, m, e, ts, rfl, s1⟩ := trod_prods g1
    exact ⟨A, B, n, c, m, e, Qs, ts, rfl, s0, s1⟩
end
end Go.Proofs.Ytombcjdhjcmhhaa
