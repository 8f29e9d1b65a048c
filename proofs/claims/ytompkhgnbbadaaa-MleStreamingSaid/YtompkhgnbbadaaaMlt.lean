/- The walk of the law MleStreaming of package mle: the value that Accumulate keeps is the value of the table, in either order of the changes; no conditions. -/
import Derived.Test.YtompkhgnbbadaaaMsn
import Derived.Deep.Cut
import Derived.Test.YtompkhgnbbadaaaMch
import Derived.Deep.CutRange
namespace Go.Proofs.Ytompkhgnbbadaaa
open Go.RowKit Gold

theorem cfE_set5 {l : List E2} {k : Nat} (x : E2) (h : k < l.length) (i : Nat) : cfE (l.set k x) i = if i = k then x else cfE l i := by
  unfold cfE
  rw [List.getElem?_set]
  by_cases e : k = i
  · subst e
    rw [if_pos rfl, if_pos h, if_pos rfl]
    rfl
  · rw [if_neg e, if_neg (fun c => e c.symm)]
theorem Sl.far5 {w : World} {A : Option Addr} {n c : Nat} {xs : List E2} (h : Sl w A n c xs) {a : Addr} (x : Value) (e : ∀ ad, A = some ad → ad.block ≠ a.block) : Sl (w.setCell a x) A n c xs := by
  refine (⟨SlR.len h, SlR.cap h, SlR.top h, SlR.nil h, fun i p hp => ?_⟩ : SlR _ A n c (xs.map valE))
  obtain ⟨ad, ha, h0, h1⟩ := SlR.cells h i p hp
  have hne : a.block ≠ (ad.add (i * 2)).block := by
    have := e ad ha
    unfold Addr.add
    split <;> exact fun k => this k.symm
  exact ⟨ad, ha, cell_far h0 hne x, cell_far h1 hne x⟩
theorem sumE_zero5 : ∀ n, (sumE n fun _ => E2.zero) = E2.zero
  | 0 => rfl
  | n + 1 => by rw [sumE, sumE_zero5 n]; rfl
theorem mleE_zeros {zs ps : List E2} (h : ∀ i, cfE zs i = E2.zero) : mleE zs ps = E2.zero := by
  have e : (sumE (2 ^ ps.length) fun i => eqW i ps * cfE zs i) = mleE zs ps := mleF_sum' ps _
  rw [← e, sumE_congr (g := fun _ => E2.zero) (fun i _ => by rw [h i, E2.mul_zero])]
  exact sumE_zero5 _
/-- what change j adds to the value -/
def chT (cs : List (Int × Int × Int)) (M : Nat) (ps : List E2) (j : Nat) : E2 := match cs[j]? with
  | some q => toE q.2.1 q.2.2 * eqW (q.1 % (M : Int)).toNat ps
  | none => E2.zero
theorem chT_some {cs : List (Int × Int × Int)} {M j a : Nat} {ps : List E2} {qi qa qb : Int} (h : cs[j]? = some (qi, qa, qb)) (ha : qi % (M : Int) = (a : Int)) : chT cs M ps j = toE qa qb * eqW a ps := by
  unfold chT
  rw [h]
  show toE qa qb * eqW (qi % (M : Int)).toNat ps = _
  rw [ha]
  rfl
theorem mleE_upd5 {zs ps : List E2} {a : Nat} {x d : E2} (hx : zs[a]? = some x) (ha : a < 2 ^ ps.length) : mleE (zs.set a (x + d)) ps = mleE zs ps + d * eqW a ps := by
  obtain ⟨hl, _⟩ := List.getElem?_eq_some_iff.1 hx
  refine mleF_upd (f := cfE zs) ha fun i _ => ?_
  rw [cfE_set5 _ hl]
  by_cases e : i = a
  · subst e
    rw [if_pos rfl, if_pos rfl, cfE_some hx]
  · rw [if_neg e, if_neg e]
set_option maxHeartbeats 8000000 in
set_option maxRecDepth 100000 in
theorem mleStreaming_any (A0 : Option Addr) (n0 c0 : Nat) (ts : List (Int × Int)) (B0 : Option Addr) (m0 d0 : Nat) (us : List (Int × Int)) (C0 : Option Addr) (k0 e0 : Nat) (vs : List (Int × Int)) (N0 : Int) (L0 : Option Addr) (nL cL : Nat) (cs : List (Int × Int × Int)) (w : World) (hT : Sr w A0 n0 c0 ts) (hU : Sr w B0 m0 d0 us) (hV : Sr w C0 k0 e0 vs) (wT : Nums ts) (wU : Nums us) (wV : Nums vs) (hN : 0 ≤ N0 ∧ N0 ≤ 255) (hL : SrC w L0 nL cL cs) (wL : NumC cs) :
    Calls Try.prog 9 #[.agg #[.slice A0 n0 c0, .slice B0 m0 d0, .slice C0 k0 e0, .int .u8 N0], .slice L0 nL cL] w fun e w' => e = .returned (.bool true) ∧ Below w.heap.size w w' := by
  have HT := Lib.hid hT
  have HU := Lib.hid hU
  have HV := Lib.hid hV
  have WT := Lib.hid wT
  have WU := Lib.hid wU
  have WV := Lib.hid wV
  clear hT hU hV wT wU wV
  have HC := Lib.hid hL
  have WL := Lib.hid wL
  clear hL wL
  go_enter Try.func9, Try.ntmps9
  go_wp2_with fail
  refine calls_named1 (fun V1 hbV g0 hzV => ?_)
  have hq0 : Box4 V1 (w.heap.size) 24 (.slice A0 n0 c0) (.slice B0 m0 d0) (.slice C0 k0 e0) (.int .u8 N0) := g0
  have qT2 := Lib.hid (HT.out.keep hbV)
  clear HT
  have qU2 := Lib.hid (HU.out.keep hbV)
  clear HU
  have qV2 := Lib.hid (HV.out.keep hbV)
  clear HV
  have HB2 := Lib.hid hbV
  have Q3 := Lib.hid hq0
  clear hq0
  clear hbV hzV g0
  refine (sanity5_any _).mono ?_
  rintro e W4 ⟨rfl, hb⟩
  have qT5 := Lib.hid (qT2.out.keep hb)
  clear qT2
  have qU5 := Lib.hid (qU2.out.keep hb)
  clear qU2
  have qV5 := Lib.hid (qV2.out.keep hb)
  clear qV2
  have Q5 := Lib.hid (Q3.out.keep hb)
  clear Q3
  have HB5 := Lib.hid (below_step HB2.out hb)
  clear HB2
  clear hb
  have q0 := Q5.out.c0
  have q1 := Q5.out.c1
  have q2 := Q5.out.c2
  have q3 := Q5.out.c3
  have hwq := HB5.out.size
  go_wp2_with fail
  clear q0 q1 q2 q3
  refine (made_any A0 n0 c0 ts B0 m0 d0 us C0 k0 e0 vs N0 _ qT5.out qU5.out qV5.out WT.out WU.out WV.out hN).mono ?_
  rintro e W6 ⟨K, g, M, c1, xs, A2, c2, ps, A3, c3, ss, rfl, htr, hb⟩
  have qT7 := Lib.hid (qT5.out.keep hb)
  clear qT5
  have qU7 := Lib.hid (qU5.out.keep hb)
  clear qU5
  have qV7 := Lib.hid (qV5.out.keep hb)
  clear qV5
  have Q7 := Lib.hid (Q5.out.keep hb)
  clear Q5
  have HB7 := Lib.hid (below_step HB5.out hb)
  clear HB5
  clear hb
  have R8 := Lib.hid htr
  clear htr
  clear qT7
  clear qU7
  clear qV7
  clear Q7
  have hk6 := R8.out.k6
  have hm64 := R8.out.m64
  have hm0 := R8.out.m0
  have hc1 := R8.out.cap
  have ht1 := R8.out.top
  have hc2 := R8.out.p.cap
  have ht2 := R8.out.p.top
  have hc3 := R8.out.pts.cap
  have ht3 := R8.out.pts.top
  have HPOW := Lib.hid R8.out.pow
  have HLX := Lib.hid R8.out.len
  have HLP := Lib.hid R8.out.p.len
  have HLS := Lib.hid R8.out.pts.len
  obtain ⟨B2, hgB, hwB, hown⟩ := R8.out.own
  have hA0 : ∀ ad, A2 = some ad → g < ad.block ∧ ad.block < W6.heap.size := fun ad e => by
    subst e
    have := World.ownsRow.lt hown ad.block rfl
    omega
  have HA := Lib.hid hA0
  have HT := Lib.hid R8.out.tab
  have HP := Lib.hid R8.out.p
  have HB := Lib.hid HB7.out
  have hgw : w.heap.size ≤ g := Nat.le_trans hwq R8.out.base
  have HSZ := Lib.hid (Nat.le_refl W6.heap.size)
  have hMn : ¬ M = 0 := by omega
  generalize hW0 : W6.heap.size = n0W at HA HSZ
  clear hown hA0 R8 HB7
  go_wp2_with fail
  have HZW := Lib.hid (Nat.le_of_eq hW0.symm)
  clear hW0 HSZ
  go_loopw [9] (fun s wr => ∃ (k : Nat) (zs : List E2), k ≤ M ∧ s = .int .i64 k ∧ zs.length = M ∧ (∀ i, i < k → cfE zs i = E2.zero) ∧ Tab wr g zs ∧ Sl wr A2 K c2 ps ∧ Below w.heap.size w wr ∧ n0W ≤ wr.heap.size) (fun s _ => M - (intOf s).toNat)
  case atStart => exact ⟨0, xs, Nat.zero_le _, rfl, HLX.out, fun i hi => absurd hi (Nat.not_lt_zero _), HT.out, HP.out, HB.out, HZW.out⟩
  case round =>
    clear HT HP HB HZW
    obtain ⟨k, zs, hk, rfl, hzl, hz0, hT, hP, hb, hzw⟩ := hrel
    have HZL := Lib.hid hzl
    have HZ0 := Lib.hid hz0
    have HT := Lib.hid hT
    have HP := Lib.hid hP
    have HB := Lib.hid hb
    have HZW := Lib.hid hzw
    clear hzl hz0 hT hP hb hzw
    by_cases hlt : k < M
    · obtain ⟨x, hx⟩ : ∃ x, zs[k]? = some x := ⟨zs[k]'(by have := HZL.out; omega), List.getElem?_eq_getElem _⟩
      have c0 := (HT.out.at_ hx).1
      have c1 := (HT.out.at_ hx).2
      have f0 := HT.out.free (k * 2)
      have f1 := HT.out.free (k * 2 + 1)
      clear hx
      have hk0 : (0 : Int) ≤ (k : Int) := by omega
      have hk1 : (k : Int) < (M : Int) := by omega
      go_wp2_with fail
      go_roundw
      case rel => exact ⟨k + 1, zs.set k E2.zero, by omega, by go_num, by rw [List.length_set]; exact HZL.out,
        fun i hi => by rw [cfE_set5 _ (by have := HZL.out; omega)]; by_cases e : i = k
                       · rw [if_pos e]
                       · rw [if_neg e]; exact HZ0.out i (by omega),
        HT.out.set k E2.zero, (HP.out.far5 _ (fun ad e => Nat.ne_of_gt (HA.out ad e).1)).far5 _ (fun ad e => Nat.ne_of_gt (HA.out ad e).1), (HB.out.setCell hgw _).setCell hgw _, by simpa using HZW.out⟩
      case measure => simp [intOf]; omega
    · have hkM : M = k := by omega
      subst hkM
      have HMZ := Lib.hid (mleE_zeros (zs := zs) (ps := ps) fun i => by
        by_cases h : i < M
        · exact HZ0.out i h
        · exact cfE_ge (by rw [HZL.out]; omega))
      clear HZ0
      go_upto_region 8 with fail
      generalize wr = W1 at *
      refine wp_named2 (fun V hbV g0 g1 hzV => ?_)
      have h10 : Two V W1.heap.size 27 (.int .u64 (vF (E2.zero).A)) (.int .u64 (vF (E2.zero).B)) := g0
      have h11 : Two V (W1.heap.size + 1) 27 (.int .u64 (vF (E2.zero).A)) (.int .u64 (vF (E2.zero).B)) := g1
      have H10 := Lib.hid h10
      have H11 := Lib.hid h11
      have HT1 := Lib.hid (HT.out.keep hbV)
      have HP1 := Lib.hid (HP.out.keep hbV)
      have HB1 := Lib.hid (below_step HB.out hbV)
      have hgb : g < W1.heap.size := HT.out.lt
      have hwb : w.heap.size ≤ W1.heap.size := HB.out.size
      have HAb := Lib.hid (show ∀ ad, A2 = some ad → ad.block ≠ g ∧ ad.block < W1.heap.size from fun ad e => ⟨Nat.ne_of_gt (HA.out ad e).1, Nat.lt_of_lt_of_le (HA.out ad e).2 HZW.out⟩)
      clear h10 h11 g0 g1 hbV hzV HT HP HB HA HZW
      obtain ⟨b, hb⟩ : ∃ b, b = W1.heap.size := ⟨_, rfl⟩
      rw [← hb] at H10 H11 hgb hwb HAb
      rw [← hb]
      clear hb
      obtain ⟨n, hn⟩ : ∃ n : Nat, n = min nL 100 := ⟨_, rfl⟩
      have hn1 : n ≤ nL := by omega
      have hn2 : n ≤ 100 := by omega
      have hnL : nL ≤ cL := HC.out.2.1
      have hcL : cL ≤ 9223372036854775807 := HC.out.2.2.1
      have HNL := Lib.hid (show nL = cs.length from HC.out.1)
      go_cut [12] from 36 to 38 (fun c wx => c = .int .i64 (n : Int) ∧ wx = V)
      case first =>
        go_wp2_with fail
        all_goals (go_meet; refine ⟨?_, rfl⟩; congr 1; omega)
      case rest =>
        obtain ⟨rfl, rfl⟩ := hcut
        clear hn
        go_wp2_with fail
        go_loopw [13] (fun s wr => ∃ (k : Nat) (zs : List E2), k ≤ n ∧ s = .int .i64 k ∧ zs.length = M ∧ mleE zs ps = sumE k (chT cs M ps) ∧ Tab wr g zs ∧ Sl wr A2 K c2 ps ∧ Two wr b 27 (.int .u64 (vF (sumE k (chT cs M ps)).A)) (.int .u64 (vF (sumE k (chT cs M ps)).B)) ∧ Two wr (b + 1) 27 (.int .u64 (vF (sumE k (fun i => chT cs M ps (n - 1 - i))).A)) (.int .u64 (vF (sumE k (fun i => chT cs M ps (n - 1 - i))).B)) ∧ Below w.heap.size w wr) (fun s _ => n - (intOf s).toNat)
        case atStart => exact ⟨0, zs, Nat.zero_le _, rfl, HZL.out, HMZ.out, HT1.out, HP1.out, H10.out, H11.out, HB1.out⟩
        case round =>
          clear HZL HMZ HT1 HP1 H10 H11 HB1
          obtain ⟨k, ys, hk, rfl, hyl, hym, hT, hP, h10, h11, hb⟩ := hrel
          have HYL := Lib.hid hyl
          have HT := Lib.hid hT
          have HP := Lib.hid hP
          have HB := Lib.hid hb
          clear hyl hT hP hb
          by_cases hlt : k < n
          · generalize hu : sumE k (chT cs M ps) = u at h10 hym
            generalize hv : sumE k (fun i => chT cs M ps (n - 1 - i)) = v at h11
            have HU := Lib.hid hu
            have HV := Lib.hid hv
            have HYM := Lib.hid hym
            have H10 := Lib.hid h10
            have H11 := Lib.hid h11
            clear hu hv hym h10 h11
            obtain ⟨⟨qi, qa, qb⟩, hq⟩ : ∃ q, cs[k]? = some q := ⟨cs[k]'(by have := HNL.out; omega), List.getElem?_eq_getElem _⟩
            obtain ⟨⟨ri, ra, rb⟩, hr⟩ : ∃ q, cs[n - 1 - k]? = some q := ⟨cs[n - 1 - k]'(by have := HNL.out; omega), List.getElem?_eq_getElem _⟩
            obtain ⟨⟨hqi, hqi2⟩, hqa, hqb⟩ := WL.out _ (List.mem_of_getElem? hq)
            obtain ⟨⟨hri, hri2⟩, hra, hrb⟩ := WL.out _ (List.mem_of_getElem? hr)
            simp only at hqi hqi2 hqa hqb hri hri2 hra hrb
            obtain ⟨a, ha⟩ : ∃ a : Nat, qi % (M : Int) = (a : Int) := ⟨(qi % (M : Int)).toNat, by have := Int.emod_nonneg qi (show (M : Int) ≠ 0 by omega); omega⟩
            obtain ⟨a', ha'⟩ : ∃ a : Nat, ri % (M : Int) = (a : Int) := ⟨(ri % (M : Int)).toNat, by have := Int.emod_nonneg ri (show (M : Int) ≠ 0 by omega); omega⟩
            have hla : a < M := by have := Int.emod_lt_of_pos qi (show (0 : Int) < (M : Int) by omega); omega
            have hla' : a' < M := by have := Int.emod_lt_of_pos ri (show (0 : Int) < (M : Int) by omega); omega
            have HTM := Lib.hid (show (IntKind.i64.wrap qi).tmod (M : Int) = (a : Int) by
              rw [show IntKind.i64.wrap qi = qi from IntWalk.i64_in _ (by omega), Int.tmod_eq_emod_of_nonneg hqi]; exact ha)
            have HTM' := Lib.hid (show (IntKind.i64.wrap ri).tmod (M : Int) = (a' : Int) by
              rw [show IntKind.i64.wrap ri = ri from IntWalk.i64_in _ (by omega), Int.tmod_eq_emod_of_nonneg hri]; exact ha')
            have HQ := Lib.hid (chT_some (ps := ps) hq ha)
            have HR := Lib.hid (chT_some (ps := ps) hr ha')
            have HRG := Lib.hid hr
            obtain ⟨ad, rfl, u0, u1, u2⟩ := (HC.out.keep HB.out).2.2.2 k _ hq
            have l0 := Later.cell u0
            have l1 := Later.cell u1
            have l2 := Later.cell u2
            clear hq hr u0 u1 u2
            have i0 : (0 : Int) ≤ (k : Int) := by omega
            have i1 : (k : Int) < (nL : Int) := by omega
            have i2 : (k : Int) < (n : Int) := by omega
            go_wp2_with fail
            refine wp_decl (l2 := [_]) (l3 := [_, _]) (zs := [.cells #[.int .u64 0, .int .u64 0] 27]) 15 (by kernel_rfl) (lexOK_of (by kernel_rfl) (by kernel_rfl)) rfl (Nat.le_of_ble_eq_true rfl) (by simp) (by kernel_rfl) (by kernel_rfl) rfl
                (all_cons rfl all_nil) (mk_same 27 _ run_allocE (all_cons rfl all_nil) (all_cons rfl all_nil)) ?_
            simp only [List.take_succ_cons, List.take_zero]
            repeat (refine wpCalm_step (fun KK hKK => ?_); go_simp; first
                | (refine hKK _ ?_; clear hKK KK)
                | (apply Exists.intro
                   refine ⟨fun _ => ?_, hKK _ ?_⟩
                   · (go_at_call 16; with_reducible exact Calls.calm (rMade_any qa qb _ hqa hqb))
                   clear hKK KK))
            refine wpCalm_nil ?_
            refine fun bd X hX => ?_
            have px := hX.get 15 bd _ rfl rfl
            have hbx := px.2
            have z0 := Two.c0 px.1
            have z1 := Two.c1 px.1
            have f0 := Two.f0 px.1
            have f1 := Two.f1 px.1
            have PX := Lib.hid (show Two X bd 27 (.int .u64 0) (.int .u64 0) from px.1)
            have HBx := Lib.hid hX.below
            clear hX px l0 l1 l2
            simp only [ptr]
            first
              | simp only [HTM.out]
              | simp only [ha]
            clear HTM ha
            go_wp2_with fail
            refine wp_named (fun Y => Two Y bd 27 (.int .u64 (vF (toE qa qb).A)) (.int .u64 (vF (toE qa qb).B)) ∧ Below wr.heap.size wr Y) ⟨(PX.out.set0 _).set1 _, (HBx.out.setCell hbx _).setCell hbx _⟩ ?_
            rintro Y ⟨hd, hbY⟩
            clear z0 z1 f0 f1 PX HBx
            generalize toE qa qb = d at *
            have hgd : g < bd := Nat.lt_of_lt_of_le HT.out.lt hbx
            have hbd : b + 1 < bd := Nat.lt_of_lt_of_le H11.out.lt hbx
            have HD := Lib.hid hd
            have HT1 := Lib.hid (HT.out.keep hbY)
            have HP1 := Lib.hid (HP.out.keep hbY)
            have H10a := Lib.hid (H10.out.keep hbY)
            have H11a := Lib.hid (H11.out.keep hbY)
            have HB1 := Lib.hid (below_step HB.out hbY)
            clear hd hbY HT HP H10 H11 HB hbx
            obtain ⟨x, hx⟩ : ∃ x, ys[a]? = some x := ⟨ys[a]'(by have := HYL.out; omega), List.getElem?_eq_getElem _⟩
            have HX := Lib.hid hx
            have l0 := Later.cell (HT1.out.at_ hx).1
            have l1 := Later.cell (HT1.out.at_ hx).2
            have l2 := Later.cell HD.out.c0
            have l3 := Later.cell HD.out.c1
            clear hx
            have i3 : (0 : Int) ≤ (a : Int) := by omega
            have i4 : (a : Int) < (M : Int) := by omega
            refine wp_later_tail 9 (by kernel_rfl) (by kernel_rfl) ?_
            simp only [List.take_succ_cons, List.take_zero, List.drop_succ_cons, List.drop_zero]
            repeat (go_big_quiet_step ((go_at_call 36; with_reducible exact Calls.later (extAdd_any x d _))))
            refine wpQuiet_nil ?_
            intro X2
            clear l0 l1 l2 l3
            have HT2 := Lib.hid (HT1.out.keep X2.below)
            have HP2 := Lib.hid (HP1.out.keep X2.below)
            have H102 := Lib.hid (H10a.out.keep X2.below)
            have H112 := Lib.hid (H11a.out.keep X2.below)
            have HD2 := Lib.hid (HD.out.keep X2.below)
            have HB2 := Lib.hid (below_step HB1.out X2.below)
            generalize X2.at = V2 at *
            clear HT1 HP1 H10a H11a HD HB1
            have c0 := (HT2.out.at_ HX.out).1
            have c1 := (HT2.out.at_ HX.out).2
            have f0 := HT2.out.free (a * 2)
            have f1 := HT2.out.free (a * 2 + 1)
            go_upto_region 14 with fail
            refine wp_named (fun V3 => Tab V3 g (ys.set a (x + d)) ∧ Sl V3 A2 K c2 ps ∧ Two V3 b 27 (.int .u64 (vF (u).A)) (.int .u64 (vF (u).B)) ∧ Two V3 (b + 1) 27 (.int .u64 (vF (v).A)) (.int .u64 (vF (v).B)) ∧ Two V3 bd 27 (.int .u64 (vF (d).A)) (.int .u64 (vF (d).B)) ∧ Below w.heap.size w V3)
              ⟨HT2.out.set a (x + d), (HP2.out.far5 _ (fun ad e => (HAb.out ad e).1)).far5 _ (fun ad e => (HAb.out ad e).1), (H102.out.far _ (by simp; omega)).far _ (by simp; omega), (H112.out.far _ (by simp; omega)).far _ (by simp; omega), (HD2.out.far _ (by simp; omega)).far _ (by simp; omega), (HB2.out.setCell hgw _).setCell hgw _⟩ ?_
            rintro V3 ⟨hT3, hP3, h103, h113, hd3, hb3⟩
            have HT3 := Lib.hid hT3
            have HP3 := Lib.hid hP3
            have H103 := Lib.hid h103
            have H113 := Lib.hid h113
            have HB3 := Lib.hid hb3
            clear c0 c1 f0 f1 HT2 HP2 H102 H112 HD2 HB2 hT3 hP3 h113 hb3
            have c0 := h103.c0
            have c1 := h103.c1
            have d0 := hd3.c0
            have d1 := hd3.c1
            clear h103 hd3
            go_wp2_with fail
            clear c0 c1 d0 d1
            refine (mleAccumulate_at u (a : Int) a d A2 K c2 ps _ HP3.out rfl (by omega) (by omega)).mono ?_
            rintro e V4 ⟨rfl, hb⟩
            have HT4 := Lib.hid (HT3.out.keep hb)
            have HP4 := Lib.hid (HP3.out.keep hb)
            have H104 := Lib.hid (H103.out.keep hb)
            have H114 := Lib.hid (H113.out.keep hb)
            have HB4 := Lib.hid (below_step HB3.out hb)
            clear hb HT3 HP3 H103 H113 HB3
            have c0 := H104.out.c0
            have c1 := H104.out.c1
            have f0 := H104.out.f0
            have f1 := H104.out.f1
            go_upto_region 15 with fail
            refine wp_named (fun V5 => Tab V5 g (ys.set a (x + d)) ∧ Sl V5 A2 K c2 ps ∧ Two V5 b 27 (.int .u64 (vF ((u + d * eqW a ps)).A)) (.int .u64 (vF ((u + d * eqW a ps)).B)) ∧ Two V5 (b + 1) 27 (.int .u64 (vF (v).A)) (.int .u64 (vF (v).B)) ∧ Below w.heap.size w V5)
              ⟨(HT4.out.far _ (by simp; omega)).far _ (by simp; omega), (HP4.out.far5 _ (fun ad e => Nat.ne_of_lt (HAb.out ad e).2)).far5 _ (fun ad e => Nat.ne_of_lt (HAb.out ad e).2), (H104.out.set0 _).set1 _, (H114.out.far _ (by simp)).far _ (by simp), (HB4.out.setCell hwb _).setCell hwb _⟩ ?_
            rintro V5 ⟨hT5, hP5, h105, h115, hb5⟩
            have HT5 := Lib.hid hT5
            have HP5 := Lib.hid hP5
            have H105 := Lib.hid h105
            have H115 := Lib.hid h115
            have HB5 := Lib.hid hb5
            clear c0 c1 f0 f1 HT4 HP4 H104 H114 HB4 hT5 hP5 h105 h115 hb5
            obtain ⟨_, hadx, u0, u1, u2⟩ := (HC.out.keep HB5.out).2.2.2 (n - 1 - k) _ HRG.out
            injection hadx with hadx
            subst hadx
            have j0 : (0 : Int) ≤ (n : Int) - 1 - (k : Int) := by omega
            have j1 : (n : Int) - 1 - (k : Int) < (nL : Int) := by omega
            have j2 : ((n : Int) - 1 - (k : Int)).toNat = n - 1 - k := by omega
            go_upto_region 16 with fail
            clear u0 u1 u2
            refine wp_named1 (fun V6 hbV g0 hzV => ?_)
            have m0 := Later.cell (cells_at g0 0 (v := .int .u8 ri) rfl)
            have m1 := Later.cell (cells_at g0 1 (v := .int .u64 ra) rfl)
            have m2 := Later.cell (cells_at g0 2 (v := .int .u64 rb) rfl)
            have HT6 := Lib.hid (HT5.out.keep hbV)
            have HP6 := Lib.hid (HP5.out.keep hbV)
            have H106 := Lib.hid (H105.out.keep hbV)
            have H116 := Lib.hid (H115.out.keep hbV)
            have HB6 := Lib.hid (below_step HB5.out hbV)
            clear hbV g0 hzV HT5 HP5 H105 H115 HB5
            have m3 := Later.cell H116.out.c0
            have m4 := Later.cell H116.out.c1
            refine wp_later_tail 12 (by kernel_rfl) (by kernel_rfl) ?_
            simp only [List.take_succ_cons, List.take_zero, List.drop_succ_cons, List.drop_zero]
            repeat (go_big_quiet_step (first
              | (go_at_call 16; with_reducible exact Calls.later (rMade_any ra rb _ hra hrb))
              | (go_at_call 28; with_reducible exact Calls.later (mleAccumulate_at v _ a' (toE ra rb) A2 K c2 ps _ (HP6.out.keep (Later.below _)) (by first | exact rfl | exact HTM'.out.symm | exact ha'.symm) (by omega) (by omega)))))
            refine wpQuiet_nil ?_
            intro X3
            clear m0 m1 m2 m3 m4
            have HT7 := Lib.hid (HT6.out.keep X3.below)
            have HP7 := Lib.hid (HP6.out.keep X3.below)
            have H107 := Lib.hid (H106.out.keep X3.below)
            have H117 := Lib.hid (H116.out.keep X3.below)
            have HB7 := Lib.hid (below_step HB6.out X3.below)
            have c0 := H117.out.c0
            have c1 := H117.out.c1
            have f0 := H117.out.f0
            have f1 := H117.out.f1
            go_wp2_with fail
            go_roundw
            case rel => exact ⟨k + 1, ys.set a (x + d), by omega, by go_num, by rw [List.length_set]; exact HYL.out, by rw [mleE_upd5 HX.out (by rw [← HLP.out, ← HPOW.out]; exact hla), HYM.out, sumE, HU.out, HQ.out], (HT7.out.far _ (by simp; omega)).far _ (by simp; omega), (HP7.out.far5 _ (fun ad e => Nat.ne_of_lt (Nat.lt_succ_of_lt (HAb.out ad e).2))).far5 _ (fun ad e => Nat.ne_of_lt (Nat.lt_succ_of_lt (HAb.out ad e).2)), by rw [sumE, HU.out, HQ.out]; exact (H107.out.far _ (by simp)).far _ (by simp), by rw [sumE, HV.out, HR.out]; exact (H117.out.set0 _).set1 _, (HB7.out.setCell (by simp; omega) _).setCell (by simp; omega) _⟩
            case measure => simp [intOf]; omega
          · have hkn : k = n := by omega
            subst hkn
            rw [sumE_rev] at h11
            generalize hu : sumE k (chT cs M ps) = u at h10 h11 hym
            have HMZ := Lib.hid hym
            have HP1 := Lib.hid HP.out
            have HT1 := Lib.hid (HT.out.sl (n := M) (c := c1) HYL.out.symm hc1 ht1)
            have HBz := Lib.hid HB.out
            clear hu hym HP HT HB
            have C9 := Lib.hid h10
            clear h10
            have D10 := Lib.hid h11
            clear h11
            go_upto_region 17 with fail
            have lC0 := Later.cell C9.out.c0
            have lC1 := Later.cell C9.out.c1
            have lD0 := Later.cell D10.out.c0
            have lD1 := Later.cell D10.out.c1
            clear C9
            clear D10
            try simp only [List.append_eq, List.cons_append, List.nil_append]
            refine wp_floatN (by kernel_rfl) (lexOK_of (by kernel_rfl) (by kernel_rfl)) (chainOF_of (by kernel_rfl)) (fun V11 hb hS => ?_)
            have t12 := Lib.hid (HT1.out.keep hb)
            clear HT1
            have p12 := Lib.hid (HP1.out.keep hb)
            clear HP1
            have HB12 := Lib.hid (below_step HBz.out hb)
            clear HBz
            clear hb
            have HS11' := Lib.hid hS
            clear hS
            refine wpF_seg 3 (by kernel_rfl) ?_
            simp only [List.take_succ_cons, List.take_zero, List.drop_succ_cons, List.drop_zero]
            repeat (go_big_quiet_step (fail))
            refine wpQuiet_nil ?_
            refine wpF_call 20 Try.func20 (by kernel_rfl) (by kernel_rfl) _ _ #[.slice (some ⟨g, 0, none⟩) M c1, .slice A2 K c2] rfl (by kernel_rfl) (by kernel_rfl) HS11'.out (fun V13 hV => ?_)
            refine (mleEval_any (some ⟨g, 0, none⟩) M c1 ys A2 K c2 ps _ (t12.out.keep hV) (p12.out.keep hV) HPOW.out (by omega)).mono ?_
            rw [HMZ.out]
            rintro e W13 ⟨rfl, hb⟩
            have hb2 := ext_trans hV hb
            have t14 := Lib.hid (t12.out.keep hb2)
            clear t12
            have p14 := Lib.hid (p12.out.keep hb2)
            clear p12
            have HB14 := Lib.hid (below_step HB12.out hb2)
            clear HB12
            have HS14 := Lib.hid (HS11'.out.ext hb2)
            clear HS11'
            refine ⟨_, rfl, hb, ?_⟩
            clear hb hb2 hV
            simp only [Act.put, List.setIfInBounds_toArray, List.set_cons_zero, List.set_cons_succ]
            have hq96 := run_eqE_same (u)
            have hq100 := run_eqE_same (u)
            refine wpF_seg 10 (by kernel_rfl) ?_
            simp only [List.take_succ_cons, List.take_zero, List.drop_succ_cons, List.drop_zero]
            repeat (go_big_quiet_step (fail))
            refine wpQuiet_nil ?_
            refine wpF_nil (fun V15 hb => ?_)
            have t16 := Lib.hid (t14.out.keep hb)
            clear t14
            have p16 := Lib.hid (p14.out.keep hb)
            clear p14
            have HB16 := Lib.hid (below_step HB14.out hb)
            clear HB14
            clear hb
            go_wp2_with fail
            go_ret
            exact ⟨rfl, HB16.out⟩

end Go.Proofs.Ytompkhgnbbadaaa
