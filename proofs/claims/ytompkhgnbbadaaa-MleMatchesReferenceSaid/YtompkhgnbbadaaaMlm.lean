/- The walk of the law MleMatchesReference of package mle: every function answers as the reference does; no conditions. -/
import Derived.Test.YtompkhgnbbadaaaMsn
import Derived.Deep.Cut
import Derived.Deep.CutRange
import Derived.Deep.RegionWith
namespace Go.Proofs.Ytompkhgnbbadaaa
open Go.RowKit Gold

theorem valid_both (A : Option Addr) (n c : Nat) (ts : List (Int × Int)) : ∃ (z : Int) (b : Bool),
    (∀ w, Sr w A n c ts → Calls Try.prog 13 #[.slice A n c] w fun e w' => e = .returned (.tuple #[.int .i64 z, .bool b]) ∧ Below w.heap.size w w') ∧
    (∀ w, Sr w A n c ts → Calls Try.prog 14 #[.slice A n c] w fun e w' => e = .returned (.tuple #[.int .i64 z, .bool b]) ∧ Below w.heap.size w w') := by
  by_cases hK : ∃ K, K ≤ 16 ∧ n = 2 ^ K
  · obtain ⟨K, hK, hn⟩ := hK
    by_cases hv : allV ts = true
    · exact ⟨K, true, fun w h => mleValid_yes A n c K ts w h hn hK hv, fun w h => rTabValid_yes A n c K ts w h hn hK hv⟩
    · have hv' : allV ts = false := by simpa using hv
      exact ⟨0, false, fun w h => mleValid_bad A n c K ts w h hn hK hv', fun w h => rTabValid_bad A n c K ts w h hn hK hv'⟩
  · have h' : ∀ K : Nat, K ≤ 16 → n ≠ 2 ^ K := fun K h1 h2 => hK ⟨K, h1, h2⟩
    exact ⟨0, false, fun w _ => mleValid_no A n c w h', fun w _ => rTabValid_no A n c w h'⟩
set_option maxHeartbeats 8000000 in
set_option maxRecDepth 100000 in
theorem mleMatchesReference_any (A0 : Option Addr) (n0 c0 : Nat) (ts : List (Int × Int)) (B0 : Option Addr) (m0 d0 : Nat) (us : List (Int × Int)) (C0 : Option Addr) (k0 e0 : Nat) (vs : List (Int × Int)) (N0 : Int) (r1 r2 : Int) (i : Int) (w : World) (hT : Sr w A0 n0 c0 ts) (hU : Sr w B0 m0 d0 us) (hV : Sr w C0 k0 e0 vs) (wT : Nums ts) (wU : Nums us) (wV : Nums vs) (hN : 0 ≤ N0 ∧ N0 ≤ 255) (h1 : U64 r1) (h2 : U64 r2) (hi : 0 ≤ i ∧ i ≤ 255) :
    Calls Try.prog 3 #[.agg #[.slice A0 n0 c0, .slice B0 m0 d0, .slice C0 k0 e0, .int .u8 N0], .agg #[.int .u64 r1, .int .u64 r2], .int .u8 i] w fun e w' => e = .returned (.bool true) ∧ Below w.heap.size w w' := by
  have HT := Lib.hid hT
  have HU := Lib.hid hU
  have HV := Lib.hid hV
  have WT := Lib.hid wT
  have WU := Lib.hid wU
  have WV := Lib.hid wV
  clear hT hU hV wT wU wV
  go_enter Try.func3, Try.ntmps3
  go_wp2_with fail
  refine calls_named2 (fun V1 hbV g0 g1 hzV => ?_)
  have hq0 : Box4 V1 (w.heap.size) 24 (.slice A0 n0 c0) (.slice B0 m0 d0) (.slice C0 k0 e0) (.int .u8 N0) := g0
  have hq1 : Two V1 (w.heap.size + 1) 27 (.int .u64 r1) (.int .u64 r2) := g1
  have qT2 := Lib.hid (HT.out.keep hbV)
  clear HT
  have qU2 := Lib.hid (HU.out.keep hbV)
  clear HU
  have qV2 := Lib.hid (HV.out.keep hbV)
  clear HV
  have HB2 := Lib.hid hbV
  have Q3 := Lib.hid hq0
  clear hq0
  have X1_4 := Lib.hid hq1
  clear hq1
  clear hbV hzV g0 g1
  refine (sanity5_any _).mono ?_
  rintro e W5 ⟨rfl, hb⟩
  have qT6 := Lib.hid (qT2.out.keep hb)
  clear qT2
  have qU6 := Lib.hid (qU2.out.keep hb)
  clear qU2
  have qV6 := Lib.hid (qV2.out.keep hb)
  clear qV2
  have Q6 := Lib.hid (Q3.out.keep hb)
  clear Q3
  have X1_6 := Lib.hid (X1_4.out.keep hb)
  clear X1_4
  have HB6 := Lib.hid (below_step HB2.out hb)
  clear HB2
  clear hb
  have q0 := Q6.out.c0
  have q1 := Q6.out.c1
  have q2 := Q6.out.c2
  have q3 := Q6.out.c3
  go_wp2_with fail
  clear q0 q1 q2 q3
  obtain ⟨z, bz, hv1, hv2⟩ := valid_both A0 n0 c0 ts
  have HV1 := Lib.hid hv1
  have HV2 := Lib.hid hv2
  clear hv1 hv2
  refine (HV1.out _ qT6.out).mono ?_
  rintro e W7 ⟨rfl, hb⟩
  have qT8 := Lib.hid (qT6.out.keep hb)
  clear qT6
  have qU8 := Lib.hid (qU6.out.keep hb)
  clear qU6
  have qV8 := Lib.hid (qV6.out.keep hb)
  clear qV6
  have Q8 := Lib.hid (Q6.out.keep hb)
  clear Q6
  have X1_8 := Lib.hid (X1_6.out.keep hb)
  clear X1_6
  have HB8 := Lib.hid (below_step HB6.out hb)
  clear HB6
  clear hb
  have q0 := Q8.out.c0
  have q1 := Q8.out.c1
  have q2 := Q8.out.c2
  have q3 := Q8.out.c3
  go_wp2_with fail
  clear q0 q1 q2 q3
  refine (HV2.out _ qT8.out).mono ?_
  rintro e W9 ⟨rfl, hb⟩
  have qT10 := Lib.hid (qT8.out.keep hb)
  clear qT8
  have qU10 := Lib.hid (qU8.out.keep hb)
  clear qU8
  have qV10 := Lib.hid (qV8.out.keep hb)
  clear qV8
  have Q10 := Lib.hid (Q8.out.keep hb)
  clear Q8
  have X1_10 := Lib.hid (X1_8.out.keep hb)
  clear X1_8
  have HB10 := Lib.hid (below_step HB8.out hb)
  clear HB8
  clear hb
  have q0 := Q10.out.c0
  have q1 := Q10.out.c1
  have q2 := Q10.out.c2
  have q3 := Q10.out.c3
  clear HV1 HV2
  go_upto_region 4 with fail
  go_cut [43] from 30 to 43 (fun c wx => c = .bool false ∧ wx = W9)
  case first =>
    by_cases hn3 : (n0 : Int) ≤ 300
    · have hd : decide ((n0 : Int) ≤ 300) = true := decide_eq_true hn3
      go_wp2_with fail
      go_meet
      case rel => exact ⟨by simp, rfl⟩
    · have hd : decide ((n0 : Int) ≤ 300) = false := decide_eq_false hn3
      go_wp2_with fail
      go_meet
      case rel => exact ⟨rfl, rfl⟩
  case rest =>
    obtain ⟨rfl, rfl⟩ := hcut
    clear q0 q1 q2 q3
    have q0 := Q10.out.c0
    have q1 := Q10.out.c1
    have q2 := Q10.out.c2
    have q3 := Q10.out.c3
    have hwq := HB10.out.size
    go_wp2_with fail
    clear q0 q1 q2 q3
    refine (made_any A0 n0 c0 ts B0 m0 d0 us C0 k0 e0 vs N0 _ qT10.out qU10.out qV10.out WT.out WU.out WV.out hN).mono ?_
    rintro e W11 ⟨K, g, M, c1, xs, A2, c2, ps, A3, c3, ss, rfl, htr, hb⟩
    have qT12 := Lib.hid (qT10.out.keep hb)
    clear qT10
    have qU12 := Lib.hid (qU10.out.keep hb)
    clear qU10
    have qV12 := Lib.hid (qV10.out.keep hb)
    clear qV10
    have Q12 := Lib.hid (Q10.out.keep hb)
    clear Q10
    have X1_12 := Lib.hid (X1_10.out.keep hb)
    clear X1_10
    have HB12 := Lib.hid (below_step HB10.out hb)
    clear HB10
    clear hb
    have R13 := Lib.hid htr
    clear htr
    clear qT12
    clear qU12
    clear qV12
    clear Q12
    have hk6 := R13.out.k6
    have hm64 := R13.out.m64
    have hm0 := R13.out.m0
    have hc1 := R13.out.cap
    have ht1 := R13.out.top
    have hc2 := R13.out.p.cap
    have ht2 := R13.out.p.top
    have hc3 := R13.out.pts.cap
    have ht3 := R13.out.pts.top
    have HPOW := Lib.hid R13.out.pow
    have HLX := Lib.hid R13.out.len
    have HLP := Lib.hid R13.out.p.len
    have HLS := Lib.hid R13.out.pts.len
    have ht0 := R13.out.t
    have t14 := Lib.hid ht0
    clear ht0
    have hp0 := R13.out.p
    have p15 := Lib.hid hp0
    clear hp0
    have hs0 := R13.out.pts
    have s16 := Lib.hid hs0
    clear hs0
    clear R13
    have hMi : (0 : Int) < (M : Int) := by omega
    obtain ⟨a, ha⟩ : ∃ a : Nat, i % (M : Int) = (a : Int) := ⟨(i % (M : Int)).toNat, by have := Int.emod_nonneg i (show (M : Int) ≠ 0 by omega); omega⟩
    have hla : a < M := by have := Int.emod_lt_of_pos i hMi; omega
    have hlai : (a : Int) < (M : Int) := by omega
    have hM0 : ((M : Int) == 0) = false := by rw [beq_eq_false_iff_ne]; omega
    have l0 := Later.cell X1_12.out.c0
    have l1 := Later.cell X1_12.out.c1
    clear l0 l1
    have x0 := X1_12.out.c0
    have x1 := X1_12.out.c1
    have hlx : w.heap.size + 1 < W11.heap.size := X1_12.out.lt
    have hMn : ¬ M = 0 := by omega
    have htm : (IntKind.i64.wrap i).tmod (M : Int) = (a : Int) := by
      rw [show IntKind.i64.wrap i = i from IntWalk.i64_in _ (by omega), Int.tmod_eq_emod_of_nonneg hi.1]
      exact ha
    clear ha
    go_upto_region 7 with fail
    go_cut [15, 16] from 50 to 56 (fun p k wx => ∃ bx, p = .pointer (some ⟨bx, 0, none⟩) ∧ k = .int .i64 (a : Int) ∧ Two wx bx 27 (.int .u64 (vF (toE r1 r2).A)) (.int .u64 (vF (toE r1 r2).B)) ∧ Below W11.heap.size W11 wx)
    case first =>
      refine wp_region_any (by kernel_rfl) ?_
      try (change wpAny _ _ _ _ _ _ _ (World.drew _))
      refine wpAny_take (i := 2) (v := ?v2) rfl (by kernel_rfl) (by kernel_rfl) (by kernel_rfl) (fun _ _ _ h => h) (Or.inl ⟨by rfl, ?hy2⟩) ?r2
      case hy2 => first
        | (intro w; go_simp; done)
        | (intro w; go_simp; with_reducible rfl)
      refine wpAny_take (i := 3) (v := ?v3) rfl (by kernel_rfl) (by kernel_rfl) (by kernel_rfl) (fun _ _ _ h => h) (Or.inl ⟨by rfl, ?hy3⟩) ?r3
      case hy3 => first
        | (intro w; go_simp; done)
        | (intro w; go_simp; with_reducible rfl)
      refine wpAny_take (i := 4) (v := ?v4) rfl (by kernel_rfl) (by kernel_rfl) (by kernel_rfl) (fun _ _ _ h => h) (Or.inl ⟨by rfl, ?hy4⟩) ?r4
      case hy4 => first
        | (intro w; go_simp; done)
        | (intro w; go_simp; with_reducible rfl)
      refine wpAny_take (i := 5) (v := ?v5) rfl (by kernel_rfl) (by kernel_rfl) (by kernel_rfl) (fun _ _ _ h => h) (Or.inl ⟨by rfl, ?hy5⟩) ?r5
      case hy5 => first
        | (intro w; go_simp; done)
        | (intro w; go_simp; with_reducible rfl)
      refine wpAny_take (i := 6) (v := ?v6) rfl (by kernel_rfl) (by kernel_rfl) (by kernel_rfl) (fun _ _ _ h => h) (Or.inl ⟨by rfl, ?hy6⟩) ?r6
      case hy6 => first
        | (intro w; go_simp; done)
        | (intro w; go_simp; with_reducible rfl)
      clear hMn htm
      have hb0 : Below W11.heap.size W11 W11.drew := (Below.refl _ _).drew
      refine wpAny_ready (rs := [0, 7]) (by kernel_rfl) (by simp) ?_
      refine AllReady.cons rfl (fun KK hKK => ?_) (AllReady.cons rfl (fun KK hKK => ?_) AllReady.nil)
      · skip
        go_simp
        refine hKK _ _ ?_
        clear hKK KK
        refine wpAny_ready (rs := [1, 7]) (by kernel_rfl) (by simp) ?_
        refine AllReady.cons rfl (fun KK hKK => ?_) (AllReady.cons rfl (fun KK hKK => ?_) AllReady.nil)
        · skip
          go_simp
          refine (rMade_any r1 r2 _ h1 h2).mono ?_
          rintro e W' ⟨rfl, hb⟩
          refine hKK _ _ ?_
          clear hKK KK
          refine wpAny_ready (rs := [7]) (by kernel_rfl) (by simp) ?_
          refine AllReady.cons rfl (fun KK hKK => ?_) AllReady.nil
          go_simp
          refine hKK _ _ ?_
          clear hKK KK
          have hb1 := below_step hb0 hb
          have tn := Two.new W' 27 (.int .u64 0) (.int .u64 0)
          have hbV := (hb1).alloc (hb1).size (.cells #[.int .u64 0, .int .u64 0] 27)
          have hbd : W11.heap.size ≤ W'.heap.size := (hb1).size
          generalize W'.alloc (.cells #[.int .u64 0, .int .u64 0] 27) = V at tn hbV ⊢
          have z0 := tn.c0
          have z1 := tn.c1
          have f0 := tn.f0
          have f1 := tn.f1
          refine wpAny_ready (rs := [8]) (by kernel_rfl) (by simp) ?_
          refine AllReady.cons rfl (fun KK hKK => ?_) AllReady.nil
          go_simp
          refine hKK _ _ ?_
          clear hKK KK
          refine wpAny_ready (rs := [9]) (by kernel_rfl) (by simp) ?_
          refine AllReady.cons rfl (fun KK hKK => ?_) AllReady.nil
          go_simp
          refine hKK _ _ ?_
          clear hKK KK
          refine wpAny_done (by kernel_rfl) ?_ _
          go_wp2_with fail
          go_meet
          case rel => exact ⟨_, rfl, rfl, (tn.set0 _).set1 _, (hbV.setCell hbd _).setCell hbd _⟩
        · skip
          go_simp
          refine hKK _ _ ?_
          clear hKK KK
          have tn := (Two.new W11 27 (.int .u64 0) (.int .u64 0)).keep (Below.refl _ _).drew
          have hbV := ((Below.refl W11.heap.size W11).alloc (Nat.le_refl _) (.cells #[.int .u64 0, .int .u64 0] 27)).drew
          have hbd : W11.heap.size ≤ W11.heap.size := Nat.le_refl _
          generalize (W11.alloc (.cells #[.int .u64 0, .int .u64 0] 27)).drew = V at tn hbV ⊢
          refine wpAny_ready (rs := [1]) (by kernel_rfl) (by simp) ?_
          refine AllReady.cons rfl (fun KK hKK => ?_) AllReady.nil
          go_simp
          refine (rMade_any r1 r2 _ h1 h2).mono ?_
          rintro e W' ⟨rfl, hb⟩
          refine hKK _ _ ?_
          clear hKK KK
          replace tn := tn.keep hb
          replace hbV := below_step hbV hb
          have z0 := tn.c0
          have z1 := tn.c1
          have f0 := tn.f0
          have f1 := tn.f1
          refine wpAny_ready (rs := [8]) (by kernel_rfl) (by simp) ?_
          refine AllReady.cons rfl (fun KK hKK => ?_) AllReady.nil
          go_simp
          refine hKK _ _ ?_
          clear hKK KK
          refine wpAny_ready (rs := [9]) (by kernel_rfl) (by simp) ?_
          refine AllReady.cons rfl (fun KK hKK => ?_) AllReady.nil
          go_simp
          refine hKK _ _ ?_
          clear hKK KK
          refine wpAny_done (by kernel_rfl) ?_ _
          go_wp2_with fail
          go_meet
          case rel => exact ⟨_, rfl, rfl, (tn.set0 _).set1 _, (hbV.setCell hbd _).setCell hbd _⟩
      · skip
        go_simp
        refine hKK _ _ ?_
        clear hKK KK
        have tn := (Two.new W11 27 (.int .u64 0) (.int .u64 0)).keep (Below.refl _ _).drew
        have hbV := ((Below.refl W11.heap.size W11).alloc (Nat.le_refl _) (.cells #[.int .u64 0, .int .u64 0] 27)).drew
        have hbd : W11.heap.size ≤ W11.heap.size := Nat.le_refl _
        generalize (W11.alloc (.cells #[.int .u64 0, .int .u64 0] 27)).drew = V at tn hbV ⊢
        have xk := X1_12.out.keep hbV
        have y0 := xk.c0
        have y1 := xk.c1
        refine wpAny_ready (rs := [0]) (by kernel_rfl) (by simp) ?_
        refine AllReady.cons rfl (fun KK hKK => ?_) AllReady.nil
        go_simp
        refine hKK _ _ ?_
        clear hKK KK
        refine wpAny_ready (rs := [1]) (by kernel_rfl) (by simp) ?_
        refine AllReady.cons rfl (fun KK hKK => ?_) AllReady.nil
        go_simp
        refine (rMade_any r1 r2 _ h1 h2).mono ?_
        rintro e W' ⟨rfl, hb⟩
        refine hKK _ _ ?_
        clear hKK KK
        replace tn := tn.keep hb
        replace hbV := below_step hbV hb
        have z0 := tn.c0
        have z1 := tn.c1
        have f0 := tn.f0
        have f1 := tn.f1
        refine wpAny_ready (rs := [8]) (by kernel_rfl) (by simp) ?_
        refine AllReady.cons rfl (fun KK hKK => ?_) AllReady.nil
        go_simp
        refine hKK _ _ ?_
        clear hKK KK
        refine wpAny_ready (rs := [9]) (by kernel_rfl) (by simp) ?_
        refine AllReady.cons rfl (fun KK hKK => ?_) AllReady.nil
        go_simp
        refine hKK _ _ ?_
        clear hKK KK
        refine wpAny_done (by kernel_rfl) ?_ _
        go_wp2_with fail
        go_meet
        case rel => exact ⟨_, rfl, rfl, (tn.set0 _).set1 _, (hbV.setCell hbd _).setCell hbd _⟩
    case rest =>
      obtain ⟨bx, rfl, rfl, hx, hbY⟩ := hcut
      clear x0 x1 htm hlx hM0
      generalize toE r1 r2 = x at *
      clear X1_12
      have t17 := Lib.hid (t14.out.keep hbY)
      clear t14
      have p17 := Lib.hid (p15.out.keep hbY)
      clear p15
      have s17 := Lib.hid (s16.out.keep hbY)
      clear s16
      have HB17 := Lib.hid (below_step HB12.out hbY)
      clear HB12
      clear hbY
      have X18 := Lib.hid hx
      clear hx
      obtain ⟨H, hH⟩ : ∃ H, M / 2 = H := ⟨_, rfl⟩
      have HH := Lib.hid hH
      clear hH
      go_upto_region 8 with fail
      go_cut [69] from 57 to 69 (fun c wx => c = .bool false ∧ Below wc.heap.size wc wx)
      case first =>
        have l0 := Later.cell X18.out.c0
        have l1 := Later.cell X18.out.c1
        by_cases hK0 : K = 0
        · have hg : decide ((K : Int) > 0) = false := decide_eq_false (by omega)
          have hg2 : decide ((0 : Int) < (K : Int)) = false := hg
          have hg3 : ¬ 0 < K := by omega
          have hg4 : decide (0 < K) = false := decide_eq_false hg3
          refine wp_later_lex (by kernel_rfl) (lexOK_of (by kernel_rfl) (by kernel_rfl)) ?_
          repeat (go_big_quiet_step (fail))
          first
            | rw [hg4]
            | rw [hg2]
            | rw [hg]
            | skip
          repeat (go_big_quiet_step (fail))
          refine wpQuiet_nil ?_
          intro Z
          go_wp2_with fail
          go_meet
          case rel => exact ⟨rfl, Z.below⟩
        · have hg : decide ((K : Int) > 0) = true := decide_eq_true (by omega)
          have hg2 : decide ((0 : Int) < (K : Int)) = true := hg
          have hgi : (0 : Int) < (K : Int) := by omega
          have hg4 : decide (0 < K) = true := decide_eq_true (by omega)
          have HR := Lib.hid (Below.refl wc.heap.size wc)
          try simp only [List.append_eq, List.cons_append, List.nil_append]
          refine wp_floatN (by kernel_rfl) (lexOK_of (by kernel_rfl) (by kernel_rfl)) (chainOF_of (by kernel_rfl)) (fun V19 hb hS => ?_)
          have t20 := Lib.hid (t17.out.keep hb)
          clear t17
          have p20 := Lib.hid (p17.out.keep hb)
          clear p17
          have s20 := Lib.hid (s17.out.keep hb)
          clear s17
          have X20 := Lib.hid (X18.out.keep hb)
          clear X18
          have HB20 := Lib.hid (below_step HR.out hb)
          clear HR
          clear hb
          have HS19' := Lib.hid hS
          clear hS
          clear s20
          clear X20
          refine wpF_seg 1 (by kernel_rfl) ?_
          simp only [List.take_succ_cons, List.take_zero, List.drop_succ_cons, List.drop_zero]
          repeat (go_big_quiet_step (fail))
          try (first | rw [hg4] | rw [hg2] | rw [hg])
          repeat (go_big_quiet_step (fail))
          refine wpQuiet_nil ?_
          refine wpF_len A2 K c2 rfl rfl (fun W => by go_simp) (by kernel_rfl) HS19'.out (fun V21 hb => ?_)
          have t22 := Lib.hid (t20.out.keep hb)
          clear t20
          have p22 := Lib.hid (p20.out.keep hb)
          clear p20
          have HB22 := Lib.hid (below_step HB20.out hb)
          clear HB20
          have HS22 := Lib.hid (HS19'.out.ext hb)
          clear HS19'
          clear hb
          simp only [Act.put, List.setIfInBounds_toArray, List.set_cons_zero, List.set_cons_succ]
          clear p22
          refine wpF_seg 4 (by kernel_rfl) ?_
          simp only [List.take_succ_cons, List.take_zero, List.drop_succ_cons, List.drop_zero]
          repeat (go_big_quiet_step (fail))
          try (first | rw [hg4] | rw [hg2] | rw [hg])
          repeat (go_big_quiet_step (fail))
          refine wpQuiet_nil ?_
          refine wpF_call 18 Try.func18 (by kernel_rfl) (by kernel_rfl) _ _ #[.slice (some ⟨g, 0, none⟩) M c1, .agg #[.int .u64 (vF (x).A), .int .u64 (vF (x).B)]] rfl (by kernel_rfl) (by kernel_rfl) HS22.out (fun V23 hV => ?_)
          refine (mleBind_sl (some ⟨g, 0, none⟩) M c1 xs x H _ (t22.out.keep hV) (by omega) (by omega) HH.out).mono ?_
          rintro e W23 ⟨A21, c21, rfl, hs, hb⟩
          have hb2 := ext_trans hV hb
          have t24 := Lib.hid (t22.out.keep hb2)
          clear t22
          have HB24 := Lib.hid (below_step HB22.out hb2)
          clear HB22
          have HS24 := Lib.hid (HS22.out.ext hb2)
          clear HS22
          have L21_25 := Lib.hid hs
          clear hs
          refine ⟨_, rfl, hb, ?_⟩
          clear hb hb2 hV
          simp only [Act.put, List.setIfInBounds_toArray, List.set_cons_zero, List.set_cons_succ]
          refine wpF_seg 2 (by kernel_rfl) ?_
          simp only [List.take_succ_cons, List.take_zero, List.drop_succ_cons, List.drop_zero]
          repeat (go_big_quiet_step (fail))
          try (first | rw [hg4] | rw [hg2] | rw [hg])
          repeat (go_big_quiet_step (fail))
          refine wpQuiet_nil ?_
          refine wpF_call 19 Try.func19 (by kernel_rfl) (by kernel_rfl) _ _ #[.slice (some ⟨g, 0, none⟩) M c1, .agg #[.int .u64 (vF (x).A), .int .u64 (vF (x).B)]] rfl (by kernel_rfl) (by kernel_rfl) HS24.out (fun V26 hV => ?_)
          refine (rBind_sl (some ⟨g, 0, none⟩) M c1 xs x H _ (t24.out.keep hV) (by omega) HH.out).mono ?_
          rintro e W26 ⟨A22, c22, rfl, hs, hb⟩
          have hb2 := ext_trans hV hb
          have t27 := Lib.hid (t24.out.keep hb2)
          clear t24
          have L21_27 := Lib.hid (L21_25.out.keep hb2)
          clear L21_25
          have HB27 := Lib.hid (below_step HB24.out hb2)
          clear HB24
          have HS27 := Lib.hid (HS24.out.ext hb2)
          clear HS24
          have L22_28 := Lib.hid hs
          clear hs
          refine ⟨_, rfl, hb, ?_⟩
          clear hb hb2 hV
          simp only [Act.put, List.setIfInBounds_toArray, List.set_cons_zero, List.set_cons_succ]
          clear t27
          refine wpF_call 17 Try.func17 (by kernel_rfl) (by kernel_rfl) _ _ #[.slice A21 H c21, .slice A22 H c22] rfl (by kernel_rfl) (by kernel_rfl) HS27.out (fun V29 hV => ?_)
          refine (same5_yes A21 H c21 A22 H c22 (bndE xs x) _ (L21_27.out.keep hV) (L22_28.out.keep hV)).mono ?_
          rintro e W29 ⟨rfl, hb⟩
          have hb2 := ext_trans hV hb
          have L21_30 := Lib.hid (L21_27.out.keep hb2)
          clear L21_27
          have L22_30 := Lib.hid (L22_28.out.keep hb2)
          clear L22_28
          have HB30 := Lib.hid (below_step HB27.out hb2)
          clear HB27
          have HS30 := Lib.hid (HS27.out.ext hb2)
          clear HS27
          refine ⟨_, rfl, hb, ?_⟩
          clear hb hb2 hV
          simp only [Act.put, List.setIfInBounds_toArray, List.set_cons_zero, List.set_cons_succ]
          clear L21_30
          clear L22_30
          refine wpF_seg 2 (by kernel_rfl) ?_
          simp only [List.take_succ_cons, List.take_zero, List.drop_succ_cons, List.drop_zero]
          repeat (go_big_quiet_step (fail))
          try (first | rw [hg4] | rw [hg2] | rw [hg])
          repeat (go_big_quiet_step (fail))
          refine wpQuiet_nil ?_
          refine wpF_nil (fun V31 hb => ?_)
          have HB32 := Lib.hid (below_step HB30.out hb)
          clear HB30
          clear hb
          go_wp2_with fail
          go_meet
          case rel => exact ⟨rfl, HB32.out⟩
      case rest =>
        obtain ⟨rfl, hbc⟩ := hcut
        have t33 := Lib.hid (t17.out.keep hbc)
        clear t17
        have p33 := Lib.hid (p17.out.keep hbc)
        clear p17
        have s33 := Lib.hid (s17.out.keep hbc)
        clear s17
        have X33 := Lib.hid (X18.out.keep hbc)
        clear X18
        have HB33 := Lib.hid (below_step HB17.out hbc)
        clear HB17
        clear hbc
        obtain ⟨q, hq⟩ := t33.out.get hla
        have HQ := Lib.hid hq
        clear hq
        have hai0 : (0 : Int) ≤ (a : Int) := by omega
        go_wp2_with fail
        obtain ⟨_, hadx, t0, t1⟩ := t33.out.at_ HQ.out
        injection hadx with hadx
        subst hadx
        simp only [add_base] at t0 t1
        have l0 := Later.cell X33.out.c0
        have l1 := Later.cell X33.out.c1
        have l2 := Later.cell t0
        have l3 := Later.cell t1
        clear t0 t1 HQ
        clear X33
        try simp only [List.append_eq, List.cons_append, List.nil_append]
        refine wp_floatN (by kernel_rfl) (lexOK_of (by kernel_rfl) (by kernel_rfl)) (chainOF_of (by kernel_rfl)) (fun V34 hb hS => ?_)
        have t35 := Lib.hid (t33.out.keep hb)
        clear t33
        have p35 := Lib.hid (p33.out.keep hb)
        clear p33
        have s35 := Lib.hid (s33.out.keep hb)
        clear s33
        have HB35 := Lib.hid (below_step HB33.out hb)
        clear HB33
        clear hb
        have HS34' := Lib.hid hS
        clear hS
        refine wpF_seg 2 (by kernel_rfl) ?_
        simp only [List.take_succ_cons, List.take_zero, List.drop_succ_cons, List.drop_zero]
        repeat (go_big_quiet_step (fail))
        refine wpQuiet_nil ?_
        refine wpF_call 20 Try.func20 (by kernel_rfl) (by kernel_rfl) _ _ #[.slice (some ⟨g, 0, none⟩) M c1, .slice A2 K c2] rfl (by kernel_rfl) (by kernel_rfl) HS34'.out (fun V36 hV => ?_)
        refine (mleEval_any (some ⟨g, 0, none⟩) M c1 xs A2 K c2 ps _ (t35.out.keep hV) (p35.out.keep hV) HPOW.out (by omega)).mono ?_
        rintro e W36 ⟨rfl, hb⟩
        have hb2 := ext_trans hV hb
        have t37 := Lib.hid (t35.out.keep hb2)
        clear t35
        have p37 := Lib.hid (p35.out.keep hb2)
        clear p35
        have s37 := Lib.hid (s35.out.keep hb2)
        clear s35
        have HB37 := Lib.hid (below_step HB35.out hb2)
        clear HB35
        have HS37 := Lib.hid (HS34'.out.ext hb2)
        clear HS34'
        refine ⟨_, rfl, hb, ?_⟩
        clear hb hb2 hV
        simp only [Act.put, List.setIfInBounds_toArray, List.set_cons_zero, List.set_cons_succ]
        refine wpF_seg 2 (by kernel_rfl) ?_
        simp only [List.take_succ_cons, List.take_zero, List.drop_succ_cons, List.drop_zero]
        repeat (go_big_quiet_step (fail))
        refine wpQuiet_nil ?_
        refine wpF_call 21 Try.func21 (by kernel_rfl) (by kernel_rfl) _ _ #[.slice (some ⟨g, 0, none⟩) M c1, .slice A2 K c2] rfl (by kernel_rfl) (by kernel_rfl) HS37.out (fun V38 hV => ?_)
        refine (rEval_any (some ⟨g, 0, none⟩) M c1 xs A2 K c2 ps _ (t37.out.keep hV) (p37.out.keep hV) HPOW.out (by omega)).mono ?_
        rintro e W38 ⟨rfl, hb⟩
        have hb2 := ext_trans hV hb
        have t39 := Lib.hid (t37.out.keep hb2)
        clear t37
        have p39 := Lib.hid (p37.out.keep hb2)
        clear p37
        have s39 := Lib.hid (s37.out.keep hb2)
        clear s37
        have HB39 := Lib.hid (below_step HB37.out hb2)
        clear HB37
        have HS39 := Lib.hid (HS37.out.ext hb2)
        clear HS37
        refine ⟨_, rfl, hb, ?_⟩
        clear hb hb2 hV
        simp only [Act.put, List.setIfInBounds_toArray, List.set_cons_zero, List.set_cons_succ]
        have hq76 := run_eqE_same ((mleE xs ps))
        refine wpF_seg 4 (by kernel_rfl) ?_
        simp only [List.take_succ_cons, List.take_zero, List.drop_succ_cons, List.drop_zero]
        repeat (go_big_quiet_step (fail))
        refine wpQuiet_nil ?_
        refine wpF_call 22 Try.func22 (by kernel_rfl) (by kernel_rfl) _ _ #[.slice A2 K c2, .slice A3 K c3] rfl (by kernel_rfl) (by kernel_rfl) HS39.out (fun V40 hV => ?_)
        refine (mleEq_any A2 K c2 ps A3 K c3 ss _ (p39.out.keep hV) (s39.out.keep hV) rfl).mono ?_
        rintro e W40 ⟨rfl, hb⟩
        have hb2 := ext_trans hV hb
        have t41 := Lib.hid (t39.out.keep hb2)
        clear t39
        have p41 := Lib.hid (p39.out.keep hb2)
        clear p39
        have s41 := Lib.hid (s39.out.keep hb2)
        clear s39
        have HB41 := Lib.hid (below_step HB39.out hb2)
        clear HB39
        have HS41 := Lib.hid (HS39.out.ext hb2)
        clear HS39
        refine ⟨_, rfl, hb, ?_⟩
        clear hb hb2 hV
        simp only [Act.put, List.setIfInBounds_toArray, List.set_cons_zero, List.set_cons_succ]
        refine wpF_seg 2 (by kernel_rfl) ?_
        simp only [List.take_succ_cons, List.take_zero, List.drop_succ_cons, List.drop_zero]
        repeat (go_big_quiet_step (fail))
        refine wpQuiet_nil ?_
        refine wpF_call 23 Try.func23 (by kernel_rfl) (by kernel_rfl) _ _ #[.slice A2 K c2, .slice A3 K c3] rfl (by kernel_rfl) (by kernel_rfl) HS41.out (fun V42 hV => ?_)
        refine (rEq_any A2 K c2 ps A3 K c3 ss _ (p41.out.keep hV) (s41.out.keep hV) rfl).mono ?_
        rintro e W42 ⟨rfl, hb⟩
        have hb2 := ext_trans hV hb
        have t43 := Lib.hid (t41.out.keep hb2)
        clear t41
        have p43 := Lib.hid (p41.out.keep hb2)
        clear p41
        have s43 := Lib.hid (s41.out.keep hb2)
        clear s41
        have HB43 := Lib.hid (below_step HB41.out hb2)
        clear HB41
        have HS43 := Lib.hid (HS41.out.ext hb2)
        clear HS41
        refine ⟨_, rfl, hb, ?_⟩
        clear hb hb2 hV
        simp only [Act.put, List.setIfInBounds_toArray, List.set_cons_zero, List.set_cons_succ]
        have hq84 := run_eqE_same ((eqE ps ss))
        refine wpF_seg 5 (by kernel_rfl) ?_
        simp only [List.take_succ_cons, List.take_zero, List.drop_succ_cons, List.drop_zero]
        repeat (go_big_quiet_step (fail))
        refine wpQuiet_nil ?_
        refine wpF_call 24 Try.func24 (by kernel_rfl) (by kernel_rfl) _ _ #[.int .i64 ((a : Int)), .slice A2 K c2] rfl (by kernel_rfl) (by kernel_rfl) HS43.out (fun V44 hV => ?_)
        refine (mleEqIndex_at ((a : Int)) a A2 K c2 ps _ (p43.out.keep hV) rfl (by omega) (by omega)).mono ?_
        rintro e W44 ⟨rfl, hb⟩
        have hb2 := ext_trans hV hb
        have t45 := Lib.hid (t43.out.keep hb2)
        clear t43
        have p45 := Lib.hid (p43.out.keep hb2)
        clear p43
        have s45 := Lib.hid (s43.out.keep hb2)
        clear s43
        have HB45 := Lib.hid (below_step HB43.out hb2)
        clear HB43
        have HS45 := Lib.hid (HS43.out.ext hb2)
        clear HS43
        refine ⟨_, rfl, hb, ?_⟩
        clear hb hb2 hV
        simp only [Act.put, List.setIfInBounds_toArray, List.set_cons_zero, List.set_cons_succ]
        refine wpF_seg 2 (by kernel_rfl) ?_
        simp only [List.take_succ_cons, List.take_zero, List.drop_succ_cons, List.drop_zero]
        repeat (go_big_quiet_step (fail))
        refine wpQuiet_nil ?_
        refine wpF_call 25 Try.func25 (by kernel_rfl) (by kernel_rfl) _ _ #[.int .i64 ((a : Int)), .slice A2 K c2] rfl (by kernel_rfl) (by kernel_rfl) HS45.out (fun V46 hV => ?_)
        refine (rEqIndex_at ((a : Int)) a A2 K c2 ps _ (p45.out.keep hV) rfl (by omega) (by omega)).mono ?_
        rintro e W46 ⟨rfl, hb⟩
        have hb2 := ext_trans hV hb
        have t47 := Lib.hid (t45.out.keep hb2)
        clear t45
        have p47 := Lib.hid (p45.out.keep hb2)
        clear p45
        have s47 := Lib.hid (s45.out.keep hb2)
        clear s45
        have HB47 := Lib.hid (below_step HB45.out hb2)
        clear HB45
        have HS47 := Lib.hid (HS45.out.ext hb2)
        clear HS45
        refine ⟨_, rfl, hb, ?_⟩
        clear hb hb2 hV
        simp only [Act.put, List.setIfInBounds_toArray, List.set_cons_zero, List.set_cons_succ]
        have hq93 := run_eqE_same ((eqW a ps))
        refine wpF_seg 4 (by kernel_rfl) ?_
        simp only [List.take_succ_cons, List.take_zero, List.drop_succ_cons, List.drop_zero]
        repeat (go_big_quiet_step (fail))
        refine wpQuiet_nil ?_
        refine wpF_call 26 Try.func26 (by kernel_rfl) (by kernel_rfl) _ _ #[.slice A2 K c2] rfl (by kernel_rfl) (by kernel_rfl) HS47.out (fun V48 hV => ?_)
        refine (mleEqTable_sl A2 K c2 ps M _ (p47.out.keep hV) (by omega) HPOW.out.symm).mono ?_
        rintro e W48 ⟨A30, c30, rfl, hs, hb⟩
        have hb2 := ext_trans hV hb
        have t49 := Lib.hid (t47.out.keep hb2)
        clear t47
        have p49 := Lib.hid (p47.out.keep hb2)
        clear p47
        have s49 := Lib.hid (s47.out.keep hb2)
        clear s47
        have HB49 := Lib.hid (below_step HB47.out hb2)
        clear HB47
        have HS49 := Lib.hid (HS47.out.ext hb2)
        clear HS47
        have L30_50 := Lib.hid hs
        clear hs
        refine ⟨_, rfl, hb, ?_⟩
        clear hb hb2 hV
        simp only [Act.put, List.setIfInBounds_toArray, List.set_cons_zero, List.set_cons_succ]
        refine wpF_seg 1 (by kernel_rfl) ?_
        simp only [List.take_succ_cons, List.take_zero, List.drop_succ_cons, List.drop_zero]
        repeat (go_big_quiet_step (fail))
        refine wpQuiet_nil ?_
        refine wpF_call 27 Try.func27 (by kernel_rfl) (by kernel_rfl) _ _ #[.slice A2 K c2] rfl (by kernel_rfl) (by kernel_rfl) HS49.out (fun V51 hV => ?_)
        refine (rEqTable_sl A2 K c2 ps M _ (p49.out.keep hV) (by omega) HPOW.out.symm).mono ?_
        rintro e W51 ⟨A31, c31, rfl, hs, hb⟩
        have hb2 := ext_trans hV hb
        have t52 := Lib.hid (t49.out.keep hb2)
        clear t49
        have p52 := Lib.hid (p49.out.keep hb2)
        clear p49
        have s52 := Lib.hid (s49.out.keep hb2)
        clear s49
        have L30_52 := Lib.hid (L30_50.out.keep hb2)
        clear L30_50
        have HB52 := Lib.hid (below_step HB49.out hb2)
        clear HB49
        have HS52 := Lib.hid (HS49.out.ext hb2)
        clear HS49
        have L31_53 := Lib.hid hs
        clear hs
        refine ⟨_, rfl, hb, ?_⟩
        clear hb hb2 hV
        simp only [Act.put, List.setIfInBounds_toArray, List.set_cons_zero, List.set_cons_succ]
        refine wpF_call 17 Try.func17 (by kernel_rfl) (by kernel_rfl) _ _ #[.slice A30 M c30, .slice A31 M c31] rfl (by kernel_rfl) (by kernel_rfl) HS52.out (fun V54 hV => ?_)
        refine (same5_yes A30 M c30 A31 M c31 (eqT ps) _ (L30_52.out.keep hV) (L31_53.out.keep hV)).mono ?_
        rintro e W54 ⟨rfl, hb⟩
        have hb2 := ext_trans hV hb
        have t55 := Lib.hid (t52.out.keep hb2)
        clear t52
        have p55 := Lib.hid (p52.out.keep hb2)
        clear p52
        have s55 := Lib.hid (s52.out.keep hb2)
        clear s52
        have L30_55 := Lib.hid (L30_52.out.keep hb2)
        clear L30_52
        have L31_55 := Lib.hid (L31_53.out.keep hb2)
        clear L31_53
        have HB55 := Lib.hid (below_step HB52.out hb2)
        clear HB52
        have HS55 := Lib.hid (HS52.out.ext hb2)
        clear HS52
        refine ⟨_, rfl, hb, ?_⟩
        clear hb hb2 hV
        simp only [Act.put, List.setIfInBounds_toArray, List.set_cons_zero, List.set_cons_succ]
        clear L30_55
        clear L31_55
        refine wpF_seg 9 (by kernel_rfl) ?_
        simp only [List.take_succ_cons, List.take_zero, List.drop_succ_cons, List.drop_zero]
        repeat (go_big_quiet_step (fail))
        refine wpQuiet_nil ?_
        refine wpF_call 28 Try.func28 (by kernel_rfl) (by kernel_rfl) _ _ #[.agg #[.int .u64 (vF (x).A), .int .u64 (vF (x).B)], .int .i64 ((a : Int)), .agg #[.int .u64 (vF (q).A), .int .u64 (vF (q).B)], .slice A2 K c2] rfl (by kernel_rfl) (by kernel_rfl) HS55.out (fun V56 hV => ?_)
        refine (mleAccumulate_at x ((a : Int)) a q A2 K c2 ps _ (p55.out.keep hV) rfl (by omega) (by omega)).mono ?_
        rintro e W56 ⟨rfl, hb⟩
        have hb2 := ext_trans hV hb
        have t57 := Lib.hid (t55.out.keep hb2)
        clear t55
        have p57 := Lib.hid (p55.out.keep hb2)
        clear p55
        have s57 := Lib.hid (s55.out.keep hb2)
        clear s55
        have HB57 := Lib.hid (below_step HB55.out hb2)
        clear HB55
        have HS57 := Lib.hid (HS55.out.ext hb2)
        clear HS55
        refine ⟨_, rfl, hb, ?_⟩
        clear hb hb2 hV
        simp only [Act.put, List.setIfInBounds_toArray, List.set_cons_zero, List.set_cons_succ]
        refine wpF_seg 7 (by kernel_rfl) ?_
        simp only [List.take_succ_cons, List.take_zero, List.drop_succ_cons, List.drop_zero]
        repeat (go_big_quiet_step (fail))
        refine wpQuiet_nil ?_
        refine wpF_call 29 Try.func29 (by kernel_rfl) (by kernel_rfl) _ _ #[.agg #[.int .u64 (vF (x).A), .int .u64 (vF (x).B)], .int .i64 ((a : Int)), .agg #[.int .u64 (vF (q).A), .int .u64 (vF (q).B)], .slice A2 K c2] rfl (by kernel_rfl) (by kernel_rfl) HS57.out (fun V58 hV => ?_)
        refine (rAccumulate_at x ((a : Int)) a q A2 K c2 ps _ (p57.out.keep hV) rfl (by omega) (by omega)).mono ?_
        rintro e W58 ⟨rfl, hb⟩
        have hb2 := ext_trans hV hb
        have t59 := Lib.hid (t57.out.keep hb2)
        clear t57
        have p59 := Lib.hid (p57.out.keep hb2)
        clear p57
        have s59 := Lib.hid (s57.out.keep hb2)
        clear s57
        have HB59 := Lib.hid (below_step HB57.out hb2)
        clear HB57
        have HS59 := Lib.hid (HS57.out.ext hb2)
        clear HS57
        refine ⟨_, rfl, hb, ?_⟩
        clear hb hb2 hV
        simp only [Act.put, List.setIfInBounds_toArray, List.set_cons_zero, List.set_cons_succ]
        clear t59
        have hq119 := run_eqE_same ((x + q * eqW a ps))
        refine wpF_seg 6 (by kernel_rfl) ?_
        simp only [List.take_succ_cons, List.take_zero, List.drop_succ_cons, List.drop_zero]
        repeat (go_big_quiet_step (fail))
        refine wpQuiet_nil ?_
        refine wpF_call 30 Try.func30 (by kernel_rfl) (by kernel_rfl) _ _ #[.slice A2 K c2, .slice A3 K c3, .agg #[.int .u64 (vF (x).A), .int .u64 (vF (x).B)]] rfl (by kernel_rfl) (by kernel_rfl) HS59.out (fun V60 hV => ?_)
        refine (mleLine_any A2 K c2 ps A3 K c3 ss x _ (p59.out.keep hV) (s59.out.keep hV) rfl (by omega)).mono ?_
        rintro e W60 ⟨A35, c35, rfl, hs, hb⟩
        have hb2 := ext_trans hV hb
        have p61 := Lib.hid (p59.out.keep hb2)
        clear p59
        have s61 := Lib.hid (s59.out.keep hb2)
        clear s59
        have HB61 := Lib.hid (below_step HB59.out hb2)
        clear HB59
        have HS61 := Lib.hid (HS59.out.ext hb2)
        clear HS59
        have L35_62 := Lib.hid hs
        clear hs
        refine ⟨_, rfl, hb, ?_⟩
        clear hb hb2 hV
        simp only [Act.put, List.setIfInBounds_toArray, List.set_cons_zero, List.set_cons_succ]
        refine wpF_seg 3 (by kernel_rfl) ?_
        simp only [List.take_succ_cons, List.take_zero, List.drop_succ_cons, List.drop_zero]
        repeat (go_big_quiet_step (fail))
        refine wpQuiet_nil ?_
        refine wpF_call 31 Try.func31 (by kernel_rfl) (by kernel_rfl) _ _ #[.slice A2 K c2, .slice A3 K c3, .agg #[.int .u64 (vF (x).A), .int .u64 (vF (x).B)]] rfl (by kernel_rfl) (by kernel_rfl) HS61.out (fun V63 hV => ?_)
        refine (rLine_any A2 K c2 ps A3 K c3 ss x _ (p61.out.keep hV) (s61.out.keep hV) rfl (by omega)).mono ?_
        rintro e W63 ⟨A36, c36, rfl, hs, hb⟩
        have hb2 := ext_trans hV hb
        have p64 := Lib.hid (p61.out.keep hb2)
        clear p61
        have s64 := Lib.hid (s61.out.keep hb2)
        clear s61
        have L35_64 := Lib.hid (L35_62.out.keep hb2)
        clear L35_62
        have HB64 := Lib.hid (below_step HB61.out hb2)
        clear HB61
        have HS64 := Lib.hid (HS61.out.ext hb2)
        clear HS61
        have L36_65 := Lib.hid hs
        clear hs
        refine ⟨_, rfl, hb, ?_⟩
        clear hb hb2 hV
        simp only [Act.put, List.setIfInBounds_toArray, List.set_cons_zero, List.set_cons_succ]
        clear p64
        clear s64
        refine wpF_call 17 Try.func17 (by kernel_rfl) (by kernel_rfl) _ _ #[.slice A35 K c35, .slice A36 K c36] rfl (by kernel_rfl) (by kernel_rfl) HS64.out (fun V66 hV => ?_)
        refine (same5_yes A35 K c35 A36 K c36 (lineE ps ss x) _ (L35_64.out.keep hV) (L36_65.out.keep hV)).mono ?_
        rintro e W66 ⟨rfl, hb⟩
        have hb2 := ext_trans hV hb
        have L35_67 := Lib.hid (L35_64.out.keep hb2)
        clear L35_64
        have L36_67 := Lib.hid (L36_65.out.keep hb2)
        clear L36_65
        have HB67 := Lib.hid (below_step HB64.out hb2)
        clear HB64
        have HS67 := Lib.hid (HS64.out.ext hb2)
        clear HS64
        refine ⟨_, rfl, hb, ?_⟩
        clear hb hb2 hV
        simp only [Act.put, List.setIfInBounds_toArray, List.set_cons_zero, List.set_cons_succ]
        clear L35_67
        clear L36_67
        refine wpF_seg 6 (by kernel_rfl) ?_
        simp only [List.take_succ_cons, List.take_zero, List.drop_succ_cons, List.drop_zero]
        repeat (go_big_quiet_step (fail))
        refine wpQuiet_nil ?_
        refine wpF_words2 (x.A) (x.B) (vF x.A) (vF x.B) rfl rfl rfl rfl rfl (by kernel_rfl) (fun b68 V68 hb hg => ?_)
        have HB69 := Lib.hid (below_step HB67.out hb)
        clear HB67
        have HS69 := Lib.hid (HS67.out.ext hb)
        clear HS67
        clear hb
        have W38_70 := Lib.hid hg
        clear hg
        simp only [Act.put, List.setIfInBounds_toArray, List.set_cons_zero, List.set_cons_succ]
        refine wpF_call 32 Try.func32 (by kernel_rfl) (by kernel_rfl) _ _ #[.slice (some ⟨b68, 0, none⟩) 2 2] rfl (by kernel_rfl) (by kernel_rfl) HS69.out (fun V71 hV => ?_)
        refine (mleLift_sl (some ⟨b68, 0, none⟩) 2 2 [x.A, x.B] _ (W38_70.out.keep hV) (by omega)).mono ?_
        rintro e W71 ⟨A39, c39, rfl, hs, hb⟩
        have hb2 := ext_trans hV hb
        have W38_72 := Lib.hid (W38_70.out.keep hb2)
        clear W38_70
        have HB72 := Lib.hid (below_step HB69.out hb2)
        clear HB69
        have HS72 := Lib.hid (HS69.out.ext hb2)
        clear HS69
        have L39_73 := Lib.hid hs
        clear hs
        refine ⟨_, rfl, hb, ?_⟩
        clear hb hb2 hV
        simp only [Act.put, List.setIfInBounds_toArray, List.set_cons_zero, List.set_cons_succ]
        clear W38_72
        refine wpF_seg 4 (by kernel_rfl) ?_
        simp only [List.take_succ_cons, List.take_zero, List.drop_succ_cons, List.drop_zero]
        repeat (go_big_quiet_step (fail))
        refine wpQuiet_nil ?_
        refine wpF_words2 (x.A) (x.B) (vF x.A) (vF x.B) rfl rfl rfl rfl rfl (by kernel_rfl) (fun b74 V74 hb hg => ?_)
        have L39_75 := Lib.hid (L39_73.out.keep hb)
        clear L39_73
        have HB75 := Lib.hid (below_step HB72.out hb)
        clear HB72
        have HS75 := Lib.hid (HS72.out.ext hb)
        clear HS72
        clear hb
        have W40_76 := Lib.hid hg
        clear hg
        simp only [Act.put, List.setIfInBounds_toArray, List.set_cons_zero, List.set_cons_succ]
        refine wpF_call 33 Try.func33 (by kernel_rfl) (by kernel_rfl) _ _ #[.slice (some ⟨b74, 0, none⟩) 2 2] rfl (by kernel_rfl) (by kernel_rfl) HS75.out (fun V77 hV => ?_)
        refine (rLift_any (some ⟨b74, 0, none⟩) 2 2 [x.A, x.B] _ (W40_76.out.keep hV) (by omega)).mono ?_
        rintro e W77 ⟨A41, c41, rfl, hs, hb⟩
        have hb2 := ext_trans hV hb
        have L39_78 := Lib.hid (L39_75.out.keep hb2)
        clear L39_75
        have W40_78 := Lib.hid (W40_76.out.keep hb2)
        clear W40_76
        have HB78 := Lib.hid (below_step HB75.out hb2)
        clear HB75
        have HS78 := Lib.hid (HS75.out.ext hb2)
        clear HS75
        have L41_79 := Lib.hid hs
        clear hs
        refine ⟨_, rfl, hb, ?_⟩
        clear hb hb2 hV
        simp only [Act.put, List.setIfInBounds_toArray, List.set_cons_zero, List.set_cons_succ]
        clear W40_78
        refine wpF_call 17 Try.func17 (by kernel_rfl) (by kernel_rfl) _ _ #[.slice A39 2 c39, .slice A41 2 c41] rfl (by kernel_rfl) (by kernel_rfl) HS78.out (fun V80 hV => ?_)
        refine (same5_yes A39 2 c39 A41 2 c41 (List.map E2.ofF [x.A, x.B]) _ (L39_78.out.keep hV) (L41_79.out.keep hV)).mono ?_
        rintro e W80 ⟨rfl, hb⟩
        have hb2 := ext_trans hV hb
        have L39_81 := Lib.hid (L39_78.out.keep hb2)
        clear L39_78
        have L41_81 := Lib.hid (L41_79.out.keep hb2)
        clear L41_79
        have HB81 := Lib.hid (below_step HB78.out hb2)
        clear HB78
        have HS81 := Lib.hid (HS78.out.ext hb2)
        clear HS78
        refine ⟨_, rfl, hb, ?_⟩
        clear hb hb2 hV
        simp only [Act.put, List.setIfInBounds_toArray, List.set_cons_zero, List.set_cons_succ]
        clear L39_81
        clear L41_81
        refine wpF_seg 5 (by kernel_rfl) ?_
        simp only [List.take_succ_cons, List.take_zero, List.drop_succ_cons, List.drop_zero]
        repeat (go_big_quiet_step (fail))
        refine wpQuiet_nil ?_
        refine wpF_nil (fun V82 hb => ?_)
        have HB83 := Lib.hid (below_step HB81.out hb)
        clear HB81
        clear hb
        go_wp2_with fail
        go_ret
        exact ⟨rfl, HB83.out⟩

end Go.Proofs.Ytompkhgnbbadaaa
