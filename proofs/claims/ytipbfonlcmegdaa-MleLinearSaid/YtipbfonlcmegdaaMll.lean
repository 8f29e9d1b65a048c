/- The walk of the law MleLinear of package mle: the value is linear in the table; no conditions. -/
import Derived.Test.YtipbfonlcmegdaaMsn
import Derived.Deep.Cut
import Derived.Deep.CutRange
import Derived.Deep.RegionWith
namespace Go.Proofs.Ytipbfonlcmegdaa
set_option maxRecDepth 8000
open Go.RowKit Gold

theorem Sl.far6 {w : World} {A : Option Addr} {n c : Nat} {xs : List E2} (h : Sl w A n c xs) {a : Addr} (x : Value) (e : ∀ ad, A = some ad → ad.block ≠ a.block) : Sl (w.setCell a x) A n c xs := by
  refine (⟨SlR.len h, SlR.cap h, SlR.top h, SlR.nil h, fun i p hp => ?_⟩ : SlR _ A n c (xs.map valE))
  obtain ⟨ad, ha, h0, h1⟩ := SlR.cells h i p hp
  have hne : a.block ≠ (ad.add (i * 2)).block := by
    have := e ad ha
    unfold Addr.add
    split <;> exact fun k => this k.symm
  exact ⟨ad, ha, cell_far h0 hne x, cell_far h1 hne x⟩
/-- a slice of the call's own, or one without room -/
def OwG (w : World) (base : Nat) (v : Value) (n : Nat) (xs : List E2) : Prop := OwE w base v n xs ∨ ∃ g, v = .slice (some ⟨g, 0, none⟩) 0 0 ∧ n = 0 ∧ xs = []
theorem OwG.keep {w w' : World} {base : Nat} {v : Value} {n : Nat} {xs : List E2} (h : OwG w base v n xs) (hb : Below w.heap.size w w') : OwG w' base v n xs := h.imp (fun k => k.keep hb) id
theorem OwG.sl {w : World} {base : Nat} {v : Value} {n : Nat} {xs : List E2} (h : OwG w base v n xs) : ∃ A c, v = .slice A n c ∧ Sl w A n c xs := by
  rcases h with h | ⟨g, rfl, rfl, rfl⟩
  · exact h.sl
  · exact ⟨_, 0, rfl, Sl.empty w _ 0 (by omega)⟩
theorem hOp_appendG {o : Oper} {a : Act} {w : World} {K : Value → World → Prop} (s x : Operand)
    (ho : o.op = .call { callee := .builtin .append, args := #[s, x], argTypes := #[22, 22] }) (base : Nat) (v : Value) (n : Nat) (xs : List E2) (hs : a.eval s = v) (hown : OwG w base v n xs)
    (g c : Nat) (y : E2) (hx : a.eval x = .slice (some ⟨g, 0, none⟩) 1 c) (hy : Two w g 27 (.int .u64 (vF y.A)) (.int .u64 (vF y.B))) (hn : n ≤ 65536) (hbase : base ≤ w.heap.size)
    (h : ∀ v' w', OwG w' base v' (n + 1) (xs ++ [y]) → Below base w w' → K v' w') : hOp Try.prog o K a w := by
  rcases hown with hown | ⟨gv, rfl, rfl, rfl⟩
  · exact hOp_appendE s x ho base v n xs hs hown g c y hx hy hn hbase (fun v' w' h1 h2 => h v' w' (.inl h1) (Below.grown (Below.refl base _) h2 hbase (fun q hq => (hown.lt q hq).1)))
  · obtain ⟨i, hi, hz, hs2, hb⟩ := info_parts ext_info
    have hnews : ∀ j u, [Value.int .u64 (vF y.A), Value.int .u64 (vF y.B)][j]? = some u → w.cell? ((⟨g, 0, none⟩ : Addr).add j) = some u := by
      intro j u hj
      rw [add_base]
      match j, hj with
      | 0, hj => injection hj with hj; subst hj; exact hy.c0
      | 1, hj => injection hj with hj; subst hj; exact hy.c1
      | j + 2, hj => simp at hj
    have hr := run_append_grow (P := Try.prog) w 22 o.type 27 i (.agg #[.int .u64 0, .int .u64 0]) Try.underlying22 hi hz ⟨gv, 0, none⟩ 0 0 [] (by simp) (fun j v hj => by simp at hj) ⟨g, 0, none⟩ 1 c [.int .u64 (vF y.A), .int .u64 (vF y.B)] (by rw [hs2]; rfl) hnews (by omega) (by omega) (growslice_fits (by omega) (by rw [hb]; omega))
    have hge := grownCap_ge w (0 + 1) 0 27
    have hcm := grownCap_le_maxLen w (0 + 1) 0 27 (by unfold maxLen; omega)
    unfold hOp execOp
    simp only [ho, resolve, invoke, builtin, Sem.run_bind, Sem.run_pure, Result.andThen_ok, List.map_toArray, List.map_cons, List.map_nil, hs, hx, hr]
    refine h _ _ (.inl ⟨rfl, .inr ⟨w.heap.size, _, _, rfl, hbase, heap_alloc_new w.drew _, hge, hcm, ?_, ?_⟩⟩) ((Below.refl base w).drew.alloc hbase _)
    · simp only [Array.size_append, List.size_toArray, size_zeroCells, List.length_nil, List.length_cons]
      simp only [Value.cells, List.size_toArray, List.length_cons, List.length_nil]
      omega
    · simp only [Array.toList_append]
      rfl
set_option maxHeartbeats 8000000 in
set_option maxRecDepth 100000 in
theorem mleLinear_any (A0 : Option Addr) (n0 c0 : Nat) (ts : List (Int × Int)) (B0 : Option Addr) (m0 d0 : Nat) (us : List (Int × Int)) (C0 : Option Addr) (k0 e0 : Nat) (vs : List (Int × Int)) (N0 : Int) (L0 : Option Addr) (nL cL : Nat) (os : List (Int × Int)) (r1 r2 : Int) (w : World) (hT : Sr w A0 n0 c0 ts) (hU : Sr w B0 m0 d0 us) (hV : Sr w C0 k0 e0 vs) (wT : Nums ts) (wU : Nums us) (wV : Nums vs) (hN : 0 ≤ N0 ∧ N0 ≤ 255) (hL : Sr w L0 nL cL os) (wL0 : Nums os) (h1 : U64 r1) (h2 : U64 r2) :
    Calls Try.prog 3 #[.agg #[.slice A0 n0 c0, .slice B0 m0 d0, .slice C0 k0 e0, .int .u8 N0], .slice L0 nL cL, .agg #[.int .u64 r1, .int .u64 r2]] w fun e w' => e = .returned (.bool true) ∧ Below w.heap.size w w' := by
  have HT := Lib.hid hT
  have HU := Lib.hid hU
  have HV := Lib.hid hV
  have WT := Lib.hid wT
  have WU := Lib.hid wU
  have WV := Lib.hid wV
  clear hT hU hV wT wU wV
  have HL0 := Lib.hid hL
  have wL := Lib.hid wL0
  clear hL wL0
  go_enter Try.func3, Try.ntmps3
  go_wp2_with fail
  refine calls_named2 (fun V1 hbV g0 g1 hzV => ?_)
  have hq0 : Box4 V1 (w.heap.size) 24 (.slice A0 n0 c0) (.slice B0 m0 d0) (.slice C0 k0 e0) (.int .u8 N0) := g0
  have hq1 : Two V1 (w.heap.size + 1) 27 (.int .u64 r1) (.int .u64 r2) := g1
  have qT2 := Lib.hid (HT.out.keep hbV)
  clear HT
  have qU2 := Lib.hid (HU.out.keep hbV)
  clear HU
  have qV2 := Lib.hid (HV.out.keep hbV)
  clear HV
  have L2 := Lib.hid (HL0.out.keep hbV)
  clear HL0
  have HB2 := Lib.hid hbV
  have Q3 := Lib.hid hq0
  clear hq0
  have X1_4 := Lib.hid hq1
  clear hq1
  clear hbV hzV g0 g1
  refine (sanity5_any _).mono ?_
  rintro e W5 ⟨rfl, hb⟩
  have qT6 := Lib.hid (qT2.out.keep hb)
  clear qT2
  have qU6 := Lib.hid (qU2.out.keep hb)
  clear qU2
  have qV6 := Lib.hid (qV2.out.keep hb)
  clear qV2
  have L6 := Lib.hid (L2.out.keep hb)
  clear L2
  have Q6 := Lib.hid (Q3.out.keep hb)
  clear Q3
  have X1_6 := Lib.hid (X1_4.out.keep hb)
  clear X1_4
  have HB6 := Lib.hid (below_step HB2.out hb)
  clear HB2
  clear hb
  have q0 := Q6.out.c0
  have q1 := Q6.out.c1
  have q2 := Q6.out.c2
  have q3 := Q6.out.c3
  have hwq := HB6.out.size
  go_wp2_with fail
  clear q0 q1 q2 q3
  refine (made_any A0 n0 c0 ts B0 m0 d0 us C0 k0 e0 vs N0 _ qT6.out qU6.out qV6.out WT.out WU.out WV.out hN).mono ?_
  rintro e W7 ⟨K, g, M, c1, xs, A2, c2, ps, A3, c3, ss, rfl, htr, hb⟩
  have qT8 := Lib.hid (qT6.out.keep hb)
  clear qT6
  have qU8 := Lib.hid (qU6.out.keep hb)
  clear qU6
  have qV8 := Lib.hid (qV6.out.keep hb)
  clear qV6
  have L8 := Lib.hid (L6.out.keep hb)
  clear L6
  have Q8 := Lib.hid (Q6.out.keep hb)
  clear Q6
  have X1_8 := Lib.hid (X1_6.out.keep hb)
  clear X1_6
  have HB8 := Lib.hid (below_step HB6.out hb)
  clear HB6
  clear hb
  have R9 := Lib.hid htr
  clear htr
  clear qT8
  clear qU8
  clear qV8
  clear Q8
  have hk6 := R9.out.k6
  have hm64 := R9.out.m64
  have hm0 := R9.out.m0
  have hc1 := R9.out.cap
  have ht1 := R9.out.top
  have hc2 := R9.out.p.cap
  have ht2 := R9.out.p.top
  have hc3 := R9.out.pts.cap
  have ht3 := R9.out.pts.top
  have HPOW := Lib.hid R9.out.pow
  have HLX := Lib.hid R9.out.len
  have HLP := Lib.hid R9.out.p.len
  have HLS := Lib.hid R9.out.pts.len
  have ht0 := R9.out.t
  have t10 := Lib.hid ht0
  clear ht0
  have hp0 := R9.out.p
  have p11 := Lib.hid hp0
  clear hp0
  have hs0 := R9.out.pts
  have s12 := Lib.hid hs0
  clear hs0
  clear R9
  clear s12
  clear HLS hc3 ht3
  go_upto_region 3 with fail
  go_cut [11, 12, 13] from 22 to 29 (fun s p v wx => ∃ A4 c4 bx gv ys, s = .slice A4 M c4 ∧ p = .pointer (some ⟨bx, 0, none⟩) ∧ v = .slice (some ⟨gv, 0, none⟩) 0 0 ∧ Sl wx A4 M c4 ys ∧ Two wx bx 27 (.int .u64 (vF (toE r1 r2).A)) (.int .u64 (vF (toE r1 r2).B)) ∧ Below W7.heap.size W7 wx)
  case first =>
    refine wp_region_any (by kernel_rfl) ?_
    try (change wpAny _ _ _ _ _ _ _ (World.drew _))
    refine wpAny_take (i := 0) (v := ?v0) rfl (by kernel_rfl) (by kernel_rfl) (by kernel_rfl) (fun _ _ _ h => h) (Or.inl ⟨by rfl, ?hy0⟩) ?r0
    case hy0 => first
      | (intro w; go_simp; done)
      | (intro w; go_simp; with_reducible rfl)
    refine wpAny_take (i := 1) (v := ?v1) rfl (by kernel_rfl) (by kernel_rfl) (by kernel_rfl) (fun _ _ _ h => h) (Or.inl ⟨by rfl, ?hy1⟩) ?r1
    case hy1 => first
      | (intro w; go_simp; done)
      | (intro w; go_simp; with_reducible rfl)
    refine wpAny_take (i := 2) (v := ?v2) rfl (by kernel_rfl) (by kernel_rfl) (by kernel_rfl) (fun _ _ _ h => h) (Or.inl ⟨by rfl, ?hy2⟩) ?r2
    case hy2 => first
      | (intro w; go_simp; done)
      | (intro w; go_simp; with_reducible rfl)
    have hb0 : Below W7.heap.size W7 W7.drew := (Below.refl _ _).drew
    have O0 := Lib.hid (L8.out.keep hb0)
    have X0 := Lib.hid (X1_8.out.keep hb0)
    have hs0 : W7.heap.size ≤ W7.drew.heap.size := Nat.le_refl _
    generalize W7.drew = V0 at hb0 O0 X0 hs0 ⊢
    refine wpAny_ready (rs := [3, 4, 6, 7]) (by kernel_rfl) (by simp) ?_
    refine AllReady.cons rfl (fun KK hKK => ?_) (AllReady.cons rfl (fun KK hKK => ?_) (AllReady.cons rfl (fun KK hKK => ?_) (AllReady.cons rfl (fun KK hKK => ?_) AllReady.nil)))
    · skip
      go_simp
      refine (rTabMade_any L0 nL cL os K V0 O0.out wL.out (by omega)).mono ?_
      rintro e V1 ⟨A4, N4, c4, ys, rfl, hN4, hO4, hb⟩
      obtain rfl : N4 = M := hN4.trans HPOW.out.symm
      clear hN4
      have Ok1 := Lib.hid (O0.out.keep hb)
      clear O0
      have Xk1 := Lib.hid (X0.out.keep hb)
      clear X0
      have hbk1 := below_step hb0 hb
      have hsk1 := hb.size
      have hA1 : ∀ ad, A4 = some ad → V0.heap.size ≤ ad.block ∧ ad.block < V1.heap.size := fun ad ea => World.ownsRow.lt hO4 ad.block (by rw [ea]; rfl)
      have S1 := Lib.hid hO4.sl'
      clear hO4 hb
      refine hKK _ _ ?_
      clear hKK KK
      refine wpAny_ready (rs := [4, 6, 7]) (by kernel_rfl) (by simp) ?_
      refine AllReady.cons rfl (fun KK hKK => ?_) (AllReady.cons rfl (fun KK hKK => ?_) (AllReady.cons rfl (fun KK hKK => ?_) AllReady.nil))
      · skip
        have x0 := Xk1.out.c0
        have x1 := Xk1.out.c1
        go_simp
        clear x0 x1
        refine hKK _ _ ?_
        clear hKK KK
        refine wpAny_ready (rs := [5, 6, 7]) (by kernel_rfl) (by simp) ?_
        refine AllReady.cons rfl (fun KK hKK => ?_) (AllReady.cons rfl (fun KK hKK => ?_) (AllReady.cons rfl (fun KK hKK => ?_) AllReady.nil))
        · skip
          go_simp
          refine (rMade_any r1 r2 V1 h1 h2).mono ?_
          rintro e V3 ⟨rfl, hb⟩
          have Ok3 := Lib.hid (Ok1.out.keep hb)
          clear Ok1
          have Xk3 := Lib.hid (Xk1.out.keep hb)
          clear Xk1
          have Sk3 := Lib.hid (S1.out.keep hb)
          clear S1
          have hbk3 := below_step hbk1 hb
          have hsk3 := hb.size
          clear hb
          refine hKK _ _ ?_
          clear hKK KK
          refine wpAny_ready (rs := [6, 7]) (by kernel_rfl) (by simp) ?_
          refine AllReady.cons rfl (fun KK hKK => ?_) (AllReady.cons rfl (fun KK hKK => ?_) AllReady.nil)
          · skip
            go_simp
            refine hKK _ _ ?_
            clear hKK KK
            have hb := (Below.refl V3.heap.size V3).alloc (Nat.le_refl _) (.cells #[] 27)
            have hz4 : V3.heap.size < (V3.alloc (.cells #[] 27)).heap.size := by rw [World.size_alloc]; omega
            generalize V3.alloc (.cells #[] 27) = V4 at hb hz4 ⊢
            have Ok4 := Lib.hid (Ok3.out.keep hb)
            clear Ok3
            have Xk4 := Lib.hid (Xk3.out.keep hb)
            clear Xk3
            have Sk4 := Lib.hid (Sk3.out.keep hb)
            clear Sk3
            have hbk4 := below_step hbk3 hb
            have hsk4 := hb.size
            clear hb
            refine wpAny_ready (rs := [7]) (by kernel_rfl) (by simp) ?_
            refine AllReady.cons rfl (fun KK hKK => ?_) AllReady.nil
            · skip
              go_simp
              refine hKK _ _ ?_
              clear hKK KK
              have hb := (Below.refl V4.heap.size V4).alloc (Nat.le_refl _) (.cells #[.int .u64 0, .int .u64 0] 27)
              have hz5 : V4.heap.size < (V4.alloc (.cells #[.int .u64 0, .int .u64 0] 27)).heap.size := by rw [World.size_alloc]; omega
              have tn := Two.new V4 27 (.int .u64 0) (.int .u64 0)
              generalize V4.alloc (.cells #[.int .u64 0, .int .u64 0] 27) = V5 at hb hz5 tn ⊢
              have Ok5 := Lib.hid (Ok4.out.keep hb)
              clear Ok4
              have Xk5 := Lib.hid (Xk4.out.keep hb)
              clear Xk4
              have Sk5 := Lib.hid (Sk4.out.keep hb)
              clear Sk4
              have hbk5 := below_step hbk4 hb
              have hsk5 := hb.size
              clear hb
              have Vn5 := Lib.hid tn
              clear tn
              refine wpAny_ready (rs := [8]) (by kernel_rfl) (by simp) ?_
              refine AllReady.cons rfl (fun KK hKK => ?_) AllReady.nil
              · skip
                go_simp
                refine hKK _ _ ?_
                clear hKK KK
                refine wpAny_ready (rs := [9]) (by kernel_rfl) (by simp) ?_
                refine AllReady.cons rfl (fun KK hKK => ?_) AllReady.nil
                · skip
                  have z0 := Vn5.out.c0
                  have z1 := Vn5.out.c1
                  have f0 := Vn5.out.f0
                  have f1 := Vn5.out.f1
                  go_simp
                  refine hKK _ _ ?_
                  clear hKK KK
                  clear z0 z1 f0 f1
                  have tn := (Vn5.out.set0 (.int .u64 (vF (toE r1 r2).A))).set1 (.int .u64 (vF (toE r1 r2).B))
                  have hse : ∀ ad, A4 = some ad → ad.block ≠ V4.heap.size := fun ad ea => by have := hA1 ad ea; omega
                  have sn := (Sk5.out.far6 (a := ⟨V4.heap.size, 0, none⟩) (.int .u64 (vF (toE r1 r2).A)) hse).far6 (a := ⟨V4.heap.size, 1, none⟩) (.int .u64 (vF (toE r1 r2).B)) hse
                  have bn := (hbk5.setCell (p := ⟨V4.heap.size, 0, none⟩) (by simp only; omega) (.int .u64 (vF (toE r1 r2).A))).setCell (p := ⟨V4.heap.size, 1, none⟩) (by simp only; omega) (.int .u64 (vF (toE r1 r2).B))
                  clear Vn5 Sk5 Ok5 Xk5 hse
                  generalize (V5.setCell ⟨V4.heap.size, 0, none⟩ (.int .u64 (vF (toE r1 r2).A))).setCell ⟨V4.heap.size, 1, none⟩ (.int .u64 (vF (toE r1 r2).B)) = V7 at tn sn bn ⊢
                  have Vn7 := Lib.hid tn
                  have S7 := Lib.hid sn
                  clear tn sn
                  refine wpAny_ready (rs := [10]) (by kernel_rfl) (by simp) ?_
                  refine AllReady.cons rfl (fun KK hKK => ?_) AllReady.nil
                  · skip
                    go_simp
                    refine hKK _ _ ?_
                    clear hKK KK
                    refine wpAny_done (by kernel_rfl) ?_ _
                    go_wp2_with fail
                    go_meet
                    case rel => exact ⟨_, _, _, _, _, rfl, rfl, rfl, S7.out, Vn7.out, bn⟩
          · skip
            go_simp
            refine hKK _ _ ?_
            clear hKK KK
            have hb := (Below.refl V3.heap.size V3).alloc (Nat.le_refl _) (.cells #[.int .u64 0, .int .u64 0] 27)
            have hz9 : V3.heap.size < (V3.alloc (.cells #[.int .u64 0, .int .u64 0] 27)).heap.size := by rw [World.size_alloc]; omega
            have tn := Two.new V3 27 (.int .u64 0) (.int .u64 0)
            generalize V3.alloc (.cells #[.int .u64 0, .int .u64 0] 27) = V9 at hb hz9 tn ⊢
            have Ok9 := Lib.hid (Ok3.out.keep hb)
            clear Ok3
            have Xk9 := Lib.hid (Xk3.out.keep hb)
            clear Xk3
            have Sk9 := Lib.hid (Sk3.out.keep hb)
            clear Sk3
            have hbk9 := below_step hbk3 hb
            have hsk9 := hb.size
            clear hb
            have Vn9 := Lib.hid tn
            clear tn
            refine wpAny_ready (rs := [6, 8]) (by kernel_rfl) (by simp) ?_
            refine AllReady.cons rfl (fun KK hKK => ?_) (AllReady.cons rfl (fun KK hKK => ?_) AllReady.nil)
            · skip
              go_simp
              refine hKK _ _ ?_
              clear hKK KK
              have hb := (Below.refl V9.heap.size V9).alloc (Nat.le_refl _) (.cells #[] 27)
              have hz10 : V9.heap.size < (V9.alloc (.cells #[] 27)).heap.size := by rw [World.size_alloc]; omega
              generalize V9.alloc (.cells #[] 27) = V10 at hb hz10 ⊢
              have Ok10 := Lib.hid (Ok9.out.keep hb)
              clear Ok9
              have Xk10 := Lib.hid (Xk9.out.keep hb)
              clear Xk9
              have Sk10 := Lib.hid (Sk9.out.keep hb)
              clear Sk9
              have Vk10 := Lib.hid (Vn9.out.keep hb)
              clear Vn9
              have hbk10 := below_step hbk9 hb
              have hsk10 := hb.size
              clear hb
              refine wpAny_ready (rs := [8]) (by kernel_rfl) (by simp) ?_
              refine AllReady.cons rfl (fun KK hKK => ?_) AllReady.nil
              · skip
                go_simp
                refine hKK _ _ ?_
                clear hKK KK
                refine wpAny_ready (rs := [9]) (by kernel_rfl) (by simp) ?_
                refine AllReady.cons rfl (fun KK hKK => ?_) AllReady.nil
                · skip
                  have z0 := Vk10.out.c0
                  have z1 := Vk10.out.c1
                  have f0 := Vk10.out.f0
                  have f1 := Vk10.out.f1
                  go_simp
                  refine hKK _ _ ?_
                  clear hKK KK
                  clear z0 z1 f0 f1
                  have tn := (Vk10.out.set0 (.int .u64 (vF (toE r1 r2).A))).set1 (.int .u64 (vF (toE r1 r2).B))
                  have hse : ∀ ad, A4 = some ad → ad.block ≠ V3.heap.size := fun ad ea => by have := hA1 ad ea; omega
                  have sn := (Sk10.out.far6 (a := ⟨V3.heap.size, 0, none⟩) (.int .u64 (vF (toE r1 r2).A)) hse).far6 (a := ⟨V3.heap.size, 1, none⟩) (.int .u64 (vF (toE r1 r2).B)) hse
                  have bn := (hbk10.setCell (p := ⟨V3.heap.size, 0, none⟩) (by simp only; omega) (.int .u64 (vF (toE r1 r2).A))).setCell (p := ⟨V3.heap.size, 1, none⟩) (by simp only; omega) (.int .u64 (vF (toE r1 r2).B))
                  clear Vk10 Sk10 Ok10 Xk10 hse
                  generalize (V10.setCell ⟨V3.heap.size, 0, none⟩ (.int .u64 (vF (toE r1 r2).A))).setCell ⟨V3.heap.size, 1, none⟩ (.int .u64 (vF (toE r1 r2).B)) = V12 at tn sn bn ⊢
                  have Vn12 := Lib.hid tn
                  have S12 := Lib.hid sn
                  clear tn sn
                  refine wpAny_ready (rs := [10]) (by kernel_rfl) (by simp) ?_
                  refine AllReady.cons rfl (fun KK hKK => ?_) AllReady.nil
                  · skip
                    go_simp
                    refine hKK _ _ ?_
                    clear hKK KK
                    refine wpAny_done (by kernel_rfl) ?_ _
                    go_wp2_with fail
                    go_meet
                    case rel => exact ⟨_, _, _, _, _, rfl, rfl, rfl, S12.out, Vn12.out, bn⟩
            · skip
              go_simp
              refine hKK _ _ ?_
              clear hKK KK
              refine wpAny_ready (rs := [6, 9]) (by kernel_rfl) (by simp) ?_
              refine AllReady.cons rfl (fun KK hKK => ?_) (AllReady.cons rfl (fun KK hKK => ?_) AllReady.nil)
              · skip
                go_simp
                refine hKK _ _ ?_
                clear hKK KK
                have hb := (Below.refl V9.heap.size V9).alloc (Nat.le_refl _) (.cells #[] 27)
                have hz15 : V9.heap.size < (V9.alloc (.cells #[] 27)).heap.size := by rw [World.size_alloc]; omega
                generalize V9.alloc (.cells #[] 27) = V15 at hb hz15 ⊢
                have Ok15 := Lib.hid (Ok9.out.keep hb)
                clear Ok9
                have Xk15 := Lib.hid (Xk9.out.keep hb)
                clear Xk9
                have Sk15 := Lib.hid (Sk9.out.keep hb)
                clear Sk9
                have Vk15 := Lib.hid (Vn9.out.keep hb)
                clear Vn9
                have hbk15 := below_step hbk9 hb
                have hsk15 := hb.size
                clear hb
                refine wpAny_ready (rs := [9]) (by kernel_rfl) (by simp) ?_
                refine AllReady.cons rfl (fun KK hKK => ?_) AllReady.nil
                · skip
                  have z0 := Vk15.out.c0
                  have z1 := Vk15.out.c1
                  have f0 := Vk15.out.f0
                  have f1 := Vk15.out.f1
                  go_simp
                  refine hKK _ _ ?_
                  clear hKK KK
                  clear z0 z1 f0 f1
                  have tn := (Vk15.out.set0 (.int .u64 (vF (toE r1 r2).A))).set1 (.int .u64 (vF (toE r1 r2).B))
                  have hse : ∀ ad, A4 = some ad → ad.block ≠ V3.heap.size := fun ad ea => by have := hA1 ad ea; omega
                  have sn := (Sk15.out.far6 (a := ⟨V3.heap.size, 0, none⟩) (.int .u64 (vF (toE r1 r2).A)) hse).far6 (a := ⟨V3.heap.size, 1, none⟩) (.int .u64 (vF (toE r1 r2).B)) hse
                  have bn := (hbk15.setCell (p := ⟨V3.heap.size, 0, none⟩) (by simp only; omega) (.int .u64 (vF (toE r1 r2).A))).setCell (p := ⟨V3.heap.size, 1, none⟩) (by simp only; omega) (.int .u64 (vF (toE r1 r2).B))
                  clear Vk15 Sk15 Ok15 Xk15 hse
                  generalize (V15.setCell ⟨V3.heap.size, 0, none⟩ (.int .u64 (vF (toE r1 r2).A))).setCell ⟨V3.heap.size, 1, none⟩ (.int .u64 (vF (toE r1 r2).B)) = V16 at tn sn bn ⊢
                  have Vn16 := Lib.hid tn
                  have S16 := Lib.hid sn
                  clear tn sn
                  refine wpAny_ready (rs := [10]) (by kernel_rfl) (by simp) ?_
                  refine AllReady.cons rfl (fun KK hKK => ?_) AllReady.nil
                  · skip
                    go_simp
                    refine hKK _ _ ?_
                    clear hKK KK
                    refine wpAny_done (by kernel_rfl) ?_ _
                    go_wp2_with fail
                    go_meet
                    case rel => exact ⟨_, _, _, _, _, rfl, rfl, rfl, S16.out, Vn16.out, bn⟩
              · skip
                have z0 := Vn9.out.c0
                have z1 := Vn9.out.c1
                have f0 := Vn9.out.f0
                have f1 := Vn9.out.f1
                go_simp
                refine hKK _ _ ?_
                clear hKK KK
                clear z0 z1 f0 f1
                have tn := (Vn9.out.set0 (.int .u64 (vF (toE r1 r2).A))).set1 (.int .u64 (vF (toE r1 r2).B))
                have hse : ∀ ad, A4 = some ad → ad.block ≠ V3.heap.size := fun ad ea => by have := hA1 ad ea; omega
                have sn := (Sk9.out.far6 (a := ⟨V3.heap.size, 0, none⟩) (.int .u64 (vF (toE r1 r2).A)) hse).far6 (a := ⟨V3.heap.size, 1, none⟩) (.int .u64 (vF (toE r1 r2).B)) hse
                have bn := (hbk9.setCell (p := ⟨V3.heap.size, 0, none⟩) (by simp only; omega) (.int .u64 (vF (toE r1 r2).A))).setCell (p := ⟨V3.heap.size, 1, none⟩) (by simp only; omega) (.int .u64 (vF (toE r1 r2).B))
                clear Vn9 Sk9 Ok9 Xk9 hse
                generalize (V9.setCell ⟨V3.heap.size, 0, none⟩ (.int .u64 (vF (toE r1 r2).A))).setCell ⟨V3.heap.size, 1, none⟩ (.int .u64 (vF (toE r1 r2).B)) = V18 at tn sn bn ⊢
                have Vn18 := Lib.hid tn
                have S18 := Lib.hid sn
                clear tn sn
                refine wpAny_ready (rs := [6]) (by kernel_rfl) (by simp) ?_
                refine AllReady.cons rfl (fun KK hKK => ?_) AllReady.nil
                · skip
                  go_simp
                  refine hKK _ _ ?_
                  clear hKK KK
                  have hb := (Below.refl V18.heap.size V18).alloc (Nat.le_refl _) (.cells #[] 27)
                  have hz19 : V18.heap.size < (V18.alloc (.cells #[] 27)).heap.size := by rw [World.size_alloc]; omega
                  generalize V18.alloc (.cells #[] 27) = V19 at hb hz19 ⊢
                  have Sk19 := Lib.hid (S18.out.keep hb)
                  clear S18
                  have Vk19 := Lib.hid (Vn18.out.keep hb)
                  clear Vn18
                  have hbk19 := below_step bn hb
                  have hsk19 := hb.size
                  clear hb
                  refine wpAny_ready (rs := [10]) (by kernel_rfl) (by simp) ?_
                  refine AllReady.cons rfl (fun KK hKK => ?_) AllReady.nil
                  · skip
                    go_simp
                    refine hKK _ _ ?_
                    clear hKK KK
                    refine wpAny_done (by kernel_rfl) ?_ _
                    go_wp2_with fail
                    go_meet
                    case rel => exact ⟨_, _, _, _, _, rfl, rfl, rfl, Sk19.out, Vk19.out, hbk19⟩
        · skip
          go_simp
          refine hKK _ _ ?_
          clear hKK KK
          have hb := (Below.refl V1.heap.size V1).alloc (Nat.le_refl _) (.cells #[] 27)
          have hz21 : V1.heap.size < (V1.alloc (.cells #[] 27)).heap.size := by rw [World.size_alloc]; omega
          generalize V1.alloc (.cells #[] 27) = V21 at hb hz21 ⊢
          have Ok21 := Lib.hid (Ok1.out.keep hb)
          clear Ok1
          have Xk21 := Lib.hid (Xk1.out.keep hb)
          clear Xk1
          have Sk21 := Lib.hid (S1.out.keep hb)
          clear S1
          have hbk21 := below_step hbk1 hb
          have hsk21 := hb.size
          clear hb
          refine wpAny_ready (rs := [5, 7]) (by kernel_rfl) (by simp) ?_
          refine AllReady.cons rfl (fun KK hKK => ?_) (AllReady.cons rfl (fun KK hKK => ?_) AllReady.nil)
          · skip
            go_simp
            refine (rMade_any r1 r2 V21 h1 h2).mono ?_
            rintro e V22 ⟨rfl, hb⟩
            have Ok22 := Lib.hid (Ok21.out.keep hb)
            clear Ok21
            have Xk22 := Lib.hid (Xk21.out.keep hb)
            clear Xk21
            have Sk22 := Lib.hid (Sk21.out.keep hb)
            clear Sk21
            have hbk22 := below_step hbk21 hb
            have hsk22 := hb.size
            clear hb
            refine hKK _ _ ?_
            clear hKK KK
            refine wpAny_ready (rs := [7]) (by kernel_rfl) (by simp) ?_
            refine AllReady.cons rfl (fun KK hKK => ?_) AllReady.nil
            · skip
              go_simp
              refine hKK _ _ ?_
              clear hKK KK
              have hb := (Below.refl V22.heap.size V22).alloc (Nat.le_refl _) (.cells #[.int .u64 0, .int .u64 0] 27)
              have hz23 : V22.heap.size < (V22.alloc (.cells #[.int .u64 0, .int .u64 0] 27)).heap.size := by rw [World.size_alloc]; omega
              have tn := Two.new V22 27 (.int .u64 0) (.int .u64 0)
              generalize V22.alloc (.cells #[.int .u64 0, .int .u64 0] 27) = V23 at hb hz23 tn ⊢
              have Ok23 := Lib.hid (Ok22.out.keep hb)
              clear Ok22
              have Xk23 := Lib.hid (Xk22.out.keep hb)
              clear Xk22
              have Sk23 := Lib.hid (Sk22.out.keep hb)
              clear Sk22
              have hbk23 := below_step hbk22 hb
              have hsk23 := hb.size
              clear hb
              have Vn23 := Lib.hid tn
              clear tn
              refine wpAny_ready (rs := [8]) (by kernel_rfl) (by simp) ?_
              refine AllReady.cons rfl (fun KK hKK => ?_) AllReady.nil
              · skip
                go_simp
                refine hKK _ _ ?_
                clear hKK KK
                refine wpAny_ready (rs := [9]) (by kernel_rfl) (by simp) ?_
                refine AllReady.cons rfl (fun KK hKK => ?_) AllReady.nil
                · skip
                  have z0 := Vn23.out.c0
                  have z1 := Vn23.out.c1
                  have f0 := Vn23.out.f0
                  have f1 := Vn23.out.f1
                  go_simp
                  refine hKK _ _ ?_
                  clear hKK KK
                  clear z0 z1 f0 f1
                  have tn := (Vn23.out.set0 (.int .u64 (vF (toE r1 r2).A))).set1 (.int .u64 (vF (toE r1 r2).B))
                  have hse : ∀ ad, A4 = some ad → ad.block ≠ V22.heap.size := fun ad ea => by have := hA1 ad ea; omega
                  have sn := (Sk23.out.far6 (a := ⟨V22.heap.size, 0, none⟩) (.int .u64 (vF (toE r1 r2).A)) hse).far6 (a := ⟨V22.heap.size, 1, none⟩) (.int .u64 (vF (toE r1 r2).B)) hse
                  have bn := (hbk23.setCell (p := ⟨V22.heap.size, 0, none⟩) (by simp only; omega) (.int .u64 (vF (toE r1 r2).A))).setCell (p := ⟨V22.heap.size, 1, none⟩) (by simp only; omega) (.int .u64 (vF (toE r1 r2).B))
                  clear Vn23 Sk23 Ok23 Xk23 hse
                  generalize (V23.setCell ⟨V22.heap.size, 0, none⟩ (.int .u64 (vF (toE r1 r2).A))).setCell ⟨V22.heap.size, 1, none⟩ (.int .u64 (vF (toE r1 r2).B)) = V25 at tn sn bn ⊢
                  have Vn25 := Lib.hid tn
                  have S25 := Lib.hid sn
                  clear tn sn
                  refine wpAny_ready (rs := [10]) (by kernel_rfl) (by simp) ?_
                  refine AllReady.cons rfl (fun KK hKK => ?_) AllReady.nil
                  · skip
                    go_simp
                    refine hKK _ _ ?_
                    clear hKK KK
                    refine wpAny_done (by kernel_rfl) ?_ _
                    go_wp2_with fail
                    go_meet
                    case rel => exact ⟨_, _, _, _, _, rfl, rfl, rfl, S25.out, Vn25.out, bn⟩
          · skip
            go_simp
            refine hKK _ _ ?_
            clear hKK KK
            have hb := (Below.refl V21.heap.size V21).alloc (Nat.le_refl _) (.cells #[.int .u64 0, .int .u64 0] 27)
            have hz27 : V21.heap.size < (V21.alloc (.cells #[.int .u64 0, .int .u64 0] 27)).heap.size := by rw [World.size_alloc]; omega
            have tn := Two.new V21 27 (.int .u64 0) (.int .u64 0)
            generalize V21.alloc (.cells #[.int .u64 0, .int .u64 0] 27) = V27 at hb hz27 tn ⊢
            have Ok27 := Lib.hid (Ok21.out.keep hb)
            clear Ok21
            have Xk27 := Lib.hid (Xk21.out.keep hb)
            clear Xk21
            have Sk27 := Lib.hid (Sk21.out.keep hb)
            clear Sk21
            have hbk27 := below_step hbk21 hb
            have hsk27 := hb.size
            clear hb
            have Vn27 := Lib.hid tn
            clear tn
            refine wpAny_ready (rs := [5]) (by kernel_rfl) (by simp) ?_
            refine AllReady.cons rfl (fun KK hKK => ?_) AllReady.nil
            · skip
              go_simp
              refine (rMade_any r1 r2 V27 h1 h2).mono ?_
              rintro e V28 ⟨rfl, hb⟩
              have Ok28 := Lib.hid (Ok27.out.keep hb)
              clear Ok27
              have Xk28 := Lib.hid (Xk27.out.keep hb)
              clear Xk27
              have Sk28 := Lib.hid (Sk27.out.keep hb)
              clear Sk27
              have Vk28 := Lib.hid (Vn27.out.keep hb)
              clear Vn27
              have hbk28 := below_step hbk27 hb
              have hsk28 := hb.size
              clear hb
              refine hKK _ _ ?_
              clear hKK KK
              refine wpAny_ready (rs := [8]) (by kernel_rfl) (by simp) ?_
              refine AllReady.cons rfl (fun KK hKK => ?_) AllReady.nil
              · skip
                go_simp
                refine hKK _ _ ?_
                clear hKK KK
                refine wpAny_ready (rs := [9]) (by kernel_rfl) (by simp) ?_
                refine AllReady.cons rfl (fun KK hKK => ?_) AllReady.nil
                · skip
                  have z0 := Vk28.out.c0
                  have z1 := Vk28.out.c1
                  have f0 := Vk28.out.f0
                  have f1 := Vk28.out.f1
                  go_simp
                  refine hKK _ _ ?_
                  clear hKK KK
                  clear z0 z1 f0 f1
                  have tn := (Vk28.out.set0 (.int .u64 (vF (toE r1 r2).A))).set1 (.int .u64 (vF (toE r1 r2).B))
                  have hse : ∀ ad, A4 = some ad → ad.block ≠ V21.heap.size := fun ad ea => by have := hA1 ad ea; omega
                  have sn := (Sk28.out.far6 (a := ⟨V21.heap.size, 0, none⟩) (.int .u64 (vF (toE r1 r2).A)) hse).far6 (a := ⟨V21.heap.size, 1, none⟩) (.int .u64 (vF (toE r1 r2).B)) hse
                  have bn := (hbk28.setCell (p := ⟨V21.heap.size, 0, none⟩) (by simp only; omega) (.int .u64 (vF (toE r1 r2).A))).setCell (p := ⟨V21.heap.size, 1, none⟩) (by simp only; omega) (.int .u64 (vF (toE r1 r2).B))
                  clear Vk28 Sk28 Ok28 Xk28 hse
                  generalize (V28.setCell ⟨V21.heap.size, 0, none⟩ (.int .u64 (vF (toE r1 r2).A))).setCell ⟨V21.heap.size, 1, none⟩ (.int .u64 (vF (toE r1 r2).B)) = V30 at tn sn bn ⊢
                  have Vn30 := Lib.hid tn
                  have S30 := Lib.hid sn
                  clear tn sn
                  refine wpAny_ready (rs := [10]) (by kernel_rfl) (by simp) ?_
                  refine AllReady.cons rfl (fun KK hKK => ?_) AllReady.nil
                  · skip
                    go_simp
                    refine hKK _ _ ?_
                    clear hKK KK
                    refine wpAny_done (by kernel_rfl) ?_ _
                    go_wp2_with fail
                    go_meet
                    case rel => exact ⟨_, _, _, _, _, rfl, rfl, rfl, S30.out, Vn30.out, bn⟩
        · skip
          go_simp
          refine hKK _ _ ?_
          clear hKK KK
          have hb := (Below.refl V1.heap.size V1).alloc (Nat.le_refl _) (.cells #[.int .u64 0, .int .u64 0] 27)
          have hz32 : V1.heap.size < (V1.alloc (.cells #[.int .u64 0, .int .u64 0] 27)).heap.size := by rw [World.size_alloc]; omega
          have tn := Two.new V1 27 (.int .u64 0) (.int .u64 0)
          generalize V1.alloc (.cells #[.int .u64 0, .int .u64 0] 27) = V32 at hb hz32 tn ⊢
          have Ok32 := Lib.hid (Ok1.out.keep hb)
          clear Ok1
          have Xk32 := Lib.hid (Xk1.out.keep hb)
          clear Xk1
          have Sk32 := Lib.hid (S1.out.keep hb)
          clear S1
          have hbk32 := below_step hbk1 hb
          have hsk32 := hb.size
          clear hb
          have Vn32 := Lib.hid tn
          clear tn
          refine wpAny_ready (rs := [5, 6]) (by kernel_rfl) (by simp) ?_
          refine AllReady.cons rfl (fun KK hKK => ?_) (AllReady.cons rfl (fun KK hKK => ?_) AllReady.nil)
          · skip
            go_simp
            refine (rMade_any r1 r2 V32 h1 h2).mono ?_
            rintro e V33 ⟨rfl, hb⟩
            have Ok33 := Lib.hid (Ok32.out.keep hb)
            clear Ok32
            have Xk33 := Lib.hid (Xk32.out.keep hb)
            clear Xk32
            have Sk33 := Lib.hid (Sk32.out.keep hb)
            clear Sk32
            have Vk33 := Lib.hid (Vn32.out.keep hb)
            clear Vn32
            have hbk33 := below_step hbk32 hb
            have hsk33 := hb.size
            clear hb
            refine hKK _ _ ?_
            clear hKK KK
            refine wpAny_ready (rs := [6, 8]) (by kernel_rfl) (by simp) ?_
            refine AllReady.cons rfl (fun KK hKK => ?_) (AllReady.cons rfl (fun KK hKK => ?_) AllReady.nil)
            · skip
              go_simp
              refine hKK _ _ ?_
              clear hKK KK
              have hb := (Below.refl V33.heap.size V33).alloc (Nat.le_refl _) (.cells #[] 27)
              have hz34 : V33.heap.size < (V33.alloc (.cells #[] 27)).heap.size := by rw [World.size_alloc]; omega
              generalize V33.alloc (.cells #[] 27) = V34 at hb hz34 ⊢
              have Ok34 := Lib.hid (Ok33.out.keep hb)
              clear Ok33
              have Xk34 := Lib.hid (Xk33.out.keep hb)
              clear Xk33
              have Sk34 := Lib.hid (Sk33.out.keep hb)
              clear Sk33
              have Vk34 := Lib.hid (Vk33.out.keep hb)
              clear Vk33
              have hbk34 := below_step hbk33 hb
              have hsk34 := hb.size
              clear hb
              refine wpAny_ready (rs := [8]) (by kernel_rfl) (by simp) ?_
              refine AllReady.cons rfl (fun KK hKK => ?_) AllReady.nil
              · skip
                go_simp
                refine hKK _ _ ?_
                clear hKK KK
                refine wpAny_ready (rs := [9]) (by kernel_rfl) (by simp) ?_
                refine AllReady.cons rfl (fun KK hKK => ?_) AllReady.nil
                · skip
                  have z0 := Vk34.out.c0
                  have z1 := Vk34.out.c1
                  have f0 := Vk34.out.f0
                  have f1 := Vk34.out.f1
                  go_simp
                  refine hKK _ _ ?_
                  clear hKK KK
                  clear z0 z1 f0 f1
                  have tn := (Vk34.out.set0 (.int .u64 (vF (toE r1 r2).A))).set1 (.int .u64 (vF (toE r1 r2).B))
                  have hse : ∀ ad, A4 = some ad → ad.block ≠ V1.heap.size := fun ad ea => by have := hA1 ad ea; omega
                  have sn := (Sk34.out.far6 (a := ⟨V1.heap.size, 0, none⟩) (.int .u64 (vF (toE r1 r2).A)) hse).far6 (a := ⟨V1.heap.size, 1, none⟩) (.int .u64 (vF (toE r1 r2).B)) hse
                  have bn := (hbk34.setCell (p := ⟨V1.heap.size, 0, none⟩) (by simp only; omega) (.int .u64 (vF (toE r1 r2).A))).setCell (p := ⟨V1.heap.size, 1, none⟩) (by simp only; omega) (.int .u64 (vF (toE r1 r2).B))
                  clear Vk34 Sk34 Ok34 Xk34 hse
                  generalize (V34.setCell ⟨V1.heap.size, 0, none⟩ (.int .u64 (vF (toE r1 r2).A))).setCell ⟨V1.heap.size, 1, none⟩ (.int .u64 (vF (toE r1 r2).B)) = V36 at tn sn bn ⊢
                  have Vn36 := Lib.hid tn
                  have S36 := Lib.hid sn
                  clear tn sn
                  refine wpAny_ready (rs := [10]) (by kernel_rfl) (by simp) ?_
                  refine AllReady.cons rfl (fun KK hKK => ?_) AllReady.nil
                  · skip
                    go_simp
                    refine hKK _ _ ?_
                    clear hKK KK
                    refine wpAny_done (by kernel_rfl) ?_ _
                    go_wp2_with fail
                    go_meet
                    case rel => exact ⟨_, _, _, _, _, rfl, rfl, rfl, S36.out, Vn36.out, bn⟩
            · skip
              go_simp
              refine hKK _ _ ?_
              clear hKK KK
              refine wpAny_ready (rs := [6, 9]) (by kernel_rfl) (by simp) ?_
              refine AllReady.cons rfl (fun KK hKK => ?_) (AllReady.cons rfl (fun KK hKK => ?_) AllReady.nil)
              · skip
                go_simp
                refine hKK _ _ ?_
                clear hKK KK
                have hb := (Below.refl V33.heap.size V33).alloc (Nat.le_refl _) (.cells #[] 27)
                have hz39 : V33.heap.size < (V33.alloc (.cells #[] 27)).heap.size := by rw [World.size_alloc]; omega
                generalize V33.alloc (.cells #[] 27) = V39 at hb hz39 ⊢
                have Ok39 := Lib.hid (Ok33.out.keep hb)
                clear Ok33
                have Xk39 := Lib.hid (Xk33.out.keep hb)
                clear Xk33
                have Sk39 := Lib.hid (Sk33.out.keep hb)
                clear Sk33
                have Vk39 := Lib.hid (Vk33.out.keep hb)
                clear Vk33
                have hbk39 := below_step hbk33 hb
                have hsk39 := hb.size
                clear hb
                refine wpAny_ready (rs := [9]) (by kernel_rfl) (by simp) ?_
                refine AllReady.cons rfl (fun KK hKK => ?_) AllReady.nil
                · skip
                  have z0 := Vk39.out.c0
                  have z1 := Vk39.out.c1
                  have f0 := Vk39.out.f0
                  have f1 := Vk39.out.f1
                  go_simp
                  refine hKK _ _ ?_
                  clear hKK KK
                  clear z0 z1 f0 f1
                  have tn := (Vk39.out.set0 (.int .u64 (vF (toE r1 r2).A))).set1 (.int .u64 (vF (toE r1 r2).B))
                  have hse : ∀ ad, A4 = some ad → ad.block ≠ V1.heap.size := fun ad ea => by have := hA1 ad ea; omega
                  have sn := (Sk39.out.far6 (a := ⟨V1.heap.size, 0, none⟩) (.int .u64 (vF (toE r1 r2).A)) hse).far6 (a := ⟨V1.heap.size, 1, none⟩) (.int .u64 (vF (toE r1 r2).B)) hse
                  have bn := (hbk39.setCell (p := ⟨V1.heap.size, 0, none⟩) (by simp only; omega) (.int .u64 (vF (toE r1 r2).A))).setCell (p := ⟨V1.heap.size, 1, none⟩) (by simp only; omega) (.int .u64 (vF (toE r1 r2).B))
                  clear Vk39 Sk39 Ok39 Xk39 hse
                  generalize (V39.setCell ⟨V1.heap.size, 0, none⟩ (.int .u64 (vF (toE r1 r2).A))).setCell ⟨V1.heap.size, 1, none⟩ (.int .u64 (vF (toE r1 r2).B)) = V40 at tn sn bn ⊢
                  have Vn40 := Lib.hid tn
                  have S40 := Lib.hid sn
                  clear tn sn
                  refine wpAny_ready (rs := [10]) (by kernel_rfl) (by simp) ?_
                  refine AllReady.cons rfl (fun KK hKK => ?_) AllReady.nil
                  · skip
                    go_simp
                    refine hKK _ _ ?_
                    clear hKK KK
                    refine wpAny_done (by kernel_rfl) ?_ _
                    go_wp2_with fail
                    go_meet
                    case rel => exact ⟨_, _, _, _, _, rfl, rfl, rfl, S40.out, Vn40.out, bn⟩
              · skip
                have z0 := Vk33.out.c0
                have z1 := Vk33.out.c1
                have f0 := Vk33.out.f0
                have f1 := Vk33.out.f1
                go_simp
                refine hKK _ _ ?_
                clear hKK KK
                clear z0 z1 f0 f1
                have tn := (Vk33.out.set0 (.int .u64 (vF (toE r1 r2).A))).set1 (.int .u64 (vF (toE r1 r2).B))
                have hse : ∀ ad, A4 = some ad → ad.block ≠ V1.heap.size := fun ad ea => by have := hA1 ad ea; omega
                have sn := (Sk33.out.far6 (a := ⟨V1.heap.size, 0, none⟩) (.int .u64 (vF (toE r1 r2).A)) hse).far6 (a := ⟨V1.heap.size, 1, none⟩) (.int .u64 (vF (toE r1 r2).B)) hse
                have bn := (hbk33.setCell (p := ⟨V1.heap.size, 0, none⟩) (by simp only; omega) (.int .u64 (vF (toE r1 r2).A))).setCell (p := ⟨V1.heap.size, 1, none⟩) (by simp only; omega) (.int .u64 (vF (toE r1 r2).B))
                clear Vk33 Sk33 Ok33 Xk33 hse
                generalize (V33.setCell ⟨V1.heap.size, 0, none⟩ (.int .u64 (vF (toE r1 r2).A))).setCell ⟨V1.heap.size, 1, none⟩ (.int .u64 (vF (toE r1 r2).B)) = V42 at tn sn bn ⊢
                have Vn42 := Lib.hid tn
                have S42 := Lib.hid sn
                clear tn sn
                refine wpAny_ready (rs := [6]) (by kernel_rfl) (by simp) ?_
                refine AllReady.cons rfl (fun KK hKK => ?_) AllReady.nil
                · skip
                  go_simp
                  refine hKK _ _ ?_
                  clear hKK KK
                  have hb := (Below.refl V42.heap.size V42).alloc (Nat.le_refl _) (.cells #[] 27)
                  have hz43 : V42.heap.size < (V42.alloc (.cells #[] 27)).heap.size := by rw [World.size_alloc]; omega
                  generalize V42.alloc (.cells #[] 27) = V43 at hb hz43 ⊢
                  have Sk43 := Lib.hid (S42.out.keep hb)
                  clear S42
                  have Vk43 := Lib.hid (Vn42.out.keep hb)
                  clear Vn42
                  have hbk43 := below_step bn hb
                  have hsk43 := hb.size
                  clear hb
                  refine wpAny_ready (rs := [10]) (by kernel_rfl) (by simp) ?_
                  refine AllReady.cons rfl (fun KK hKK => ?_) AllReady.nil
                  · skip
                    go_simp
                    refine hKK _ _ ?_
                    clear hKK KK
                    refine wpAny_done (by kernel_rfl) ?_ _
                    go_wp2_with fail
                    go_meet
                    case rel => exact ⟨_, _, _, _, _, rfl, rfl, rfl, Sk43.out, Vk43.out, hbk43⟩
          · skip
            go_simp
            refine hKK _ _ ?_
            clear hKK KK
            have hb := (Below.refl V32.heap.size V32).alloc (Nat.le_refl _) (.cells #[] 27)
            have hz45 : V32.heap.size < (V32.alloc (.cells #[] 27)).heap.size := by rw [World.size_alloc]; omega
            generalize V32.alloc (.cells #[] 27) = V45 at hb hz45 ⊢
            have Ok45 := Lib.hid (Ok32.out.keep hb)
            clear Ok32
            have Xk45 := Lib.hid (Xk32.out.keep hb)
            clear Xk32
            have Sk45 := Lib.hid (Sk32.out.keep hb)
            clear Sk32
            have Vk45 := Lib.hid (Vn32.out.keep hb)
            clear Vn32
            have hbk45 := below_step hbk32 hb
            have hsk45 := hb.size
            clear hb
            refine wpAny_ready (rs := [5]) (by kernel_rfl) (by simp) ?_
            refine AllReady.cons rfl (fun KK hKK => ?_) AllReady.nil
            · skip
              go_simp
              refine (rMade_any r1 r2 V45 h1 h2).mono ?_
              rintro e V46 ⟨rfl, hb⟩
              have Ok46 := Lib.hid (Ok45.out.keep hb)
              clear Ok45
              have Xk46 := Lib.hid (Xk45.out.keep hb)
              clear Xk45
              have Sk46 := Lib.hid (Sk45.out.keep hb)
              clear Sk45
              have Vk46 := Lib.hid (Vk45.out.keep hb)
              clear Vk45
              have hbk46 := below_step hbk45 hb
              have hsk46 := hb.size
              clear hb
              refine hKK _ _ ?_
              clear hKK KK
              refine wpAny_ready (rs := [8]) (by kernel_rfl) (by simp) ?_
              refine AllReady.cons rfl (fun KK hKK => ?_) AllReady.nil
              · skip
                go_simp
                refine hKK _ _ ?_
                clear hKK KK
                refine wpAny_ready (rs := [9]) (by kernel_rfl) (by simp) ?_
                refine AllReady.cons rfl (fun KK hKK => ?_) AllReady.nil
                · skip
                  have z0 := Vk46.out.c0
                  have z1 := Vk46.out.c1
                  have f0 := Vk46.out.f0
                  have f1 := Vk46.out.f1
                  go_simp
                  refine hKK _ _ ?_
                  clear hKK KK
                  clear z0 z1 f0 f1
                  have tn := (Vk46.out.set0 (.int .u64 (vF (toE r1 r2).A))).set1 (.int .u64 (vF (toE r1 r2).B))
                  have hse : ∀ ad, A4 = some ad → ad.block ≠ V1.heap.size := fun ad ea => by have := hA1 ad ea; omega
                  have sn := (Sk46.out.far6 (a := ⟨V1.heap.size, 0, none⟩) (.int .u64 (vF (toE r1 r2).A)) hse).far6 (a := ⟨V1.heap.size, 1, none⟩) (.int .u64 (vF (toE r1 r2).B)) hse
                  have bn := (hbk46.setCell (p := ⟨V1.heap.size, 0, none⟩) (by simp only; omega) (.int .u64 (vF (toE r1 r2).A))).setCell (p := ⟨V1.heap.size, 1, none⟩) (by simp only; omega) (.int .u64 (vF (toE r1 r2).B))
                  clear Vk46 Sk46 Ok46 Xk46 hse
                  generalize (V46.setCell ⟨V1.heap.size, 0, none⟩ (.int .u64 (vF (toE r1 r2).A))).setCell ⟨V1.heap.size, 1, none⟩ (.int .u64 (vF (toE r1 r2).B)) = V48 at tn sn bn ⊢
                  have Vn48 := Lib.hid tn
                  have S48 := Lib.hid sn
                  clear tn sn
                  refine wpAny_ready (rs := [10]) (by kernel_rfl) (by simp) ?_
                  refine AllReady.cons rfl (fun KK hKK => ?_) AllReady.nil
                  · skip
                    go_simp
                    refine hKK _ _ ?_
                    clear hKK KK
                    refine wpAny_done (by kernel_rfl) ?_ _
                    go_wp2_with fail
                    go_meet
                    case rel => exact ⟨_, _, _, _, _, rfl, rfl, rfl, S48.out, Vn48.out, bn⟩
      · skip
        go_simp
        refine hKK _ _ ?_
        clear hKK KK
        have hb := (Below.refl V1.heap.size V1).alloc (Nat.le_refl _) (.cells #[] 27)
        have hz50 : V1.heap.size < (V1.alloc (.cells #[] 27)).heap.size := by rw [World.size_alloc]; omega
        generalize V1.alloc (.cells #[] 27) = V50 at hb hz50 ⊢
        have Ok50 := Lib.hid (Ok1.out.keep hb)
        clear Ok1
        have Xk50 := Lib.hid (Xk1.out.keep hb)
        clear Xk1
        have Sk50 := Lib.hid (S1.out.keep hb)
        clear S1
        have hbk50 := below_step hbk1 hb
        have hsk50 := hb.size
        clear hb
        refine wpAny_ready (rs := [4, 7]) (by kernel_rfl) (by simp) ?_
        refine AllReady.cons rfl (fun KK hKK => ?_) (AllReady.cons rfl (fun KK hKK => ?_) AllReady.nil)
        · skip
          have x0 := Xk50.out.c0
          have x1 := Xk50.out.c1
          go_simp
          clear x0 x1
          refine hKK _ _ ?_
          clear hKK KK
          refine wpAny_ready (rs := [5, 7]) (by kernel_rfl) (by simp) ?_
          refine AllReady.cons rfl (fun KK hKK => ?_) (AllReady.cons rfl (fun KK hKK => ?_) AllReady.nil)
          · skip
            go_simp
            refine (rMade_any r1 r2 V50 h1 h2).mono ?_
            rintro e V52 ⟨rfl, hb⟩
            have Ok52 := Lib.hid (Ok50.out.keep hb)
            clear Ok50
            have Xk52 := Lib.hid (Xk50.out.keep hb)
            clear Xk50
            have Sk52 := Lib.hid (Sk50.out.keep hb)
            clear Sk50
            have hbk52 := below_step hbk50 hb
            have hsk52 := hb.size
            clear hb
            refine hKK _ _ ?_
            clear hKK KK
            refine wpAny_ready (rs := [7]) (by kernel_rfl) (by simp) ?_
            refine AllReady.cons rfl (fun KK hKK => ?_) AllReady.nil
            · skip
              go_simp
              refine hKK _ _ ?_
              clear hKK KK
              have hb := (Below.refl V52.heap.size V52).alloc (Nat.le_refl _) (.cells #[.int .u64 0, .int .u64 0] 27)
              have hz53 : V52.heap.size < (V52.alloc (.cells #[.int .u64 0, .int .u64 0] 27)).heap.size := by rw [World.size_alloc]; omega
              have tn := Two.new V52 27 (.int .u64 0) (.int .u64 0)
              generalize V52.alloc (.cells #[.int .u64 0, .int .u64 0] 27) = V53 at hb hz53 tn ⊢
              have Ok53 := Lib.hid (Ok52.out.keep hb)
              clear Ok52
              have Xk53 := Lib.hid (Xk52.out.keep hb)
              clear Xk52
              have Sk53 := Lib.hid (Sk52.out.keep hb)
              clear Sk52
              have hbk53 := below_step hbk52 hb
              have hsk53 := hb.size
              clear hb
              have Vn53 := Lib.hid tn
              clear tn
              refine wpAny_ready (rs := [8]) (by kernel_rfl) (by simp) ?_
              refine AllReady.cons rfl (fun KK hKK => ?_) AllReady.nil
              · skip
                go_simp
                refine hKK _ _ ?_
                clear hKK KK
                refine wpAny_ready (rs := [9]) (by kernel_rfl) (by simp) ?_
                refine AllReady.cons rfl (fun KK hKK => ?_) AllReady.nil
                · skip
                  have z0 := Vn53.out.c0
                  have z1 := Vn53.out.c1
                  have f0 := Vn53.out.f0
                  have f1 := Vn53.out.f1
                  go_simp
                  refine hKK _ _ ?_
                  clear hKK KK
                  clear z0 z1 f0 f1
                  have tn := (Vn53.out.set0 (.int .u64 (vF (toE r1 r2).A))).set1 (.int .u64 (vF (toE r1 r2).B))
                  have hse : ∀ ad, A4 = some ad → ad.block ≠ V52.heap.size := fun ad ea => by have := hA1 ad ea; omega
                  have sn := (Sk53.out.far6 (a := ⟨V52.heap.size, 0, none⟩) (.int .u64 (vF (toE r1 r2).A)) hse).far6 (a := ⟨V52.heap.size, 1, none⟩) (.int .u64 (vF (toE r1 r2).B)) hse
                  have bn := (hbk53.setCell (p := ⟨V52.heap.size, 0, none⟩) (by simp only; omega) (.int .u64 (vF (toE r1 r2).A))).setCell (p := ⟨V52.heap.size, 1, none⟩) (by simp only; omega) (.int .u64 (vF (toE r1 r2).B))
                  clear Vn53 Sk53 Ok53 Xk53 hse
                  generalize (V53.setCell ⟨V52.heap.size, 0, none⟩ (.int .u64 (vF (toE r1 r2).A))).setCell ⟨V52.heap.size, 1, none⟩ (.int .u64 (vF (toE r1 r2).B)) = V55 at tn sn bn ⊢
                  have Vn55 := Lib.hid tn
                  have S55 := Lib.hid sn
                  clear tn sn
                  refine wpAny_ready (rs := [10]) (by kernel_rfl) (by simp) ?_
                  refine AllReady.cons rfl (fun KK hKK => ?_) AllReady.nil
                  · skip
                    go_simp
                    refine hKK _ _ ?_
                    clear hKK KK
                    refine wpAny_done (by kernel_rfl) ?_ _
                    go_wp2_with fail
                    go_meet
                    case rel => exact ⟨_, _, _, _, _, rfl, rfl, rfl, S55.out, Vn55.out, bn⟩
          · skip
            go_simp
            refine hKK _ _ ?_
            clear hKK KK
            have hb := (Below.refl V50.heap.size V50).alloc (Nat.le_refl _) (.cells #[.int .u64 0, .int .u64 0] 27)
            have hz57 : V50.heap.size < (V50.alloc (.cells #[.int .u64 0, .int .u64 0] 27)).heap.size := by rw [World.size_alloc]; omega
            have tn := Two.new V50 27 (.int .u64 0) (.int .u64 0)
            generalize V50.alloc (.cells #[.int .u64 0, .int .u64 0] 27) = V57 at hb hz57 tn ⊢
            have Ok57 := Lib.hid (Ok50.out.keep hb)
            clear Ok50
            have Xk57 := Lib.hid (Xk50.out.keep hb)
            clear Xk50
            have Sk57 := Lib.hid (Sk50.out.keep hb)
            clear Sk50
            have hbk57 := below_step hbk50 hb
            have hsk57 := hb.size
            clear hb
            have Vn57 := Lib.hid tn
            clear tn
            refine wpAny_ready (rs := [5]) (by kernel_rfl) (by simp) ?_
            refine AllReady.cons rfl (fun KK hKK => ?_) AllReady.nil
            · skip
              go_simp
              refine (rMade_any r1 r2 V57 h1 h2).mono ?_
              rintro e V58 ⟨rfl, hb⟩
              have Ok58 := Lib.hid (Ok57.out.keep hb)
              clear Ok57
              have Xk58 := Lib.hid (Xk57.out.keep hb)
              clear Xk57
              have Sk58 := Lib.hid (Sk57.out.keep hb)
              clear Sk57
              have Vk58 := Lib.hid (Vn57.out.keep hb)
              clear Vn57
              have hbk58 := below_step hbk57 hb
              have hsk58 := hb.size
              clear hb
              refine hKK _ _ ?_
              clear hKK KK
              refine wpAny_ready (rs := [8]) (by kernel_rfl) (by simp) ?_
              refine AllReady.cons rfl (fun KK hKK => ?_) AllReady.nil
              · skip
                go_simp
                refine hKK _ _ ?_
                clear hKK KK
                refine wpAny_ready (rs := [9]) (by kernel_rfl) (by simp) ?_
                refine AllReady.cons rfl (fun KK hKK => ?_) AllReady.nil
                · skip
                  have z0 := Vk58.out.c0
                  have z1 := Vk58.out.c1
                  have f0 := Vk58.out.f0
                  have f1 := Vk58.out.f1
                  go_simp
                  refine hKK _ _ ?_
                  clear hKK KK
                  clear z0 z1 f0 f1
                  have tn := (Vk58.out.set0 (.int .u64 (vF (toE r1 r2).A))).set1 (.int .u64 (vF (toE r1 r2).B))
                  have hse : ∀ ad, A4 = some ad → ad.block ≠ V50.heap.size := fun ad ea => by have := hA1 ad ea; omega
                  have sn := (Sk58.out.far6 (a := ⟨V50.heap.size, 0, none⟩) (.int .u64 (vF (toE r1 r2).A)) hse).far6 (a := ⟨V50.heap.size, 1, none⟩) (.int .u64 (vF (toE r1 r2).B)) hse
                  have bn := (hbk58.setCell (p := ⟨V50.heap.size, 0, none⟩) (by simp only; omega) (.int .u64 (vF (toE r1 r2).A))).setCell (p := ⟨V50.heap.size, 1, none⟩) (by simp only; omega) (.int .u64 (vF (toE r1 r2).B))
                  clear Vk58 Sk58 Ok58 Xk58 hse
                  generalize (V58.setCell ⟨V50.heap.size, 0, none⟩ (.int .u64 (vF (toE r1 r2).A))).setCell ⟨V50.heap.size, 1, none⟩ (.int .u64 (vF (toE r1 r2).B)) = V60 at tn sn bn ⊢
                  have Vn60 := Lib.hid tn
                  have S60 := Lib.hid sn
                  clear tn sn
                  refine wpAny_ready (rs := [10]) (by kernel_rfl) (by simp) ?_
                  refine AllReady.cons rfl (fun KK hKK => ?_) AllReady.nil
                  · skip
                    go_simp
                    refine hKK _ _ ?_
                    clear hKK KK
                    refine wpAny_done (by kernel_rfl) ?_ _
                    go_wp2_with fail
                    go_meet
                    case rel => exact ⟨_, _, _, _, _, rfl, rfl, rfl, S60.out, Vn60.out, bn⟩
        · skip
          go_simp
          refine hKK _ _ ?_
          clear hKK KK
          have hb := (Below.refl V50.heap.size V50).alloc (Nat.le_refl _) (.cells #[.int .u64 0, .int .u64 0] 27)
          have hz62 : V50.heap.size < (V50.alloc (.cells #[.int .u64 0, .int .u64 0] 27)).heap.size := by rw [World.size_alloc]; omega
          have tn := Two.new V50 27 (.int .u64 0) (.int .u64 0)
          generalize V50.alloc (.cells #[.int .u64 0, .int .u64 0] 27) = V62 at hb hz62 tn ⊢
          have Ok62 := Lib.hid (Ok50.out.keep hb)
          clear Ok50
          have Xk62 := Lib.hid (Xk50.out.keep hb)
          clear Xk50
          have Sk62 := Lib.hid (Sk50.out.keep hb)
          clear Sk50
          have hbk62 := below_step hbk50 hb
          have hsk62 := hb.size
          clear hb
          have Vn62 := Lib.hid tn
          clear tn
          refine wpAny_ready (rs := [4]) (by kernel_rfl) (by simp) ?_
          refine AllReady.cons rfl (fun KK hKK => ?_) AllReady.nil
          · skip
            have x0 := Xk62.out.c0
            have x1 := Xk62.out.c1
            go_simp
            clear x0 x1
            refine hKK _ _ ?_
            clear hKK KK
            refine wpAny_ready (rs := [5]) (by kernel_rfl) (by simp) ?_
            refine AllReady.cons rfl (fun KK hKK => ?_) AllReady.nil
            · skip
              go_simp
              refine (rMade_any r1 r2 V62 h1 h2).mono ?_
              rintro e V64 ⟨rfl, hb⟩
              have Ok64 := Lib.hid (Ok62.out.keep hb)
              clear Ok62
              have Xk64 := Lib.hid (Xk62.out.keep hb)
              clear Xk62
              have Sk64 := Lib.hid (Sk62.out.keep hb)
              clear Sk62
              have Vk64 := Lib.hid (Vn62.out.keep hb)
              clear Vn62
              have hbk64 := below_step hbk62 hb
              have hsk64 := hb.size
              clear hb
              refine hKK _ _ ?_
              clear hKK KK
              refine wpAny_ready (rs := [8]) (by kernel_rfl) (by simp) ?_
              refine AllReady.cons rfl (fun KK hKK => ?_) AllReady.nil
              · skip
                go_simp
                refine hKK _ _ ?_
                clear hKK KK
                refine wpAny_ready (rs := [9]) (by kernel_rfl) (by simp) ?_
                refine AllReady.cons rfl (fun KK hKK => ?_) AllReady.nil
                · skip
                  have z0 := Vk64.out.c0
                  have z1 := Vk64.out.c1
                  have f0 := Vk64.out.f0
                  have f1 := Vk64.out.f1
                  go_simp
                  refine hKK _ _ ?_
                  clear hKK KK
                  clear z0 z1 f0 f1
                  have tn := (Vk64.out.set0 (.int .u64 (vF (toE r1 r2).A))).set1 (.int .u64 (vF (toE r1 r2).B))
                  have hse : ∀ ad, A4 = some ad → ad.block ≠ V50.heap.size := fun ad ea => by have := hA1 ad ea; omega
                  have sn := (Sk64.out.far6 (a := ⟨V50.heap.size, 0, none⟩) (.int .u64 (vF (toE r1 r2).A)) hse).far6 (a := ⟨V50.heap.size, 1, none⟩) (.int .u64 (vF (toE r1 r2).B)) hse
                  have bn := (hbk64.setCell (p := ⟨V50.heap.size, 0, none⟩) (by simp only; omega) (.int .u64 (vF (toE r1 r2).A))).setCell (p := ⟨V50.heap.size, 1, none⟩) (by simp only; omega) (.int .u64 (vF (toE r1 r2).B))
                  clear Vk64 Sk64 Ok64 Xk64 hse
                  generalize (V64.setCell ⟨V50.heap.size, 0, none⟩ (.int .u64 (vF (toE r1 r2).A))).setCell ⟨V50.heap.size, 1, none⟩ (.int .u64 (vF (toE r1 r2).B)) = V66 at tn sn bn ⊢
                  have Vn66 := Lib.hid tn
                  have S66 := Lib.hid sn
                  clear tn sn
                  refine wpAny_ready (rs := [10]) (by kernel_rfl) (by simp) ?_
                  refine AllReady.cons rfl (fun KK hKK => ?_) AllReady.nil
                  · skip
                    go_simp
                    refine hKK _ _ ?_
                    clear hKK KK
                    refine wpAny_done (by kernel_rfl) ?_ _
                    go_wp2_with fail
                    go_meet
                    case rel => exact ⟨_, _, _, _, _, rfl, rfl, rfl, S66.out, Vn66.out, bn⟩
      · skip
        go_simp
        refine hKK _ _ ?_
        clear hKK KK
        have hb := (Below.refl V1.heap.size V1).alloc (Nat.le_refl _) (.cells #[.int .u64 0, .int .u64 0] 27)
        have hz68 : V1.heap.size < (V1.alloc (.cells #[.int .u64 0, .int .u64 0] 27)).heap.size := by rw [World.size_alloc]; omega
        have tn := Two.new V1 27 (.int .u64 0) (.int .u64 0)
        generalize V1.alloc (.cells #[.int .u64 0, .int .u64 0] 27) = V68 at hb hz68 tn ⊢
        have Ok68 := Lib.hid (Ok1.out.keep hb)
        clear Ok1
        have Xk68 := Lib.hid (Xk1.out.keep hb)
        clear Xk1
        have Sk68 := Lib.hid (S1.out.keep hb)
        clear S1
        have hbk68 := below_step hbk1 hb
        have hsk68 := hb.size
        clear hb
        have Vn68 := Lib.hid tn
        clear tn
        refine wpAny_ready (rs := [4, 6]) (by kernel_rfl) (by simp) ?_
        refine AllReady.cons rfl (fun KK hKK => ?_) (AllReady.cons rfl (fun KK hKK => ?_) AllReady.nil)
        · skip
          have x0 := Xk68.out.c0
          have x1 := Xk68.out.c1
          go_simp
          clear x0 x1
          refine hKK _ _ ?_
          clear hKK KK
          refine wpAny_ready (rs := [5, 6]) (by kernel_rfl) (by simp) ?_
          refine AllReady.cons rfl (fun KK hKK => ?_) (AllReady.cons rfl (fun KK hKK => ?_) AllReady.nil)
          · skip
            go_simp
            refine (rMade_any r1 r2 V68 h1 h2).mono ?_
            rintro e V70 ⟨rfl, hb⟩
            have Ok70 := Lib.hid (Ok68.out.keep hb)
            clear Ok68
            have Xk70 := Lib.hid (Xk68.out.keep hb)
            clear Xk68
            have Sk70 := Lib.hid (Sk68.out.keep hb)
            clear Sk68
            have Vk70 := Lib.hid (Vn68.out.keep hb)
            clear Vn68
            have hbk70 := below_step hbk68 hb
            have hsk70 := hb.size
            clear hb
            refine hKK _ _ ?_
            clear hKK KK
            refine wpAny_ready (rs := [6, 8]) (by kernel_rfl) (by simp) ?_
            refine AllReady.cons rfl (fun KK hKK => ?_) (AllReady.cons rfl (fun KK hKK => ?_) AllReady.nil)
            · skip
              go_simp
              refine hKK _ _ ?_
              clear hKK KK
              have hb := (Below.refl V70.heap.size V70).alloc (Nat.le_refl _) (.cells #[] 27)
              have hz71 : V70.heap.size < (V70.alloc (.cells #[] 27)).heap.size := by rw [World.size_alloc]; omega
              generalize V70.alloc (.cells #[] 27) = V71 at hb hz71 ⊢
              have Ok71 := Lib.hid (Ok70.out.keep hb)
              clear Ok70
              have Xk71 := Lib.hid (Xk70.out.keep hb)
              clear Xk70
              have Sk71 := Lib.hid (Sk70.out.keep hb)
              clear Sk70
              have Vk71 := Lib.hid (Vk70.out.keep hb)
              clear Vk70
              have hbk71 := below_step hbk70 hb
              have hsk71 := hb.size
              clear hb
              refine wpAny_ready (rs := [8]) (by kernel_rfl) (by simp) ?_
              refine AllReady.cons rfl (fun KK hKK => ?_) AllReady.nil
              · skip
                go_simp
                refine hKK _ _ ?_
                clear hKK KK
                refine wpAny_ready (rs := [9]) (by kernel_rfl) (by simp) ?_
                refine AllReady.cons rfl (fun KK hKK => ?_) AllReady.nil
                · skip
                  have z0 := Vk71.out.c0
                  have z1 := Vk71.out.c1
                  have f0 := Vk71.out.f0
                  have f1 := Vk71.out.f1
                  go_simp
                  refine hKK _ _ ?_
                  clear hKK KK
                  clear z0 z1 f0 f1
                  have tn := (Vk71.out.set0 (.int .u64 (vF (toE r1 r2).A))).set1 (.int .u64 (vF (toE r1 r2).B))
                  have hse : ∀ ad, A4 = some ad → ad.block ≠ V1.heap.size := fun ad ea => by have := hA1 ad ea; omega
                  have sn := (Sk71.out.far6 (a := ⟨V1.heap.size, 0, none⟩) (.int .u64 (vF (toE r1 r2).A)) hse).far6 (a := ⟨V1.heap.size, 1, none⟩) (.int .u64 (vF (toE r1 r2).B)) hse
                  have bn := (hbk71.setCell (p := ⟨V1.heap.size, 0, none⟩) (by simp only; omega) (.int .u64 (vF (toE r1 r2).A))).setCell (p := ⟨V1.heap.size, 1, none⟩) (by simp only; omega) (.int .u64 (vF (toE r1 r2).B))
                  clear Vk71 Sk71 Ok71 Xk71 hse
                  generalize (V71.setCell ⟨V1.heap.size, 0, none⟩ (.int .u64 (vF (toE r1 r2).A))).setCell ⟨V1.heap.size, 1, none⟩ (.int .u64 (vF (toE r1 r2).B)) = V73 at tn sn bn ⊢
                  have Vn73 := Lib.hid tn
                  have S73 := Lib.hid sn
                  clear tn sn
                  refine wpAny_ready (rs := [10]) (by kernel_rfl) (by simp) ?_
                  refine AllReady.cons rfl (fun KK hKK => ?_) AllReady.nil
                  · skip
                    go_simp
                    refine hKK _ _ ?_
                    clear hKK KK
                    refine wpAny_done (by kernel_rfl) ?_ _
                    go_wp2_with fail
                    go_meet
                    case rel => exact ⟨_, _, _, _, _, rfl, rfl, rfl, S73.out, Vn73.out, bn⟩
            · skip
              go_simp
              refine hKK _ _ ?_
              clear hKK KK
              refine wpAny_ready (rs := [6, 9]) (by kernel_rfl) (by simp) ?_
              refine AllReady.cons rfl (fun KK hKK => ?_) (AllReady.cons rfl (fun KK hKK => ?_) AllReady.nil)
              · skip
                go_simp
                refine hKK _ _ ?_
                clear hKK KK
                have hb := (Below.refl V70.heap.size V70).alloc (Nat.le_refl _) (.cells #[] 27)
                have hz76 : V70.heap.size < (V70.alloc (.cells #[] 27)).heap.size := by rw [World.size_alloc]; omega
                generalize V70.alloc (.cells #[] 27) = V76 at hb hz76 ⊢
                have Ok76 := Lib.hid (Ok70.out.keep hb)
                clear Ok70
                have Xk76 := Lib.hid (Xk70.out.keep hb)
                clear Xk70
                have Sk76 := Lib.hid (Sk70.out.keep hb)
                clear Sk70
                have Vk76 := Lib.hid (Vk70.out.keep hb)
                clear Vk70
                have hbk76 := below_step hbk70 hb
                have hsk76 := hb.size
                clear hb
                refine wpAny_ready (rs := [9]) (by kernel_rfl) (by simp) ?_
                refine AllReady.cons rfl (fun KK hKK => ?_) AllReady.nil
                · skip
                  have z0 := Vk76.out.c0
                  have z1 := Vk76.out.c1
                  have f0 := Vk76.out.f0
                  have f1 := Vk76.out.f1
                  go_simp
                  refine hKK _ _ ?_
                  clear hKK KK
                  clear z0 z1 f0 f1
                  have tn := (Vk76.out.set0 (.int .u64 (vF (toE r1 r2).A))).set1 (.int .u64 (vF (toE r1 r2).B))
                  have hse : ∀ ad, A4 = some ad → ad.block ≠ V1.heap.size := fun ad ea => by have := hA1 ad ea; omega
                  have sn := (Sk76.out.far6 (a := ⟨V1.heap.size, 0, none⟩) (.int .u64 (vF (toE r1 r2).A)) hse).far6 (a := ⟨V1.heap.size, 1, none⟩) (.int .u64 (vF (toE r1 r2).B)) hse
                  have bn := (hbk76.setCell (p := ⟨V1.heap.size, 0, none⟩) (by simp only; omega) (.int .u64 (vF (toE r1 r2).A))).setCell (p := ⟨V1.heap.size, 1, none⟩) (by simp only; omega) (.int .u64 (vF (toE r1 r2).B))
                  clear Vk76 Sk76 Ok76 Xk76 hse
                  generalize (V76.setCell ⟨V1.heap.size, 0, none⟩ (.int .u64 (vF (toE r1 r2).A))).setCell ⟨V1.heap.size, 1, none⟩ (.int .u64 (vF (toE r1 r2).B)) = V77 at tn sn bn ⊢
                  have Vn77 := Lib.hid tn
                  have S77 := Lib.hid sn
                  clear tn sn
                  refine wpAny_ready (rs := [10]) (by kernel_rfl) (by simp) ?_
                  refine AllReady.cons rfl (fun KK hKK => ?_) AllReady.nil
                  · skip
                    go_simp
                    refine hKK _ _ ?_
                    clear hKK KK
                    refine wpAny_done (by kernel_rfl) ?_ _
                    go_wp2_with fail
                    go_meet
                    case rel => exact ⟨_, _, _, _, _, rfl, rfl, rfl, S77.out, Vn77.out, bn⟩
              · skip
                have z0 := Vk70.out.c0
                have z1 := Vk70.out.c1
                have f0 := Vk70.out.f0
                have f1 := Vk70.out.f1
                go_simp
                refine hKK _ _ ?_
                clear hKK KK
                clear z0 z1 f0 f1
                have tn := (Vk70.out.set0 (.int .u64 (vF (toE r1 r2).A))).set1 (.int .u64 (vF (toE r1 r2).B))
                have hse : ∀ ad, A4 = some ad → ad.block ≠ V1.heap.size := fun ad ea => by have := hA1 ad ea; omega
                have sn := (Sk70.out.far6 (a := ⟨V1.heap.size, 0, none⟩) (.int .u64 (vF (toE r1 r2).A)) hse).far6 (a := ⟨V1.heap.size, 1, none⟩) (.int .u64 (vF (toE r1 r2).B)) hse
                have bn := (hbk70.setCell (p := ⟨V1.heap.size, 0, none⟩) (by simp only; omega) (.int .u64 (vF (toE r1 r2).A))).setCell (p := ⟨V1.heap.size, 1, none⟩) (by simp only; omega) (.int .u64 (vF (toE r1 r2).B))
                clear Vk70 Sk70 Ok70 Xk70 hse
                generalize (V70.setCell ⟨V1.heap.size, 0, none⟩ (.int .u64 (vF (toE r1 r2).A))).setCell ⟨V1.heap.size, 1, none⟩ (.int .u64 (vF (toE r1 r2).B)) = V79 at tn sn bn ⊢
                have Vn79 := Lib.hid tn
                have S79 := Lib.hid sn
                clear tn sn
                refine wpAny_ready (rs := [6]) (by kernel_rfl) (by simp) ?_
                refine AllReady.cons rfl (fun KK hKK => ?_) AllReady.nil
                · skip
                  go_simp
                  refine hKK _ _ ?_
                  clear hKK KK
                  have hb := (Below.refl V79.heap.size V79).alloc (Nat.le_refl _) (.cells #[] 27)
                  have hz80 : V79.heap.size < (V79.alloc (.cells #[] 27)).heap.size := by rw [World.size_alloc]; omega
                  generalize V79.alloc (.cells #[] 27) = V80 at hb hz80 ⊢
                  have Sk80 := Lib.hid (S79.out.keep hb)
                  clear S79
                  have Vk80 := Lib.hid (Vn79.out.keep hb)
                  clear Vn79
                  have hbk80 := below_step bn hb
                  have hsk80 := hb.size
                  clear hb
                  refine wpAny_ready (rs := [10]) (by kernel_rfl) (by simp) ?_
                  refine AllReady.cons rfl (fun KK hKK => ?_) AllReady.nil
                  · skip
                    go_simp
                    refine hKK _ _ ?_
                    clear hKK KK
                    refine wpAny_done (by kernel_rfl) ?_ _
                    go_wp2_with fail
                    go_meet
                    case rel => exact ⟨_, _, _, _, _, rfl, rfl, rfl, Sk80.out, Vk80.out, hbk80⟩
          · skip
            go_simp
            refine hKK _ _ ?_
            clear hKK KK
            have hb := (Below.refl V68.heap.size V68).alloc (Nat.le_refl _) (.cells #[] 27)
            have hz82 : V68.heap.size < (V68.alloc (.cells #[] 27)).heap.size := by rw [World.size_alloc]; omega
            generalize V68.alloc (.cells #[] 27) = V82 at hb hz82 ⊢
            have Ok82 := Lib.hid (Ok68.out.keep hb)
            clear Ok68
            have Xk82 := Lib.hid (Xk68.out.keep hb)
            clear Xk68
            have Sk82 := Lib.hid (Sk68.out.keep hb)
            clear Sk68
            have Vk82 := Lib.hid (Vn68.out.keep hb)
            clear Vn68
            have hbk82 := below_step hbk68 hb
            have hsk82 := hb.size
            clear hb
            refine wpAny_ready (rs := [5]) (by kernel_rfl) (by simp) ?_
            refine AllReady.cons rfl (fun KK hKK => ?_) AllReady.nil
            · skip
              go_simp
              refine (rMade_any r1 r2 V82 h1 h2).mono ?_
              rintro e V83 ⟨rfl, hb⟩
              have Ok83 := Lib.hid (Ok82.out.keep hb)
              clear Ok82
              have Xk83 := Lib.hid (Xk82.out.keep hb)
              clear Xk82
              have Sk83 := Lib.hid (Sk82.out.keep hb)
              clear Sk82
              have Vk83 := Lib.hid (Vk82.out.keep hb)
              clear Vk82
              have hbk83 := below_step hbk82 hb
              have hsk83 := hb.size
              clear hb
              refine hKK _ _ ?_
              clear hKK KK
              refine wpAny_ready (rs := [8]) (by kernel_rfl) (by simp) ?_
              refine AllReady.cons rfl (fun KK hKK => ?_) AllReady.nil
              · skip
                go_simp
                refine hKK _ _ ?_
                clear hKK KK
                refine wpAny_ready (rs := [9]) (by kernel_rfl) (by simp) ?_
                refine AllReady.cons rfl (fun KK hKK => ?_) AllReady.nil
                · skip
                  have z0 := Vk83.out.c0
                  have z1 := Vk83.out.c1
                  have f0 := Vk83.out.f0
                  have f1 := Vk83.out.f1
                  go_simp
                  refine hKK _ _ ?_
                  clear hKK KK
                  clear z0 z1 f0 f1
                  have tn := (Vk83.out.set0 (.int .u64 (vF (toE r1 r2).A))).set1 (.int .u64 (vF (toE r1 r2).B))
                  have hse : ∀ ad, A4 = some ad → ad.block ≠ V1.heap.size := fun ad ea => by have := hA1 ad ea; omega
                  have sn := (Sk83.out.far6 (a := ⟨V1.heap.size, 0, none⟩) (.int .u64 (vF (toE r1 r2).A)) hse).far6 (a := ⟨V1.heap.size, 1, none⟩) (.int .u64 (vF (toE r1 r2).B)) hse
                  have bn := (hbk83.setCell (p := ⟨V1.heap.size, 0, none⟩) (by simp only; omega) (.int .u64 (vF (toE r1 r2).A))).setCell (p := ⟨V1.heap.size, 1, none⟩) (by simp only; omega) (.int .u64 (vF (toE r1 r2).B))
                  clear Vk83 Sk83 Ok83 Xk83 hse
                  generalize (V83.setCell ⟨V1.heap.size, 0, none⟩ (.int .u64 (vF (toE r1 r2).A))).setCell ⟨V1.heap.size, 1, none⟩ (.int .u64 (vF (toE r1 r2).B)) = V85 at tn sn bn ⊢
                  have Vn85 := Lib.hid tn
                  have S85 := Lib.hid sn
                  clear tn sn
                  refine wpAny_ready (rs := [10]) (by kernel_rfl) (by simp) ?_
                  refine AllReady.cons rfl (fun KK hKK => ?_) AllReady.nil
                  · skip
                    go_simp
                    refine hKK _ _ ?_
                    clear hKK KK
                    refine wpAny_done (by kernel_rfl) ?_ _
                    go_wp2_with fail
                    go_meet
                    case rel => exact ⟨_, _, _, _, _, rfl, rfl, rfl, S85.out, Vn85.out, bn⟩
        · skip
          go_simp
          refine hKK _ _ ?_
          clear hKK KK
          have hb := (Below.refl V68.heap.size V68).alloc (Nat.le_refl _) (.cells #[] 27)
          have hz87 : V68.heap.size < (V68.alloc (.cells #[] 27)).heap.size := by rw [World.size_alloc]; omega
          generalize V68.alloc (.cells #[] 27) = V87 at hb hz87 ⊢
          have Ok87 := Lib.hid (Ok68.out.keep hb)
          clear Ok68
          have Xk87 := Lib.hid (Xk68.out.keep hb)
          clear Xk68
          have Sk87 := Lib.hid (Sk68.out.keep hb)
          clear Sk68
          have Vk87 := Lib.hid (Vn68.out.keep hb)
          clear Vn68
          have hbk87 := below_step hbk68 hb
          have hsk87 := hb.size
          clear hb
          refine wpAny_ready (rs := [4]) (by kernel_rfl) (by simp) ?_
          refine AllReady.cons rfl (fun KK hKK => ?_) AllReady.nil
          · skip
            have x0 := Xk87.out.c0
            have x1 := Xk87.out.c1
            go_simp
            clear x0 x1
            refine hKK _ _ ?_
            clear hKK KK
            refine wpAny_ready (rs := [5]) (by kernel_rfl) (by simp) ?_
            refine AllReady.cons rfl (fun KK hKK => ?_) AllReady.nil
            · skip
              go_simp
              refine (rMade_any r1 r2 V87 h1 h2).mono ?_
              rintro e V89 ⟨rfl, hb⟩
              have Ok89 := Lib.hid (Ok87.out.keep hb)
              clear Ok87
              have Xk89 := Lib.hid (Xk87.out.keep hb)
              clear Xk87
              have Sk89 := Lib.hid (Sk87.out.keep hb)
              clear Sk87
              have Vk89 := Lib.hid (Vk87.out.keep hb)
              clear Vk87
              have hbk89 := below_step hbk87 hb
              have hsk89 := hb.size
              clear hb
              refine hKK _ _ ?_
              clear hKK KK
              refine wpAny_ready (rs := [8]) (by kernel_rfl) (by simp) ?_
              refine AllReady.cons rfl (fun KK hKK => ?_) AllReady.nil
              · skip
                go_simp
                refine hKK _ _ ?_
                clear hKK KK
                refine wpAny_ready (rs := [9]) (by kernel_rfl) (by simp) ?_
                refine AllReady.cons rfl (fun KK hKK => ?_) AllReady.nil
                · skip
                  have z0 := Vk89.out.c0
                  have z1 := Vk89.out.c1
                  have f0 := Vk89.out.f0
                  have f1 := Vk89.out.f1
                  go_simp
                  refine hKK _ _ ?_
                  clear hKK KK
                  clear z0 z1 f0 f1
                  have tn := (Vk89.out.set0 (.int .u64 (vF (toE r1 r2).A))).set1 (.int .u64 (vF (toE r1 r2).B))
                  have hse : ∀ ad, A4 = some ad → ad.block ≠ V1.heap.size := fun ad ea => by have := hA1 ad ea; omega
                  have sn := (Sk89.out.far6 (a := ⟨V1.heap.size, 0, none⟩) (.int .u64 (vF (toE r1 r2).A)) hse).far6 (a := ⟨V1.heap.size, 1, none⟩) (.int .u64 (vF (toE r1 r2).B)) hse
                  have bn := (hbk89.setCell (p := ⟨V1.heap.size, 0, none⟩) (by simp only; omega) (.int .u64 (vF (toE r1 r2).A))).setCell (p := ⟨V1.heap.size, 1, none⟩) (by simp only; omega) (.int .u64 (vF (toE r1 r2).B))
                  clear Vk89 Sk89 Ok89 Xk89 hse
                  generalize (V89.setCell ⟨V1.heap.size, 0, none⟩ (.int .u64 (vF (toE r1 r2).A))).setCell ⟨V1.heap.size, 1, none⟩ (.int .u64 (vF (toE r1 r2).B)) = V91 at tn sn bn ⊢
                  have Vn91 := Lib.hid tn
                  have S91 := Lib.hid sn
                  clear tn sn
                  refine wpAny_ready (rs := [10]) (by kernel_rfl) (by simp) ?_
                  refine AllReady.cons rfl (fun KK hKK => ?_) AllReady.nil
                  · skip
                    go_simp
                    refine hKK _ _ ?_
                    clear hKK KK
                    refine wpAny_done (by kernel_rfl) ?_ _
                    go_wp2_with fail
                    go_meet
                    case rel => exact ⟨_, _, _, _, _, rfl, rfl, rfl, S91.out, Vn91.out, bn⟩
    · skip
      have x0 := X0.out.c0
      have x1 := X0.out.c1
      go_simp
      clear x0 x1
      refine hKK _ _ ?_
      clear hKK KK
      refine wpAny_ready (rs := [3, 6, 7]) (by kernel_rfl) (by simp) ?_
      refine AllReady.cons rfl (fun KK hKK => ?_) (AllReady.cons rfl (fun KK hKK => ?_) (AllReady.cons rfl (fun KK hKK => ?_) AllReady.nil))
      · skip
        go_simp
        refine (rTabMade_any L0 nL cL os K V0 O0.out wL.out (by omega)).mono ?_
        rintro e V94 ⟨A4, N4, c4, ys, rfl, hN4, hO4, hb⟩
        obtain rfl : N4 = M := hN4.trans HPOW.out.symm
        clear hN4
        have Ok94 := Lib.hid (O0.out.keep hb)
        clear O0
        have Xk94 := Lib.hid (X0.out.keep hb)
        clear X0
        have hbk94 := below_step hb0 hb
        have hsk94 := hb.size
        have hA94 : ∀ ad, A4 = some ad → V0.heap.size ≤ ad.block ∧ ad.block < V94.heap.size := fun ad ea => World.ownsRow.lt hO4 ad.block (by rw [ea]; rfl)
        have S94 := Lib.hid hO4.sl'
        clear hO4 hb
        refine hKK _ _ ?_
        clear hKK KK
        refine wpAny_ready (rs := [5, 6, 7]) (by kernel_rfl) (by simp) ?_
        refine AllReady.cons rfl (fun KK hKK => ?_) (AllReady.cons rfl (fun KK hKK => ?_) (AllReady.cons rfl (fun KK hKK => ?_) AllReady.nil))
        · skip
          go_simp
          refine (rMade_any r1 r2 V94 h1 h2).mono ?_
          rintro e V95 ⟨rfl, hb⟩
          have Ok95 := Lib.hid (Ok94.out.keep hb)
          clear Ok94
          have Xk95 := Lib.hid (Xk94.out.keep hb)
          clear Xk94
          have Sk95 := Lib.hid (S94.out.keep hb)
          clear S94
          have hbk95 := below_step hbk94 hb
          have hsk95 := hb.size
          clear hb
          refine hKK _ _ ?_
          clear hKK KK
          refine wpAny_ready (rs := [6, 7]) (by kernel_rfl) (by simp) ?_
          refine AllReady.cons rfl (fun KK hKK => ?_) (AllReady.cons rfl (fun KK hKK => ?_) AllReady.nil)
          · skip
            go_simp
            refine hKK _ _ ?_
            clear hKK KK
            have hb := (Below.refl V95.heap.size V95).alloc (Nat.le_refl _) (.cells #[] 27)
            have hz96 : V95.heap.size < (V95.alloc (.cells #[] 27)).heap.size := by rw [World.size_alloc]; omega
            generalize V95.alloc (.cells #[] 27) = V96 at hb hz96 ⊢
            have Ok96 := Lib.hid (Ok95.out.keep hb)
            clear Ok95
            have Xk96 := Lib.hid (Xk95.out.keep hb)
            clear Xk95
            have Sk96 := Lib.hid (Sk95.out.keep hb)
            clear Sk95
            have hbk96 := below_step hbk95 hb
            have hsk96 := hb.size
            clear hb
            refine wpAny_ready (rs := [7]) (by kernel_rfl) (by simp) ?_
            refine AllReady.cons rfl (fun KK hKK => ?_) AllReady.nil
            · skip
              go_simp
              refine hKK _ _ ?_
              clear hKK KK
              have hb := (Below.refl V96.heap.size V96).alloc (Nat.le_refl _) (.cells #[.int .u64 0, .int .u64 0] 27)
              have hz97 : V96.heap.size < (V96.alloc (.cells #[.int .u64 0, .int .u64 0] 27)).heap.size := by rw [World.size_alloc]; omega
              have tn := Two.new V96 27 (.int .u64 0) (.int .u64 0)
              generalize V96.alloc (.cells #[.int .u64 0, .int .u64 0] 27) = V97 at hb hz97 tn ⊢
              have Ok97 := Lib.hid (Ok96.out.keep hb)
              clear Ok96
              have Xk97 := Lib.hid (Xk96.out.keep hb)
              clear Xk96
              have Sk97 := Lib.hid (Sk96.out.keep hb)
              clear Sk96
              have hbk97 := below_step hbk96 hb
              have hsk97 := hb.size
              clear hb
              have Vn97 := Lib.hid tn
              clear tn
              refine wpAny_ready (rs := [8]) (by kernel_rfl) (by simp) ?_
              refine AllReady.cons rfl (fun KK hKK => ?_) AllReady.nil
              · skip
                go_simp
                refine hKK _ _ ?_
                clear hKK KK
                refine wpAny_ready (rs := [9]) (by kernel_rfl) (by simp) ?_
                refine AllReady.cons rfl (fun KK hKK => ?_) AllReady.nil
                · skip
                  have z0 := Vn97.out.c0
                  have z1 := Vn97.out.c1
                  have f0 := Vn97.out.f0
                  have f1 := Vn97.out.f1
                  go_simp
                  refine hKK _ _ ?_
                  clear hKK KK
                  clear z0 z1 f0 f1
                  have tn := (Vn97.out.set0 (.int .u64 (vF (toE r1 r2).A))).set1 (.int .u64 (vF (toE r1 r2).B))
                  have hse : ∀ ad, A4 = some ad → ad.block ≠ V96.heap.size := fun ad ea => by have := hA94 ad ea; omega
                  have sn := (Sk97.out.far6 (a := ⟨V96.heap.size, 0, none⟩) (.int .u64 (vF (toE r1 r2).A)) hse).far6 (a := ⟨V96.heap.size, 1, none⟩) (.int .u64 (vF (toE r1 r2).B)) hse
                  have bn := (hbk97.setCell (p := ⟨V96.heap.size, 0, none⟩) (by simp only; omega) (.int .u64 (vF (toE r1 r2).A))).setCell (p := ⟨V96.heap.size, 1, none⟩) (by simp only; omega) (.int .u64 (vF (toE r1 r2).B))
                  clear Vn97 Sk97 Ok97 Xk97 hse
                  generalize (V97.setCell ⟨V96.heap.size, 0, none⟩ (.int .u64 (vF (toE r1 r2).A))).setCell ⟨V96.heap.size, 1, none⟩ (.int .u64 (vF (toE r1 r2).B)) = V99 at tn sn bn ⊢
                  have Vn99 := Lib.hid tn
                  have S99 := Lib.hid sn
                  clear tn sn
                  refine wpAny_ready (rs := [10]) (by kernel_rfl) (by simp) ?_
                  refine AllReady.cons rfl (fun KK hKK => ?_) AllReady.nil
                  · skip
                    go_simp
                    refine hKK _ _ ?_
                    clear hKK KK
                    refine wpAny_done (by kernel_rfl) ?_ _
                    go_wp2_with fail
                    go_meet
                    case rel => exact ⟨_, _, _, _, _, rfl, rfl, rfl, S99.out, Vn99.out, bn⟩
          · skip
            go_simp
            refine hKK _ _ ?_
            clear hKK KK
            have hb := (Below.refl V95.heap.size V95).alloc (Nat.le_refl _) (.cells #[.int .u64 0, .int .u64 0] 27)
            have hz101 : V95.heap.size < (V95.alloc (.cells #[.int .u64 0, .int .u64 0] 27)).heap.size := by rw [World.size_alloc]; omega
            have tn := Two.new V95 27 (.int .u64 0) (.int .u64 0)
            generalize V95.alloc (.cells #[.int .u64 0, .int .u64 0] 27) = V101 at hb hz101 tn ⊢
            have Ok101 := Lib.hid (Ok95.out.keep hb)
            clear Ok95
            have Xk101 := Lib.hid (Xk95.out.keep hb)
            clear Xk95
            have Sk101 := Lib.hid (Sk95.out.keep hb)
            clear Sk95
            have hbk101 := below_step hbk95 hb
            have hsk101 := hb.size
            clear hb
            have Vn101 := Lib.hid tn
            clear tn
            refine wpAny_ready (rs := [6, 8]) (by kernel_rfl) (by simp) ?_
            refine AllReady.cons rfl (fun KK hKK => ?_) (AllReady.cons rfl (fun KK hKK => ?_) AllReady.nil)
            · skip
              go_simp
              refine hKK _ _ ?_
              clear hKK KK
              have hb := (Below.refl V101.heap.size V101).alloc (Nat.le_refl _) (.cells #[] 27)
              have hz102 : V101.heap.size < (V101.alloc (.cells #[] 27)).heap.size := by rw [World.size_alloc]; omega
              generalize V101.alloc (.cells #[] 27) = V102 at hb hz102 ⊢
              have Ok102 := Lib.hid (Ok101.out.keep hb)
              clear Ok101
              have Xk102 := Lib.hid (Xk101.out.keep hb)
              clear Xk101
              have Sk102 := Lib.hid (Sk101.out.keep hb)
              clear Sk101
              have Vk102 := Lib.hid (Vn101.out.keep hb)
              clear Vn101
              have hbk102 := below_step hbk101 hb
              have hsk102 := hb.size
              clear hb
              refine wpAny_ready (rs := [8]) (by kernel_rfl) (by simp) ?_
              refine AllReady.cons rfl (fun KK hKK => ?_) AllReady.nil
              · skip
                go_simp
                refine hKK _ _ ?_
                clear hKK KK
                refine wpAny_ready (rs := [9]) (by kernel_rfl) (by simp) ?_
                refine AllReady.cons rfl (fun KK hKK => ?_) AllReady.nil
                · skip
                  have z0 := Vk102.out.c0
                  have z1 := Vk102.out.c1
                  have f0 := Vk102.out.f0
                  have f1 := Vk102.out.f1
                  go_simp
                  refine hKK _ _ ?_
                  clear hKK KK
                  clear z0 z1 f0 f1
                  have tn := (Vk102.out.set0 (.int .u64 (vF (toE r1 r2).A))).set1 (.int .u64 (vF (toE r1 r2).B))
                  have hse : ∀ ad, A4 = some ad → ad.block ≠ V95.heap.size := fun ad ea => by have := hA94 ad ea; omega
                  have sn := (Sk102.out.far6 (a := ⟨V95.heap.size, 0, none⟩) (.int .u64 (vF (toE r1 r2).A)) hse).far6 (a := ⟨V95.heap.size, 1, none⟩) (.int .u64 (vF (toE r1 r2).B)) hse
                  have bn := (hbk102.setCell (p := ⟨V95.heap.size, 0, none⟩) (by simp only; omega) (.int .u64 (vF (toE r1 r2).A))).setCell (p := ⟨V95.heap.size, 1, none⟩) (by simp only; omega) (.int .u64 (vF (toE r1 r2).B))
                  clear Vk102 Sk102 Ok102 Xk102 hse
                  generalize (V102.setCell ⟨V95.heap.size, 0, none⟩ (.int .u64 (vF (toE r1 r2).A))).setCell ⟨V95.heap.size, 1, none⟩ (.int .u64 (vF (toE r1 r2).B)) = V104 at tn sn bn ⊢
                  have Vn104 := Lib.hid tn
                  have S104 := Lib.hid sn
                  clear tn sn
                  refine wpAny_ready (rs := [10]) (by kernel_rfl) (by simp) ?_
                  refine AllReady.cons rfl (fun KK hKK => ?_) AllReady.nil
                  · skip
                    go_simp
                    refine hKK _ _ ?_
                    clear hKK KK
                    refine wpAny_done (by kernel_rfl) ?_ _
                    go_wp2_with fail
                    go_meet
                    case rel => exact ⟨_, _, _, _, _, rfl, rfl, rfl, S104.out, Vn104.out, bn⟩
            · skip
              go_simp
              refine hKK _ _ ?_
              clear hKK KK
              refine wpAny_ready (rs := [6, 9]) (by kernel_rfl) (by simp) ?_
              refine AllReady.cons rfl (fun KK hKK => ?_) (AllReady.cons rfl (fun KK hKK => ?_) AllReady.nil)
              · skip
                go_simp
                refine hKK _ _ ?_
                clear hKK KK
                have hb := (Below.refl V101.heap.size V101).alloc (Nat.le_refl _) (.cells #[] 27)
                have hz107 : V101.heap.size < (V101.alloc (.cells #[] 27)).heap.size := by rw [World.size_alloc]; omega
                generalize V101.alloc (.cells #[] 27) = V107 at hb hz107 ⊢
                have Ok107 := Lib.hid (Ok101.out.keep hb)
                clear Ok101
                have Xk107 := Lib.hid (Xk101.out.keep hb)
                clear Xk101
                have Sk107 := Lib.hid (Sk101.out.keep hb)
                clear Sk101
                have Vk107 := Lib.hid (Vn101.out.keep hb)
                clear Vn101
                have hbk107 := below_step hbk101 hb
                have hsk107 := hb.size
                clear hb
                refine wpAny_ready (rs := [9]) (by kernel_rfl) (by simp) ?_
                refine AllReady.cons rfl (fun KK hKK => ?_) AllReady.nil
                · skip
                  have z0 := Vk107.out.c0
                  have z1 := Vk107.out.c1
                  have f0 := Vk107.out.f0
                  have f1 := Vk107.out.f1
                  go_simp
                  refine hKK _ _ ?_
                  clear hKK KK
                  clear z0 z1 f0 f1
                  have tn := (Vk107.out.set0 (.int .u64 (vF (toE r1 r2).A))).set1 (.int .u64 (vF (toE r1 r2).B))
                  have hse : ∀ ad, A4 = some ad → ad.block ≠ V95.heap.size := fun ad ea => by have := hA94 ad ea; omega
                  have sn := (Sk107.out.far6 (a := ⟨V95.heap.size, 0, none⟩) (.int .u64 (vF (toE r1 r2).A)) hse).far6 (a := ⟨V95.heap.size, 1, none⟩) (.int .u64 (vF (toE r1 r2).B)) hse
                  have bn := (hbk107.setCell (p := ⟨V95.heap.size, 0, none⟩) (by simp only; omega) (.int .u64 (vF (toE r1 r2).A))).setCell (p := ⟨V95.heap.size, 1, none⟩) (by simp only; omega) (.int .u64 (vF (toE r1 r2).B))
                  clear Vk107 Sk107 Ok107 Xk107 hse
                  generalize (V107.setCell ⟨V95.heap.size, 0, none⟩ (.int .u64 (vF (toE r1 r2).A))).setCell ⟨V95.heap.size, 1, none⟩ (.int .u64 (vF (toE r1 r2).B)) = V108 at tn sn bn ⊢
                  have Vn108 := Lib.hid tn
                  have S108 := Lib.hid sn
                  clear tn sn
                  refine wpAny_ready (rs := [10]) (by kernel_rfl) (by simp) ?_
                  refine AllReady.cons rfl (fun KK hKK => ?_) AllReady.nil
                  · skip
                    go_simp
                    refine hKK _ _ ?_
                    clear hKK KK
                    refine wpAny_done (by kernel_rfl) ?_ _
                    go_wp2_with fail
                    go_meet
                    case rel => exact ⟨_, _, _, _, _, rfl, rfl, rfl, S108.out, Vn108.out, bn⟩
              · skip
                have z0 := Vn101.out.c0
                have z1 := Vn101.out.c1
                have f0 := Vn101.out.f0
                have f1 := Vn101.out.f1
                go_simp
                refine hKK _ _ ?_
                clear hKK KK
                clear z0 z1 f0 f1
                have tn := (Vn101.out.set0 (.int .u64 (vF (toE r1 r2).A))).set1 (.int .u64 (vF (toE r1 r2).B))
                have hse : ∀ ad, A4 = some ad → ad.block ≠ V95.heap.size := fun ad ea => by have := hA94 ad ea; omega
                have sn := (Sk101.out.far6 (a := ⟨V95.heap.size, 0, none⟩) (.int .u64 (vF (toE r1 r2).A)) hse).far6 (a := ⟨V95.heap.size, 1, none⟩) (.int .u64 (vF (toE r1 r2).B)) hse
                have bn := (hbk101.setCell (p := ⟨V95.heap.size, 0, none⟩) (by simp only; omega) (.int .u64 (vF (toE r1 r2).A))).setCell (p := ⟨V95.heap.size, 1, none⟩) (by simp only; omega) (.int .u64 (vF (toE r1 r2).B))
                clear Vn101 Sk101 Ok101 Xk101 hse
                generalize (V101.setCell ⟨V95.heap.size, 0, none⟩ (.int .u64 (vF (toE r1 r2).A))).setCell ⟨V95.heap.size, 1, none⟩ (.int .u64 (vF (toE r1 r2).B)) = V110 at tn sn bn ⊢
                have Vn110 := Lib.hid tn
                have S110 := Lib.hid sn
                clear tn sn
                refine wpAny_ready (rs := [6]) (by kernel_rfl) (by simp) ?_
                refine AllReady.cons rfl (fun KK hKK => ?_) AllReady.nil
                · skip
                  go_simp
                  refine hKK _ _ ?_
                  clear hKK KK
                  have hb := (Below.refl V110.heap.size V110).alloc (Nat.le_refl _) (.cells #[] 27)
                  have hz111 : V110.heap.size < (V110.alloc (.cells #[] 27)).heap.size := by rw [World.size_alloc]; omega
                  generalize V110.alloc (.cells #[] 27) = V111 at hb hz111 ⊢
                  have Sk111 := Lib.hid (S110.out.keep hb)
                  clear S110
                  have Vk111 := Lib.hid (Vn110.out.keep hb)
                  clear Vn110
                  have hbk111 := below_step bn hb
                  have hsk111 := hb.size
                  clear hb
                  refine wpAny_ready (rs := [10]) (by kernel_rfl) (by simp) ?_
                  refine AllReady.cons rfl (fun KK hKK => ?_) AllReady.nil
                  · skip
                    go_simp
                    refine hKK _ _ ?_
                    clear hKK KK
                    refine wpAny_done (by kernel_rfl) ?_ _
                    go_wp2_with fail
                    go_meet
                    case rel => exact ⟨_, _, _, _, _, rfl, rfl, rfl, Sk111.out, Vk111.out, hbk111⟩
        · skip
          go_simp
          refine hKK _ _ ?_
          clear hKK KK
          have hb := (Below.refl V94.heap.size V94).alloc (Nat.le_refl _) (.cells #[] 27)
          have hz113 : V94.heap.size < (V94.alloc (.cells #[] 27)).heap.size := by rw [World.size_alloc]; omega
          generalize V94.alloc (.cells #[] 27) = V113 at hb hz113 ⊢
          have Ok113 := Lib.hid (Ok94.out.keep hb)
          clear Ok94
          have Xk113 := Lib.hid (Xk94.out.keep hb)
          clear Xk94
          have Sk113 := Lib.hid (S94.out.keep hb)
          clear S94
          have hbk113 := below_step hbk94 hb
          have hsk113 := hb.size
          clear hb
          refine wpAny_ready (rs := [5, 7]) (by kernel_rfl) (by simp) ?_
          refine AllReady.cons rfl (fun KK hKK => ?_) (AllReady.cons rfl (fun KK hKK => ?_) AllReady.nil)
          · skip
            go_simp
            refine (rMade_any r1 r2 V113 h1 h2).mono ?_
            rintro e V114 ⟨rfl, hb⟩
            have Ok114 := Lib.hid (Ok113.out.keep hb)
            clear Ok113
            have Xk114 := Lib.hid (Xk113.out.keep hb)
            clear Xk113
            have Sk114 := Lib.hid (Sk113.out.keep hb)
            clear Sk113
            have hbk114 := below_step hbk113 hb
            have hsk114 := hb.size
            clear hb
            refine hKK _ _ ?_
            clear hKK KK
            refine wpAny_ready (rs := [7]) (by kernel_rfl) (by simp) ?_
            refine AllReady.cons rfl (fun KK hKK => ?_) AllReady.nil
            · skip
              go_simp
              refine hKK _ _ ?_
              clear hKK KK
              have hb := (Below.refl V114.heap.size V114).alloc (Nat.le_refl _) (.cells #[.int .u64 0, .int .u64 0] 27)
              have hz115 : V114.heap.size < (V114.alloc (.cells #[.int .u64 0, .int .u64 0] 27)).heap.size := by rw [World.size_alloc]; omega
              have tn := Two.new V114 27 (.int .u64 0) (.int .u64 0)
              generalize V114.alloc (.cells #[.int .u64 0, .int .u64 0] 27) = V115 at hb hz115 tn ⊢
              have Ok115 := Lib.hid (Ok114.out.keep hb)
              clear Ok114
              have Xk115 := Lib.hid (Xk114.out.keep hb)
              clear Xk114
              have Sk115 := Lib.hid (Sk114.out.keep hb)
              clear Sk114
              have hbk115 := below_step hbk114 hb
              have hsk115 := hb.size
              clear hb
              have Vn115 := Lib.hid tn
              clear tn
              refine wpAny_ready (rs := [8]) (by kernel_rfl) (by simp) ?_
              refine AllReady.cons rfl (fun KK hKK => ?_) AllReady.nil
              · skip
                go_simp
                refine hKK _ _ ?_
                clear hKK KK
                refine wpAny_ready (rs := [9]) (by kernel_rfl) (by simp) ?_
                refine AllReady.cons rfl (fun KK hKK => ?_) AllReady.nil
                · skip
                  have z0 := Vn115.out.c0
                  have z1 := Vn115.out.c1
                  have f0 := Vn115.out.f0
                  have f1 := Vn115.out.f1
                  go_simp
                  refine hKK _ _ ?_
                  clear hKK KK
                  clear z0 z1 f0 f1
                  have tn := (Vn115.out.set0 (.int .u64 (vF (toE r1 r2).A))).set1 (.int .u64 (vF (toE r1 r2).B))
                  have hse : ∀ ad, A4 = some ad → ad.block ≠ V114.heap.size := fun ad ea => by have := hA94 ad ea; omega
                  have sn := (Sk115.out.far6 (a := ⟨V114.heap.size, 0, none⟩) (.int .u64 (vF (toE r1 r2).A)) hse).far6 (a := ⟨V114.heap.size, 1, none⟩) (.int .u64 (vF (toE r1 r2).B)) hse
                  have bn := (hbk115.setCell (p := ⟨V114.heap.size, 0, none⟩) (by simp only; omega) (.int .u64 (vF (toE r1 r2).A))).setCell (p := ⟨V114.heap.size, 1, none⟩) (by simp only; omega) (.int .u64 (vF (toE r1 r2).B))
                  clear Vn115 Sk115 Ok115 Xk115 hse
                  generalize (V115.setCell ⟨V114.heap.size, 0, none⟩ (.int .u64 (vF (toE r1 r2).A))).setCell ⟨V114.heap.size, 1, none⟩ (.int .u64 (vF (toE r1 r2).B)) = V117 at tn sn bn ⊢
                  have Vn117 := Lib.hid tn
                  have S117 := Lib.hid sn
                  clear tn sn
                  refine wpAny_ready (rs := [10]) (by kernel_rfl) (by simp) ?_
                  refine AllReady.cons rfl (fun KK hKK => ?_) AllReady.nil
                  · skip
                    go_simp
                    refine hKK _ _ ?_
                    clear hKK KK
                    refine wpAny_done (by kernel_rfl) ?_ _
                    go_wp2_with fail
                    go_meet
                    case rel => exact ⟨_, _, _, _, _, rfl, rfl, rfl, S117.out, Vn117.out, bn⟩
          · skip
            go_simp
            refine hKK _ _ ?_
            clear hKK KK
            have hb := (Below.refl V113.heap.size V113).alloc (Nat.le_refl _) (.cells #[.int .u64 0, .int .u64 0] 27)
            have hz119 : V113.heap.size < (V113.alloc (.cells #[.int .u64 0, .int .u64 0] 27)).heap.size := by rw [World.size_alloc]; omega
            have tn := Two.new V113 27 (.int .u64 0) (.int .u64 0)
            generalize V113.alloc (.cells #[.int .u64 0, .int .u64 0] 27) = V119 at hb hz119 tn ⊢
            have Ok119 := Lib.hid (Ok113.out.keep hb)
            clear Ok113
            have Xk119 := Lib.hid (Xk113.out.keep hb)
            clear Xk113
            have Sk119 := Lib.hid (Sk113.out.keep hb)
            clear Sk113
            have hbk119 := below_step hbk113 hb
            have hsk119 := hb.size
            clear hb
            have Vn119 := Lib.hid tn
            clear tn
            refine wpAny_ready (rs := [5]) (by kernel_rfl) (by simp) ?_
            refine AllReady.cons rfl (fun KK hKK => ?_) AllReady.nil
            · skip
              go_simp
              refine (rMade_any r1 r2 V119 h1 h2).mono ?_
              rintro e V120 ⟨rfl, hb⟩
              have Ok120 := Lib.hid (Ok119.out.keep hb)
              clear Ok119
              have Xk120 := Lib.hid (Xk119.out.keep hb)
              clear Xk119
              have Sk120 := Lib.hid (Sk119.out.keep hb)
              clear Sk119
              have Vk120 := Lib.hid (Vn119.out.keep hb)
              clear Vn119
              have hbk120 := below_step hbk119 hb
              have hsk120 := hb.size
              clear hb
              refine hKK _ _ ?_
              clear hKK KK
              refine wpAny_ready (rs := [8]) (by kernel_rfl) (by simp) ?_
              refine AllReady.cons rfl (fun KK hKK => ?_) AllReady.nil
              · skip
                go_simp
                refine hKK _ _ ?_
                clear hKK KK
                refine wpAny_ready (rs := [9]) (by kernel_rfl) (by simp) ?_
                refine AllReady.cons rfl (fun KK hKK => ?_) AllReady.nil
                · skip
                  have z0 := Vk120.out.c0
                  have z1 := Vk120.out.c1
                  have f0 := Vk120.out.f0
                  have f1 := Vk120.out.f1
                  go_simp
                  refine hKK _ _ ?_
                  clear hKK KK
                  clear z0 z1 f0 f1
                  have tn := (Vk120.out.set0 (.int .u64 (vF (toE r1 r2).A))).set1 (.int .u64 (vF (toE r1 r2).B))
                  have hse : ∀ ad, A4 = some ad → ad.block ≠ V113.heap.size := fun ad ea => by have := hA94 ad ea; omega
                  have sn := (Sk120.out.far6 (a := ⟨V113.heap.size, 0, none⟩) (.int .u64 (vF (toE r1 r2).A)) hse).far6 (a := ⟨V113.heap.size, 1, none⟩) (.int .u64 (vF (toE r1 r2).B)) hse
                  have bn := (hbk120.setCell (p := ⟨V113.heap.size, 0, none⟩) (by simp only; omega) (.int .u64 (vF (toE r1 r2).A))).setCell (p := ⟨V113.heap.size, 1, none⟩) (by simp only; omega) (.int .u64 (vF (toE r1 r2).B))
                  clear Vk120 Sk120 Ok120 Xk120 hse
                  generalize (V120.setCell ⟨V113.heap.size, 0, none⟩ (.int .u64 (vF (toE r1 r2).A))).setCell ⟨V113.heap.size, 1, none⟩ (.int .u64 (vF (toE r1 r2).B)) = V122 at tn sn bn ⊢
                  have Vn122 := Lib.hid tn
                  have S122 := Lib.hid sn
                  clear tn sn
                  refine wpAny_ready (rs := [10]) (by kernel_rfl) (by simp) ?_
                  refine AllReady.cons rfl (fun KK hKK => ?_) AllReady.nil
                  · skip
                    go_simp
                    refine hKK _ _ ?_
                    clear hKK KK
                    refine wpAny_done (by kernel_rfl) ?_ _
                    go_wp2_with fail
                    go_meet
                    case rel => exact ⟨_, _, _, _, _, rfl, rfl, rfl, S122.out, Vn122.out, bn⟩
        · skip
          go_simp
          refine hKK _ _ ?_
          clear hKK KK
          have hb := (Below.refl V94.heap.size V94).alloc (Nat.le_refl _) (.cells #[.int .u64 0, .int .u64 0] 27)
          have hz124 : V94.heap.size < (V94.alloc (.cells #[.int .u64 0, .int .u64 0] 27)).heap.size := by rw [World.size_alloc]; omega
          have tn := Two.new V94 27 (.int .u64 0) (.int .u64 0)
          generalize V94.alloc (.cells #[.int .u64 0, .int .u64 0] 27) = V124 at hb hz124 tn ⊢
          have Ok124 := Lib.hid (Ok94.out.keep hb)
          clear Ok94
          have Xk124 := Lib.hid (Xk94.out.keep hb)
          clear Xk94
          have Sk124 := Lib.hid (S94.out.keep hb)
          clear S94
          have hbk124 := below_step hbk94 hb
          have hsk124 := hb.size
          clear hb
          have Vn124 := Lib.hid tn
          clear tn
          refine wpAny_ready (rs := [5, 6]) (by kernel_rfl) (by simp) ?_
          refine AllReady.cons rfl (fun KK hKK => ?_) (AllReady.cons rfl (fun KK hKK => ?_) AllReady.nil)
          · skip
            go_simp
            refine (rMade_any r1 r2 V124 h1 h2).mono ?_
            rintro e V125 ⟨rfl, hb⟩
            have Ok125 := Lib.hid (Ok124.out.keep hb)
            clear Ok124
            have Xk125 := Lib.hid (Xk124.out.keep hb)
            clear Xk124
            have Sk125 := Lib.hid (Sk124.out.keep hb)
            clear Sk124
            have Vk125 := Lib.hid (Vn124.out.keep hb)
            clear Vn124
            have hbk125 := below_step hbk124 hb
            have hsk125 := hb.size
            clear hb
            refine hKK _ _ ?_
            clear hKK KK
            refine wpAny_ready (rs := [6, 8]) (by kernel_rfl) (by simp) ?_
            refine AllReady.cons rfl (fun KK hKK => ?_) (AllReady.cons rfl (fun KK hKK => ?_) AllReady.nil)
            · skip
              go_simp
              refine hKK _ _ ?_
              clear hKK KK
              have hb := (Below.refl V125.heap.size V125).alloc (Nat.le_refl _) (.cells #[] 27)
              have hz126 : V125.heap.size < (V125.alloc (.cells #[] 27)).heap.size := by rw [World.size_alloc]; omega
              generalize V125.alloc (.cells #[] 27) = V126 at hb hz126 ⊢
              have Ok126 := Lib.hid (Ok125.out.keep hb)
              clear Ok125
              have Xk126 := Lib.hid (Xk125.out.keep hb)
              clear Xk125
              have Sk126 := Lib.hid (Sk125.out.keep hb)
              clear Sk125
              have Vk126 := Lib.hid (Vk125.out.keep hb)
              clear Vk125
              have hbk126 := below_step hbk125 hb
              have hsk126 := hb.size
              clear hb
              refine wpAny_ready (rs := [8]) (by kernel_rfl) (by simp) ?_
              refine AllReady.cons rfl (fun KK hKK => ?_) AllReady.nil
              · skip
                go_simp
                refine hKK _ _ ?_
                clear hKK KK
                refine wpAny_ready (rs := [9]) (by kernel_rfl) (by simp) ?_
                refine AllReady.cons rfl (fun KK hKK => ?_) AllReady.nil
                · skip
                  have z0 := Vk126.out.c0
                  have z1 := Vk126.out.c1
                  have f0 := Vk126.out.f0
                  have f1 := Vk126.out.f1
                  go_simp
                  refine hKK _ _ ?_
                  clear hKK KK
                  clear z0 z1 f0 f1
                  have tn := (Vk126.out.set0 (.int .u64 (vF (toE r1 r2).A))).set1 (.int .u64 (vF (toE r1 r2).B))
                  have hse : ∀ ad, A4 = some ad → ad.block ≠ V94.heap.size := fun ad ea => by have := hA94 ad ea; omega
                  have sn := (Sk126.out.far6 (a := ⟨V94.heap.size, 0, none⟩) (.int .u64 (vF (toE r1 r2).A)) hse).far6 (a := ⟨V94.heap.size, 1, none⟩) (.int .u64 (vF (toE r1 r2).B)) hse
                  have bn := (hbk126.setCell (p := ⟨V94.heap.size, 0, none⟩) (by simp only; omega) (.int .u64 (vF (toE r1 r2).A))).setCell (p := ⟨V94.heap.size, 1, none⟩) (by simp only; omega) (.int .u64 (vF (toE r1 r2).B))
                  clear Vk126 Sk126 Ok126 Xk126 hse
                  generalize (V126.setCell ⟨V94.heap.size, 0, none⟩ (.int .u64 (vF (toE r1 r2).A))).setCell ⟨V94.heap.size, 1, none⟩ (.int .u64 (vF (toE r1 r2).B)) = V128 at tn sn bn ⊢
                  have Vn128 := Lib.hid tn
                  have S128 := Lib.hid sn
                  clear tn sn
                  refine wpAny_ready (rs := [10]) (by kernel_rfl) (by simp) ?_
                  refine AllReady.cons rfl (fun KK hKK => ?_) AllReady.nil
                  · skip
                    go_simp
                    refine hKK _ _ ?_
                    clear hKK KK
                    refine wpAny_done (by kernel_rfl) ?_ _
                    go_wp2_with fail
                    go_meet
                    case rel => exact ⟨_, _, _, _, _, rfl, rfl, rfl, S128.out, Vn128.out, bn⟩
            · skip
              go_simp
              refine hKK _ _ ?_
              clear hKK KK
              refine wpAny_ready (rs := [6, 9]) (by kernel_rfl) (by simp) ?_
              refine AllReady.cons rfl (fun KK hKK => ?_) (AllReady.cons rfl (fun KK hKK => ?_) AllReady.nil)
              · skip
                go_simp
                refine hKK _ _ ?_
                clear hKK KK
                have hb := (Below.refl V125.heap.size V125).alloc (Nat.le_refl _) (.cells #[] 27)
                have hz131 : V125.heap.size < (V125.alloc (.cells #[] 27)).heap.size := by rw [World.size_alloc]; omega
                generalize V125.alloc (.cells #[] 27) = V131 at hb hz131 ⊢
                have Ok131 := Lib.hid (Ok125.out.keep hb)
                clear Ok125
                have Xk131 := Lib.hid (Xk125.out.keep hb)
                clear Xk125
                have Sk131 := Lib.hid (Sk125.out.keep hb)
                clear Sk125
                have Vk131 := Lib.hid (Vk125.out.keep hb)
                clear Vk125
                have hbk131 := below_step hbk125 hb
                have hsk131 := hb.size
                clear hb
                refine wpAny_ready (rs := [9]) (by kernel_rfl) (by simp) ?_
                refine AllReady.cons rfl (fun KK hKK => ?_) AllReady.nil
                · skip
                  have z0 := Vk131.out.c0
                  have z1 := Vk131.out.c1
                  have f0 := Vk131.out.f0
                  have f1 := Vk131.out.f1
                  go_simp
                  refine hKK _ _ ?_
                  clear hKK KK
                  clear z0 z1 f0 f1
                  have tn := (Vk131.out.set0 (.int .u64 (vF (toE r1 r2).A))).set1 (.int .u64 (vF (toE r1 r2).B))
                  have hse : ∀ ad, A4 = some ad → ad.block ≠ V94.heap.size := fun ad ea => by have := hA94 ad ea; omega
                  have sn := (Sk131.out.far6 (a := ⟨V94.heap.size, 0, none⟩) (.int .u64 (vF (toE r1 r2).A)) hse).far6 (a := ⟨V94.heap.size, 1, none⟩) (.int .u64 (vF (toE r1 r2).B)) hse
                  have bn := (hbk131.setCell (p := ⟨V94.heap.size, 0, none⟩) (by simp only; omega) (.int .u64 (vF (toE r1 r2).A))).setCell (p := ⟨V94.heap.size, 1, none⟩) (by simp only; omega) (.int .u64 (vF (toE r1 r2).B))
                  clear Vk131 Sk131 Ok131 Xk131 hse
                  generalize (V131.setCell ⟨V94.heap.size, 0, none⟩ (.int .u64 (vF (toE r1 r2).A))).setCell ⟨V94.heap.size, 1, none⟩ (.int .u64 (vF (toE r1 r2).B)) = V132 at tn sn bn ⊢
                  have Vn132 := Lib.hid tn
                  have S132 := Lib.hid sn
                  clear tn sn
                  refine wpAny_ready (rs := [10]) (by kernel_rfl) (by simp) ?_
                  refine AllReady.cons rfl (fun KK hKK => ?_) AllReady.nil
                  · skip
                    go_simp
                    refine hKK _ _ ?_
                    clear hKK KK
                    refine wpAny_done (by kernel_rfl) ?_ _
                    go_wp2_with fail
                    go_meet
                    case rel => exact ⟨_, _, _, _, _, rfl, rfl, rfl, S132.out, Vn132.out, bn⟩
              · skip
                have z0 := Vk125.out.c0
                have z1 := Vk125.out.c1
                have f0 := Vk125.out.f0
                have f1 := Vk125.out.f1
                go_simp
                refine hKK _ _ ?_
                clear hKK KK
                clear z0 z1 f0 f1
                have tn := (Vk125.out.set0 (.int .u64 (vF (toE r1 r2).A))).set1 (.int .u64 (vF (toE r1 r2).B))
                have hse : ∀ ad, A4 = some ad → ad.block ≠ V94.heap.size := fun ad ea => by have := hA94 ad ea; omega
                have sn := (Sk125.out.far6 (a := ⟨V94.heap.size, 0, none⟩) (.int .u64 (vF (toE r1 r2).A)) hse).far6 (a := ⟨V94.heap.size, 1, none⟩) (.int .u64 (vF (toE r1 r2).B)) hse
                have bn := (hbk125.setCell (p := ⟨V94.heap.size, 0, none⟩) (by simp only; omega) (.int .u64 (vF (toE r1 r2).A))).setCell (p := ⟨V94.heap.size, 1, none⟩) (by simp only; omega) (.int .u64 (vF (toE r1 r2).B))
                clear Vk125 Sk125 Ok125 Xk125 hse
                generalize (V125.setCell ⟨V94.heap.size, 0, none⟩ (.int .u64 (vF (toE r1 r2).A))).setCell ⟨V94.heap.size, 1, none⟩ (.int .u64 (vF (toE r1 r2).B)) = V134 at tn sn bn ⊢
                have Vn134 := Lib.hid tn
                have S134 := Lib.hid sn
                clear tn sn
                refine wpAny_ready (rs := [6]) (by kernel_rfl) (by simp) ?_
                refine AllReady.cons rfl (fun KK hKK => ?_) AllReady.nil
                · skip
                  go_simp
                  refine hKK _ _ ?_
                  clear hKK KK
                  have hb := (Below.refl V134.heap.size V134).alloc (Nat.le_refl _) (.cells #[] 27)
                  have hz135 : V134.heap.size < (V134.alloc (.cells #[] 27)).heap.size := by rw [World.size_alloc]; omega
                  generalize V134.alloc (.cells #[] 27) = V135 at hb hz135 ⊢
                  have Sk135 := Lib.hid (S134.out.keep hb)
                  clear S134
                  have Vk135 := Lib.hid (Vn134.out.keep hb)
                  clear Vn134
                  have hbk135 := below_step bn hb
                  have hsk135 := hb.size
                  clear hb
                  refine wpAny_ready (rs := [10]) (by kernel_rfl) (by simp) ?_
                  refine AllReady.cons rfl (fun KK hKK => ?_) AllReady.nil
                  · skip
                    go_simp
                    refine hKK _ _ ?_
                    clear hKK KK
                    refine wpAny_done (by kernel_rfl) ?_ _
                    go_wp2_with fail
                    go_meet
                    case rel => exact ⟨_, _, _, _, _, rfl, rfl, rfl, Sk135.out, Vk135.out, hbk135⟩
          · skip
            go_simp
            refine hKK _ _ ?_
            clear hKK KK
            have hb := (Below.refl V124.heap.size V124).alloc (Nat.le_refl _) (.cells #[] 27)
            have hz137 : V124.heap.size < (V124.alloc (.cells #[] 27)).heap.size := by rw [World.size_alloc]; omega
            generalize V124.alloc (.cells #[] 27) = V137 at hb hz137 ⊢
            have Ok137 := Lib.hid (Ok124.out.keep hb)
            clear Ok124
            have Xk137 := Lib.hid (Xk124.out.keep hb)
            clear Xk124
            have Sk137 := Lib.hid (Sk124.out.keep hb)
            clear Sk124
            have Vk137 := Lib.hid (Vn124.out.keep hb)
            clear Vn124
            have hbk137 := below_step hbk124 hb
            have hsk137 := hb.size
            clear hb
            refine wpAny_ready (rs := [5]) (by kernel_rfl) (by simp) ?_
            refine AllReady.cons rfl (fun KK hKK => ?_) AllReady.nil
            · skip
              go_simp
              refine (rMade_any r1 r2 V137 h1 h2).mono ?_
              rintro e V138 ⟨rfl, hb⟩
              have Ok138 := Lib.hid (Ok137.out.keep hb)
              clear Ok137
              have Xk138 := Lib.hid (Xk137.out.keep hb)
              clear Xk137
              have Sk138 := Lib.hid (Sk137.out.keep hb)
              clear Sk137
              have Vk138 := Lib.hid (Vk137.out.keep hb)
              clear Vk137
              have hbk138 := below_step hbk137 hb
              have hsk138 := hb.size
              clear hb
              refine hKK _ _ ?_
              clear hKK KK
              refine wpAny_ready (rs := [8]) (by kernel_rfl) (by simp) ?_
              refine AllReady.cons rfl (fun KK hKK => ?_) AllReady.nil
              · skip
                go_simp
                refine hKK _ _ ?_
                clear hKK KK
                refine wpAny_ready (rs := [9]) (by kernel_rfl) (by simp) ?_
                refine AllReady.cons rfl (fun KK hKK => ?_) AllReady.nil
                · skip
                  have z0 := Vk138.out.c0
                  have z1 := Vk138.out.c1
                  have f0 := Vk138.out.f0
                  have f1 := Vk138.out.f1
                  go_simp
                  refine hKK _ _ ?_
                  clear hKK KK
                  clear z0 z1 f0 f1
                  have tn := (Vk138.out.set0 (.int .u64 (vF (toE r1 r2).A))).set1 (.int .u64 (vF (toE r1 r2).B))
                  have hse : ∀ ad, A4 = some ad → ad.block ≠ V94.heap.size := fun ad ea => by have := hA94 ad ea; omega
                  have sn := (Sk138.out.far6 (a := ⟨V94.heap.size, 0, none⟩) (.int .u64 (vF (toE r1 r2).A)) hse).far6 (a := ⟨V94.heap.size, 1, none⟩) (.int .u64 (vF (toE r1 r2).B)) hse
                  have bn := (hbk138.setCell (p := ⟨V94.heap.size, 0, none⟩) (by simp only; omega) (.int .u64 (vF (toE r1 r2).A))).setCell (p := ⟨V94.heap.size, 1, none⟩) (by simp only; omega) (.int .u64 (vF (toE r1 r2).B))
                  clear Vk138 Sk138 Ok138 Xk138 hse
                  generalize (V138.setCell ⟨V94.heap.size, 0, none⟩ (.int .u64 (vF (toE r1 r2).A))).setCell ⟨V94.heap.size, 1, none⟩ (.int .u64 (vF (toE r1 r2).B)) = V140 at tn sn bn ⊢
                  have Vn140 := Lib.hid tn
                  have S140 := Lib.hid sn
                  clear tn sn
                  refine wpAny_ready (rs := [10]) (by kernel_rfl) (by simp) ?_
                  refine AllReady.cons rfl (fun KK hKK => ?_) AllReady.nil
                  · skip
                    go_simp
                    refine hKK _ _ ?_
                    clear hKK KK
                    refine wpAny_done (by kernel_rfl) ?_ _
                    go_wp2_with fail
                    go_meet
                    case rel => exact ⟨_, _, _, _, _, rfl, rfl, rfl, S140.out, Vn140.out, bn⟩
      · skip
        go_simp
        refine hKK _ _ ?_
        clear hKK KK
        have hb := (Below.refl V0.heap.size V0).alloc (Nat.le_refl _) (.cells #[] 27)
        have hz142 : V0.heap.size < (V0.alloc (.cells #[] 27)).heap.size := by rw [World.size_alloc]; omega
        generalize V0.alloc (.cells #[] 27) = V142 at hb hz142 ⊢
        have Ok142 := Lib.hid (O0.out.keep hb)
        clear O0
        have Xk142 := Lib.hid (X0.out.keep hb)
        clear X0
        have hbk142 := below_step hb0 hb
        have hsk142 := hb.size
        clear hb
        refine wpAny_ready (rs := [3, 7]) (by kernel_rfl) (by simp) ?_
        refine AllReady.cons rfl (fun KK hKK => ?_) (AllReady.cons rfl (fun KK hKK => ?_) AllReady.nil)
        · skip
          go_simp
          refine (rTabMade_any L0 nL cL os K V142 Ok142.out wL.out (by omega)).mono ?_
          rintro e V143 ⟨A4, N4, c4, ys, rfl, hN4, hO4, hb⟩
          obtain rfl : N4 = M := hN4.trans HPOW.out.symm
          clear hN4
          have Ok143 := Lib.hid (Ok142.out.keep hb)
          clear Ok142
          have Xk143 := Lib.hid (Xk142.out.keep hb)
          clear Xk142
          have hbk143 := below_step hbk142 hb
          have hsk143 := hb.size
          have hA143 : ∀ ad, A4 = some ad → V142.heap.size ≤ ad.block ∧ ad.block < V143.heap.size := fun ad ea => World.ownsRow.lt hO4 ad.block (by rw [ea]; rfl)
          have S143 := Lib.hid hO4.sl'
          clear hO4 hb
          refine hKK _ _ ?_
          clear hKK KK
          refine wpAny_ready (rs := [5, 7]) (by kernel_rfl) (by simp) ?_
          refine AllReady.cons rfl (fun KK hKK => ?_) (AllReady.cons rfl (fun KK hKK => ?_) AllReady.nil)
          · skip
            go_simp
            refine (rMade_any r1 r2 V143 h1 h2).mono ?_
            rintro e V144 ⟨rfl, hb⟩
            have Ok144 := Lib.hid (Ok143.out.keep hb)
            clear Ok143
            have Xk144 := Lib.hid (Xk143.out.keep hb)
            clear Xk143
            have Sk144 := Lib.hid (S143.out.keep hb)
            clear S143
            have hbk144 := below_step hbk143 hb
            have hsk144 := hb.size
            clear hb
            refine hKK _ _ ?_
            clear hKK KK
            refine wpAny_ready (rs := [7]) (by kernel_rfl) (by simp) ?_
            refine AllReady.cons rfl (fun KK hKK => ?_) AllReady.nil
            · skip
              go_simp
              refine hKK _ _ ?_
              clear hKK KK
              have hb := (Below.refl V144.heap.size V144).alloc (Nat.le_refl _) (.cells #[.int .u64 0, .int .u64 0] 27)
              have hz145 : V144.heap.size < (V144.alloc (.cells #[.int .u64 0, .int .u64 0] 27)).heap.size := by rw [World.size_alloc]; omega
              have tn := Two.new V144 27 (.int .u64 0) (.int .u64 0)
              generalize V144.alloc (.cells #[.int .u64 0, .int .u64 0] 27) = V145 at hb hz145 tn ⊢
              have Ok145 := Lib.hid (Ok144.out.keep hb)
              clear Ok144
              have Xk145 := Lib.hid (Xk144.out.keep hb)
              clear Xk144
              have Sk145 := Lib.hid (Sk144.out.keep hb)
              clear Sk144
              have hbk145 := below_step hbk144 hb
              have hsk145 := hb.size
              clear hb
              have Vn145 := Lib.hid tn
              clear tn
              refine wpAny_ready (rs := [8]) (by kernel_rfl) (by simp) ?_
              refine AllReady.cons rfl (fun KK hKK => ?_) AllReady.nil
              · skip
                go_simp
                refine hKK _ _ ?_
                clear hKK KK
                refine wpAny_ready (rs := [9]) (by kernel_rfl) (by simp) ?_
                refine AllReady.cons rfl (fun KK hKK => ?_) AllReady.nil
                · skip
                  have z0 := Vn145.out.c0
                  have z1 := Vn145.out.c1
                  have f0 := Vn145.out.f0
                  have f1 := Vn145.out.f1
                  go_simp
                  refine hKK _ _ ?_
                  clear hKK KK
                  clear z0 z1 f0 f1
                  have tn := (Vn145.out.set0 (.int .u64 (vF (toE r1 r2).A))).set1 (.int .u64 (vF (toE r1 r2).B))
                  have hse : ∀ ad, A4 = some ad → ad.block ≠ V144.heap.size := fun ad ea => by have := hA143 ad ea; omega
                  have sn := (Sk145.out.far6 (a := ⟨V144.heap.size, 0, none⟩) (.int .u64 (vF (toE r1 r2).A)) hse).far6 (a := ⟨V144.heap.size, 1, none⟩) (.int .u64 (vF (toE r1 r2).B)) hse
                  have bn := (hbk145.setCell (p := ⟨V144.heap.size, 0, none⟩) (by simp only; omega) (.int .u64 (vF (toE r1 r2).A))).setCell (p := ⟨V144.heap.size, 1, none⟩) (by simp only; omega) (.int .u64 (vF (toE r1 r2).B))
                  clear Vn145 Sk145 Ok145 Xk145 hse
                  generalize (V145.setCell ⟨V144.heap.size, 0, none⟩ (.int .u64 (vF (toE r1 r2).A))).setCell ⟨V144.heap.size, 1, none⟩ (.int .u64 (vF (toE r1 r2).B)) = V147 at tn sn bn ⊢
                  have Vn147 := Lib.hid tn
                  have S147 := Lib.hid sn
                  clear tn sn
                  refine wpAny_ready (rs := [10]) (by kernel_rfl) (by simp) ?_
                  refine AllReady.cons rfl (fun KK hKK => ?_) AllReady.nil
                  · skip
                    go_simp
                    refine hKK _ _ ?_
                    clear hKK KK
                    refine wpAny_done (by kernel_rfl) ?_ _
                    go_wp2_with fail
                    go_meet
                    case rel => exact ⟨_, _, _, _, _, rfl, rfl, rfl, S147.out, Vn147.out, bn⟩
          · skip
            go_simp
            refine hKK _ _ ?_
            clear hKK KK
            have hb := (Below.refl V143.heap.size V143).alloc (Nat.le_refl _) (.cells #[.int .u64 0, .int .u64 0] 27)
            have hz149 : V143.heap.size < (V143.alloc (.cells #[.int .u64 0, .int .u64 0] 27)).heap.size := by rw [World.size_alloc]; omega
            have tn := Two.new V143 27 (.int .u64 0) (.int .u64 0)
            generalize V143.alloc (.cells #[.int .u64 0, .int .u64 0] 27) = V149 at hb hz149 tn ⊢
            have Ok149 := Lib.hid (Ok143.out.keep hb)
            clear Ok143
            have Xk149 := Lib.hid (Xk143.out.keep hb)
            clear Xk143
            have Sk149 := Lib.hid (S143.out.keep hb)
            clear S143
            have hbk149 := below_step hbk143 hb
            have hsk149 := hb.size
            clear hb
            have Vn149 := Lib.hid tn
            clear tn
            refine wpAny_ready (rs := [5]) (by kernel_rfl) (by simp) ?_
            refine AllReady.cons rfl (fun KK hKK => ?_) AllReady.nil
            · skip
              go_simp
              refine (rMade_any r1 r2 V149 h1 h2).mono ?_
              rintro e V150 ⟨rfl, hb⟩
              have Ok150 := Lib.hid (Ok149.out.keep hb)
              clear Ok149
              have Xk150 := Lib.hid (Xk149.out.keep hb)
              clear Xk149
              have Sk150 := Lib.hid (Sk149.out.keep hb)
              clear Sk149
              have Vk150 := Lib.hid (Vn149.out.keep hb)
              clear Vn149
              have hbk150 := below_step hbk149 hb
              have hsk150 := hb.size
              clear hb
              refine hKK _ _ ?_
              clear hKK KK
              refine wpAny_ready (rs := [8]) (by kernel_rfl) (by simp) ?_
              refine AllReady.cons rfl (fun KK hKK => ?_) AllReady.nil
              · skip
                go_simp
                refine hKK _ _ ?_
                clear hKK KK
                refine wpAny_ready (rs := [9]) (by kernel_rfl) (by simp) ?_
                refine AllReady.cons rfl (fun KK hKK => ?_) AllReady.nil
                · skip
                  have z0 := Vk150.out.c0
                  have z1 := Vk150.out.c1
                  have f0 := Vk150.out.f0
                  have f1 := Vk150.out.f1
                  go_simp
                  refine hKK _ _ ?_
                  clear hKK KK
                  clear z0 z1 f0 f1
                  have tn := (Vk150.out.set0 (.int .u64 (vF (toE r1 r2).A))).set1 (.int .u64 (vF (toE r1 r2).B))
                  have hse : ∀ ad, A4 = some ad → ad.block ≠ V143.heap.size := fun ad ea => by have := hA143 ad ea; omega
                  have sn := (Sk150.out.far6 (a := ⟨V143.heap.size, 0, none⟩) (.int .u64 (vF (toE r1 r2).A)) hse).far6 (a := ⟨V143.heap.size, 1, none⟩) (.int .u64 (vF (toE r1 r2).B)) hse
                  have bn := (hbk150.setCell (p := ⟨V143.heap.size, 0, none⟩) (by simp only; omega) (.int .u64 (vF (toE r1 r2).A))).setCell (p := ⟨V143.heap.size, 1, none⟩) (by simp only; omega) (.int .u64 (vF (toE r1 r2).B))
                  clear Vk150 Sk150 Ok150 Xk150 hse
                  generalize (V150.setCell ⟨V143.heap.size, 0, none⟩ (.int .u64 (vF (toE r1 r2).A))).setCell ⟨V143.heap.size, 1, none⟩ (.int .u64 (vF (toE r1 r2).B)) = V152 at tn sn bn ⊢
                  have Vn152 := Lib.hid tn
                  have S152 := Lib.hid sn
                  clear tn sn
                  refine wpAny_ready (rs := [10]) (by kernel_rfl) (by simp) ?_
                  refine AllReady.cons rfl (fun KK hKK => ?_) AllReady.nil
                  · skip
                    go_simp
                    refine hKK _ _ ?_
                    clear hKK KK
                    refine wpAny_done (by kernel_rfl) ?_ _
                    go_wp2_with fail
                    go_meet
                    case rel => exact ⟨_, _, _, _, _, rfl, rfl, rfl, S152.out, Vn152.out, bn⟩
        · skip
          go_simp
          refine hKK _ _ ?_
          clear hKK KK
          have hb := (Below.refl V142.heap.size V142).alloc (Nat.le_refl _) (.cells #[.int .u64 0, .int .u64 0] 27)
          have hz154 : V142.heap.size < (V142.alloc (.cells #[.int .u64 0, .int .u64 0] 27)).heap.size := by rw [World.size_alloc]; omega
          have tn := Two.new V142 27 (.int .u64 0) (.int .u64 0)
          generalize V142.alloc (.cells #[.int .u64 0, .int .u64 0] 27) = V154 at hb hz154 tn ⊢
          have Ok154 := Lib.hid (Ok142.out.keep hb)
          clear Ok142
          have Xk154 := Lib.hid (Xk142.out.keep hb)
          clear Xk142
          have hbk154 := below_step hbk142 hb
          have hsk154 := hb.size
          clear hb
          have Vn154 := Lib.hid tn
          clear tn
          refine wpAny_ready (rs := [3]) (by kernel_rfl) (by simp) ?_
          refine AllReady.cons rfl (fun KK hKK => ?_) AllReady.nil
          · skip
            go_simp
            refine (rTabMade_any L0 nL cL os K V154 Ok154.out wL.out (by omega)).mono ?_
            rintro e V155 ⟨A4, N4, c4, ys, rfl, hN4, hO4, hb⟩
            obtain rfl : N4 = M := hN4.trans HPOW.out.symm
            clear hN4
            have Ok155 := Lib.hid (Ok154.out.keep hb)
            clear Ok154
            have Xk155 := Lib.hid (Xk154.out.keep hb)
            clear Xk154
            have Vk155 := Lib.hid (Vn154.out.keep hb)
            clear Vn154
            have hbk155 := below_step hbk154 hb
            have hsk155 := hb.size
            have hA155 : ∀ ad, A4 = some ad → V154.heap.size ≤ ad.block ∧ ad.block < V155.heap.size := fun ad ea => World.ownsRow.lt hO4 ad.block (by rw [ea]; rfl)
            have S155 := Lib.hid hO4.sl'
            clear hO4 hb
            refine hKK _ _ ?_
            clear hKK KK
            refine wpAny_ready (rs := [5]) (by kernel_rfl) (by simp) ?_
            refine AllReady.cons rfl (fun KK hKK => ?_) AllReady.nil
            · skip
              go_simp
              refine (rMade_any r1 r2 V155 h1 h2).mono ?_
              rintro e V156 ⟨rfl, hb⟩
              have Ok156 := Lib.hid (Ok155.out.keep hb)
              clear Ok155
              have Xk156 := Lib.hid (Xk155.out.keep hb)
              clear Xk155
              have Sk156 := Lib.hid (S155.out.keep hb)
              clear S155
              have Vk156 := Lib.hid (Vk155.out.keep hb)
              clear Vk155
              have hbk156 := below_step hbk155 hb
              have hsk156 := hb.size
              clear hb
              refine hKK _ _ ?_
              clear hKK KK
              refine wpAny_ready (rs := [8]) (by kernel_rfl) (by simp) ?_
              refine AllReady.cons rfl (fun KK hKK => ?_) AllReady.nil
              · skip
                go_simp
                refine hKK _ _ ?_
                clear hKK KK
                refine wpAny_ready (rs := [9]) (by kernel_rfl) (by simp) ?_
                refine AllReady.cons rfl (fun KK hKK => ?_) AllReady.nil
                · skip
                  have z0 := Vk156.out.c0
                  have z1 := Vk156.out.c1
                  have f0 := Vk156.out.f0
                  have f1 := Vk156.out.f1
                  go_simp
                  refine hKK _ _ ?_
                  clear hKK KK
                  clear z0 z1 f0 f1
                  have tn := (Vk156.out.set0 (.int .u64 (vF (toE r1 r2).A))).set1 (.int .u64 (vF (toE r1 r2).B))
                  have hse : ∀ ad, A4 = some ad → ad.block ≠ V142.heap.size := fun ad ea => by have := hA155 ad ea; omega
                  have sn := (Sk156.out.far6 (a := ⟨V142.heap.size, 0, none⟩) (.int .u64 (vF (toE r1 r2).A)) hse).far6 (a := ⟨V142.heap.size, 1, none⟩) (.int .u64 (vF (toE r1 r2).B)) hse
                  have bn := (hbk156.setCell (p := ⟨V142.heap.size, 0, none⟩) (by simp only; omega) (.int .u64 (vF (toE r1 r2).A))).setCell (p := ⟨V142.heap.size, 1, none⟩) (by simp only; omega) (.int .u64 (vF (toE r1 r2).B))
                  clear Vk156 Sk156 Ok156 Xk156 hse
                  generalize (V156.setCell ⟨V142.heap.size, 0, none⟩ (.int .u64 (vF (toE r1 r2).A))).setCell ⟨V142.heap.size, 1, none⟩ (.int .u64 (vF (toE r1 r2).B)) = V158 at tn sn bn ⊢
                  have Vn158 := Lib.hid tn
                  have S158 := Lib.hid sn
                  clear tn sn
                  refine wpAny_ready (rs := [10]) (by kernel_rfl) (by simp) ?_
                  refine AllReady.cons rfl (fun KK hKK => ?_) AllReady.nil
                  · skip
                    go_simp
                    refine hKK _ _ ?_
                    clear hKK KK
                    refine wpAny_done (by kernel_rfl) ?_ _
                    go_wp2_with fail
                    go_meet
                    case rel => exact ⟨_, _, _, _, _, rfl, rfl, rfl, S158.out, Vn158.out, bn⟩
      · skip
        go_simp
        refine hKK _ _ ?_
        clear hKK KK
        have hb := (Below.refl V0.heap.size V0).alloc (Nat.le_refl _) (.cells #[.int .u64 0, .int .u64 0] 27)
        have hz160 : V0.heap.size < (V0.alloc (.cells #[.int .u64 0, .int .u64 0] 27)).heap.size := by rw [World.size_alloc]; omega
        have tn := Two.new V0 27 (.int .u64 0) (.int .u64 0)
        generalize V0.alloc (.cells #[.int .u64 0, .int .u64 0] 27) = V160 at hb hz160 tn ⊢
        have Ok160 := Lib.hid (O0.out.keep hb)
        clear O0
        have Xk160 := Lib.hid (X0.out.keep hb)
        clear X0
        have hbk160 := below_step hb0 hb
        have hsk160 := hb.size
        clear hb
        have Vn160 := Lib.hid tn
        clear tn
        refine wpAny_ready (rs := [3, 6]) (by kernel_rfl) (by simp) ?_
        refine AllReady.cons rfl (fun KK hKK => ?_) (AllReady.cons rfl (fun KK hKK => ?_) AllReady.nil)
        · skip
          go_simp
          refine (rTabMade_any L0 nL cL os K V160 Ok160.out wL.out (by omega)).mono ?_
          rintro e V161 ⟨A4, N4, c4, ys, rfl, hN4, hO4, hb⟩
          obtain rfl : N4 = M := hN4.trans HPOW.out.symm
          clear hN4
          have Ok161 := Lib.hid (Ok160.out.keep hb)
          clear Ok160
          have Xk161 := Lib.hid (Xk160.out.keep hb)
          clear Xk160
          have Vk161 := Lib.hid (Vn160.out.keep hb)
          clear Vn160
          have hbk161 := below_step hbk160 hb
          have hsk161 := hb.size
          have hA161 : ∀ ad, A4 = some ad → V160.heap.size ≤ ad.block ∧ ad.block < V161.heap.size := fun ad ea => World.ownsRow.lt hO4 ad.block (by rw [ea]; rfl)
          have S161 := Lib.hid hO4.sl'
          clear hO4 hb
          refine hKK _ _ ?_
          clear hKK KK
          refine wpAny_ready (rs := [5, 6]) (by kernel_rfl) (by simp) ?_
          refine AllReady.cons rfl (fun KK hKK => ?_) (AllReady.cons rfl (fun KK hKK => ?_) AllReady.nil)
          · skip
            go_simp
            refine (rMade_any r1 r2 V161 h1 h2).mono ?_
            rintro e V162 ⟨rfl, hb⟩
            have Ok162 := Lib.hid (Ok161.out.keep hb)
            clear Ok161
            have Xk162 := Lib.hid (Xk161.out.keep hb)
            clear Xk161
            have Sk162 := Lib.hid (S161.out.keep hb)
            clear S161
            have Vk162 := Lib.hid (Vk161.out.keep hb)
            clear Vk161
            have hbk162 := below_step hbk161 hb
            have hsk162 := hb.size
            clear hb
            refine hKK _ _ ?_
            clear hKK KK
            refine wpAny_ready (rs := [6, 8]) (by kernel_rfl) (by simp) ?_
            refine AllReady.cons rfl (fun KK hKK => ?_) (AllReady.cons rfl (fun KK hKK => ?_) AllReady.nil)
            · skip
              go_simp
              refine hKK _ _ ?_
              clear hKK KK
              have hb := (Below.refl V162.heap.size V162).alloc (Nat.le_refl _) (.cells #[] 27)
              have hz163 : V162.heap.size < (V162.alloc (.cells #[] 27)).heap.size := by rw [World.size_alloc]; omega
              generalize V162.alloc (.cells #[] 27) = V163 at hb hz163 ⊢
              have Ok163 := Lib.hid (Ok162.out.keep hb)
              clear Ok162
              have Xk163 := Lib.hid (Xk162.out.keep hb)
              clear Xk162
              have Sk163 := Lib.hid (Sk162.out.keep hb)
              clear Sk162
              have Vk163 := Lib.hid (Vk162.out.keep hb)
              clear Vk162
              have hbk163 := below_step hbk162 hb
              have hsk163 := hb.size
              clear hb
              refine wpAny_ready (rs := [8]) (by kernel_rfl) (by simp) ?_
              refine AllReady.cons rfl (fun KK hKK => ?_) AllReady.nil
              · skip
                go_simp
                refine hKK _ _ ?_
                clear hKK KK
                refine wpAny_ready (rs := [9]) (by kernel_rfl) (by simp) ?_
                refine AllReady.cons rfl (fun KK hKK => ?_) AllReady.nil
                · skip
                  have z0 := Vk163.out.c0
                  have z1 := Vk163.out.c1
                  have f0 := Vk163.out.f0
                  have f1 := Vk163.out.f1
                  go_simp
                  refine hKK _ _ ?_
                  clear hKK KK
                  clear z0 z1 f0 f1
                  have tn := (Vk163.out.set0 (.int .u64 (vF (toE r1 r2).A))).set1 (.int .u64 (vF (toE r1 r2).B))
                  have hse : ∀ ad, A4 = some ad → ad.block ≠ V0.heap.size := fun ad ea => by have := hA161 ad ea; omega
                  have sn := (Sk163.out.far6 (a := ⟨V0.heap.size, 0, none⟩) (.int .u64 (vF (toE r1 r2).A)) hse).far6 (a := ⟨V0.heap.size, 1, none⟩) (.int .u64 (vF (toE r1 r2).B)) hse
                  have bn := (hbk163.setCell (p := ⟨V0.heap.size, 0, none⟩) (by simp only; omega) (.int .u64 (vF (toE r1 r2).A))).setCell (p := ⟨V0.heap.size, 1, none⟩) (by simp only; omega) (.int .u64 (vF (toE r1 r2).B))
                  clear Vk163 Sk163 Ok163 Xk163 hse
                  generalize (V163.setCell ⟨V0.heap.size, 0, none⟩ (.int .u64 (vF (toE r1 r2).A))).setCell ⟨V0.heap.size, 1, none⟩ (.int .u64 (vF (toE r1 r2).B)) = V165 at tn sn bn ⊢
                  have Vn165 := Lib.hid tn
                  have S165 := Lib.hid sn
                  clear tn sn
                  refine wpAny_ready (rs := [10]) (by kernel_rfl) (by simp) ?_
                  refine AllReady.cons rfl (fun KK hKK => ?_) AllReady.nil
                  · skip
                    go_simp
                    refine hKK _ _ ?_
                    clear hKK KK
                    refine wpAny_done (by kernel_rfl) ?_ _
                    go_wp2_with fail
                    go_meet
                    case rel => exact ⟨_, _, _, _, _, rfl, rfl, rfl, S165.out, Vn165.out, bn⟩
            · skip
              go_simp
              refine hKK _ _ ?_
              clear hKK KK
              refine wpAny_ready (rs := [6, 9]) (by kernel_rfl) (by simp) ?_
              refine AllReady.cons rfl (fun KK hKK => ?_) (AllReady.cons rfl (fun KK hKK => ?_) AllReady.nil)
              · skip
                go_simp
                refine hKK _ _ ?_
                clear hKK KK
                have hb := (Below.refl V162.heap.size V162).alloc (Nat.le_refl _) (.cells #[] 27)
                have hz168 : V162.heap.size < (V162.alloc (.cells #[] 27)).heap.size := by rw [World.size_alloc]; omega
                generalize V162.alloc (.cells #[] 27) = V168 at hb hz168 ⊢
                have Ok168 := Lib.hid (Ok162.out.keep hb)
                clear Ok162
                have Xk168 := Lib.hid (Xk162.out.keep hb)
                clear Xk162
                have Sk168 := Lib.hid (Sk162.out.keep hb)
                clear Sk162
                have Vk168 := Lib.hid (Vk162.out.keep hb)
                clear Vk162
                have hbk168 := below_step hbk162 hb
                have hsk168 := hb.size
                clear hb
                refine wpAny_ready (rs := [9]) (by kernel_rfl) (by simp) ?_
                refine AllReady.cons rfl (fun KK hKK => ?_) AllReady.nil
                · skip
                  have z0 := Vk168.out.c0
                  have z1 := Vk168.out.c1
                  have f0 := Vk168.out.f0
                  have f1 := Vk168.out.f1
                  go_simp
                  refine hKK _ _ ?_
                  clear hKK KK
                  clear z0 z1 f0 f1
                  have tn := (Vk168.out.set0 (.int .u64 (vF (toE r1 r2).A))).set1 (.int .u64 (vF (toE r1 r2).B))
                  have hse : ∀ ad, A4 = some ad → ad.block ≠ V0.heap.size := fun ad ea => by have := hA161 ad ea; omega
                  have sn := (Sk168.out.far6 (a := ⟨V0.heap.size, 0, none⟩) (.int .u64 (vF (toE r1 r2).A)) hse).far6 (a := ⟨V0.heap.size, 1, none⟩) (.int .u64 (vF (toE r1 r2).B)) hse
                  have bn := (hbk168.setCell (p := ⟨V0.heap.size, 0, none⟩) (by simp only; omega) (.int .u64 (vF (toE r1 r2).A))).setCell (p := ⟨V0.heap.size, 1, none⟩) (by simp only; omega) (.int .u64 (vF (toE r1 r2).B))
                  clear Vk168 Sk168 Ok168 Xk168 hse
                  generalize (V168.setCell ⟨V0.heap.size, 0, none⟩ (.int .u64 (vF (toE r1 r2).A))).setCell ⟨V0.heap.size, 1, none⟩ (.int .u64 (vF (toE r1 r2).B)) = V169 at tn sn bn ⊢
                  have Vn169 := Lib.hid tn
                  have S169 := Lib.hid sn
                  clear tn sn
                  refine wpAny_ready (rs := [10]) (by kernel_rfl) (by simp) ?_
                  refine AllReady.cons rfl (fun KK hKK => ?_) AllReady.nil
                  · skip
                    go_simp
                    refine hKK _ _ ?_
                    clear hKK KK
                    refine wpAny_done (by kernel_rfl) ?_ _
                    go_wp2_with fail
                    go_meet
                    case rel => exact ⟨_, _, _, _, _, rfl, rfl, rfl, S169.out, Vn169.out, bn⟩
              · skip
                have z0 := Vk162.out.c0
                have z1 := Vk162.out.c1
                have f0 := Vk162.out.f0
                have f1 := Vk162.out.f1
                go_simp
                refine hKK _ _ ?_
                clear hKK KK
                clear z0 z1 f0 f1
                have tn := (Vk162.out.set0 (.int .u64 (vF (toE r1 r2).A))).set1 (.int .u64 (vF (toE r1 r2).B))
                have hse : ∀ ad, A4 = some ad → ad.block ≠ V0.heap.size := fun ad ea => by have := hA161 ad ea; omega
                have sn := (Sk162.out.far6 (a := ⟨V0.heap.size, 0, none⟩) (.int .u64 (vF (toE r1 r2).A)) hse).far6 (a := ⟨V0.heap.size, 1, none⟩) (.int .u64 (vF (toE r1 r2).B)) hse
                have bn := (hbk162.setCell (p := ⟨V0.heap.size, 0, none⟩) (by simp only; omega) (.int .u64 (vF (toE r1 r2).A))).setCell (p := ⟨V0.heap.size, 1, none⟩) (by simp only; omega) (.int .u64 (vF (toE r1 r2).B))
                clear Vk162 Sk162 Ok162 Xk162 hse
                generalize (V162.setCell ⟨V0.heap.size, 0, none⟩ (.int .u64 (vF (toE r1 r2).A))).setCell ⟨V0.heap.size, 1, none⟩ (.int .u64 (vF (toE r1 r2).B)) = V171 at tn sn bn ⊢
                have Vn171 := Lib.hid tn
                have S171 := Lib.hid sn
                clear tn sn
                refine wpAny_ready (rs := [6]) (by kernel_rfl) (by simp) ?_
                refine AllReady.cons rfl (fun KK hKK => ?_) AllReady.nil
                · skip
                  go_simp
                  refine hKK _ _ ?_
                  clear hKK KK
                  have hb := (Below.refl V171.heap.size V171).alloc (Nat.le_refl _) (.cells #[] 27)
                  have hz172 : V171.heap.size < (V171.alloc (.cells #[] 27)).heap.size := by rw [World.size_alloc]; omega
                  generalize V171.alloc (.cells #[] 27) = V172 at hb hz172 ⊢
                  have Sk172 := Lib.hid (S171.out.keep hb)
                  clear S171
                  have Vk172 := Lib.hid (Vn171.out.keep hb)
                  clear Vn171
                  have hbk172 := below_step bn hb
                  have hsk172 := hb.size
                  clear hb
                  refine wpAny_ready (rs := [10]) (by kernel_rfl) (by simp) ?_
                  refine AllReady.cons rfl (fun KK hKK => ?_) AllReady.nil
                  · skip
                    go_simp
                    refine hKK _ _ ?_
                    clear hKK KK
                    refine wpAny_done (by kernel_rfl) ?_ _
                    go_wp2_with fail
                    go_meet
                    case rel => exact ⟨_, _, _, _, _, rfl, rfl, rfl, Sk172.out, Vk172.out, hbk172⟩
          · skip
            go_simp
            refine hKK _ _ ?_
            clear hKK KK
            have hb := (Below.refl V161.heap.size V161).alloc (Nat.le_refl _) (.cells #[] 27)
            have hz174 : V161.heap.size < (V161.alloc (.cells #[] 27)).heap.size := by rw [World.size_alloc]; omega
            generalize V161.alloc (.cells #[] 27) = V174 at hb hz174 ⊢
            have Ok174 := Lib.hid (Ok161.out.keep hb)
            clear Ok161
            have Xk174 := Lib.hid (Xk161.out.keep hb)
            clear Xk161
            have Sk174 := Lib.hid (S161.out.keep hb)
            clear S161
            have Vk174 := Lib.hid (Vk161.out.keep hb)
            clear Vk161
            have hbk174 := below_step hbk161 hb
            have hsk174 := hb.size
            clear hb
            refine wpAny_ready (rs := [5]) (by kernel_rfl) (by simp) ?_
            refine AllReady.cons rfl (fun KK hKK => ?_) AllReady.nil
            · skip
              go_simp
              refine (rMade_any r1 r2 V174 h1 h2).mono ?_
              rintro e V175 ⟨rfl, hb⟩
              have Ok175 := Lib.hid (Ok174.out.keep hb)
              clear Ok174
              have Xk175 := Lib.hid (Xk174.out.keep hb)
              clear Xk174
              have Sk175 := Lib.hid (Sk174.out.keep hb)
              clear Sk174
              have Vk175 := Lib.hid (Vk174.out.keep hb)
              clear Vk174
              have hbk175 := below_step hbk174 hb
              have hsk175 := hb.size
              clear hb
              refine hKK _ _ ?_
              clear hKK KK
              refine wpAny_ready (rs := [8]) (by kernel_rfl) (by simp) ?_
              refine AllReady.cons rfl (fun KK hKK => ?_) AllReady.nil
              · skip
                go_simp
                refine hKK _ _ ?_
                clear hKK KK
                refine wpAny_ready (rs := [9]) (by kernel_rfl) (by simp) ?_
                refine AllReady.cons rfl (fun KK hKK => ?_) AllReady.nil
                · skip
                  have z0 := Vk175.out.c0
                  have z1 := Vk175.out.c1
                  have f0 := Vk175.out.f0
                  have f1 := Vk175.out.f1
                  go_simp
                  refine hKK _ _ ?_
                  clear hKK KK
                  clear z0 z1 f0 f1
                  have tn := (Vk175.out.set0 (.int .u64 (vF (toE r1 r2).A))).set1 (.int .u64 (vF (toE r1 r2).B))
                  have hse : ∀ ad, A4 = some ad → ad.block ≠ V0.heap.size := fun ad ea => by have := hA161 ad ea; omega
                  have sn := (Sk175.out.far6 (a := ⟨V0.heap.size, 0, none⟩) (.int .u64 (vF (toE r1 r2).A)) hse).far6 (a := ⟨V0.heap.size, 1, none⟩) (.int .u64 (vF (toE r1 r2).B)) hse
                  have bn := (hbk175.setCell (p := ⟨V0.heap.size, 0, none⟩) (by simp only; omega) (.int .u64 (vF (toE r1 r2).A))).setCell (p := ⟨V0.heap.size, 1, none⟩) (by simp only; omega) (.int .u64 (vF (toE r1 r2).B))
                  clear Vk175 Sk175 Ok175 Xk175 hse
                  generalize (V175.setCell ⟨V0.heap.size, 0, none⟩ (.int .u64 (vF (toE r1 r2).A))).setCell ⟨V0.heap.size, 1, none⟩ (.int .u64 (vF (toE r1 r2).B)) = V177 at tn sn bn ⊢
                  have Vn177 := Lib.hid tn
                  have S177 := Lib.hid sn
                  clear tn sn
                  refine wpAny_ready (rs := [10]) (by kernel_rfl) (by simp) ?_
                  refine AllReady.cons rfl (fun KK hKK => ?_) AllReady.nil
                  · skip
                    go_simp
                    refine hKK _ _ ?_
                    clear hKK KK
                    refine wpAny_done (by kernel_rfl) ?_ _
                    go_wp2_with fail
                    go_meet
                    case rel => exact ⟨_, _, _, _, _, rfl, rfl, rfl, S177.out, Vn177.out, bn⟩
        · skip
          go_simp
          refine hKK _ _ ?_
          clear hKK KK
          have hb := (Below.refl V160.heap.size V160).alloc (Nat.le_refl _) (.cells #[] 27)
          have hz179 : V160.heap.size < (V160.alloc (.cells #[] 27)).heap.size := by rw [World.size_alloc]; omega
          generalize V160.alloc (.cells #[] 27) = V179 at hb hz179 ⊢
          have Ok179 := Lib.hid (Ok160.out.keep hb)
          clear Ok160
          have Xk179 := Lib.hid (Xk160.out.keep hb)
          clear Xk160
          have Vk179 := Lib.hid (Vn160.out.keep hb)
          clear Vn160
          have hbk179 := below_step hbk160 hb
          have hsk179 := hb.size
          clear hb
          refine wpAny_ready (rs := [3]) (by kernel_rfl) (by simp) ?_
          refine AllReady.cons rfl (fun KK hKK => ?_) AllReady.nil
          · skip
            go_simp
            refine (rTabMade_any L0 nL cL os K V179 Ok179.out wL.out (by omega)).mono ?_
            rintro e V180 ⟨A4, N4, c4, ys, rfl, hN4, hO4, hb⟩
            obtain rfl : N4 = M := hN4.trans HPOW.out.symm
            clear hN4
            have Ok180 := Lib.hid (Ok179.out.keep hb)
            clear Ok179
            have Xk180 := Lib.hid (Xk179.out.keep hb)
            clear Xk179
            have Vk180 := Lib.hid (Vk179.out.keep hb)
            clear Vk179
            have hbk180 := below_step hbk179 hb
            have hsk180 := hb.size
            have hA180 : ∀ ad, A4 = some ad → V179.heap.size ≤ ad.block ∧ ad.block < V180.heap.size := fun ad ea => World.ownsRow.lt hO4 ad.block (by rw [ea]; rfl)
            have S180 := Lib.hid hO4.sl'
            clear hO4 hb
            refine hKK _ _ ?_
            clear hKK KK
            refine wpAny_ready (rs := [5]) (by kernel_rfl) (by simp) ?_
            refine AllReady.cons rfl (fun KK hKK => ?_) AllReady.nil
            · skip
              go_simp
              refine (rMade_any r1 r2 V180 h1 h2).mono ?_
              rintro e V181 ⟨rfl, hb⟩
              have Ok181 := Lib.hid (Ok180.out.keep hb)
              clear Ok180
              have Xk181 := Lib.hid (Xk180.out.keep hb)
              clear Xk180
              have Sk181 := Lib.hid (S180.out.keep hb)
              clear S180
              have Vk181 := Lib.hid (Vk180.out.keep hb)
              clear Vk180
              have hbk181 := below_step hbk180 hb
              have hsk181 := hb.size
              clear hb
              refine hKK _ _ ?_
              clear hKK KK
              refine wpAny_ready (rs := [8]) (by kernel_rfl) (by simp) ?_
              refine AllReady.cons rfl (fun KK hKK => ?_) AllReady.nil
              · skip
                go_simp
                refine hKK _ _ ?_
                clear hKK KK
                refine wpAny_ready (rs := [9]) (by kernel_rfl) (by simp) ?_
                refine AllReady.cons rfl (fun KK hKK => ?_) AllReady.nil
                · skip
                  have z0 := Vk181.out.c0
                  have z1 := Vk181.out.c1
                  have f0 := Vk181.out.f0
                  have f1 := Vk181.out.f1
                  go_simp
                  refine hKK _ _ ?_
                  clear hKK KK
                  clear z0 z1 f0 f1
                  have tn := (Vk181.out.set0 (.int .u64 (vF (toE r1 r2).A))).set1 (.int .u64 (vF (toE r1 r2).B))
                  have hse : ∀ ad, A4 = some ad → ad.block ≠ V0.heap.size := fun ad ea => by have := hA180 ad ea; omega
                  have sn := (Sk181.out.far6 (a := ⟨V0.heap.size, 0, none⟩) (.int .u64 (vF (toE r1 r2).A)) hse).far6 (a := ⟨V0.heap.size, 1, none⟩) (.int .u64 (vF (toE r1 r2).B)) hse
                  have bn := (hbk181.setCell (p := ⟨V0.heap.size, 0, none⟩) (by simp only; omega) (.int .u64 (vF (toE r1 r2).A))).setCell (p := ⟨V0.heap.size, 1, none⟩) (by simp only; omega) (.int .u64 (vF (toE r1 r2).B))
                  clear Vk181 Sk181 Ok181 Xk181 hse
                  generalize (V181.setCell ⟨V0.heap.size, 0, none⟩ (.int .u64 (vF (toE r1 r2).A))).setCell ⟨V0.heap.size, 1, none⟩ (.int .u64 (vF (toE r1 r2).B)) = V183 at tn sn bn ⊢
                  have Vn183 := Lib.hid tn
                  have S183 := Lib.hid sn
                  clear tn sn
                  refine wpAny_ready (rs := [10]) (by kernel_rfl) (by simp) ?_
                  refine AllReady.cons rfl (fun KK hKK => ?_) AllReady.nil
                  · skip
                    go_simp
                    refine hKK _ _ ?_
                    clear hKK KK
                    refine wpAny_done (by kernel_rfl) ?_ _
                    go_wp2_with fail
                    go_meet
                    case rel => exact ⟨_, _, _, _, _, rfl, rfl, rfl, S183.out, Vn183.out, bn⟩
    · skip
      go_simp
      refine hKK _ _ ?_
      clear hKK KK
      have hb := (Below.refl V0.heap.size V0).alloc (Nat.le_refl _) (.cells #[] 27)
      have hz185 : V0.heap.size < (V0.alloc (.cells #[] 27)).heap.size := by rw [World.size_alloc]; omega
      generalize V0.alloc (.cells #[] 27) = V185 at hb hz185 ⊢
      have Ok185 := Lib.hid (O0.out.keep hb)
      clear O0
      have Xk185 := Lib.hid (X0.out.keep hb)
      clear X0
      have hbk185 := below_step hb0 hb
      have hsk185 := hb.size
      clear hb
      refine wpAny_ready (rs := [3, 4, 7]) (by kernel_rfl) (by simp) ?_
      refine AllReady.cons rfl (fun KK hKK => ?_) (AllReady.cons rfl (fun KK hKK => ?_) (AllReady.cons rfl (fun KK hKK => ?_) AllReady.nil))
      · skip
        go_simp
        refine (rTabMade_any L0 nL cL os K V185 Ok185.out wL.out (by omega)).mono ?_
        rintro e V186 ⟨A4, N4, c4, ys, rfl, hN4, hO4, hb⟩
        obtain rfl : N4 = M := hN4.trans HPOW.out.symm
        clear hN4
        have Ok186 := Lib.hid (Ok185.out.keep hb)
        clear Ok185
        have Xk186 := Lib.hid (Xk185.out.keep hb)
        clear Xk185
        have hbk186 := below_step hbk185 hb
        have hsk186 := hb.size
        have hA186 : ∀ ad, A4 = some ad → V185.heap.size ≤ ad.block ∧ ad.block < V186.heap.size := fun ad ea => World.ownsRow.lt hO4 ad.block (by rw [ea]; rfl)
        have S186 := Lib.hid hO4.sl'
        clear hO4 hb
        refine hKK _ _ ?_
        clear hKK KK
        refine wpAny_ready (rs := [4, 7]) (by kernel_rfl) (by simp) ?_
        refine AllReady.cons rfl (fun KK hKK => ?_) (AllReady.cons rfl (fun KK hKK => ?_) AllReady.nil)
        · skip
          have x0 := Xk186.out.c0
          have x1 := Xk186.out.c1
          go_simp
          clear x0 x1
          refine hKK _ _ ?_
          clear hKK KK
          refine wpAny_ready (rs := [5, 7]) (by kernel_rfl) (by simp) ?_
          refine AllReady.cons rfl (fun KK hKK => ?_) (AllReady.cons rfl (fun KK hKK => ?_) AllReady.nil)
          · skip
            go_simp
            refine (rMade_any r1 r2 V186 h1 h2).mono ?_
            rintro e V188 ⟨rfl, hb⟩
            have Ok188 := Lib.hid (Ok186.out.keep hb)
            clear Ok186
            have Xk188 := Lib.hid (Xk186.out.keep hb)
            clear Xk186
            have Sk188 := Lib.hid (S186.out.keep hb)
            clear S186
            have hbk188 := below_step hbk186 hb
            have hsk188 := hb.size
            clear hb
            refine hKK _ _ ?_
            clear hKK KK
            refine wpAny_ready (rs := [7]) (by kernel_rfl) (by simp) ?_
            refine AllReady.cons rfl (fun KK hKK => ?_) AllReady.nil
            · skip
              go_simp
              refine hKK _ _ ?_
              clear hKK KK
              have hb := (Below.refl V188.heap.size V188).alloc (Nat.le_refl _) (.cells #[.int .u64 0, .int .u64 0] 27)
              have hz189 : V188.heap.size < (V188.alloc (.cells #[.int .u64 0, .int .u64 0] 27)).heap.size := by rw [World.size_alloc]; omega
              have tn := Two.new V188 27 (.int .u64 0) (.int .u64 0)
              generalize V188.alloc (.cells #[.int .u64 0, .int .u64 0] 27) = V189 at hb hz189 tn ⊢
              have Ok189 := Lib.hid (Ok188.out.keep hb)
              clear Ok188
              have Xk189 := Lib.hid (Xk188.out.keep hb)
              clear Xk188
              have Sk189 := Lib.hid (Sk188.out.keep hb)
              clear Sk188
              have hbk189 := below_step hbk188 hb
              have hsk189 := hb.size
              clear hb
              have Vn189 := Lib.hid tn
              clear tn
              refine wpAny_ready (rs := [8]) (by kernel_rfl) (by simp) ?_
              refine AllReady.cons rfl (fun KK hKK => ?_) AllReady.nil
              · skip
                go_simp
                refine hKK _ _ ?_
                clear hKK KK
                refine wpAny_ready (rs := [9]) (by kernel_rfl) (by simp) ?_
                refine AllReady.cons rfl (fun KK hKK => ?_) AllReady.nil
                · skip
                  have z0 := Vn189.out.c0
                  have z1 := Vn189.out.c1
                  have f0 := Vn189.out.f0
                  have f1 := Vn189.out.f1
                  go_simp
                  refine hKK _ _ ?_
                  clear hKK KK
                  clear z0 z1 f0 f1
                  have tn := (Vn189.out.set0 (.int .u64 (vF (toE r1 r2).A))).set1 (.int .u64 (vF (toE r1 r2).B))
                  have hse : ∀ ad, A4 = some ad → ad.block ≠ V188.heap.size := fun ad ea => by have := hA186 ad ea; omega
                  have sn := (Sk189.out.far6 (a := ⟨V188.heap.size, 0, none⟩) (.int .u64 (vF (toE r1 r2).A)) hse).far6 (a := ⟨V188.heap.size, 1, none⟩) (.int .u64 (vF (toE r1 r2).B)) hse
                  have bn := (hbk189.setCell (p := ⟨V188.heap.size, 0, none⟩) (by simp only; omega) (.int .u64 (vF (toE r1 r2).A))).setCell (p := ⟨V188.heap.size, 1, none⟩) (by simp only; omega) (.int .u64 (vF (toE r1 r2).B))
                  clear Vn189 Sk189 Ok189 Xk189 hse
                  generalize (V189.setCell ⟨V188.heap.size, 0, none⟩ (.int .u64 (vF (toE r1 r2).A))).setCell ⟨V188.heap.size, 1, none⟩ (.int .u64 (vF (toE r1 r2).B)) = V191 at tn sn bn ⊢
                  have Vn191 := Lib.hid tn
                  have S191 := Lib.hid sn
                  clear tn sn
                  refine wpAny_ready (rs := [10]) (by kernel_rfl) (by simp) ?_
                  refine AllReady.cons rfl (fun KK hKK => ?_) AllReady.nil
                  · skip
                    go_simp
                    refine hKK _ _ ?_
                    clear hKK KK
                    refine wpAny_done (by kernel_rfl) ?_ _
                    go_wp2_with fail
                    go_meet
                    case rel => exact ⟨_, _, _, _, _, rfl, rfl, rfl, S191.out, Vn191.out, bn⟩
          · skip
            go_simp
            refine hKK _ _ ?_
            clear hKK KK
            have hb := (Below.refl V186.heap.size V186).alloc (Nat.le_refl _) (.cells #[.int .u64 0, .int .u64 0] 27)
            have hz193 : V186.heap.size < (V186.alloc (.cells #[.int .u64 0, .int .u64 0] 27)).heap.size := by rw [World.size_alloc]; omega
            have tn := Two.new V186 27 (.int .u64 0) (.int .u64 0)
            generalize V186.alloc (.cells #[.int .u64 0, .int .u64 0] 27) = V193 at hb hz193 tn ⊢
            have Ok193 := Lib.hid (Ok186.out.keep hb)
            clear Ok186
            have Xk193 := Lib.hid (Xk186.out.keep hb)
            clear Xk186
            have Sk193 := Lib.hid (S186.out.keep hb)
            clear S186
            have hbk193 := below_step hbk186 hb
            have hsk193 := hb.size
            clear hb
            have Vn193 := Lib.hid tn
            clear tn
            refine wpAny_ready (rs := [5]) (by kernel_rfl) (by simp) ?_
            refine AllReady.cons rfl (fun KK hKK => ?_) AllReady.nil
            · skip
              go_simp
              refine (rMade_any r1 r2 V193 h1 h2).mono ?_
              rintro e V194 ⟨rfl, hb⟩
              have Ok194 := Lib.hid (Ok193.out.keep hb)
              clear Ok193
              have Xk194 := Lib.hid (Xk193.out.keep hb)
              clear Xk193
              have Sk194 := Lib.hid (Sk193.out.keep hb)
              clear Sk193
              have Vk194 := Lib.hid (Vn193.out.keep hb)
              clear Vn193
              have hbk194 := below_step hbk193 hb
              have hsk194 := hb.size
              clear hb
              refine hKK _ _ ?_
              clear hKK KK
              refine wpAny_ready (rs := [8]) (by kernel_rfl) (by simp) ?_
              refine AllReady.cons rfl (fun KK hKK => ?_) AllReady.nil
              · skip
                go_simp
                refine hKK _ _ ?_
                clear hKK KK
                refine wpAny_ready (rs := [9]) (by kernel_rfl) (by simp) ?_
                refine AllReady.cons rfl (fun KK hKK => ?_) AllReady.nil
                · skip
                  have z0 := Vk194.out.c0
                  have z1 := Vk194.out.c1
                  have f0 := Vk194.out.f0
                  have f1 := Vk194.out.f1
                  go_simp
                  refine hKK _ _ ?_
                  clear hKK KK
                  clear z0 z1 f0 f1
                  have tn := (Vk194.out.set0 (.int .u64 (vF (toE r1 r2).A))).set1 (.int .u64 (vF (toE r1 r2).B))
                  have hse : ∀ ad, A4 = some ad → ad.block ≠ V186.heap.size := fun ad ea => by have := hA186 ad ea; omega
                  have sn := (Sk194.out.far6 (a := ⟨V186.heap.size, 0, none⟩) (.int .u64 (vF (toE r1 r2).A)) hse).far6 (a := ⟨V186.heap.size, 1, none⟩) (.int .u64 (vF (toE r1 r2).B)) hse
                  have bn := (hbk194.setCell (p := ⟨V186.heap.size, 0, none⟩) (by simp only; omega) (.int .u64 (vF (toE r1 r2).A))).setCell (p := ⟨V186.heap.size, 1, none⟩) (by simp only; omega) (.int .u64 (vF (toE r1 r2).B))
                  clear Vk194 Sk194 Ok194 Xk194 hse
                  generalize (V194.setCell ⟨V186.heap.size, 0, none⟩ (.int .u64 (vF (toE r1 r2).A))).setCell ⟨V186.heap.size, 1, none⟩ (.int .u64 (vF (toE r1 r2).B)) = V196 at tn sn bn ⊢
                  have Vn196 := Lib.hid tn
                  have S196 := Lib.hid sn
                  clear tn sn
                  refine wpAny_ready (rs := [10]) (by kernel_rfl) (by simp) ?_
                  refine AllReady.cons rfl (fun KK hKK => ?_) AllReady.nil
                  · skip
                    go_simp
                    refine hKK _ _ ?_
                    clear hKK KK
                    refine wpAny_done (by kernel_rfl) ?_ _
                    go_wp2_with fail
                    go_meet
                    case rel => exact ⟨_, _, _, _, _, rfl, rfl, rfl, S196.out, Vn196.out, bn⟩
        · skip
          go_simp
          refine hKK _ _ ?_
          clear hKK KK
          have hb := (Below.refl V186.heap.size V186).alloc (Nat.le_refl _) (.cells #[.int .u64 0, .int .u64 0] 27)
          have hz198 : V186.heap.size < (V186.alloc (.cells #[.int .u64 0, .int .u64 0] 27)).heap.size := by rw [World.size_alloc]; omega
          have tn := Two.new V186 27 (.int .u64 0) (.int .u64 0)
          generalize V186.alloc (.cells #[.int .u64 0, .int .u64 0] 27) = V198 at hb hz198 tn ⊢
          have Ok198 := Lib.hid (Ok186.out.keep hb)
          clear Ok186
          have Xk198 := Lib.hid (Xk186.out.keep hb)
          clear Xk186
          have Sk198 := Lib.hid (S186.out.keep hb)
          clear S186
          have hbk198 := below_step hbk186 hb
          have hsk198 := hb.size
          clear hb
          have Vn198 := Lib.hid tn
          clear tn
          refine wpAny_ready (rs := [4]) (by kernel_rfl) (by simp) ?_
          refine AllReady.cons rfl (fun KK hKK => ?_) AllReady.nil
          · skip
            have x0 := Xk198.out.c0
            have x1 := Xk198.out.c1
            go_simp
            clear x0 x1
            refine hKK _ _ ?_
            clear hKK KK
            refine wpAny_ready (rs := [5]) (by kernel_rfl) (by simp) ?_
            refine AllReady.cons rfl (fun KK hKK => ?_) AllReady.nil
            · skip
              go_simp
              refine (rMade_any r1 r2 V198 h1 h2).mono ?_
              rintro e V200 ⟨rfl, hb⟩
              have Ok200 := Lib.hid (Ok198.out.keep hb)
              clear Ok198
              have Xk200 := Lib.hid (Xk198.out.keep hb)
              clear Xk198
              have Sk200 := Lib.hid (Sk198.out.keep hb)
              clear Sk198
              have Vk200 := Lib.hid (Vn198.out.keep hb)
              clear Vn198
              have hbk200 := below_step hbk198 hb
              have hsk200 := hb.size
              clear hb
              refine hKK _ _ ?_
              clear hKK KK
              refine wpAny_ready (rs := [8]) (by kernel_rfl) (by simp) ?_
              refine AllReady.cons rfl (fun KK hKK => ?_) AllReady.nil
              · skip
                go_simp
                refine hKK _ _ ?_
                clear hKK KK
                refine wpAny_ready (rs := [9]) (by kernel_rfl) (by simp) ?_
                refine AllReady.cons rfl (fun KK hKK => ?_) AllReady.nil
                · skip
                  have z0 := Vk200.out.c0
                  have z1 := Vk200.out.c1
                  have f0 := Vk200.out.f0
                  have f1 := Vk200.out.f1
                  go_simp
                  refine hKK _ _ ?_
                  clear hKK KK
                  clear z0 z1 f0 f1
                  have tn := (Vk200.out.set0 (.int .u64 (vF (toE r1 r2).A))).set1 (.int .u64 (vF (toE r1 r2).B))
                  have hse : ∀ ad, A4 = some ad → ad.block ≠ V186.heap.size := fun ad ea => by have := hA186 ad ea; omega
                  have sn := (Sk200.out.far6 (a := ⟨V186.heap.size, 0, none⟩) (.int .u64 (vF (toE r1 r2).A)) hse).far6 (a := ⟨V186.heap.size, 1, none⟩) (.int .u64 (vF (toE r1 r2).B)) hse
                  have bn := (hbk200.setCell (p := ⟨V186.heap.size, 0, none⟩) (by simp only; omega) (.int .u64 (vF (toE r1 r2).A))).setCell (p := ⟨V186.heap.size, 1, none⟩) (by simp only; omega) (.int .u64 (vF (toE r1 r2).B))
                  clear Vk200 Sk200 Ok200 Xk200 hse
                  generalize (V200.setCell ⟨V186.heap.size, 0, none⟩ (.int .u64 (vF (toE r1 r2).A))).setCell ⟨V186.heap.size, 1, none⟩ (.int .u64 (vF (toE r1 r2).B)) = V202 at tn sn bn ⊢
                  have Vn202 := Lib.hid tn
                  have S202 := Lib.hid sn
                  clear tn sn
                  refine wpAny_ready (rs := [10]) (by kernel_rfl) (by simp) ?_
                  refine AllReady.cons rfl (fun KK hKK => ?_) AllReady.nil
                  · skip
                    go_simp
                    refine hKK _ _ ?_
                    clear hKK KK
                    refine wpAny_done (by kernel_rfl) ?_ _
                    go_wp2_with fail
                    go_meet
                    case rel => exact ⟨_, _, _, _, _, rfl, rfl, rfl, S202.out, Vn202.out, bn⟩
      · skip
        have x0 := Xk185.out.c0
        have x1 := Xk185.out.c1
        go_simp
        clear x0 x1
        refine hKK _ _ ?_
        clear hKK KK
        refine wpAny_ready (rs := [3, 7]) (by kernel_rfl) (by simp) ?_
        refine AllReady.cons rfl (fun KK hKK => ?_) (AllReady.cons rfl (fun KK hKK => ?_) AllReady.nil)
        · skip
          go_simp
          refine (rTabMade_any L0 nL cL os K V185 Ok185.out wL.out (by omega)).mono ?_
          rintro e V205 ⟨A4, N4, c4, ys, rfl, hN4, hO4, hb⟩
          obtain rfl : N4 = M := hN4.trans HPOW.out.symm
          clear hN4
          have Ok205 := Lib.hid (Ok185.out.keep hb)
          clear Ok185
          have Xk205 := Lib.hid (Xk185.out.keep hb)
          clear Xk185
          have hbk205 := below_step hbk185 hb
          have hsk205 := hb.size
          have hA205 : ∀ ad, A4 = some ad → V185.heap.size ≤ ad.block ∧ ad.block < V205.heap.size := fun ad ea => World.ownsRow.lt hO4 ad.block (by rw [ea]; rfl)
          have S205 := Lib.hid hO4.sl'
          clear hO4 hb
          refine hKK _ _ ?_
          clear hKK KK
          refine wpAny_ready (rs := [5, 7]) (by kernel_rfl) (by simp) ?_
          refine AllReady.cons rfl (fun KK hKK => ?_) (AllReady.cons rfl (fun KK hKK => ?_) AllReady.nil)
          · skip
            go_simp
            refine (rMade_any r1 r2 V205 h1 h2).mono ?_
            rintro e V206 ⟨rfl, hb⟩
            have Ok206 := Lib.hid (Ok205.out.keep hb)
            clear Ok205
            have Xk206 := Lib.hid (Xk205.out.keep hb)
            clear Xk205
            have Sk206 := Lib.hid (S205.out.keep hb)
            clear S205
            have hbk206 := below_step hbk205 hb
            have hsk206 := hb.size
            clear hb
            refine hKK _ _ ?_
            clear hKK KK
            refine wpAny_ready (rs := [7]) (by kernel_rfl) (by simp) ?_
            refine AllReady.cons rfl (fun KK hKK => ?_) AllReady.nil
            · skip
              go_simp
              refine hKK _ _ ?_
              clear hKK KK
              have hb := (Below.refl V206.heap.size V206).alloc (Nat.le_refl _) (.cells #[.int .u64 0, .int .u64 0] 27)
              have hz207 : V206.heap.size < (V206.alloc (.cells #[.int .u64 0, .int .u64 0] 27)).heap.size := by rw [World.size_alloc]; omega
              have tn := Two.new V206 27 (.int .u64 0) (.int .u64 0)
              generalize V206.alloc (.cells #[.int .u64 0, .int .u64 0] 27) = V207 at hb hz207 tn ⊢
              have Ok207 := Lib.hid (Ok206.out.keep hb)
              clear Ok206
              have Xk207 := Lib.hid (Xk206.out.keep hb)
              clear Xk206
              have Sk207 := Lib.hid (Sk206.out.keep hb)
              clear Sk206
              have hbk207 := below_step hbk206 hb
              have hsk207 := hb.size
              clear hb
              have Vn207 := Lib.hid tn
              clear tn
              refine wpAny_ready (rs := [8]) (by kernel_rfl) (by simp) ?_
              refine AllReady.cons rfl (fun KK hKK => ?_) AllReady.nil
              · skip
                go_simp
                refine hKK _ _ ?_
                clear hKK KK
                refine wpAny_ready (rs := [9]) (by kernel_rfl) (by simp) ?_
                refine AllReady.cons rfl (fun KK hKK => ?_) AllReady.nil
                · skip
                  have z0 := Vn207.out.c0
                  have z1 := Vn207.out.c1
                  have f0 := Vn207.out.f0
                  have f1 := Vn207.out.f1
                  go_simp
                  refine hKK _ _ ?_
                  clear hKK KK
                  clear z0 z1 f0 f1
                  have tn := (Vn207.out.set0 (.int .u64 (vF (toE r1 r2).A))).set1 (.int .u64 (vF (toE r1 r2).B))
                  have hse : ∀ ad, A4 = some ad → ad.block ≠ V206.heap.size := fun ad ea => by have := hA205 ad ea; omega
                  have sn := (Sk207.out.far6 (a := ⟨V206.heap.size, 0, none⟩) (.int .u64 (vF (toE r1 r2).A)) hse).far6 (a := ⟨V206.heap.size, 1, none⟩) (.int .u64 (vF (toE r1 r2).B)) hse
                  have bn := (hbk207.setCell (p := ⟨V206.heap.size, 0, none⟩) (by simp only; omega) (.int .u64 (vF (toE r1 r2).A))).setCell (p := ⟨V206.heap.size, 1, none⟩) (by simp only; omega) (.int .u64 (vF (toE r1 r2).B))
                  clear Vn207 Sk207 Ok207 Xk207 hse
                  generalize (V207.setCell ⟨V206.heap.size, 0, none⟩ (.int .u64 (vF (toE r1 r2).A))).setCell ⟨V206.heap.size, 1, none⟩ (.int .u64 (vF (toE r1 r2).B)) = V209 at tn sn bn ⊢
                  have Vn209 := Lib.hid tn
                  have S209 := Lib.hid sn
                  clear tn sn
                  refine wpAny_ready (rs := [10]) (by kernel_rfl) (by simp) ?_
                  refine AllReady.cons rfl (fun KK hKK => ?_) AllReady.nil
                  · skip
                    go_simp
                    refine hKK _ _ ?_
                    clear hKK KK
                    refine wpAny_done (by kernel_rfl) ?_ _
                    go_wp2_with fail
                    go_meet
                    case rel => exact ⟨_, _, _, _, _, rfl, rfl, rfl, S209.out, Vn209.out, bn⟩
          · skip
            go_simp
            refine hKK _ _ ?_
            clear hKK KK
            have hb := (Below.refl V205.heap.size V205).alloc (Nat.le_refl _) (.cells #[.int .u64 0, .int .u64 0] 27)
            have hz211 : V205.heap.size < (V205.alloc (.cells #[.int .u64 0, .int .u64 0] 27)).heap.size := by rw [World.size_alloc]; omega
            have tn := Two.new V205 27 (.int .u64 0) (.int .u64 0)
            generalize V205.alloc (.cells #[.int .u64 0, .int .u64 0] 27) = V211 at hb hz211 tn ⊢
            have Ok211 := Lib.hid (Ok205.out.keep hb)
            clear Ok205
            have Xk211 := Lib.hid (Xk205.out.keep hb)
            clear Xk205
            have Sk211 := Lib.hid (S205.out.keep hb)
            clear S205
            have hbk211 := below_step hbk205 hb
            have hsk211 := hb.size
            clear hb
            have Vn211 := Lib.hid tn
            clear tn
            refine wpAny_ready (rs := [5]) (by kernel_rfl) (by simp) ?_
            refine AllReady.cons rfl (fun KK hKK => ?_) AllReady.nil
            · skip
              go_simp
              refine (rMade_any r1 r2 V211 h1 h2).mono ?_
              rintro e V212 ⟨rfl, hb⟩
              have Ok212 := Lib.hid (Ok211.out.keep hb)
              clear Ok211
              have Xk212 := Lib.hid (Xk211.out.keep hb)
              clear Xk211
              have Sk212 := Lib.hid (Sk211.out.keep hb)
              clear Sk211
              have Vk212 := Lib.hid (Vn211.out.keep hb)
              clear Vn211
              have hbk212 := below_step hbk211 hb
              have hsk212 := hb.size
              clear hb
              refine hKK _ _ ?_
              clear hKK KK
              refine wpAny_ready (rs := [8]) (by kernel_rfl) (by simp) ?_
              refine AllReady.cons rfl (fun KK hKK => ?_) AllReady.nil
              · skip
                go_simp
                refine hKK _ _ ?_
                clear hKK KK
                refine wpAny_ready (rs := [9]) (by kernel_rfl) (by simp) ?_
                refine AllReady.cons rfl (fun KK hKK => ?_) AllReady.nil
                · skip
                  have z0 := Vk212.out.c0
                  have z1 := Vk212.out.c1
                  have f0 := Vk212.out.f0
                  have f1 := Vk212.out.f1
                  go_simp
                  refine hKK _ _ ?_
                  clear hKK KK
                  clear z0 z1 f0 f1
                  have tn := (Vk212.out.set0 (.int .u64 (vF (toE r1 r2).A))).set1 (.int .u64 (vF (toE r1 r2).B))
                  have hse : ∀ ad, A4 = some ad → ad.block ≠ V205.heap.size := fun ad ea => by have := hA205 ad ea; omega
                  have sn := (Sk212.out.far6 (a := ⟨V205.heap.size, 0, none⟩) (.int .u64 (vF (toE r1 r2).A)) hse).far6 (a := ⟨V205.heap.size, 1, none⟩) (.int .u64 (vF (toE r1 r2).B)) hse
                  have bn := (hbk212.setCell (p := ⟨V205.heap.size, 0, none⟩) (by simp only; omega) (.int .u64 (vF (toE r1 r2).A))).setCell (p := ⟨V205.heap.size, 1, none⟩) (by simp only; omega) (.int .u64 (vF (toE r1 r2).B))
                  clear Vk212 Sk212 Ok212 Xk212 hse
                  generalize (V212.setCell ⟨V205.heap.size, 0, none⟩ (.int .u64 (vF (toE r1 r2).A))).setCell ⟨V205.heap.size, 1, none⟩ (.int .u64 (vF (toE r1 r2).B)) = V214 at tn sn bn ⊢
                  have Vn214 := Lib.hid tn
                  have S214 := Lib.hid sn
                  clear tn sn
                  refine wpAny_ready (rs := [10]) (by kernel_rfl) (by simp) ?_
                  refine AllReady.cons rfl (fun KK hKK => ?_) AllReady.nil
                  · skip
                    go_simp
                    refine hKK _ _ ?_
                    clear hKK KK
                    refine wpAny_done (by kernel_rfl) ?_ _
                    go_wp2_with fail
                    go_meet
                    case rel => exact ⟨_, _, _, _, _, rfl, rfl, rfl, S214.out, Vn214.out, bn⟩
        · skip
          go_simp
          refine hKK _ _ ?_
          clear hKK KK
          have hb := (Below.refl V185.heap.size V185).alloc (Nat.le_refl _) (.cells #[.int .u64 0, .int .u64 0] 27)
          have hz216 : V185.heap.size < (V185.alloc (.cells #[.int .u64 0, .int .u64 0] 27)).heap.size := by rw [World.size_alloc]; omega
          have tn := Two.new V185 27 (.int .u64 0) (.int .u64 0)
          generalize V185.alloc (.cells #[.int .u64 0, .int .u64 0] 27) = V216 at hb hz216 tn ⊢
          have Ok216 := Lib.hid (Ok185.out.keep hb)
          clear Ok185
          have Xk216 := Lib.hid (Xk185.out.keep hb)
          clear Xk185
          have hbk216 := below_step hbk185 hb
          have hsk216 := hb.size
          clear hb
          have Vn216 := Lib.hid tn
          clear tn
          refine wpAny_ready (rs := [3]) (by kernel_rfl) (by simp) ?_
          refine AllReady.cons rfl (fun KK hKK => ?_) AllReady.nil
          · skip
            go_simp
            refine (rTabMade_any L0 nL cL os K V216 Ok216.out wL.out (by omega)).mono ?_
            rintro e V217 ⟨A4, N4, c4, ys, rfl, hN4, hO4, hb⟩
            obtain rfl : N4 = M := hN4.trans HPOW.out.symm
            clear hN4
            have Ok217 := Lib.hid (Ok216.out.keep hb)
            clear Ok216
            have Xk217 := Lib.hid (Xk216.out.keep hb)
            clear Xk216
            have Vk217 := Lib.hid (Vn216.out.keep hb)
            clear Vn216
            have hbk217 := below_step hbk216 hb
            have hsk217 := hb.size
            have hA217 : ∀ ad, A4 = some ad → V216.heap.size ≤ ad.block ∧ ad.block < V217.heap.size := fun ad ea => World.ownsRow.lt hO4 ad.block (by rw [ea]; rfl)
            have S217 := Lib.hid hO4.sl'
            clear hO4 hb
            refine hKK _ _ ?_
            clear hKK KK
            refine wpAny_ready (rs := [5]) (by kernel_rfl) (by simp) ?_
            refine AllReady.cons rfl (fun KK hKK => ?_) AllReady.nil
            · skip
              go_simp
              refine (rMade_any r1 r2 V217 h1 h2).mono ?_
              rintro e V218 ⟨rfl, hb⟩
              have Ok218 := Lib.hid (Ok217.out.keep hb)
              clear Ok217
              have Xk218 := Lib.hid (Xk217.out.keep hb)
              clear Xk217
              have Sk218 := Lib.hid (S217.out.keep hb)
              clear S217
              have Vk218 := Lib.hid (Vk217.out.keep hb)
              clear Vk217
              have hbk218 := below_step hbk217 hb
              have hsk218 := hb.size
              clear hb
              refine hKK _ _ ?_
              clear hKK KK
              refine wpAny_ready (rs := [8]) (by kernel_rfl) (by simp) ?_
              refine AllReady.cons rfl (fun KK hKK => ?_) AllReady.nil
              · skip
                go_simp
                refine hKK _ _ ?_
                clear hKK KK
                refine wpAny_ready (rs := [9]) (by kernel_rfl) (by simp) ?_
                refine AllReady.cons rfl (fun KK hKK => ?_) AllReady.nil
                · skip
                  have z0 := Vk218.out.c0
                  have z1 := Vk218.out.c1
                  have f0 := Vk218.out.f0
                  have f1 := Vk218.out.f1
                  go_simp
                  refine hKK _ _ ?_
                  clear hKK KK
                  clear z0 z1 f0 f1
                  have tn := (Vk218.out.set0 (.int .u64 (vF (toE r1 r2).A))).set1 (.int .u64 (vF (toE r1 r2).B))
                  have hse : ∀ ad, A4 = some ad → ad.block ≠ V185.heap.size := fun ad ea => by have := hA217 ad ea; omega
                  have sn := (Sk218.out.far6 (a := ⟨V185.heap.size, 0, none⟩) (.int .u64 (vF (toE r1 r2).A)) hse).far6 (a := ⟨V185.heap.size, 1, none⟩) (.int .u64 (vF (toE r1 r2).B)) hse
                  have bn := (hbk218.setCell (p := ⟨V185.heap.size, 0, none⟩) (by simp only; omega) (.int .u64 (vF (toE r1 r2).A))).setCell (p := ⟨V185.heap.size, 1, none⟩) (by simp only; omega) (.int .u64 (vF (toE r1 r2).B))
                  clear Vk218 Sk218 Ok218 Xk218 hse
                  generalize (V218.setCell ⟨V185.heap.size, 0, none⟩ (.int .u64 (vF (toE r1 r2).A))).setCell ⟨V185.heap.size, 1, none⟩ (.int .u64 (vF (toE r1 r2).B)) = V220 at tn sn bn ⊢
                  have Vn220 := Lib.hid tn
                  have S220 := Lib.hid sn
                  clear tn sn
                  refine wpAny_ready (rs := [10]) (by kernel_rfl) (by simp) ?_
                  refine AllReady.cons rfl (fun KK hKK => ?_) AllReady.nil
                  · skip
                    go_simp
                    refine hKK _ _ ?_
                    clear hKK KK
                    refine wpAny_done (by kernel_rfl) ?_ _
                    go_wp2_with fail
                    go_meet
                    case rel => exact ⟨_, _, _, _, _, rfl, rfl, rfl, S220.out, Vn220.out, bn⟩
      · skip
        go_simp
        refine hKK _ _ ?_
        clear hKK KK
        have hb := (Below.refl V185.heap.size V185).alloc (Nat.le_refl _) (.cells #[.int .u64 0, .int .u64 0] 27)
        have hz222 : V185.heap.size < (V185.alloc (.cells #[.int .u64 0, .int .u64 0] 27)).heap.size := by rw [World.size_alloc]; omega
        have tn := Two.new V185 27 (.int .u64 0) (.int .u64 0)
        generalize V185.alloc (.cells #[.int .u64 0, .int .u64 0] 27) = V222 at hb hz222 tn ⊢
        have Ok222 := Lib.hid (Ok185.out.keep hb)
        clear Ok185
        have Xk222 := Lib.hid (Xk185.out.keep hb)
        clear Xk185
        have hbk222 := below_step hbk185 hb
        have hsk222 := hb.size
        clear hb
        have Vn222 := Lib.hid tn
        clear tn
        refine wpAny_ready (rs := [3, 4]) (by kernel_rfl) (by simp) ?_
        refine AllReady.cons rfl (fun KK hKK => ?_) (AllReady.cons rfl (fun KK hKK => ?_) AllReady.nil)
        · skip
          go_simp
          refine (rTabMade_any L0 nL cL os K V222 Ok222.out wL.out (by omega)).mono ?_
          rintro e V223 ⟨A4, N4, c4, ys, rfl, hN4, hO4, hb⟩
          obtain rfl : N4 = M := hN4.trans HPOW.out.symm
          clear hN4
          have Ok223 := Lib.hid (Ok222.out.keep hb)
          clear Ok222
          have Xk223 := Lib.hid (Xk222.out.keep hb)
          clear Xk222
          have Vk223 := Lib.hid (Vn222.out.keep hb)
          clear Vn222
          have hbk223 := below_step hbk222 hb
          have hsk223 := hb.size
          have hA223 : ∀ ad, A4 = some ad → V222.heap.size ≤ ad.block ∧ ad.block < V223.heap.size := fun ad ea => World.ownsRow.lt hO4 ad.block (by rw [ea]; rfl)
          have S223 := Lib.hid hO4.sl'
          clear hO4 hb
          refine hKK _ _ ?_
          clear hKK KK
          refine wpAny_ready (rs := [4]) (by kernel_rfl) (by simp) ?_
          refine AllReady.cons rfl (fun KK hKK => ?_) AllReady.nil
          · skip
            have x0 := Xk223.out.c0
            have x1 := Xk223.out.c1
            go_simp
            clear x0 x1
            refine hKK _ _ ?_
            clear hKK KK
            refine wpAny_ready (rs := [5]) (by kernel_rfl) (by simp) ?_
            refine AllReady.cons rfl (fun KK hKK => ?_) AllReady.nil
            · skip
              go_simp
              refine (rMade_any r1 r2 V223 h1 h2).mono ?_
              rintro e V225 ⟨rfl, hb⟩
              have Ok225 := Lib.hid (Ok223.out.keep hb)
              clear Ok223
              have Xk225 := Lib.hid (Xk223.out.keep hb)
              clear Xk223
              have Sk225 := Lib.hid (S223.out.keep hb)
              clear S223
              have Vk225 := Lib.hid (Vk223.out.keep hb)
              clear Vk223
              have hbk225 := below_step hbk223 hb
              have hsk225 := hb.size
              clear hb
              refine hKK _ _ ?_
              clear hKK KK
              refine wpAny_ready (rs := [8]) (by kernel_rfl) (by simp) ?_
              refine AllReady.cons rfl (fun KK hKK => ?_) AllReady.nil
              · skip
                go_simp
                refine hKK _ _ ?_
                clear hKK KK
                refine wpAny_ready (rs := [9]) (by kernel_rfl) (by simp) ?_
                refine AllReady.cons rfl (fun KK hKK => ?_) AllReady.nil
                · skip
                  have z0 := Vk225.out.c0
                  have z1 := Vk225.out.c1
                  have f0 := Vk225.out.f0
                  have f1 := Vk225.out.f1
                  go_simp
                  refine hKK _ _ ?_
                  clear hKK KK
                  clear z0 z1 f0 f1
                  have tn := (Vk225.out.set0 (.int .u64 (vF (toE r1 r2).A))).set1 (.int .u64 (vF (toE r1 r2).B))
                  have hse : ∀ ad, A4 = some ad → ad.block ≠ V185.heap.size := fun ad ea => by have := hA223 ad ea; omega
                  have sn := (Sk225.out.far6 (a := ⟨V185.heap.size, 0, none⟩) (.int .u64 (vF (toE r1 r2).A)) hse).far6 (a := ⟨V185.heap.size, 1, none⟩) (.int .u64 (vF (toE r1 r2).B)) hse
                  have bn := (hbk225.setCell (p := ⟨V185.heap.size, 0, none⟩) (by simp only; omega) (.int .u64 (vF (toE r1 r2).A))).setCell (p := ⟨V185.heap.size, 1, none⟩) (by simp only; omega) (.int .u64 (vF (toE r1 r2).B))
                  clear Vk225 Sk225 Ok225 Xk225 hse
                  generalize (V225.setCell ⟨V185.heap.size, 0, none⟩ (.int .u64 (vF (toE r1 r2).A))).setCell ⟨V185.heap.size, 1, none⟩ (.int .u64 (vF (toE r1 r2).B)) = V227 at tn sn bn ⊢
                  have Vn227 := Lib.hid tn
                  have S227 := Lib.hid sn
                  clear tn sn
                  refine wpAny_ready (rs := [10]) (by kernel_rfl) (by simp) ?_
                  refine AllReady.cons rfl (fun KK hKK => ?_) AllReady.nil
                  · skip
                    go_simp
                    refine hKK _ _ ?_
                    clear hKK KK
                    refine wpAny_done (by kernel_rfl) ?_ _
                    go_wp2_with fail
                    go_meet
                    case rel => exact ⟨_, _, _, _, _, rfl, rfl, rfl, S227.out, Vn227.out, bn⟩
        · skip
          have x0 := Xk222.out.c0
          have x1 := Xk222.out.c1
          go_simp
          clear x0 x1
          refine hKK _ _ ?_
          clear hKK KK
          refine wpAny_ready (rs := [3]) (by kernel_rfl) (by simp) ?_
          refine AllReady.cons rfl (fun KK hKK => ?_) AllReady.nil
          · skip
            go_simp
            refine (rTabMade_any L0 nL cL os K V222 Ok222.out wL.out (by omega)).mono ?_
            rintro e V230 ⟨A4, N4, c4, ys, rfl, hN4, hO4, hb⟩
            obtain rfl : N4 = M := hN4.trans HPOW.out.symm
            clear hN4
            have Ok230 := Lib.hid (Ok222.out.keep hb)
            clear Ok222
            have Xk230 := Lib.hid (Xk222.out.keep hb)
            clear Xk222
            have Vk230 := Lib.hid (Vn222.out.keep hb)
            clear Vn222
            have hbk230 := below_step hbk222 hb
            have hsk230 := hb.size
            have hA230 : ∀ ad, A4 = some ad → V222.heap.size ≤ ad.block ∧ ad.block < V230.heap.size := fun ad ea => World.ownsRow.lt hO4 ad.block (by rw [ea]; rfl)
            have S230 := Lib.hid hO4.sl'
            clear hO4 hb
            refine hKK _ _ ?_
            clear hKK KK
            refine wpAny_ready (rs := [5]) (by kernel_rfl) (by simp) ?_
            refine AllReady.cons rfl (fun KK hKK => ?_) AllReady.nil
            · skip
              go_simp
              refine (rMade_any r1 r2 V230 h1 h2).mono ?_
              rintro e V231 ⟨rfl, hb⟩
              have Ok231 := Lib.hid (Ok230.out.keep hb)
              clear Ok230
              have Xk231 := Lib.hid (Xk230.out.keep hb)
              clear Xk230
              have Sk231 := Lib.hid (S230.out.keep hb)
              clear S230
              have Vk231 := Lib.hid (Vk230.out.keep hb)
              clear Vk230
              have hbk231 := below_step hbk230 hb
              have hsk231 := hb.size
              clear hb
              refine hKK _ _ ?_
              clear hKK KK
              refine wpAny_ready (rs := [8]) (by kernel_rfl) (by simp) ?_
              refine AllReady.cons rfl (fun KK hKK => ?_) AllReady.nil
              · skip
                go_simp
                refine hKK _ _ ?_
                clear hKK KK
                refine wpAny_ready (rs := [9]) (by kernel_rfl) (by simp) ?_
                refine AllReady.cons rfl (fun KK hKK => ?_) AllReady.nil
                · skip
                  have z0 := Vk231.out.c0
                  have z1 := Vk231.out.c1
                  have f0 := Vk231.out.f0
                  have f1 := Vk231.out.f1
                  go_simp
                  refine hKK _ _ ?_
                  clear hKK KK
                  clear z0 z1 f0 f1
                  have tn := (Vk231.out.set0 (.int .u64 (vF (toE r1 r2).A))).set1 (.int .u64 (vF (toE r1 r2).B))
                  have hse : ∀ ad, A4 = some ad → ad.block ≠ V185.heap.size := fun ad ea => by have := hA230 ad ea; omega
                  have sn := (Sk231.out.far6 (a := ⟨V185.heap.size, 0, none⟩) (.int .u64 (vF (toE r1 r2).A)) hse).far6 (a := ⟨V185.heap.size, 1, none⟩) (.int .u64 (vF (toE r1 r2).B)) hse
                  have bn := (hbk231.setCell (p := ⟨V185.heap.size, 0, none⟩) (by simp only; omega) (.int .u64 (vF (toE r1 r2).A))).setCell (p := ⟨V185.heap.size, 1, none⟩) (by simp only; omega) (.int .u64 (vF (toE r1 r2).B))
                  clear Vk231 Sk231 Ok231 Xk231 hse
                  generalize (V231.setCell ⟨V185.heap.size, 0, none⟩ (.int .u64 (vF (toE r1 r2).A))).setCell ⟨V185.heap.size, 1, none⟩ (.int .u64 (vF (toE r1 r2).B)) = V233 at tn sn bn ⊢
                  have Vn233 := Lib.hid tn
                  have S233 := Lib.hid sn
                  clear tn sn
                  refine wpAny_ready (rs := [10]) (by kernel_rfl) (by simp) ?_
                  refine AllReady.cons rfl (fun KK hKK => ?_) AllReady.nil
                  · skip
                    go_simp
                    refine hKK _ _ ?_
                    clear hKK KK
                    refine wpAny_done (by kernel_rfl) ?_ _
                    go_wp2_with fail
                    go_meet
                    case rel => exact ⟨_, _, _, _, _, rfl, rfl, rfl, S233.out, Vn233.out, bn⟩
    · skip
      go_simp
      refine hKK _ _ ?_
      clear hKK KK
      have hb := (Below.refl V0.heap.size V0).alloc (Nat.le_refl _) (.cells #[.int .u64 0, .int .u64 0] 27)
      have hz235 : V0.heap.size < (V0.alloc (.cells #[.int .u64 0, .int .u64 0] 27)).heap.size := by rw [World.size_alloc]; omega
      have tn := Two.new V0 27 (.int .u64 0) (.int .u64 0)
      generalize V0.alloc (.cells #[.int .u64 0, .int .u64 0] 27) = V235 at hb hz235 tn ⊢
      have Ok235 := Lib.hid (O0.out.keep hb)
      clear O0
      have Xk235 := Lib.hid (X0.out.keep hb)
      clear X0
      have hbk235 := below_step hb0 hb
      have hsk235 := hb.size
      clear hb
      have Vn235 := Lib.hid tn
      clear tn
      refine wpAny_ready (rs := [3, 4, 6]) (by kernel_rfl) (by simp) ?_
      refine AllReady.cons rfl (fun KK hKK => ?_) (AllReady.cons rfl (fun KK hKK => ?_) (AllReady.cons rfl (fun KK hKK => ?_) AllReady.nil))
      · skip
        go_simp
        refine (rTabMade_any L0 nL cL os K V235 Ok235.out wL.out (by omega)).mono ?_
        rintro e V236 ⟨A4, N4, c4, ys, rfl, hN4, hO4, hb⟩
        obtain rfl : N4 = M := hN4.trans HPOW.out.symm
        clear hN4
        have Ok236 := Lib.hid (Ok235.out.keep hb)
        clear Ok235
        have Xk236 := Lib.hid (Xk235.out.keep hb)
        clear Xk235
        have Vk236 := Lib.hid (Vn235.out.keep hb)
        clear Vn235
        have hbk236 := below_step hbk235 hb
        have hsk236 := hb.size
        have hA236 : ∀ ad, A4 = some ad → V235.heap.size ≤ ad.block ∧ ad.block < V236.heap.size := fun ad ea => World.ownsRow.lt hO4 ad.block (by rw [ea]; rfl)
        have S236 := Lib.hid hO4.sl'
        clear hO4 hb
        refine hKK _ _ ?_
        clear hKK KK
        refine wpAny_ready (rs := [4, 6]) (by kernel_rfl) (by simp) ?_
        refine AllReady.cons rfl (fun KK hKK => ?_) (AllReady.cons rfl (fun KK hKK => ?_) AllReady.nil)
        · skip
          have x0 := Xk236.out.c0
          have x1 := Xk236.out.c1
          go_simp
          clear x0 x1
          refine hKK _ _ ?_
          clear hKK KK
          refine wpAny_ready (rs := [5, 6]) (by kernel_rfl) (by simp) ?_
          refine AllReady.cons rfl (fun KK hKK => ?_) (AllReady.cons rfl (fun KK hKK => ?_) AllReady.nil)
          · skip
            go_simp
            refine (rMade_any r1 r2 V236 h1 h2).mono ?_
            rintro e V238 ⟨rfl, hb⟩
            have Ok238 := Lib.hid (Ok236.out.keep hb)
            clear Ok236
            have Xk238 := Lib.hid (Xk236.out.keep hb)
            clear Xk236
            have Sk238 := Lib.hid (S236.out.keep hb)
            clear S236
            have Vk238 := Lib.hid (Vk236.out.keep hb)
            clear Vk236
            have hbk238 := below_step hbk236 hb
            have hsk238 := hb.size
            clear hb
            refine hKK _ _ ?_
            clear hKK KK
            refine wpAny_ready (rs := [6, 8]) (by kernel_rfl) (by simp) ?_
            refine AllReady.cons rfl (fun KK hKK => ?_) (AllReady.cons rfl (fun KK hKK => ?_) AllReady.nil)
            · skip
              go_simp
              refine hKK _ _ ?_
              clear hKK KK
              have hb := (Below.refl V238.heap.size V238).alloc (Nat.le_refl _) (.cells #[] 27)
              have hz239 : V238.heap.size < (V238.alloc (.cells #[] 27)).heap.size := by rw [World.size_alloc]; omega
              generalize V238.alloc (.cells #[] 27) = V239 at hb hz239 ⊢
              have Ok239 := Lib.hid (Ok238.out.keep hb)
              clear Ok238
              have Xk239 := Lib.hid (Xk238.out.keep hb)
              clear Xk238
              have Sk239 := Lib.hid (Sk238.out.keep hb)
              clear Sk238
              have Vk239 := Lib.hid (Vk238.out.keep hb)
              clear Vk238
              have hbk239 := below_step hbk238 hb
              have hsk239 := hb.size
              clear hb
              refine wpAny_ready (rs := [8]) (by kernel_rfl) (by simp) ?_
              refine AllReady.cons rfl (fun KK hKK => ?_) AllReady.nil
              · skip
                go_simp
                refine hKK _ _ ?_
                clear hKK KK
                refine wpAny_ready (rs := [9]) (by kernel_rfl) (by simp) ?_
                refine AllReady.cons rfl (fun KK hKK => ?_) AllReady.nil
                · skip
                  have z0 := Vk239.out.c0
                  have z1 := Vk239.out.c1
                  have f0 := Vk239.out.f0
                  have f1 := Vk239.out.f1
                  go_simp
                  refine hKK _ _ ?_
                  clear hKK KK
                  clear z0 z1 f0 f1
                  have tn := (Vk239.out.set0 (.int .u64 (vF (toE r1 r2).A))).set1 (.int .u64 (vF (toE r1 r2).B))
                  have hse : ∀ ad, A4 = some ad → ad.block ≠ V0.heap.size := fun ad ea => by have := hA236 ad ea; omega
                  have sn := (Sk239.out.far6 (a := ⟨V0.heap.size, 0, none⟩) (.int .u64 (vF (toE r1 r2).A)) hse).far6 (a := ⟨V0.heap.size, 1, none⟩) (.int .u64 (vF (toE r1 r2).B)) hse
                  have bn := (hbk239.setCell (p := ⟨V0.heap.size, 0, none⟩) (by simp only; omega) (.int .u64 (vF (toE r1 r2).A))).setCell (p := ⟨V0.heap.size, 1, none⟩) (by simp only; omega) (.int .u64 (vF (toE r1 r2).B))
                  clear Vk239 Sk239 Ok239 Xk239 hse
                  generalize (V239.setCell ⟨V0.heap.size, 0, none⟩ (.int .u64 (vF (toE r1 r2).A))).setCell ⟨V0.heap.size, 1, none⟩ (.int .u64 (vF (toE r1 r2).B)) = V241 at tn sn bn ⊢
                  have Vn241 := Lib.hid tn
                  have S241 := Lib.hid sn
                  clear tn sn
                  refine wpAny_ready (rs := [10]) (by kernel_rfl) (by simp) ?_
                  refine AllReady.cons rfl (fun KK hKK => ?_) AllReady.nil
                  · skip
                    go_simp
                    refine hKK _ _ ?_
                    clear hKK KK
                    refine wpAny_done (by kernel_rfl) ?_ _
                    go_wp2_with fail
                    go_meet
                    case rel => exact ⟨_, _, _, _, _, rfl, rfl, rfl, S241.out, Vn241.out, bn⟩
            · skip
              go_simp
              refine hKK _ _ ?_
              clear hKK KK
              refine wpAny_ready (rs := [6, 9]) (by kernel_rfl) (by simp) ?_
              refine AllReady.cons rfl (fun KK hKK => ?_) (AllReady.cons rfl (fun KK hKK => ?_) AllReady.nil)
              · skip
                go_simp
                refine hKK _ _ ?_
                clear hKK KK
                have hb := (Below.refl V238.heap.size V238).alloc (Nat.le_refl _) (.cells #[] 27)
                have hz244 : V238.heap.size < (V238.alloc (.cells #[] 27)).heap.size := by rw [World.size_alloc]; omega
                generalize V238.alloc (.cells #[] 27) = V244 at hb hz244 ⊢
                have Ok244 := Lib.hid (Ok238.out.keep hb)
                clear Ok238
                have Xk244 := Lib.hid (Xk238.out.keep hb)
                clear Xk238
                have Sk244 := Lib.hid (Sk238.out.keep hb)
                clear Sk238
                have Vk244 := Lib.hid (Vk238.out.keep hb)
                clear Vk238
                have hbk244 := below_step hbk238 hb
                have hsk244 := hb.size
                clear hb
                refine wpAny_ready (rs := [9]) (by kernel_rfl) (by simp) ?_
                refine AllReady.cons rfl (fun KK hKK => ?_) AllReady.nil
                · skip
                  have z0 := Vk244.out.c0
                  have z1 := Vk244.out.c1
                  have f0 := Vk244.out.f0
                  have f1 := Vk244.out.f1
                  go_simp
                  refine hKK _ _ ?_
                  clear hKK KK
                  clear z0 z1 f0 f1
                  have tn := (Vk244.out.set0 (.int .u64 (vF (toE r1 r2).A))).set1 (.int .u64 (vF (toE r1 r2).B))
                  have hse : ∀ ad, A4 = some ad → ad.block ≠ V0.heap.size := fun ad ea => by have := hA236 ad ea; omega
                  have sn := (Sk244.out.far6 (a := ⟨V0.heap.size, 0, none⟩) (.int .u64 (vF (toE r1 r2).A)) hse).far6 (a := ⟨V0.heap.size, 1, none⟩) (.int .u64 (vF (toE r1 r2).B)) hse
                  have bn := (hbk244.setCell (p := ⟨V0.heap.size, 0, none⟩) (by simp only; omega) (.int .u64 (vF (toE r1 r2).A))).setCell (p := ⟨V0.heap.size, 1, none⟩) (by simp only; omega) (.int .u64 (vF (toE r1 r2).B))
                  clear Vk244 Sk244 Ok244 Xk244 hse
                  generalize (V244.setCell ⟨V0.heap.size, 0, none⟩ (.int .u64 (vF (toE r1 r2).A))).setCell ⟨V0.heap.size, 1, none⟩ (.int .u64 (vF (toE r1 r2).B)) = V245 at tn sn bn ⊢
                  have Vn245 := Lib.hid tn
                  have S245 := Lib.hid sn
                  clear tn sn
                  refine wpAny_ready (rs := [10]) (by kernel_rfl) (by simp) ?_
                  refine AllReady.cons rfl (fun KK hKK => ?_) AllReady.nil
                  · skip
                    go_simp
                    refine hKK _ _ ?_
                    clear hKK KK
                    refine wpAny_done (by kernel_rfl) ?_ _
                    go_wp2_with fail
                    go_meet
                    case rel => exact ⟨_, _, _, _, _, rfl, rfl, rfl, S245.out, Vn245.out, bn⟩
              · skip
                have z0 := Vk238.out.c0
                have z1 := Vk238.out.c1
                have f0 := Vk238.out.f0
                have f1 := Vk238.out.f1
                go_simp
                refine hKK _ _ ?_
                clear hKK KK
                clear z0 z1 f0 f1
                have tn := (Vk238.out.set0 (.int .u64 (vF (toE r1 r2).A))).set1 (.int .u64 (vF (toE r1 r2).B))
                have hse : ∀ ad, A4 = some ad → ad.block ≠ V0.heap.size := fun ad ea => by have := hA236 ad ea; omega
                have sn := (Sk238.out.far6 (a := ⟨V0.heap.size, 0, none⟩) (.int .u64 (vF (toE r1 r2).A)) hse).far6 (a := ⟨V0.heap.size, 1, none⟩) (.int .u64 (vF (toE r1 r2).B)) hse
                have bn := (hbk238.setCell (p := ⟨V0.heap.size, 0, none⟩) (by simp only; omega) (.int .u64 (vF (toE r1 r2).A))).setCell (p := ⟨V0.heap.size, 1, none⟩) (by simp only; omega) (.int .u64 (vF (toE r1 r2).B))
                clear Vk238 Sk238 Ok238 Xk238 hse
                generalize (V238.setCell ⟨V0.heap.size, 0, none⟩ (.int .u64 (vF (toE r1 r2).A))).setCell ⟨V0.heap.size, 1, none⟩ (.int .u64 (vF (toE r1 r2).B)) = V247 at tn sn bn ⊢
                have Vn247 := Lib.hid tn
                have S247 := Lib.hid sn
                clear tn sn
                refine wpAny_ready (rs := [6]) (by kernel_rfl) (by simp) ?_
                refine AllReady.cons rfl (fun KK hKK => ?_) AllReady.nil
                · skip
                  go_simp
                  refine hKK _ _ ?_
                  clear hKK KK
                  have hb := (Below.refl V247.heap.size V247).alloc (Nat.le_refl _) (.cells #[] 27)
                  have hz248 : V247.heap.size < (V247.alloc (.cells #[] 27)).heap.size := by rw [World.size_alloc]; omega
                  generalize V247.alloc (.cells #[] 27) = V248 at hb hz248 ⊢
                  have Sk248 := Lib.hid (S247.out.keep hb)
                  clear S247
                  have Vk248 := Lib.hid (Vn247.out.keep hb)
                  clear Vn247
                  have hbk248 := below_step bn hb
                  have hsk248 := hb.size
                  clear hb
                  refine wpAny_ready (rs := [10]) (by kernel_rfl) (by simp) ?_
                  refine AllReady.cons rfl (fun KK hKK => ?_) AllReady.nil
                  · skip
                    go_simp
                    refine hKK _ _ ?_
                    clear hKK KK
                    refine wpAny_done (by kernel_rfl) ?_ _
                    go_wp2_with fail
                    go_meet
                    case rel => exact ⟨_, _, _, _, _, rfl, rfl, rfl, Sk248.out, Vk248.out, hbk248⟩
          · skip
            go_simp
            refine hKK _ _ ?_
            clear hKK KK
            have hb := (Below.refl V236.heap.size V236).alloc (Nat.le_refl _) (.cells #[] 27)
            have hz250 : V236.heap.size < (V236.alloc (.cells #[] 27)).heap.size := by rw [World.size_alloc]; omega
            generalize V236.alloc (.cells #[] 27) = V250 at hb hz250 ⊢
            have Ok250 := Lib.hid (Ok236.out.keep hb)
            clear Ok236
            have Xk250 := Lib.hid (Xk236.out.keep hb)
            clear Xk236
            have Sk250 := Lib.hid (S236.out.keep hb)
            clear S236
            have Vk250 := Lib.hid (Vk236.out.keep hb)
            clear Vk236
            have hbk250 := below_step hbk236 hb
            have hsk250 := hb.size
            clear hb
            refine wpAny_ready (rs := [5]) (by kernel_rfl) (by simp) ?_
            refine AllReady.cons rfl (fun KK hKK => ?_) AllReady.nil
            · skip
              go_simp
              refine (rMade_any r1 r2 V250 h1 h2).mono ?_
              rintro e V251 ⟨rfl, hb⟩
              have Ok251 := Lib.hid (Ok250.out.keep hb)
              clear Ok250
              have Xk251 := Lib.hid (Xk250.out.keep hb)
              clear Xk250
              have Sk251 := Lib.hid (Sk250.out.keep hb)
              clear Sk250
              have Vk251 := Lib.hid (Vk250.out.keep hb)
              clear Vk250
              have hbk251 := below_step hbk250 hb
              have hsk251 := hb.size
              clear hb
              refine hKK _ _ ?_
              clear hKK KK
              refine wpAny_ready (rs := [8]) (by kernel_rfl) (by simp) ?_
              refine AllReady.cons rfl (fun KK hKK => ?_) AllReady.nil
              · skip
                go_simp
                refine hKK _ _ ?_
                clear hKK KK
                refine wpAny_ready (rs := [9]) (by kernel_rfl) (by simp) ?_
                refine AllReady.cons rfl (fun KK hKK => ?_) AllReady.nil
                · skip
                  have z0 := Vk251.out.c0
                  have z1 := Vk251.out.c1
                  have f0 := Vk251.out.f0
                  have f1 := Vk251.out.f1
                  go_simp
                  refine hKK _ _ ?_
                  clear hKK KK
                  clear z0 z1 f0 f1
                  have tn := (Vk251.out.set0 (.int .u64 (vF (toE r1 r2).A))).set1 (.int .u64 (vF (toE r1 r2).B))
                  have hse : ∀ ad, A4 = some ad → ad.block ≠ V0.heap.size := fun ad ea => by have := hA236 ad ea; omega
                  have sn := (Sk251.out.far6 (a := ⟨V0.heap.size, 0, none⟩) (.int .u64 (vF (toE r1 r2).A)) hse).far6 (a := ⟨V0.heap.size, 1, none⟩) (.int .u64 (vF (toE r1 r2).B)) hse
                  have bn := (hbk251.setCell (p := ⟨V0.heap.size, 0, none⟩) (by simp only; omega) (.int .u64 (vF (toE r1 r2).A))).setCell (p := ⟨V0.heap.size, 1, none⟩) (by simp only; omega) (.int .u64 (vF (toE r1 r2).B))
                  clear Vk251 Sk251 Ok251 Xk251 hse
                  generalize (V251.setCell ⟨V0.heap.size, 0, none⟩ (.int .u64 (vF (toE r1 r2).A))).setCell ⟨V0.heap.size, 1, none⟩ (.int .u64 (vF (toE r1 r2).B)) = V253 at tn sn bn ⊢
                  have Vn253 := Lib.hid tn
                  have S253 := Lib.hid sn
                  clear tn sn
                  refine wpAny_ready (rs := [10]) (by kernel_rfl) (by simp) ?_
                  refine AllReady.cons rfl (fun KK hKK => ?_) AllReady.nil
                  · skip
                    go_simp
                    refine hKK _ _ ?_
                    clear hKK KK
                    refine wpAny_done (by kernel_rfl) ?_ _
                    go_wp2_with fail
                    go_meet
                    case rel => exact ⟨_, _, _, _, _, rfl, rfl, rfl, S253.out, Vn253.out, bn⟩
        · skip
          go_simp
          refine hKK _ _ ?_
          clear hKK KK
          have hb := (Below.refl V236.heap.size V236).alloc (Nat.le_refl _) (.cells #[] 27)
          have hz255 : V236.heap.size < (V236.alloc (.cells #[] 27)).heap.size := by rw [World.size_alloc]; omega
          generalize V236.alloc (.cells #[] 27) = V255 at hb hz255 ⊢
          have Ok255 := Lib.hid (Ok236.out.keep hb)
          clear Ok236
          have Xk255 := Lib.hid (Xk236.out.keep hb)
          clear Xk236
          have Sk255 := Lib.hid (S236.out.keep hb)
          clear S236
          have Vk255 := Lib.hid (Vk236.out.keep hb)
          clear Vk236
          have hbk255 := below_step hbk236 hb
          have hsk255 := hb.size
          clear hb
          refine wpAny_ready (rs := [4]) (by kernel_rfl) (by simp) ?_
          refine AllReady.cons rfl (fun KK hKK => ?_) AllReady.nil
          · skip
            have x0 := Xk255.out.c0
            have x1 := Xk255.out.c1
            go_simp
            clear x0 x1
            refine hKK _ _ ?_
            clear hKK KK
            refine wpAny_ready (rs := [5]) (by kernel_rfl) (by simp) ?_
            refine AllReady.cons rfl (fun KK hKK => ?_) AllReady.nil
            · skip
              go_simp
              refine (rMade_any r1 r2 V255 h1 h2).mono ?_
              rintro e V257 ⟨rfl, hb⟩
              have Ok257 := Lib.hid (Ok255.out.keep hb)
              clear Ok255
              have Xk257 := Lib.hid (Xk255.out.keep hb)
              clear Xk255
              have Sk257 := Lib.hid (Sk255.out.keep hb)
              clear Sk255
              have Vk257 := Lib.hid (Vk255.out.keep hb)
              clear Vk255
              have hbk257 := below_step hbk255 hb
              have hsk257 := hb.size
              clear hb
              refine hKK _ _ ?_
              clear hKK KK
              refine wpAny_ready (rs := [8]) (by kernel_rfl) (by simp) ?_
              refine AllReady.cons rfl (fun KK hKK => ?_) AllReady.nil
              · skip
                go_simp
                refine hKK _ _ ?_
                clear hKK KK
                refine wpAny_ready (rs := [9]) (by kernel_rfl) (by simp) ?_
                refine AllReady.cons rfl (fun KK hKK => ?_) AllReady.nil
                · skip
                  have z0 := Vk257.out.c0
                  have z1 := Vk257.out.c1
                  have f0 := Vk257.out.f0
                  have f1 := Vk257.out.f1
                  go_simp
                  refine hKK _ _ ?_
                  clear hKK KK
                  clear z0 z1 f0 f1
                  have tn := (Vk257.out.set0 (.int .u64 (vF (toE r1 r2).A))).set1 (.int .u64 (vF (toE r1 r2).B))
                  have hse : ∀ ad, A4 = some ad → ad.block ≠ V0.heap.size := fun ad ea => by have := hA236 ad ea; omega
                  have sn := (Sk257.out.far6 (a := ⟨V0.heap.size, 0, none⟩) (.int .u64 (vF (toE r1 r2).A)) hse).far6 (a := ⟨V0.heap.size, 1, none⟩) (.int .u64 (vF (toE r1 r2).B)) hse
                  have bn := (hbk257.setCell (p := ⟨V0.heap.size, 0, none⟩) (by simp only; omega) (.int .u64 (vF (toE r1 r2).A))).setCell (p := ⟨V0.heap.size, 1, none⟩) (by simp only; omega) (.int .u64 (vF (toE r1 r2).B))
                  clear Vk257 Sk257 Ok257 Xk257 hse
                  generalize (V257.setCell ⟨V0.heap.size, 0, none⟩ (.int .u64 (vF (toE r1 r2).A))).setCell ⟨V0.heap.size, 1, none⟩ (.int .u64 (vF (toE r1 r2).B)) = V259 at tn sn bn ⊢
                  have Vn259 := Lib.hid tn
                  have S259 := Lib.hid sn
                  clear tn sn
                  refine wpAny_ready (rs := [10]) (by kernel_rfl) (by simp) ?_
                  refine AllReady.cons rfl (fun KK hKK => ?_) AllReady.nil
                  · skip
                    go_simp
                    refine hKK _ _ ?_
                    clear hKK KK
                    refine wpAny_done (by kernel_rfl) ?_ _
                    go_wp2_with fail
                    go_meet
                    case rel => exact ⟨_, _, _, _, _, rfl, rfl, rfl, S259.out, Vn259.out, bn⟩
      · skip
        have x0 := Xk235.out.c0
        have x1 := Xk235.out.c1
        go_simp
        clear x0 x1
        refine hKK _ _ ?_
        clear hKK KK
        refine wpAny_ready (rs := [3, 6]) (by kernel_rfl) (by simp) ?_
        refine AllReady.cons rfl (fun KK hKK => ?_) (AllReady.cons rfl (fun KK hKK => ?_) AllReady.nil)
        · skip
          go_simp
          refine (rTabMade_any L0 nL cL os K V235 Ok235.out wL.out (by omega)).mono ?_
          rintro e V262 ⟨A4, N4, c4, ys, rfl, hN4, hO4, hb⟩
          obtain rfl : N4 = M := hN4.trans HPOW.out.symm
          clear hN4
          have Ok262 := Lib.hid (Ok235.out.keep hb)
          clear Ok235
          have Xk262 := Lib.hid (Xk235.out.keep hb)
          clear Xk235
          have Vk262 := Lib.hid (Vn235.out.keep hb)
          clear Vn235
          have hbk262 := below_step hbk235 hb
          have hsk262 := hb.size
          have hA262 : ∀ ad, A4 = some ad → V235.heap.size ≤ ad.block ∧ ad.block < V262.heap.size := fun ad ea => World.ownsRow.lt hO4 ad.block (by rw [ea]; rfl)
          have S262 := Lib.hid hO4.sl'
          clear hO4 hb
          refine hKK _ _ ?_
          clear hKK KK
          refine wpAny_ready (rs := [5, 6]) (by kernel_rfl) (by simp) ?_
          refine AllReady.cons rfl (fun KK hKK => ?_) (AllReady.cons rfl (fun KK hKK => ?_) AllReady.nil)
          · skip
            go_simp
            refine (rMade_any r1 r2 V262 h1 h2).mono ?_
            rintro e V263 ⟨rfl, hb⟩
            have Ok263 := Lib.hid (Ok262.out.keep hb)
            clear Ok262
            have Xk263 := Lib.hid (Xk262.out.keep hb)
            clear Xk262
            have Sk263 := Lib.hid (S262.out.keep hb)
            clear S262
            have Vk263 := Lib.hid (Vk262.out.keep hb)
            clear Vk262
            have hbk263 := below_step hbk262 hb
            have hsk263 := hb.size
            clear hb
            refine hKK _ _ ?_
            clear hKK KK
            refine wpAny_ready (rs := [6, 8]) (by kernel_rfl) (by simp) ?_
            refine AllReady.cons rfl (fun KK hKK => ?_) (AllReady.cons rfl (fun KK hKK => ?_) AllReady.nil)
            · skip
              go_simp
              refine hKK _ _ ?_
              clear hKK KK
              have hb := (Below.refl V263.heap.size V263).alloc (Nat.le_refl _) (.cells #[] 27)
              have hz264 : V263.heap.size < (V263.alloc (.cells #[] 27)).heap.size := by rw [World.size_alloc]; omega
              generalize V263.alloc (.cells #[] 27) = V264 at hb hz264 ⊢
              have Ok264 := Lib.hid (Ok263.out.keep hb)
              clear Ok263
              have Xk264 := Lib.hid (Xk263.out.keep hb)
              clear Xk263
              have Sk264 := Lib.hid (Sk263.out.keep hb)
              clear Sk263
              have Vk264 := Lib.hid (Vk263.out.keep hb)
              clear Vk263
              have hbk264 := below_step hbk263 hb
              have hsk264 := hb.size
              clear hb
              refine wpAny_ready (rs := [8]) (by kernel_rfl) (by simp) ?_
              refine AllReady.cons rfl (fun KK hKK => ?_) AllReady.nil
              · skip
                go_simp
                refine hKK _ _ ?_
                clear hKK KK
                refine wpAny_ready (rs := [9]) (by kernel_rfl) (by simp) ?_
                refine AllReady.cons rfl (fun KK hKK => ?_) AllReady.nil
                · skip
                  have z0 := Vk264.out.c0
                  have z1 := Vk264.out.c1
                  have f0 := Vk264.out.f0
                  have f1 := Vk264.out.f1
                  go_simp
                  refine hKK _ _ ?_
                  clear hKK KK
                  clear z0 z1 f0 f1
                  have tn := (Vk264.out.set0 (.int .u64 (vF (toE r1 r2).A))).set1 (.int .u64 (vF (toE r1 r2).B))
                  have hse : ∀ ad, A4 = some ad → ad.block ≠ V0.heap.size := fun ad ea => by have := hA262 ad ea; omega
                  have sn := (Sk264.out.far6 (a := ⟨V0.heap.size, 0, none⟩) (.int .u64 (vF (toE r1 r2).A)) hse).far6 (a := ⟨V0.heap.size, 1, none⟩) (.int .u64 (vF (toE r1 r2).B)) hse
                  have bn := (hbk264.setCell (p := ⟨V0.heap.size, 0, none⟩) (by simp only; omega) (.int .u64 (vF (toE r1 r2).A))).setCell (p := ⟨V0.heap.size, 1, none⟩) (by simp only; omega) (.int .u64 (vF (toE r1 r2).B))
                  clear Vk264 Sk264 Ok264 Xk264 hse
                  generalize (V264.setCell ⟨V0.heap.size, 0, none⟩ (.int .u64 (vF (toE r1 r2).A))).setCell ⟨V0.heap.size, 1, none⟩ (.int .u64 (vF (toE r1 r2).B)) = V266 at tn sn bn ⊢
                  have Vn266 := Lib.hid tn
                  have S266 := Lib.hid sn
                  clear tn sn
                  refine wpAny_ready (rs := [10]) (by kernel_rfl) (by simp) ?_
                  refine AllReady.cons rfl (fun KK hKK => ?_) AllReady.nil
                  · skip
                    go_simp
                    refine hKK _ _ ?_
                    clear hKK KK
                    refine wpAny_done (by kernel_rfl) ?_ _
                    go_wp2_with fail
                    go_meet
                    case rel => exact ⟨_, _, _, _, _, rfl, rfl, rfl, S266.out, Vn266.out, bn⟩
            · skip
              go_simp
              refine hKK _ _ ?_
              clear hKK KK
              refine wpAny_ready (rs := [6, 9]) (by kernel_rfl) (by simp) ?_
              refine AllReady.cons rfl (fun KK hKK => ?_) (AllReady.cons rfl (fun KK hKK => ?_) AllReady.nil)
              · skip
                go_simp
                refine hKK _ _ ?_
                clear hKK KK
                have hb := (Below.refl V263.heap.size V263).alloc (Nat.le_refl _) (.cells #[] 27)
                have hz269 : V263.heap.size < (V263.alloc (.cells #[] 27)).heap.size := by rw [World.size_alloc]; omega
                generalize V263.alloc (.cells #[] 27) = V269 at hb hz269 ⊢
                have Ok269 := Lib.hid (Ok263.out.keep hb)
                clear Ok263
                have Xk269 := Lib.hid (Xk263.out.keep hb)
                clear Xk263
                have Sk269 := Lib.hid (Sk263.out.keep hb)
                clear Sk263
                have Vk269 := Lib.hid (Vk263.out.keep hb)
                clear Vk263
                have hbk269 := below_step hbk263 hb
                have hsk269 := hb.size
                clear hb
                refine wpAny_ready (rs := [9]) (by kernel_rfl) (by simp) ?_
                refine AllReady.cons rfl (fun KK hKK => ?_) AllReady.nil
                · skip
                  have z0 := Vk269.out.c0
                  have z1 := Vk269.out.c1
                  have f0 := Vk269.out.f0
                  have f1 := Vk269.out.f1
                  go_simp
                  refine hKK _ _ ?_
                  clear hKK KK
                  clear z0 z1 f0 f1
                  have tn := (Vk269.out.set0 (.int .u64 (vF (toE r1 r2).A))).set1 (.int .u64 (vF (toE r1 r2).B))
                  have hse : ∀ ad, A4 = some ad → ad.block ≠ V0.heap.size := fun ad ea => by have := hA262 ad ea; omega
                  have sn := (Sk269.out.far6 (a := ⟨V0.heap.size, 0, none⟩) (.int .u64 (vF (toE r1 r2).A)) hse).far6 (a := ⟨V0.heap.size, 1, none⟩) (.int .u64 (vF (toE r1 r2).B)) hse
                  have bn := (hbk269.setCell (p := ⟨V0.heap.size, 0, none⟩) (by simp only; omega) (.int .u64 (vF (toE r1 r2).A))).setCell (p := ⟨V0.heap.size, 1, none⟩) (by simp only; omega) (.int .u64 (vF (toE r1 r2).B))
                  clear Vk269 Sk269 Ok269 Xk269 hse
                  generalize (V269.setCell ⟨V0.heap.size, 0, none⟩ (.int .u64 (vF (toE r1 r2).A))).setCell ⟨V0.heap.size, 1, none⟩ (.int .u64 (vF (toE r1 r2).B)) = V270 at tn sn bn ⊢
                  have Vn270 := Lib.hid tn
                  have S270 := Lib.hid sn
                  clear tn sn
                  refine wpAny_ready (rs := [10]) (by kernel_rfl) (by simp) ?_
                  refine AllReady.cons rfl (fun KK hKK => ?_) AllReady.nil
                  · skip
                    go_simp
                    refine hKK _ _ ?_
                    clear hKK KK
                    refine wpAny_done (by kernel_rfl) ?_ _
                    go_wp2_with fail
                    go_meet
                    case rel => exact ⟨_, _, _, _, _, rfl, rfl, rfl, S270.out, Vn270.out, bn⟩
              · skip
                have z0 := Vk263.out.c0
                have z1 := Vk263.out.c1
                have f0 := Vk263.out.f0
                have f1 := Vk263.out.f1
                go_simp
                refine hKK _ _ ?_
                clear hKK KK
                clear z0 z1 f0 f1
                have tn := (Vk263.out.set0 (.int .u64 (vF (toE r1 r2).A))).set1 (.int .u64 (vF (toE r1 r2).B))
                have hse : ∀ ad, A4 = some ad → ad.block ≠ V0.heap.size := fun ad ea => by have := hA262 ad ea; omega
                have sn := (Sk263.out.far6 (a := ⟨V0.heap.size, 0, none⟩) (.int .u64 (vF (toE r1 r2).A)) hse).far6 (a := ⟨V0.heap.size, 1, none⟩) (.int .u64 (vF (toE r1 r2).B)) hse
                have bn := (hbk263.setCell (p := ⟨V0.heap.size, 0, none⟩) (by simp only; omega) (.int .u64 (vF (toE r1 r2).A))).setCell (p := ⟨V0.heap.size, 1, none⟩) (by simp only; omega) (.int .u64 (vF (toE r1 r2).B))
                clear Vk263 Sk263 Ok263 Xk263 hse
                generalize (V263.setCell ⟨V0.heap.size, 0, none⟩ (.int .u64 (vF (toE r1 r2).A))).setCell ⟨V0.heap.size, 1, none⟩ (.int .u64 (vF (toE r1 r2).B)) = V272 at tn sn bn ⊢
                have Vn272 := Lib.hid tn
                have S272 := Lib.hid sn
                clear tn sn
                refine wpAny_ready (rs := [6]) (by kernel_rfl) (by simp) ?_
                refine AllReady.cons rfl (fun KK hKK => ?_) AllReady.nil
                · skip
                  go_simp
                  refine hKK _ _ ?_
                  clear hKK KK
                  have hb := (Below.refl V272.heap.size V272).alloc (Nat.le_refl _) (.cells #[] 27)
                  have hz273 : V272.heap.size < (V272.alloc (.cells #[] 27)).heap.size := by rw [World.size_alloc]; omega
                  generalize V272.alloc (.cells #[] 27) = V273 at hb hz273 ⊢
                  have Sk273 := Lib.hid (S272.out.keep hb)
                  clear S272
                  have Vk273 := Lib.hid (Vn272.out.keep hb)
                  clear Vn272
                  have hbk273 := below_step bn hb
                  have hsk273 := hb.size
                  clear hb
                  refine wpAny_ready (rs := [10]) (by kernel_rfl) (by simp) ?_
                  refine AllReady.cons rfl (fun KK hKK => ?_) AllReady.nil
                  · skip
                    go_simp
                    refine hKK _ _ ?_
                    clear hKK KK
                    refine wpAny_done (by kernel_rfl) ?_ _
                    go_wp2_with fail
                    go_meet
                    case rel => exact ⟨_, _, _, _, _, rfl, rfl, rfl, Sk273.out, Vk273.out, hbk273⟩
          · skip
            go_simp
            refine hKK _ _ ?_
            clear hKK KK
            have hb := (Below.refl V262.heap.size V262).alloc (Nat.le_refl _) (.cells #[] 27)
            have hz275 : V262.heap.size < (V262.alloc (.cells #[] 27)).heap.size := by rw [World.size_alloc]; omega
            generalize V262.alloc (.cells #[] 27) = V275 at hb hz275 ⊢
            have Ok275 := Lib.hid (Ok262.out.keep hb)
            clear Ok262
            have Xk275 := Lib.hid (Xk262.out.keep hb)
            clear Xk262
            have Sk275 := Lib.hid (S262.out.keep hb)
            clear S262
            have Vk275 := Lib.hid (Vk262.out.keep hb)
            clear Vk262
            have hbk275 := below_step hbk262 hb
            have hsk275 := hb.size
            clear hb
            refine wpAny_ready (rs := [5]) (by kernel_rfl) (by simp) ?_
            refine AllReady.cons rfl (fun KK hKK => ?_) AllReady.nil
            · skip
              go_simp
              refine (rMade_any r1 r2 V275 h1 h2).mono ?_
              rintro e V276 ⟨rfl, hb⟩
              have Ok276 := Lib.hid (Ok275.out.keep hb)
              clear Ok275
              have Xk276 := Lib.hid (Xk275.out.keep hb)
              clear Xk275
              have Sk276 := Lib.hid (Sk275.out.keep hb)
              clear Sk275
              have Vk276 := Lib.hid (Vk275.out.keep hb)
              clear Vk275
              have hbk276 := below_step hbk275 hb
              have hsk276 := hb.size
              clear hb
              refine hKK _ _ ?_
              clear hKK KK
              refine wpAny_ready (rs := [8]) (by kernel_rfl) (by simp) ?_
              refine AllReady.cons rfl (fun KK hKK => ?_) AllReady.nil
              · skip
                go_simp
                refine hKK _ _ ?_
                clear hKK KK
                refine wpAny_ready (rs := [9]) (by kernel_rfl) (by simp) ?_
                refine AllReady.cons rfl (fun KK hKK => ?_) AllReady.nil
                · skip
                  have z0 := Vk276.out.c0
                  have z1 := Vk276.out.c1
                  have f0 := Vk276.out.f0
                  have f1 := Vk276.out.f1
                  go_simp
                  refine hKK _ _ ?_
                  clear hKK KK
                  clear z0 z1 f0 f1
                  have tn := (Vk276.out.set0 (.int .u64 (vF (toE r1 r2).A))).set1 (.int .u64 (vF (toE r1 r2).B))
                  have hse : ∀ ad, A4 = some ad → ad.block ≠ V0.heap.size := fun ad ea => by have := hA262 ad ea; omega
                  have sn := (Sk276.out.far6 (a := ⟨V0.heap.size, 0, none⟩) (.int .u64 (vF (toE r1 r2).A)) hse).far6 (a := ⟨V0.heap.size, 1, none⟩) (.int .u64 (vF (toE r1 r2).B)) hse
                  have bn := (hbk276.setCell (p := ⟨V0.heap.size, 0, none⟩) (by simp only; omega) (.int .u64 (vF (toE r1 r2).A))).setCell (p := ⟨V0.heap.size, 1, none⟩) (by simp only; omega) (.int .u64 (vF (toE r1 r2).B))
                  clear Vk276 Sk276 Ok276 Xk276 hse
                  generalize (V276.setCell ⟨V0.heap.size, 0, none⟩ (.int .u64 (vF (toE r1 r2).A))).setCell ⟨V0.heap.size, 1, none⟩ (.int .u64 (vF (toE r1 r2).B)) = V278 at tn sn bn ⊢
                  have Vn278 := Lib.hid tn
                  have S278 := Lib.hid sn
                  clear tn sn
                  refine wpAny_ready (rs := [10]) (by kernel_rfl) (by simp) ?_
                  refine AllReady.cons rfl (fun KK hKK => ?_) AllReady.nil
                  · skip
                    go_simp
                    refine hKK _ _ ?_
                    clear hKK KK
                    refine wpAny_done (by kernel_rfl) ?_ _
                    go_wp2_with fail
                    go_meet
                    case rel => exact ⟨_, _, _, _, _, rfl, rfl, rfl, S278.out, Vn278.out, bn⟩
        · skip
          go_simp
          refine hKK _ _ ?_
          clear hKK KK
          have hb := (Below.refl V235.heap.size V235).alloc (Nat.le_refl _) (.cells #[] 27)
          have hz280 : V235.heap.size < (V235.alloc (.cells #[] 27)).heap.size := by rw [World.size_alloc]; omega
          generalize V235.alloc (.cells #[] 27) = V280 at hb hz280 ⊢
          have Ok280 := Lib.hid (Ok235.out.keep hb)
          clear Ok235
          have Xk280 := Lib.hid (Xk235.out.keep hb)
          clear Xk235
          have Vk280 := Lib.hid (Vn235.out.keep hb)
          clear Vn235
          have hbk280 := below_step hbk235 hb
          have hsk280 := hb.size
          clear hb
          refine wpAny_ready (rs := [3]) (by kernel_rfl) (by simp) ?_
          refine AllReady.cons rfl (fun KK hKK => ?_) AllReady.nil
          · skip
            go_simp
            refine (rTabMade_any L0 nL cL os K V280 Ok280.out wL.out (by omega)).mono ?_
            rintro e V281 ⟨A4, N4, c4, ys, rfl, hN4, hO4, hb⟩
            obtain rfl : N4 = M := hN4.trans HPOW.out.symm
            clear hN4
            have Ok281 := Lib.hid (Ok280.out.keep hb)
            clear Ok280
            have Xk281 := Lib.hid (Xk280.out.keep hb)
            clear Xk280
            have Vk281 := Lib.hid (Vk280.out.keep hb)
            clear Vk280
            have hbk281 := below_step hbk280 hb
            have hsk281 := hb.size
            have hA281 : ∀ ad, A4 = some ad → V280.heap.size ≤ ad.block ∧ ad.block < V281.heap.size := fun ad ea => World.ownsRow.lt hO4 ad.block (by rw [ea]; rfl)
            have S281 := Lib.hid hO4.sl'
            clear hO4 hb
            refine hKK _ _ ?_
            clear hKK KK
            refine wpAny_ready (rs := [5]) (by kernel_rfl) (by simp) ?_
            refine AllReady.cons rfl (fun KK hKK => ?_) AllReady.nil
            · skip
              go_simp
              refine (rMade_any r1 r2 V281 h1 h2).mono ?_
              rintro e V282 ⟨rfl, hb⟩
              have Ok282 := Lib.hid (Ok281.out.keep hb)
              clear Ok281
              have Xk282 := Lib.hid (Xk281.out.keep hb)
              clear Xk281
              have Sk282 := Lib.hid (S281.out.keep hb)
              clear S281
              have Vk282 := Lib.hid (Vk281.out.keep hb)
              clear Vk281
              have hbk282 := below_step hbk281 hb
              have hsk282 := hb.size
              clear hb
              refine hKK _ _ ?_
              clear hKK KK
              refine wpAny_ready (rs := [8]) (by kernel_rfl) (by simp) ?_
              refine AllReady.cons rfl (fun KK hKK => ?_) AllReady.nil
              · skip
                go_simp
                refine hKK _ _ ?_
                clear hKK KK
                refine wpAny_ready (rs := [9]) (by kernel_rfl) (by simp) ?_
                refine AllReady.cons rfl (fun KK hKK => ?_) AllReady.nil
                · skip
                  have z0 := Vk282.out.c0
                  have z1 := Vk282.out.c1
                  have f0 := Vk282.out.f0
                  have f1 := Vk282.out.f1
                  go_simp
                  refine hKK _ _ ?_
                  clear hKK KK
                  clear z0 z1 f0 f1
                  have tn := (Vk282.out.set0 (.int .u64 (vF (toE r1 r2).A))).set1 (.int .u64 (vF (toE r1 r2).B))
                  have hse : ∀ ad, A4 = some ad → ad.block ≠ V0.heap.size := fun ad ea => by have := hA281 ad ea; omega
                  have sn := (Sk282.out.far6 (a := ⟨V0.heap.size, 0, none⟩) (.int .u64 (vF (toE r1 r2).A)) hse).far6 (a := ⟨V0.heap.size, 1, none⟩) (.int .u64 (vF (toE r1 r2).B)) hse
                  have bn := (hbk282.setCell (p := ⟨V0.heap.size, 0, none⟩) (by simp only; omega) (.int .u64 (vF (toE r1 r2).A))).setCell (p := ⟨V0.heap.size, 1, none⟩) (by simp only; omega) (.int .u64 (vF (toE r1 r2).B))
                  clear Vk282 Sk282 Ok282 Xk282 hse
                  generalize (V282.setCell ⟨V0.heap.size, 0, none⟩ (.int .u64 (vF (toE r1 r2).A))).setCell ⟨V0.heap.size, 1, none⟩ (.int .u64 (vF (toE r1 r2).B)) = V284 at tn sn bn ⊢
                  have Vn284 := Lib.hid tn
                  have S284 := Lib.hid sn
                  clear tn sn
                  refine wpAny_ready (rs := [10]) (by kernel_rfl) (by simp) ?_
                  refine AllReady.cons rfl (fun KK hKK => ?_) AllReady.nil
                  · skip
                    go_simp
                    refine hKK _ _ ?_
                    clear hKK KK
                    refine wpAny_done (by kernel_rfl) ?_ _
                    go_wp2_with fail
                    go_meet
                    case rel => exact ⟨_, _, _, _, _, rfl, rfl, rfl, S284.out, Vn284.out, bn⟩
      · skip
        go_simp
        refine hKK _ _ ?_
        clear hKK KK
        have hb := (Below.refl V235.heap.size V235).alloc (Nat.le_refl _) (.cells #[] 27)
        have hz286 : V235.heap.size < (V235.alloc (.cells #[] 27)).heap.size := by rw [World.size_alloc]; omega
        generalize V235.alloc (.cells #[] 27) = V286 at hb hz286 ⊢
        have Ok286 := Lib.hid (Ok235.out.keep hb)
        clear Ok235
        have Xk286 := Lib.hid (Xk235.out.keep hb)
        clear Xk235
        have Vk286 := Lib.hid (Vn235.out.keep hb)
        clear Vn235
        have hbk286 := below_step hbk235 hb
        have hsk286 := hb.size
        clear hb
        refine wpAny_ready (rs := [3, 4]) (by kernel_rfl) (by simp) ?_
        refine AllReady.cons rfl (fun KK hKK => ?_) (AllReady.cons rfl (fun KK hKK => ?_) AllReady.nil)
        · skip
          go_simp
          refine (rTabMade_any L0 nL cL os K V286 Ok286.out wL.out (by omega)).mono ?_
          rintro e V287 ⟨A4, N4, c4, ys, rfl, hN4, hO4, hb⟩
          obtain rfl : N4 = M := hN4.trans HPOW.out.symm
          clear hN4
          have Ok287 := Lib.hid (Ok286.out.keep hb)
          clear Ok286
          have Xk287 := Lib.hid (Xk286.out.keep hb)
          clear Xk286
          have Vk287 := Lib.hid (Vk286.out.keep hb)
          clear Vk286
          have hbk287 := below_step hbk286 hb
          have hsk287 := hb.size
          have hA287 : ∀ ad, A4 = some ad → V286.heap.size ≤ ad.block ∧ ad.block < V287.heap.size := fun ad ea => World.ownsRow.lt hO4 ad.block (by rw [ea]; rfl)
          have S287 := Lib.hid hO4.sl'
          clear hO4 hb
          refine hKK _ _ ?_
          clear hKK KK
          refine wpAny_ready (rs := [4]) (by kernel_rfl) (by simp) ?_
          refine AllReady.cons rfl (fun KK hKK => ?_) AllReady.nil
          · skip
            have x0 := Xk287.out.c0
            have x1 := Xk287.out.c1
            go_simp
            clear x0 x1
            refine hKK _ _ ?_
            clear hKK KK
            refine wpAny_ready (rs := [5]) (by kernel_rfl) (by simp) ?_
            refine AllReady.cons rfl (fun KK hKK => ?_) AllReady.nil
            · skip
              go_simp
              refine (rMade_any r1 r2 V287 h1 h2).mono ?_
              rintro e V289 ⟨rfl, hb⟩
              have Ok289 := Lib.hid (Ok287.out.keep hb)
              clear Ok287
              have Xk289 := Lib.hid (Xk287.out.keep hb)
              clear Xk287
              have Sk289 := Lib.hid (S287.out.keep hb)
              clear S287
              have Vk289 := Lib.hid (Vk287.out.keep hb)
              clear Vk287
              have hbk289 := below_step hbk287 hb
              have hsk289 := hb.size
              clear hb
              refine hKK _ _ ?_
              clear hKK KK
              refine wpAny_ready (rs := [8]) (by kernel_rfl) (by simp) ?_
              refine AllReady.cons rfl (fun KK hKK => ?_) AllReady.nil
              · skip
                go_simp
                refine hKK _ _ ?_
                clear hKK KK
                refine wpAny_ready (rs := [9]) (by kernel_rfl) (by simp) ?_
                refine AllReady.cons rfl (fun KK hKK => ?_) AllReady.nil
                · skip
                  have z0 := Vk289.out.c0
                  have z1 := Vk289.out.c1
                  have f0 := Vk289.out.f0
                  have f1 := Vk289.out.f1
                  go_simp
                  refine hKK _ _ ?_
                  clear hKK KK
                  clear z0 z1 f0 f1
                  have tn := (Vk289.out.set0 (.int .u64 (vF (toE r1 r2).A))).set1 (.int .u64 (vF (toE r1 r2).B))
                  have hse : ∀ ad, A4 = some ad → ad.block ≠ V0.heap.size := fun ad ea => by have := hA287 ad ea; omega
                  have sn := (Sk289.out.far6 (a := ⟨V0.heap.size, 0, none⟩) (.int .u64 (vF (toE r1 r2).A)) hse).far6 (a := ⟨V0.heap.size, 1, none⟩) (.int .u64 (vF (toE r1 r2).B)) hse
                  have bn := (hbk289.setCell (p := ⟨V0.heap.size, 0, none⟩) (by simp only; omega) (.int .u64 (vF (toE r1 r2).A))).setCell (p := ⟨V0.heap.size, 1, none⟩) (by simp only; omega) (.int .u64 (vF (toE r1 r2).B))
                  clear Vk289 Sk289 Ok289 Xk289 hse
                  generalize (V289.setCell ⟨V0.heap.size, 0, none⟩ (.int .u64 (vF (toE r1 r2).A))).setCell ⟨V0.heap.size, 1, none⟩ (.int .u64 (vF (toE r1 r2).B)) = V291 at tn sn bn ⊢
                  have Vn291 := Lib.hid tn
                  have S291 := Lib.hid sn
                  clear tn sn
                  refine wpAny_ready (rs := [10]) (by kernel_rfl) (by simp) ?_
                  refine AllReady.cons rfl (fun KK hKK => ?_) AllReady.nil
                  · skip
                    go_simp
                    refine hKK _ _ ?_
                    clear hKK KK
                    refine wpAny_done (by kernel_rfl) ?_ _
                    go_wp2_with fail
                    go_meet
                    case rel => exact ⟨_, _, _, _, _, rfl, rfl, rfl, S291.out, Vn291.out, bn⟩
        · skip
          have x0 := Xk286.out.c0
          have x1 := Xk286.out.c1
          go_simp
          clear x0 x1
          refine hKK _ _ ?_
          clear hKK KK
          refine wpAny_ready (rs := [3]) (by kernel_rfl) (by simp) ?_
          refine AllReady.cons rfl (fun KK hKK => ?_) AllReady.nil
          · skip
            go_simp
            refine (rTabMade_any L0 nL cL os K V286 Ok286.out wL.out (by omega)).mono ?_
            rintro e V294 ⟨A4, N4, c4, ys, rfl, hN4, hO4, hb⟩
            obtain rfl : N4 = M := hN4.trans HPOW.out.symm
            clear hN4
            have Ok294 := Lib.hid (Ok286.out.keep hb)
            clear Ok286
            have Xk294 := Lib.hid (Xk286.out.keep hb)
            clear Xk286
            have Vk294 := Lib.hid (Vk286.out.keep hb)
            clear Vk286
            have hbk294 := below_step hbk286 hb
            have hsk294 := hb.size
            have hA294 : ∀ ad, A4 = some ad → V286.heap.size ≤ ad.block ∧ ad.block < V294.heap.size := fun ad ea => World.ownsRow.lt hO4 ad.block (by rw [ea]; rfl)
            have S294 := Lib.hid hO4.sl'
            clear hO4 hb
            refine hKK _ _ ?_
            clear hKK KK
            refine wpAny_ready (rs := [5]) (by kernel_rfl) (by simp) ?_
            refine AllReady.cons rfl (fun KK hKK => ?_) AllReady.nil
            · skip
              go_simp
              refine (rMade_any r1 r2 V294 h1 h2).mono ?_
              rintro e V295 ⟨rfl, hb⟩
              have Ok295 := Lib.hid (Ok294.out.keep hb)
              clear Ok294
              have Xk295 := Lib.hid (Xk294.out.keep hb)
              clear Xk294
              have Sk295 := Lib.hid (S294.out.keep hb)
              clear S294
              have Vk295 := Lib.hid (Vk294.out.keep hb)
              clear Vk294
              have hbk295 := below_step hbk294 hb
              have hsk295 := hb.size
              clear hb
              refine hKK _ _ ?_
              clear hKK KK
              refine wpAny_ready (rs := [8]) (by kernel_rfl) (by simp) ?_
              refine AllReady.cons rfl (fun KK hKK => ?_) AllReady.nil
              · skip
                go_simp
                refine hKK _ _ ?_
                clear hKK KK
                refine wpAny_ready (rs := [9]) (by kernel_rfl) (by simp) ?_
                refine AllReady.cons rfl (fun KK hKK => ?_) AllReady.nil
                · skip
                  have z0 := Vk295.out.c0
                  have z1 := Vk295.out.c1
                  have f0 := Vk295.out.f0
                  have f1 := Vk295.out.f1
                  go_simp
                  refine hKK _ _ ?_
                  clear hKK KK
                  clear z0 z1 f0 f1
                  have tn := (Vk295.out.set0 (.int .u64 (vF (toE r1 r2).A))).set1 (.int .u64 (vF (toE r1 r2).B))
                  have hse : ∀ ad, A4 = some ad → ad.block ≠ V0.heap.size := fun ad ea => by have := hA294 ad ea; omega
                  have sn := (Sk295.out.far6 (a := ⟨V0.heap.size, 0, none⟩) (.int .u64 (vF (toE r1 r2).A)) hse).far6 (a := ⟨V0.heap.size, 1, none⟩) (.int .u64 (vF (toE r1 r2).B)) hse
                  have bn := (hbk295.setCell (p := ⟨V0.heap.size, 0, none⟩) (by simp only; omega) (.int .u64 (vF (toE r1 r2).A))).setCell (p := ⟨V0.heap.size, 1, none⟩) (by simp only; omega) (.int .u64 (vF (toE r1 r2).B))
                  clear Vk295 Sk295 Ok295 Xk295 hse
                  generalize (V295.setCell ⟨V0.heap.size, 0, none⟩ (.int .u64 (vF (toE r1 r2).A))).setCell ⟨V0.heap.size, 1, none⟩ (.int .u64 (vF (toE r1 r2).B)) = V297 at tn sn bn ⊢
                  have Vn297 := Lib.hid tn
                  have S297 := Lib.hid sn
                  clear tn sn
                  refine wpAny_ready (rs := [10]) (by kernel_rfl) (by simp) ?_
                  refine AllReady.cons rfl (fun KK hKK => ?_) AllReady.nil
                  · skip
                    go_simp
                    refine hKK _ _ ?_
                    clear hKK KK
                    refine wpAny_done (by kernel_rfl) ?_ _
                    go_wp2_with fail
                    go_meet
                    case rel => exact ⟨_, _, _, _, _, rfl, rfl, rfl, S297.out, Vn297.out, bn⟩
  case rest =>
    obtain ⟨A4, c4, bx, gv, ys, rfl, rfl, rfl, hs, hk, hb⟩ := hcut
    generalize hk0 : toE r1 r2 = k at hk
    clear hk0
    have HSs := Lib.hid hs
    have HKs := Lib.hid hk
    have HTs := Lib.hid (t10.out.keep hb)
    have HPs := Lib.hid (p11.out.keep hb)
    have HBs := Lib.hid (below_step HB8.out hb)
    clear hs hk hb t10 p11 HB8 L8 X1_8
    go_wp2_with fail
    go_loopw [13, 14] (fun v t wr => ∃ j : Nat, j ≤ M ∧ t = .int .i64 j ∧ OwG wr wc.heap.size v j (tabE j fun i => cfE xs i + k * cfE ys i) ∧ Below wc.heap.size wc wr) (fun _ t _ => M - (intOf t).toNat)
    case atStart => exact ⟨0, Nat.zero_le _, rfl, .inr ⟨gv, rfl, rfl, rfl⟩, Below.refl _ _⟩
    case round =>
      obtain ⟨j, hj, rfl, ho, hb⟩ := hrel
      have HO := Lib.hid ho
      have HB := Lib.hid hb
      clear ho hb
      by_cases hlt : j < M
      · obtain ⟨x, hx⟩ := HTs.out.get hlt
        obtain ⟨ad, had, p0, p1⟩ := HTs.out.at_ hx
        injection had with had
        subst had
        simp only [add_base] at p0 p1
        obtain ⟨y, hy⟩ := HSs.out.get hlt
        obtain ⟨ad', rfl, q0, q1⟩ := HSs.out.at_ hy
        have HXe := Lib.hid (cfE_some hx)
        have HYe := Lib.hid (cfE_some hy)
        have l0 := LaterB.cell (B := wc.heap.size) (cell_keep p0 HB.out) (World.block_lt_of_cell? wc _ p0)
        have l1 := LaterB.cell (B := wc.heap.size) (cell_keep p1 HB.out) (World.block_lt_of_cell? wc _ p1)
        have l2 := LaterB.cell (B := wc.heap.size) (cell_keep q0 HB.out) (World.block_lt_of_cell? wc _ q0)
        have l3 := LaterB.cell (B := wc.heap.size) (cell_keep q1 HB.out) (World.block_lt_of_cell? wc _ q1)
        have l4 := LaterB.cell (B := wc.heap.size) (HKs.out.keep HB.out).c0 HKs.out.lt
        have l5 := LaterB.cell (B := wc.heap.size) (HKs.out.keep HB.out).c1 HKs.out.lt
        clear hx hy p0 p1 q0 q1
        have i0 : (0 : Int) ≤ (j : Int) := by omega
        have i1 : (j : Int) < (M : Int) := by omega
        go_wp2_with fail
        refine wp_heldB wc.heap.size (by kernel_rfl) (lexOK_of (by kernel_rfl) (by kernel_rfl)) (chainOK_of (by kernel_rfl)) (fun W0 hbW hSW => ?_)
        have HO0 := Lib.hid (HO.out.keep hbW)
        have HB0 := Lib.hid (below_step HB.out hbW)
        have HS0 := Lib.hid hSW
        have hz0 : wc.heap.size ≤ W0.heap.size := HB0.out.size
        clear hbW hSW
        refine wpHeld_seg 10 HS0.out (by kernel_rfl) ?_
        simp only [List.take_succ_cons, List.take_zero, List.drop_succ_cons, List.drop_zero]
        repeat (go_big_quiet_step (fail))
        refine wpQuiet_nil ?_
        clear l0 l1 l2 l3 l4 l5
        refine wpHeld_call 15 Try.func15 (by kernel_rfl) (by kernel_rfl) _ _ #[.agg #[.int .u64 (vF (k).A), .int .u64 (vF (k).B)], .agg #[.int .u64 (vF (y).A), .int .u64 (vF (y).B)]] rfl (by kernel_rfl) (by kernel_rfl) ?_
        refine (extMul_any k y _).mono ?_
        rintro e W1 ⟨rfl, hb⟩
        have HO1 := Lib.hid (HO0.out.keep hb)
        have HB1 := Lib.hid (below_step HB0.out hb)
        have HS1 := Lib.hid (LaterB.step HS0.out (hb.mono hz0))
        have hz1 : wc.heap.size ≤ W1.heap.size := HB1.out.size
        clear hb
        refine ⟨_, rfl, HS1.out, ?_⟩
        simp only [Act.put, List.setIfInBounds_toArray, List.set_cons_zero, List.set_cons_succ]
        refine wpHeld_call 14 Try.func14 (by kernel_rfl) (by kernel_rfl) _ _ #[.agg #[.int .u64 (vF (x).A), .int .u64 (vF (x).B)], .agg #[.int .u64 (vF (k * y).A), .int .u64 (vF (k * y).B)]] rfl (by kernel_rfl) (by kernel_rfl) ?_
        refine (extAdd_any x (k * y) _).mono ?_
        rintro e W3 ⟨rfl, hb⟩
        have HO3 := Lib.hid (HO1.out.keep hb)
        have HB3 := Lib.hid (below_step HB1.out hb)
        have HS3 := Lib.hid (LaterB.step HS1.out (hb.mono hz1))
        have hz3 : wc.heap.size ≤ W3.heap.size := HB3.out.size
        clear hb
        refine ⟨_, rfl, HS3.out, ?_⟩
        simp only [Act.put, List.setIfInBounds_toArray, List.set_cons_zero, List.set_cons_succ]
        have HSa := Lib.hid (LaterB.step HS3.out ((Below.refl wc.heap.size W3).alloc hz3 (.cells #[.int .u64 (vF (x + k * y).A), .int .u64 (vF (x + k * y).B)] 27)))
        refine wpHeld_run _ _ (by kernel_rfl) (by kernel_rfl) (run_buildE (x + k * y) rfl rfl _) HSa.out ?_
        simp only [Act.put, List.setIfInBounds_toArray, List.set_cons_zero, List.set_cons_succ]
        have HOa := Lib.hid (HO3.out.keep ((Below.refl _ _).alloc (Nat.le_refl _) (.cells #[.int .u64 (vF (x + k * y).A), .int .u64 (vF (x + k * y).B)] 27)))
        have HTa := Lib.hid (Two.new W3 27 (.int .u64 (vF (x + k * y).A)) (.int .u64 (vF (x + k * y).B)))
        have HBa := Lib.hid (HB3.out.alloc hz3 (.cells #[.int .u64 (vF (x + k * y).A), .int .u64 (vF (x + k * y).B)] 27))
        refine wpHeld_op (by kernel_rfl) (by kernel_rfl) ?_
        refine hOp_appendG (.tmp 35) (.tmp 47) rfl wc.heap.size _ j _ rfl HOa.out W3.heap.size 1 (x + k * y) rfl HTa.out (by omega) (by simp; omega) ?_
        intro v1 w1 hown1 hg1
        have HOz := Lib.hid hown1
        have HBz := Lib.hid (HBa.out.trans hg1)
        have HSz := Lib.hid (LaterB.step HSa.out hg1)
        clear hown1 hg1
        refine ⟨HSz.out, ?_⟩
        simp only [Act.put, List.setIfInBounds_toArray, List.set_cons_zero, List.set_cons_succ]
        refine wpHeld_seg 1 HSz.out (by kernel_rfl) ?_
        simp only [List.take_succ_cons, List.take_zero, List.drop_succ_cons, List.drop_zero]
        repeat (go_big_quiet_step (fail))
        refine wpQuiet_nil (wpHeld_nil ?_)
        go_wp2_with fail
        have HE := Lib.hid (show cfE xs j + k * cfE ys j = x + k * y by rw [HXe.out, HYe.out])
        go_roundw
        case rel => exact ⟨j + 1, by omega, by go_num, by rw [tabE_succ, HE.out]; exact HOz.out, HBz.out⟩
        case measure => simp [intOf]; omega
      · have hjM : j = M := by omega
        subst hjM
        obtain ⟨A5, c5, rfl, hs5⟩ := HO.out.sl
        have hlin : mleE (tabE j fun i => cfE xs i + k * cfE ys i) ps = mleE xs ps + k * mleE ys ps := by
          unfold mleE
          rw [← mleF_lin]
          refine mleF_congr fun i hi => ?_
          rw [cfE_tabE, if_pos (by rw [HPOW.out, HLP.out]; exact hi)]
        have HLN := Lib.hid hlin
        generalize (tabE j fun i => cfE xs i + k * cfE ys i) = zs at *
        clear hlin
        have t13 := Lib.hid (HTs.out.keep HB.out)
        clear HTs
        have p13 := Lib.hid (HPs.out.keep HB.out)
        clear HPs
        have s13 := Lib.hid (HSs.out.keep HB.out)
        clear HSs
        have C13 := Lib.hid (HKs.out.keep HB.out)
        clear HKs
        have HB13 := Lib.hid (below_step HBs.out HB.out)
        clear HBs
        have z14 := Lib.hid hs5
        clear hs5
        clear HB HO
        go_upto_region 8 with fail
        have l0 := Later.cell C13.out.c0
        have l1 := Later.cell C13.out.c1
        try simp only [List.append_eq, List.cons_append, List.nil_append]
        refine wp_floatN (by kernel_rfl) (lexOK_of (by kernel_rfl) (by kernel_rfl)) (chainOF_of (by kernel_rfl)) (fun V15 hb hS => ?_)
        have t16 := Lib.hid (t13.out.keep hb)
        clear t13
        have p16 := Lib.hid (p13.out.keep hb)
        clear p13
        have s16 := Lib.hid (s13.out.keep hb)
        clear s13
        have C16 := Lib.hid (C13.out.keep hb)
        clear C13
        have z16 := Lib.hid (z14.out.keep hb)
        clear z14
        have HB16 := Lib.hid (below_step HB13.out hb)
        clear HB13
        clear hb
        have HS15' := Lib.hid hS
        clear hS
        clear C16
        refine wpF_seg 2 (by kernel_rfl) ?_
        simp only [List.take_succ_cons, List.take_zero, List.drop_succ_cons, List.drop_zero]
        repeat (go_big_quiet_step (fail))
        refine wpQuiet_nil ?_
        refine wpF_call 16 Try.func16 (by kernel_rfl) (by kernel_rfl) _ _ #[.slice A5 j c5, .slice A2 K c2] rfl (by kernel_rfl) (by kernel_rfl) HS15'.out (fun V17 hV => ?_)
        refine (mleEval_any A5 j c5 zs A2 K c2 ps _ (z16.out.keep hV) (p16.out.keep hV) HPOW.out (by omega)).mono ?_
        rw [HLN.out]
        rintro e W17 ⟨rfl, hb⟩
        have hb2 := ext_trans hV hb
        have t18 := Lib.hid (t16.out.keep hb2)
        clear t16
        have p18 := Lib.hid (p16.out.keep hb2)
        clear p16
        have s18 := Lib.hid (s16.out.keep hb2)
        clear s16
        have z18 := Lib.hid (z16.out.keep hb2)
        clear z16
        have HB18 := Lib.hid (below_step HB16.out hb2)
        clear HB16
        have HS18 := Lib.hid (HS15'.out.ext hb2)
        clear HS15'
        refine ⟨_, rfl, hb, ?_⟩
        clear hb hb2 hV
        simp only [Act.put, List.setIfInBounds_toArray, List.set_cons_zero, List.set_cons_succ]
        refine wpF_seg 2 (by kernel_rfl) ?_
        simp only [List.take_succ_cons, List.take_zero, List.drop_succ_cons, List.drop_zero]
        repeat (go_big_quiet_step (fail))
        refine wpQuiet_nil ?_
        refine wpF_call 16 Try.func16 (by kernel_rfl) (by kernel_rfl) _ _ #[.slice (some ⟨g, 0, none⟩) j c1, .slice A2 K c2] rfl (by kernel_rfl) (by kernel_rfl) HS18.out (fun V19 hV => ?_)
        refine (mleEval_any (some ⟨g, 0, none⟩) j c1 xs A2 K c2 ps _ (t18.out.keep hV) (p18.out.keep hV) HPOW.out (by omega)).mono ?_
        rintro e W19 ⟨rfl, hb⟩
        have hb2 := ext_trans hV hb
        have t20 := Lib.hid (t18.out.keep hb2)
        clear t18
        have p20 := Lib.hid (p18.out.keep hb2)
        clear p18
        have s20 := Lib.hid (s18.out.keep hb2)
        clear s18
        have z20 := Lib.hid (z18.out.keep hb2)
        clear z18
        have HB20 := Lib.hid (below_step HB18.out hb2)
        clear HB18
        have HS20 := Lib.hid (HS18.out.ext hb2)
        clear HS18
        refine ⟨_, rfl, hb, ?_⟩
        clear hb hb2 hV
        simp only [Act.put, List.setIfInBounds_toArray, List.set_cons_zero, List.set_cons_succ]
        refine wpF_seg 3 (by kernel_rfl) ?_
        simp only [List.take_succ_cons, List.take_zero, List.drop_succ_cons, List.drop_zero]
        repeat (go_big_quiet_step (fail))
        refine wpQuiet_nil ?_
        refine wpF_call 16 Try.func16 (by kernel_rfl) (by kernel_rfl) _ _ #[.slice A4 j c4, .slice A2 K c2] rfl (by kernel_rfl) (by kernel_rfl) HS20.out (fun V21 hV => ?_)
        refine (mleEval_any A4 j c4 ys A2 K c2 ps _ (s20.out.keep hV) (p20.out.keep hV) HPOW.out (by omega)).mono ?_
        rintro e W21 ⟨rfl, hb⟩
        have hb2 := ext_trans hV hb
        have t22 := Lib.hid (t20.out.keep hb2)
        clear t20
        have p22 := Lib.hid (p20.out.keep hb2)
        clear p20
        have s22 := Lib.hid (s20.out.keep hb2)
        clear s20
        have z22 := Lib.hid (z20.out.keep hb2)
        clear z20
        have HB22 := Lib.hid (below_step HB20.out hb2)
        clear HB20
        have HS22 := Lib.hid (HS20.out.ext hb2)
        clear HS20
        refine ⟨_, rfl, hb, ?_⟩
        clear hb hb2 hV
        simp only [Act.put, List.setIfInBounds_toArray, List.set_cons_zero, List.set_cons_succ]
        refine wpF_call 15 Try.func15 (by kernel_rfl) (by kernel_rfl) _ _ #[.agg #[.int .u64 (vF (k).A), .int .u64 (vF (k).B)], .agg #[.int .u64 (vF ((mleE ys ps)).A), .int .u64 (vF ((mleE ys ps)).B)]] rfl (by kernel_rfl) (by kernel_rfl) HS22.out (fun V23 hV => ?_)
        refine (extMul_any k (mleE ys ps) _).mono ?_
        rintro e W23 ⟨rfl, hb⟩
        have hb2 := ext_trans hV hb
        have t24 := Lib.hid (t22.out.keep hb2)
        clear t22
        have p24 := Lib.hid (p22.out.keep hb2)
        clear p22
        have s24 := Lib.hid (s22.out.keep hb2)
        clear s22
        have z24 := Lib.hid (z22.out.keep hb2)
        clear z22
        have HB24 := Lib.hid (below_step HB22.out hb2)
        clear HB22
        have HS24 := Lib.hid (HS22.out.ext hb2)
        clear HS22
        refine ⟨_, rfl, hb, ?_⟩
        clear hb hb2 hV
        simp only [Act.put, List.setIfInBounds_toArray, List.set_cons_zero, List.set_cons_succ]
        refine wpF_call 14 Try.func14 (by kernel_rfl) (by kernel_rfl) _ _ #[.agg #[.int .u64 (vF ((mleE xs ps)).A), .int .u64 (vF ((mleE xs ps)).B)], .agg #[.int .u64 (vF ((k * (mleE ys ps))).A), .int .u64 (vF ((k * (mleE ys ps))).B)]] rfl (by kernel_rfl) (by kernel_rfl) HS24.out (fun V25 hV => ?_)
        refine (extAdd_any (mleE xs ps) (k * (mleE ys ps)) _).mono ?_
        rintro e W25 ⟨rfl, hb⟩
        have hb2 := ext_trans hV hb
        have t26 := Lib.hid (t24.out.keep hb2)
        clear t24
        have p26 := Lib.hid (p24.out.keep hb2)
        clear p24
        have s26 := Lib.hid (s24.out.keep hb2)
        clear s24
        have z26 := Lib.hid (z24.out.keep hb2)
        clear z24
        have HB26 := Lib.hid (below_step HB24.out hb2)
        clear HB24
        have HS26 := Lib.hid (HS24.out.ext hb2)
        clear HS24
        refine ⟨_, rfl, hb, ?_⟩
        clear hb hb2 hV
        simp only [Act.put, List.setIfInBounds_toArray, List.set_cons_zero, List.set_cons_succ]
        have hq61 := run_eqE_same (((mleE xs ps) + (k * (mleE ys ps))))
        refine wpF_seg 5 (by kernel_rfl) ?_
        simp only [List.take_succ_cons, List.take_zero, List.drop_succ_cons, List.drop_zero]
        repeat (go_big_quiet_step (fail))
        refine wpQuiet_nil ?_
        refine wpF_nil (fun V27 hb => ?_)
        have t28 := Lib.hid (t26.out.keep hb)
        clear t26
        have p28 := Lib.hid (p26.out.keep hb)
        clear p26
        have s28 := Lib.hid (s26.out.keep hb)
        clear s26
        have z28 := Lib.hid (z26.out.keep hb)
        clear z26
        have HB28 := Lib.hid (below_step HB26.out hb)
        clear HB26
        clear hb
        go_wp2_with fail
        go_ret
        exact ⟨rfl, HB28.out⟩

end Go.Proofs.Ytipbfonlcmegdaa
