/- The walk of the law SumcheckRejectsWrongClaims: honest rounds are rejected for every other value than the sum, a changed round leads to another final claim; no conditions. -/
import Derived.Test.YtombcjdhjcmhhaaGf
import Derived.Test.YtombcjdhjcmhhaaGf
import Derived.Test.YtombcjdhjcmhhaaGe
import Derived.Test.YtombcjdhjcmhhaaGb
import Derived.Test.YtombcjdhjcmhhaaGf
import Derived.Test.YtombcjdhjcmhhaaRefD
import Derived.Deep.CutRange
namespace Go.Proofs.Ytombcjdhjcmhhaa
set_option maxRecDepth 8000
open Go.RowKit Gold

theorem below_two {N b : Nat} {A B : World} (h : Below N A B) (hb : N ≤ b) (u v : Value) : Below N A ((B.setCell ⟨b, 0, none⟩ u).setCell ⟨b, 1, none⟩ v) := by
  have h1 : Below N A (B.setCell ⟨b, 0, none⟩ u) := h.setCell hb u
  exact h1.setCell hb v
theorem below_at {N b : Nat} {A B : World} (h : Below N A B) (hb : N ≤ b) (i j : Nat) (u v : Value) : Below N A ((B.setCell ⟨b, i, none⟩ u).setCell ⟨b, j, none⟩ v) := by
  have h1 : Below N A (B.setCell ⟨b, i, none⟩ u) := h.setCell hb u
  exact h1.setCell hb v
theorem rPAt_as (A : Option Addr) (n c : Nat) (v : List E2) (y z : E2) (w : World) (h : Sl w A n c v) (hn : n ≤ 20) (hz : atE v y = z) :
    Calls Try.prog 33 #[.slice A n c, .agg #[.int .u64 (vF y.A), .int .u64 (vF y.B)]] w fun e w' => e = .returned (.agg #[.int .u64 (vF z.A), .int .u64 (vF z.B)]) ∧ Below w.heap.size w w' := hz ▸ rPAt_any A n c v y w h hn
/-! ### The last round, changed -/
theorem last_round {Ls : List (List E2)} {ts : List Tm} {cs : List E2} {K : Nat} (h : OkS Ls ts cs.length) (hn : cs.length = K + 1) :
    ∃ RK cl, (proR Ls ts cs)[K]? = some RK ∧ RK.length = degT ts + 1 ∧ cfE RK 0 + cfE RK 1 = cl ∧ atE RK (cfE cs K) = finE ts (proV Ls cs) ∧
      ∀ L, verZ (totE Ls ts (2 ^ cs.length)) (forge (proR Ls ts cs) L) cs (degT ts : Nat) = redE cl L (cfE cs K) (degT ts) := by
  have ho := h.take K (by omega)
  rw [show cs.length - K = 0 + 1 by omega] at ho
  obtain ⟨x, hx⟩ : ∃ x, cs[K]? = some x := ⟨cs[K]'(by omega), List.getElem?_eq_getElem _⟩
  refine ⟨rndC Ls ts cs K, _, proR_get (by omega), ?_, rfl, ?_, fun L => ?_⟩
  · unfold rndC
    exact rnd_length _ _ _
  · unfold rndC
    rw [show cs.length - K = 0 + 1 by omega, at_rnd ho, cfE_some hx, ← bndC_snoc hx, List.take_of_length_le (by omega)]
    exact tot_last Ls ts cs
  · rw [ver_forge h hn]
    unfold rndC
    rw [show cs.length - K = 0 + 1 by omega, rnd_sum ho]
theorem red_wrong {cl u v dl c : E2} {RK : List E2} {D : Nat} (hl : RK.length = D + 1) (hD : 1 ≤ D) (hu : RK[0]? = some u) (hv : RK[1]? = some v) (hs : cfE RK 0 + cfE RK 1 = cl) (hd : dl ≠ E2.zero) : redE cl (RK.set 0 (u + dl)) c D = (E2.zero, 60) := by
  unfold redE
  rw [if_pos (by rw [List.length_set]; exact hl)]
  have h0 : cfE (RK.set 0 (u + dl)) 0 = u + dl := cfE_some (by rw [List.getElem?_set, if_pos rfl, if_pos (by omega)])
  have h1 : cfE (RK.set 0 (u + dl)) 1 = v := cfE_some (by rw [List.getElem?_set, if_neg (by omega)]; exact hv)
  rw [h0, h1, if_neg]
  rw [cfE_some hu, cfE_some hv] at hs
  intro e
  rw [← hs, show u + dl + v = u + v + dl by rw [E2.add_assoc, E2.add_comm dl, ← E2.add_assoc]] at e
  exact add_ne hd e.symm
theorem red_right {cl u v dl c : E2} {RK : List E2} {D : Nat} (hl : RK.length = D + 1) (hD : 1 ≤ D) (hu : RK[0]? = some u) (hv : RK[1]? = some v) (hs : cfE RK 0 + cfE RK 1 = cl) : redE cl ((RK.set 0 (u + dl)).set 1 (v - dl)) c D = (atE ((RK.set 0 (u + dl)).set 1 (v - dl)) c, 0) := by
  unfold redE
  rw [if_pos (by rw [List.length_set, List.length_set]; exact hl)]
  have h0 : cfE ((RK.set 0 (u + dl)).set 1 (v - dl)) 0 = u + dl := cfE_some (by rw [List.getElem?_set, if_neg (by omega), List.getElem?_set, if_pos rfl, if_pos (by omega)])
  have h1 : cfE ((RK.set 0 (u + dl)).set 1 (v - dl)) 1 = v - dl := cfE_some (by rw [List.getElem?_set, if_pos rfl, if_pos (by rw [List.length_set]; omega)])
  rw [h0, h1, if_pos]
  rw [cfE_some hu, cfE_some hv] at hs
  rw [← hs, E2.add_assoc, E2.add_comm dl, E2.sub_add_cancel]
theorem ow_setI {w : World} {base g n c : Nat} {xs : List E2} (h : OwE w base (.slice (some ⟨g, 0, none⟩) n c) n xs) (i : Nat) (x : E2) : OwE ((w.setCell ⟨g, i * 2, none⟩ (.int .u64 (vF x.A))).setCell ⟨g, i * 2 + 1, none⟩ (.int .u64 (vF x.B))) base (.slice (some ⟨g, 0, none⟩) n c) n (xs.set i x) := by
  have hl := h.len
  rcases h.2 with ⟨hn, _⟩ | ⟨g', cap, cur, e, hb, hg, hc, hm, hs, ht⟩
  · cases hn
  · injection e with e1 e2 e3
    injection e1 with e1
    injection e1 with e1
    subst e1
    subst e3
    have k1 := heap_setCell_at (i := i * 2) hg (.int .u64 (vF x.A))
    have k2 := heap_setCell_at (i := i * 2 + 1) k1 (.int .u64 (vF x.B))
    refine ⟨by rw [cellsE_length, List.length_set]; omega, .inr ⟨g, c, _, rfl, hb, k2, hc, hm, by simp [hs], ?_⟩⟩
    rw [Array.toList_setIfInBounds, Array.toList_setIfInBounds, List.take_set, List.take_set, ht, cellsE_set]

/-! ### The forged rounds -/
/-- the slices of the first n rounds -/
def FR (W : World) (vs : List Value) (R : List (List E2)) (n : Nat) : Prop := vs.length = n ∧ n ≤ R.length ∧ ∀ j L, j < n → R[j]? = some L → ∃ B m d, vs[j]? = some (Value.slice B m d) ∧ Sl W B m d L
theorem wpList_appendRs {ops : Array Oper} {rest : List Oper} {o : Oper} {a : Act} {Q : Exit → Act → World → Prop} {w : World} (W : World) (hgd : o.guard = none) (s x : Operand)
    (ho : o.op = .call { callee := .builtin .append, args := #[s, x], argTypes := #[36, 36] }) (base : Nat) (v : Value) (hs : a.eval s = v) (hown : w.ownsRow base 22 1 v 0 [])
    (ad : Addr) (N n d : Nat) (R : List (List E2)) (hx : a.eval x = .slice (some ad) n d) (hR : ST W (some ad) N d R) (hn : n ≤ N) (hn1 : N ≤ 65536) (hb0 : Below W.heap.size W w) (hbase : base ≤ w.heap.size)
    (h : ∀ v' w' vs, w'.ownsRow base 22 1 v' n vs → FR W vs R n → w.grownBy w' v.ownBlock → wpList Try.prog ops Q rest (a.put o.dst v') w') : wpList Try.prog ops Q (o :: rest) a w := by
  obtain ⟨i, hi, hzr, hs2, hb⟩ := info_parts exts_info
  have hl := hR.len
  obtain ⟨f, hf⟩ : ∃ f : Nat → Value, ∀ j L, R[j]? = some L → ∃ B q e, f j = .slice B q e ∧ w.cell? (ad.add j) = some (f j) ∧ Sl W B q e L := by
    refine ⟨fun j => (w.cell? (ad.add j)).getD undef, fun j L hL => ?_⟩
    show ∃ B q e, (w.cell? (ad.add j)).getD undef = .slice B q e ∧ w.cell? (ad.add j) = some ((w.cell? (ad.add j)).getD undef) ∧ Sl W B q e L
    obtain ⟨ad', B, q, e, ha, hc, hsl⟩ := hR.at_ hL
    injection ha with ha
    subst ha
    replace hc := cell_keep hc hb0
    exact ⟨B, q, e, by rw [hc]; rfl, by rw [hc]; rfl, hsl⟩
  have hget : ∀ (j : Nat) (u : Value), ((List.range n).map f)[j]? = some u → j < n ∧ u = f j := by
    intro j u hj
    rw [List.getElem?_map] at hj
    by_cases hjm : j < n
    · rw [List.getElem?_range hjm] at hj
      injection hj with hj
      exact ⟨hjm, hj.symm⟩
    · rw [List.getElem?_eq_none (by simp; omega)] at hj
      cases hj
  refine wpList_append_own w hgd s x 36 ho base 22 i (.slice none 0 0) 1 24 Try.underlying36 hi hzr hs2 hb rfl (by omega) v 0 [] hs hown ad n d ((List.range n).map f) hx (by simp) ?_ ?_ ?_ ?_ hbase ?_
  · intro j u hj
    obtain ⟨hjm, rfl⟩ := hget j u hj
    obtain ⟨L, hL⟩ := hR.get (i := j) (by omega)
    obtain ⟨_, _, _, _, hc, _⟩ := hf j L hL
    exact hc
  · intro u hu
    rw [List.mem_map] at hu
    obtain ⟨j, hj, rfl⟩ := hu
    rw [List.mem_range] at hj
    obtain ⟨L, hL⟩ := hR.get (i := j) (by omega)
    obtain ⟨B, q, e, hv, _, _⟩ := hf j L hL
    rw [hv]
    rfl
  · unfold maxLen; omega
  · omega
  · intro v' w' hown' hg _
    rw [Nat.zero_add, List.nil_append] at hown'
    refine h v' w' _ hown' ⟨by simp, by omega, fun j L hj hL => ?_⟩ hg
    obtain ⟨B, q, e, hv, _, hsl⟩ := hf j L hL
    exact ⟨B, q, e, by rw [List.getElem?_map, List.getElem?_range hj, ← hv]; rfl, hsl⟩
theorem wpList_appendR1 {ops : Array Oper} {rest : List Oper} {o : Oper} {a : Act} {Q : Exit → Act → World → Prop} {w : World} (hgd : o.guard = none) (s x : Operand)
    (ho : o.op = .call { callee := .builtin .append, args := #[s, x], argTypes := #[36, 36] }) (base : Nat) (v : Value) (n : Nat) (vs : List Value) (hs : a.eval s = v) (hown : w.ownsRow base 22 1 v n vs)
    (g c : Nat) (B : Option Addr) (m d : Nat) (hx : a.eval x = .slice (some ⟨g, 0, none⟩) 1 c) (hy : One w g 22 (.slice B m d)) (hn : n ≤ 65536) (hbase : base ≤ w.heap.size)
    (h : ∀ v' w', w'.ownsRow base 22 1 v' (n + 1) (vs ++ [.slice B m d]) → w.grownBy w' v.ownBlock → wpList Try.prog ops Q rest (a.put o.dst v') w') : wpList Try.prog ops Q (o :: rest) a w := by
  obtain ⟨i, hi, hzr, hs2, hb⟩ := info_parts exts_info
  refine wpList_append_own w hgd s x 36 ho base 22 i (.slice none 0 0) 1 24 Try.underlying36 hi hzr hs2 hb rfl (by omega) v n vs hs hown ⟨g, 0, none⟩ 1 c [.slice B m d] hx rfl ?_ ?_ ?_ ?_ hbase ?_
  · intro j u hj
    rw [add_base]
    match j, hj with
    | 0, hj => injection hj with hj; subst hj; exact hy.c
    | j + 1, hj => simp at hj
  · intro u hu
    simp at hu
    subst hu
    rfl
  · unfold maxLen; omega
  · omega
  · intro v' w' hown' hg _
    exact h v' w' hown' hg
/-- the forged rounds, read -/
theorem forged_st {W w : World} {base : Nat} {A : Option Addr} {c : Nat} {vs : List Value} {R : List (List E2)} {n : Nat} {B : Option Addr} {m d : Nat} {L : List E2} (h : w.ownsRow base 22 1 (.slice A (n + 1) c) (n + 1) (vs ++ [.slice B m d])) (hF : FR W vs R n) (hR : R.length = n + 1) (hb : Below W.heap.size W w) (hL : Sl w B m d L) : ST w A (n + 1) c (forge R L) := by
  obtain ⟨f1, f2, f3⟩ := hF
  rcases h.2 with ⟨_, e0⟩ | ⟨g, cap, cur, e, _, hg, hc, hm, _, ht⟩
  · omega
  · injection e with e1 e2 e3
    subst e1
    subst e3
    unfold maxLen at hm
    refine ⟨by rw [List.length_map, forge_length L (by omega), hR], hc, by omega, fun i p hp => ?_⟩
    rw [List.getElem?_map] at hp
    cases hM : (forge R L)[i]? with
    | none => rw [hM] at hp; cases hp
    | some M =>
      rw [hM] at hp
      injection hp with hp
      subst hp
      have hi : i < n + 1 := by have := (List.getElem?_eq_some_iff.1 hM).1; rw [forge_length L (by omega), hR] at this; exact this
      by_cases hin : i < n
      · unfold forge at hM
        rw [List.getElem?_append_left (by rw [List.length_take]; omega), List.getElem?_take_of_lt (by omega)] at hM
        obtain ⟨B', m', d', k1, k2⟩ := f3 i M hin hM
        exact ⟨_, B', m', d', rfl, by rw [add_base]; exact row_cell hg ht (by rw [List.getElem?_append_left (by omega)]; exact k1), k2.keep hb⟩
      · have hie : i = n := by omega
        subst hie
        unfold forge at hM
        rw [List.getElem?_append_right (by rw [List.length_take]; omega), List.length_take, show i - min (R.length - 1) R.length = 0 by omega] at hM
        injection hM with hM
        subst hM
        exact ⟨_, B, m, d, rfl, by rw [add_base]; exact row_cell hg ht (by rw [List.getElem?_append_right (by omega), f1, Nat.sub_self]; rfl), hL⟩

set_option maxHeartbeats 16000000 in
set_option maxRecDepth 100000 in
theorem sumcheckRejectsWrongClaims_any (x : Value) (C0 : Option Addr) (k0 f0 : Nat) (us : List (Int × Int)) (r1 r2 : Int) (w : World) (hx : RawS w x) (hC : Sr w C0 k0 f0 us) (wC : Nums us) (u1 : U64 r1) (u2 : U64 r2) :
    Calls Try.prog 6 #[x, .slice C0 k0 f0, .agg #[.int .u64 r1, .int .u64 r2]] w fun e w' => e = .returned (.bool true) ∧ Below w.heap.size w w' := by
  obtain ⟨A0, A1, A2, B, n0, c0, n1, c1, n2, c2, m, e, q0, q1, q2, rs, N, rfl, hN, h0, h1, h2, w0, w1, w2, hR, wR⟩ := hx.ex
  have H0 := Lib.hid h0
  have H1 := Lib.hid h1
  have H2 := Lib.hid h2
  have HR := Lib.hid hR
  have WR := Lib.hid wR
  have HC := Lib.hid hC
  have WC := Lib.hid wC
  clear hx h0 h1 h2 hR wR hC wC
  go_enter Try.func6, Try.ntmps6
  go_wp2_with fail
  refine calls_named2 (fun V1 hbV g0 g1 hzV => ?_)
  have X0 := Lib.hid (show Five V1 w.heap.size 26 (.slice A0 n0 c0) (.slice A1 n1 c1) (.slice A2 n2 c2) (.slice B m e) (.int .u8 N) from g0)
  have X1 := Lib.hid (show Two V1 (w.heap.size + 1) 43 (.int .u64 r1) (.int .u64 r2) from g1)
  have HBa := Lib.hid hbV
  clear hbV g0 g1
  refine (sanity6_any _).mono ?_
  rintro e W2 ⟨rfl, hb⟩
  have X2 := Lib.hid (X1.out.keep hb)
  have HB2 := Lib.hid (below_step HBa.out hb)
  have XX := X0.out.keep hb
  have x0 := XX.c0
  have x1 := XX.c1
  have x2 := XX.c2
  have x3 := XX.c3
  have x4 := XX.c4
  clear hb XX X0 X1 HBa
  go_wp2_with fail
  refine (rSumMade_any A0 A1 A2 B n0 c0 n1 c1 n2 c2 m _ q0 q1 q2 rs N 4 _ (by omega) hN (Sr.keep H0.out HB2.out) (Sr.keep H1.out HB2.out) (Sr.keep H2.out HB2.out) w0 w1 w2 (HR.out.keep HB2.out) WR.out).mono ?_
  rintro e W3 ⟨A, c, B', m', c', Ls, ts, d, rfl, hT, hM, hok, hd, hl3, ht4, hb⟩
  clear x0 x1 x2 x3 x4
  have HS := Lib.hid (SumIn.mk hT hM hok)
  have X3 := Lib.hid (X2.out.keep hb)
  have HB3 := Lib.hid (below_step HB2.out hb)
  clear hb hT hM hok H0 H1 H2 HR WR w0 w1 w2 HB2 hN X2
  go_upto_region 3 with fail
  refine wp_named1 (fun V4 hb g4 hz4 => ?_)
  have XS := Lib.hid (show Two V4 W3.heap.size 30 (.slice A 3 c) (.slice B' m' c') from g4)
  have HS4 := Lib.hid (HS.out.keep hb)
  have X4 := Lib.hid (X3.out.keep hb)
  have HB4 := Lib.hid (below_step HB3.out hb)
  clear hb g4 HS HB3 X3
  generalize W3.heap.size = bS at *
  have s0 := XS.out.c0
  have s1 := XS.out.c1
  go_wp2_with fail
  obtain ⟨L, hL⟩ : ∃ L, Ls[0]? = some L := ⟨Ls[0], List.getElem?_eq_getElem _⟩
  have hLd := HS4.out.ok.len L (List.mem_of_getElem? hL)
  refine (rLog_any A 3 c (.slice B' m' c') Ls L d _ HS4.out.t hL hLd (by omega)).mono ?_
  rintro e W5 ⟨rfl, hb⟩
  have XS5 := Lib.hid (XS.out.keep hb)
  have HS5 := Lib.hid (HS4.out.keep hb)
  have X5 := Lib.hid (X4.out.keep hb)
  have HB5 := Lib.hid (below_step HB4.out hb)
  clear hb XS HS4 HB4 s0 s1 hL hLd X4
  go_wp2_with fail
  refine (rPExactlyO_any C0 k0 f0 us d _ (Sr.keep HC.out HB5.out) WC.out (by omega)).mono ?_
  rintro e W6 ⟨Ac, cc, rfl, hOc, hb⟩
  have hcl := hOc.len
  obtain ⟨cs, hcs⟩ : ∃ cs, exactE us d = cs := ⟨_, rfl⟩
  rw [hcs] at hOc hcl
  have HSc := Lib.hid hOc.sl'
  have XS6 := Lib.hid (XS5.out.keep hb)
  have HS6 := Lib.hid (HS5.out.keep hb)
  have X6 := Lib.hid (X5.out.keep hb)
  have HB6 := Lib.hid (below_step HB5.out hb)
  have HDl := Lib.hid hcl
  clear hb XS5 HS5 HB5 hOc hcs HC WC hcl X5
  have hok6 : OkS Ls ts cs.length := HDl.out ▸ HS6.out.ok
  have HOK := Lib.hid hok6
  clear hok6
  have y0 := X6.out.c0
  have y1 := X6.out.c1
  go_wp2_with fail
  refine (rMade_any r1 r2 _ u1 u2).mono ?_
  rintro e W7 ⟨rfl, hb⟩
  have XS7 := Lib.hid (XS6.out.keep hb)
  have HS7 := Lib.hid (HS6.out.keep hb)
  have HC7 := Lib.hid (HSc.out.keep hb)
  have HB7 := Lib.hid (below_step HB6.out hb)
  clear hb XS6 HS6 X6 HB6 HSc y0 y1
  go_upto_region 6 with fail
  refine wp_named1 (fun V8 hb g8 hz8 => ?_)
  have XY := Lib.hid (show Two V8 W7.heap.size 43 (.int .u64 (vF (toE r1 r2).A)) (.int .u64 (vF (toE r1 r2).B)) from g8)
  have XS8 := Lib.hid (XS7.out.keep hb)
  have HS8 := Lib.hid (HS7.out.keep hb)
  have HC8 := Lib.hid (HC7.out.keep hb)
  have HB8 := Lib.hid (below_step HB7.out hb)
  clear hb g8 XS7 HS7 HC7 HB7
  generalize W7.heap.size = bY at *
  generalize toE r1 r2 = dl at *
  have s0 := XS8.out.c0
  have s1 := XS8.out.c1
  go_wp2_with fail
  refine (sProve_any A 3 c Ls B' m' c' ts Ac d cc cs _ HS8.out.t HS8.out.m HC8.out HOK.out).mono ?_
  rintro e W9 ⟨gR, gv, rfl, hR9, hV9, hb⟩
  have XS9 := Lib.hid (XS8.out.keep hb)
  have XY9 := Lib.hid (XY.out.keep hb)
  have HS9 := Lib.hid (HS8.out.keep hb)
  have HC9 := Lib.hid (HC8.out.keep hb)
  have HB9 := Lib.hid (below_step HB8.out hb)
  have HR9 := Lib.hid hR9
  have HV9 := Lib.hid hV9
  clear hb XS8 XY HS8 HB8 HC8 hR9 hV9 s0 s1
  have y0 := XY9.out.c0
  have y1 := XY9.out.c1
  cases d with
  | zero =>
    go_wp2_with fail
    go_ret
    exact ⟨rfl, HB9.out⟩
  | succ K =>
    have hK0 : ¬ (((K + 1 : Nat) : Int) = 0) := by omega
    have hK1 : ¬ ((K : Int) + 1 = 0) := by omega
    go_wp2_with fail
    refine (rIsZero_any dl _).mono ?_
    rintro e W10 ⟨rfl, hb⟩
    have XS10 := Lib.hid (XS9.out.keep hb)
    have XY10 := Lib.hid (XY9.out.keep hb)
    have HS10 := Lib.hid (HS9.out.keep hb)
    have HC10 := Lib.hid (HC9.out.keep hb)
    have HR10 := Lib.hid (HR9.out.keep hb)
    have HV10 := Lib.hid (HV9.out.keep hb)
    have HB10 := Lib.hid (below_step HB9.out hb)
    clear hb XS9 XY9 HS9 HC9 HR9 HV9 HB9 y0 y1
    cases hzd : ezero dl with
    | true =>
      go_wp2_with fail
      go_ret
      exact ⟨rfl, HB10.out⟩
    | false =>
      have hdl : dl ≠ E2.zero := fun e => by rw [e] at hzd; cases hzd
      have HDL := Lib.hid hdl
      clear hdl hzd
      have s0 := XS10.out.c0
      have s1 := XS10.out.c1
      obtain ⟨RK, cl, hRK, hRl, hsm, hat, hfg⟩ := last_round HOK.out (show cs.length = K + 1 by have := HDl.out; omega)
      have hwr := ver_claim HOK.out (show 0 < cs.length by have := HDl.out; omega) HDL.out
      obtain ⟨tv, htv⟩ : ∃ tv, totE Ls ts (2 ^ cs.length) = tv := ⟨_, rfl⟩
      obtain ⟨fv, hfv⟩ : ∃ fv, finE ts (proV Ls cs) = fv := ⟨_, rfl⟩
      obtain ⟨D, hD⟩ : ∃ D, degT ts = D := ⟨_, rfl⟩
      have hD1 := degT_pos ts
      have hD3 := HOK.out.deg3
      rw [htv, hD] at hfg hwr
      rw [hD] at hRl hD1 hD3
      rw [hfv] at hat
      obtain ⟨R, hRR⟩ : ∃ R, proR Ls ts cs = R := ⟨_, rfl⟩
      have hRn : R.length = K + 1 := by rw [← hRR, proR_length]; have := HDl.out; omega
      rw [hRR] at hRK hfg hwr
      have HRc := Lib.hid (hRR ▸ HR10.out)
      have HTv := Lib.hid (show totE Ls ts (2 ^ (K + 1)) = tv by rw [← htv, ← HDl.out])
      have HFv := Lib.hid hfv
      have HD := Lib.hid hD
      have HFG := Lib.hid hfg
      have HWR := Lib.hid hwr
      have HAT := Lib.hid hat
      have HSM := Lib.hid hsm
      have HRK := Lib.hid hRK
      have HRl := Lib.hid hRl
      have HRn := Lib.hid hRn
      clear hRK hRl hsm hat hfg hwr htv hfv hD hRR hRn HR10
      go_wp2_with fail
      refine (sDegree_as (.slice A 3 c) B' m' c' (rawT ts) D _ HS10.out.m ⟨_, _, _, rfl⟩ HD.out).mono ?_
      rintro e W11 ⟨rfl, hb⟩
      have XS11 := Lib.hid (XS10.out.keep hb)
      have XY11 := Lib.hid (XY10.out.keep hb)
      have HS11 := Lib.hid (HS10.out.keep hb)
      have HC11 := Lib.hid (HC10.out.keep hb)
      have HR11 := Lib.hid (HRc.out.keep hb)
      have HV11 := Lib.hid (HV10.out.keep hb)
      have HB11 := Lib.hid (below_step HB10.out hb)
      clear hb XS10 XY10 HS10 HC10 HRc HV10 HB10 s0 s1
      go_upto_region 12 with fail
      refine wp_named1 (fun V12 hb g12 hz12 => ?_)
      have XW := Lib.hid (show Two V12 W11.heap.size 55 (.slice Ac (K + 1) cc) (.int .i64 D) from g12)
      have XS12 := Lib.hid (XS11.out.keep hb)
      have XY12 := Lib.hid (XY11.out.keep hb)
      have HS12 := Lib.hid (HS11.out.keep hb)
      have HC12 := Lib.hid (HC11.out.keep hb)
      have HR12 := Lib.hid (HR11.out.keep hb)
      have HV12 := Lib.hid (HV11.out.keep hb)
      have HB12 := Lib.hid (below_step HB11.out hb)
      clear hb g12 XS11 XY11 HS11 HC11 HR11 HV11 HB11
      generalize W11.heap.size = bW at *
      have s0 := XS12.out.c0
      have s1 := XS12.out.c1
      go_wp2_with fail
      refine (sTotal_as A 3 c Ls B' m' c' ts (K + 1) tv _ HS12.out.t HS12.out.m HS12.out.ok HTv.out).mono ?_
      rintro e W13 ⟨rfl, hb⟩
      have XS13 := Lib.hid (XS12.out.keep hb)
      have XY13 := Lib.hid (XY12.out.keep hb)
      have XW13 := Lib.hid (XW.out.keep hb)
      have HS13 := Lib.hid (HS12.out.keep hb)
      have HC13 := Lib.hid (HC12.out.keep hb)
      have HR13 := Lib.hid (HR12.out.keep hb)
      have HV13 := Lib.hid (HV12.out.keep hb)
      have HB13 := Lib.hid (below_step HB12.out hb)
      clear hb XS12 XY12 XW HS12 HC12 HR12 HV12 HB12 s0 s1
      go_upto_region 13 with fail
      refine wp_named1 (fun Wc hb g14 hz14 => ?_)
      have XT := Lib.hid (show Two Wc W13.heap.size 43 (.int .u64 (vF tv.A)) (.int .u64 (vF tv.B)) from g14)
      have XS := Lib.hid (XS13.out.keep hb)
      have XY := Lib.hid (XY13.out.keep hb)
      have XW := Lib.hid (XW13.out.keep hb)
      have HS := Lib.hid (HS13.out.keep hb)
      have HC := Lib.hid (HC13.out.keep hb)
      have HR := Lib.hid (HR13.out.keep hb)
      have HV := Lib.hid (HV13.out.keep hb)
      have HB := Lib.hid (below_step HB13.out hb)
      clear hb g14 XS13 XY13 XW13 HS13 HC13 HR13 HV13 HB13
      generalize W13.heap.size = bT at *
      have l0 := Later.cell XT.out.c0
      have l1 := Later.cell XT.out.c1
      have l2 := Later.cell XY.out.c0
      have l3 := Later.cell XY.out.c1
      have l4 := Later.cell XW.out.c0
      have l5 := Later.cell XW.out.c1
      refine Fl.wp_floatN (by kernel_rfl) (lexOK_of (by kernel_rfl) (by kernel_rfl)) (chainOF_of (by kernel_rfl)) (fun V15 hb hS => ?_)
      have HW := Lib.hid hb
      have HSL := Lib.hid hS
      clear hb hS
      refine Fl.wpF_seg 2 (by kernel_rfl) ?_
      simp only [List.take_succ_cons, List.take_zero, List.drop_succ_cons, List.drop_zero]
      repeat (go_big_quiet_step (fail))
      refine wpQuiet_nil ?_
      refine Fl.wpF_call 32 Try.func32 (by kernel_rfl) (by kernel_rfl) _ _ #[.agg #[.int .u64 (vF tv.A), .int .u64 (vF tv.B)], .agg #[.int .u64 (vF dl.A), .int .u64 (vF dl.B)]] rfl (by kernel_rfl) (by kernel_rfl) HSL.out (fun V16 hV => ?_)
      refine (rAdd_any tv dl _).mono ?_
      rintro e W16 ⟨rfl, hb⟩
      have hb2 := ext_trans hV hb
      have HW2 := Lib.hid (below_step HW.out hb2)
      have HSL2 := Lib.hid (HSL.out.ext hb2)
      clear HW HSL
      refine ⟨_, rfl, hb, ?_⟩
      clear hb hb2 hV
      simp only [Act.put, List.setIfInBounds_toArray, List.set_cons_zero, List.set_cons_succ]
      refine Fl.wpF_seg 2 (by kernel_rfl) ?_
      simp only [List.take_succ_cons, List.take_zero, List.drop_succ_cons, List.drop_zero]
      repeat (go_big_quiet_step (fail))
      refine wpQuiet_nil ?_
      refine Fl.wpF_call 30 Try.func30 (by kernel_rfl) (by kernel_rfl) _ _ #[.agg #[.int .u64 (vF (tv + dl).A), .int .u64 (vF (tv + dl).B)], .slice (some ⟨gR, 0, none⟩) (K + 1) (K + 1), .agg #[.slice Ac (K + 1) cc, .int .i64 (D : Int)]] rfl (by kernel_rfl) (by kernel_rfl) HSL2.out (fun V17 hV => ?_)
      have HW5 := Lib.hid (below_step HW2.out hV)
      refine (sVerify_as (tv + dl) (some ⟨gR, 0, none⟩) (K + 1) (K + 1) R Ac (K + 1) cc cs (D : Int) E2.zero 60 _ (HR.out.keep HW5.out) (HC.out.keep HW5.out) (by omega) HWR.out).mono ?_
      rintro e W17 ⟨rfl, hb⟩
      have hb2 := ext_trans hV hb
      have HW6 := Lib.hid (below_step HW2.out hb2)
      have HSL6 := Lib.hid (HSL2.out.ext hb2)
      clear HW2 HSL2 HW5
      refine ⟨_, rfl, hb, ?_⟩
      clear hb hb2 hV
      simp only [Act.put, List.setIfInBounds_toArray, List.set_cons_zero, List.set_cons_succ]
      refine Fl.wpF_seg 3 (by kernel_rfl) ?_
      simp only [List.take_succ_cons, List.take_zero, List.drop_succ_cons, List.drop_zero]
      repeat (go_big_quiet_step (fail))
      refine wpQuiet_nil ?_
      refine Fl.wpF_make (.cells #[.int .u64 0, .int .u64 0] 43) (by kernel_rfl) (by kernel_rfl) (by kernel_rfl) (fun w1 => run_allocE _ _ w1 rfl) (fun bt W18 hb14 hbt hbw => ?_)
      have XZ := Lib.hid (show Two W18 bt 43 (.int .u64 0) (.int .u64 0) from hbt)
      have HW7 := Lib.hid (below_step HW6.out hb14)
      have HSL7 := Lib.hid (HSL6.out.ext hb14)
      clear HW6 HSL6 hbt hb14
      simp only [Act.put, mkVal, List.setIfInBounds_toArray, List.set_cons_zero, List.set_cons_succ]
      refine Fl.wpF_store (fun W => (W.setCell ⟨bt, 0, none⟩ (.int .u64 (vF E2.zero.A))).setCell ⟨bt, 1, none⟩ (.int .u64 (vF E2.zero.B))) (by kernel_rfl) (by kernel_rfl) (by kernel_rfl) (by kernel_rfl) (fun W hW => run_storeE bt E2.zero rfl rfl rfl (XZ.out.keep hW)) (fun W hW => ⟨⟨_, below_two (below_step HSL7.out.below hW) hbw _ _⟩, rfl⟩) (fun W15 hW15 => ?_)
      have HW8 := Lib.hid (below_two (below_step HW7.out hW15) hbw (.int .u64 (vF E2.zero.A)) (.int .u64 (vF E2.zero.B)))
      clear XZ HW7 HSL7 hW15
      simp only [Act.put]
      refine Fl.wpF_seg 1 (by kernel_rfl) ?_
      simp only [List.take_succ_cons, List.take_zero, List.drop_succ_cons, List.drop_zero]
      repeat (go_big_quiet_step (fail))
      refine wpQuiet_nil ?_
      clear l0 l1 l2 l3 l4 l5
      refine Fl.wpF_nil (fun Y hY0 => ?_)
      have HY := Lib.hid (below_step HW8.out hY0)
      clear HW8 hY0
      go_upto_region 14 with fail
      obtain ⟨adR, B1, m1, d1, hadR, yR, hs1⟩ := (HR.out.keep HY.out).at_ HRK.out
      injection hadR with hadR
      subst hadR
      rw [add_base] at yR
      have hm1 : m1 = D + 1 := by have := hs1.len; have := HRl.out; omega
      subst hm1
      obtain ⟨u, hu⟩ : ∃ u, RK[0]? = some u := ⟨RK[0]'(by have := HRl.out; omega), List.getElem?_eq_getElem _⟩
      obtain ⟨v, hv⟩ : ∃ v, RK[1]? = some v := ⟨RK[1]'(by have := HRl.out; omega), List.getElem?_eq_getElem _⟩
      obtain ⟨x, hxK⟩ : ∃ x, cs[K]? = some x := ⟨cs[K]'(by have := HDl.out; omega), List.getElem?_eq_getElem _⟩
      obtain ⟨ad1, rfl, _⟩ := hs1.at_ hu
      have hS1 := Lib.hid hs1
      have hwc := HY.out.size
      have yR2 : ∀ o, (Y.alloc o).cell? ⟨gR, K, none⟩ = some (.slice (some ad1) (D + 1) d1) := fun o => cell_keep yR ((Below.refl _ _).alloc (Nat.le_refl _) o)
      have hk0 : (0 : Int) ≤ (K : Int) := by omega
      have hkk : (K : Int) < (K : Int) + 1 := by omega
      have hd2 : ¬ ((D : Int) + 1 < 2) := by omega
      have HU := Lib.hid hu
      have HVv := Lib.hid hv
      have HX := Lib.hid hxK
      clear hs1 hu hv hxK
      go_wp2_with (at_builtin; refine wpList_appendSl rfl (.tmp 71) (.tmp 76) rfl Y.heap.size _ 0 [] rfl (OwE.made Y _ (Nat.le_refl _)) ad1 (D + 1) d1 RK rfl (hS1.out.keep ((Below.refl _ _).alloc (Nat.le_refl _) _)) (by omega) (by simp) ?_; intro v1 w1 hown1 hg1; rw [Nat.zero_add, List.nil_append] at hown1; have HG1 := Lib.hid (Below.grown (HY.out.alloc hwc (.cells #[] 43)) hg1 (by rw [World.size_alloc]; omega) (fun q hq => by have e : some Y.heap.size = some q := hq; injection e with e; omega)); obtain ⟨g, cg, rfl, hg, hgc, hgt, hTb⟩ := hown1.tab (by omega); have HO1 := Lib.hid hown1; have HT1 := Lib.hid hTb; have hz1 := hg1.size; clear hown1 hg1 hTb)
      go_upto_region 17 with fail
      have hgw : g < w1.heap.size := HT1.out.lt
      have hle : Wc.heap.size ≤ g := by omega
      obtain ⟨t0, t1⟩ := HT1.out.at_ HU.out
      simp only [Nat.zero_mul, Nat.zero_add] at t0 t1
      have XY1 := XY.out.keep HG1.out
      have l0 := Later.cell t0
      have l1 := Later.cell t1
      have l2 := Later.cell XY1.c0
      have l3 := Later.cell XY1.c1
      have i0 : (0 : Int) < (D : Int) + 1 := by omega
      have i1 : (1 : Int) < (D : Int) + 1 := by omega
      have i2 : (0 : Int) < (D : Int) := by omega
      clear t0 t1 XY1 yR yR2 HY
      refine wp_later_tail 7 (by kernel_rfl) (by kernel_rfl) ?_
      simp only [List.take_succ_cons, List.take_zero, List.drop_succ_cons, List.drop_zero]
      repeat (go_big_quiet_step ((go_at_call 32; with_reducible exact Calls.later (rAdd_any u dl _))))
      refine wpQuiet_nil ?_
      intro X
      clear l0 l1 l2 l3
      have k0 := HT1.out.keep X.below
      have f0 := k0.free 0
      have f1 := k0.free 1
      obtain ⟨t0, t1⟩ := k0.at_ HU.out
      simp only [Nat.zero_mul, Nat.zero_add] at t0 t1
      go_upto_region 18 with fail
      refine wp_named (fun Z => OwE Z Y.heap.size (.slice (some ⟨g, 0, none⟩) (D + 1) cg) (D + 1) (RK.set 0 (u + dl)) ∧ Below Wc.heap.size Wc Z) ⟨ow_setI (HO1.out.keep X.below) 0 (u + dl), below_two (below_step HG1.out X.below) hle _ _⟩ (fun Z hZ => ?_)
      have HOz := Lib.hid hZ.1
      have HZ := Lib.hid hZ.2
      have hzz := hZ.2.size
      have hgz : g < Z.heap.size := (World.ownsRow.lt hZ.1 g rfl).2
      obtain ⟨zs, hzs⟩ : ∃ zs, Z.heap.size = zs := ⟨_, rfl⟩
      have HZs := Lib.hid hzs
      clear hzs
      clear hZ f0 f1 t0 t1 k0 HO1 HT1 HG1
      go_upto_region 19 with (at_builtin; refine wpList_appendRs Wc rfl (.tmp 88) (.tmp 92) rfl Z.heap.size _ rfl (World.ownsRow_made Z #[] 0 (Nat.le_refl _) (Nat.zero_le _) rfl) ⟨gR, 0, none⟩ (K + 1) K (K + 1) R rfl HR.out (by omega) (by omega) (HZ.out.alloc hzz _) (by rw [World.size_alloc]; omega) ?_; intro v2 w2 vs hown2 hF2 hg2; have HF2 := Lib.hid hF2; have HO2 := Lib.hid hown2; have HG2 := Lib.hid (Below.grown (HZ.out.alloc hzz (.cells #[] 22)) hg2 (by rw [World.size_alloc]; omega) (fun q hq => by have e : some Z.heap.size = some q := hq; injection e with e; omega)); have HOa := Lib.hid (OwE.grownO (HOz.out.keep ((Below.refl _ _).alloc (Nat.le_refl _) (.cells #[] 22))) hg2 (fun q hq e => by have e1 : some Z.heap.size = some q := e; have e2 : some g = some q := hq; injection e1 with e1; injection e2 with e2; omega)); have hz2 := hg2.size; rw [World.size_alloc] at hz2; clear hown2 hF2 hg2)
      have hlv2 : ∀ q, v2.ownBlock = some q → Z.heap.size ≤ q := fun q hq => (World.ownsRow.lt HO2.out q hq).1
      go_upto_region 20 with (at_builtin; refine wpList_appendR1 rfl (.tmp 94) (.tmp 96) rfl Z.heap.size _ K vs rfl (ownsRow_keep HO2.out ((Below.refl _ _).alloc (Nat.le_refl _) _)) w2.heap.size 1 (some ⟨g, 0, none⟩) (D + 1) cg rfl (One.new w2 _ _) (by omega) (by rw [World.size_alloc]; omega) ?_; intro v3 w3 hown3 hg3; obtain ⟨g3, c3, rfl, hb3, hl3'⟩ := hown3.form (by omega); have HO3 := Lib.hid hown3; have HG3 := Lib.hid (Below.grown (HG2.out.alloc HG2.out.size (.cells #[.slice (some ⟨g, 0, none⟩) (D + 1) cg] 22)) hg3 (by rw [World.size_alloc]; omega) (fun q hq => by have := hlv2 q hq; omega)); have HOb := Lib.hid (OwE.grownO (HOa.out.keep ((Below.refl _ _).alloc (Nat.le_refl _) (.cells #[.slice (some ⟨g, 0, none⟩) (D + 1) cg] 22))) hg3 (fun q hq e => by have e1 := hlv2 q e; have e2 : some g = some q := hq; injection e2 with e2; omega)); clear hown3 hg3)
      have hv1 : verZ tv (forge R (RK.set 0 (u + dl))) cs (D : Int) = (E2.zero, 60) := (HFG.out _).trans (red_wrong HRl.out hD1 HU.out HVv.out HSM.out HDL.out)
      have HV1 := Lib.hid hv1
      have XT3 := XT.out.keep HG3.out
      have XW3 := XW.out.keep HG3.out
      have t0 := XT3.c0
      have t1 := XT3.c1
      have t2 := XW3.c0
      have t3 := XW3.c1
      clear HO2 HG2 HOa HOz HZ hv1 XT3 XW3
      go_wp2_with fail
      refine (sVerify_as tv (some ⟨g3, 0, none⟩) (K + 1) c3 (forge R (RK.set 0 (u + dl))) Ac (K + 1) cc cs (D : Int) E2.zero 60 _ (forged_st HO3.out HF2.out HRn.out HG3.out HOb.out.sl') (HC.out.keep HG3.out) (by omega) HV1.out).mono ?_
      rintro e W20 ⟨rfl, hb⟩
      have HO20 := Lib.hid (ownsRow_keep HO3.out hb)
      have HG20 := Lib.hid (below_step HG3.out hb)
      have HOc := Lib.hid (HOb.out.keep hb)
      clear hb HO3 HG3 HOb t0 t1 t2 t3
      go_upto_region 21 with fail
      refine wp_named1 (fun V21 hb g21 hz21 => ?_)
      have HO21 := Lib.hid (ownsRow_keep HO20.out hb)
      have HG21 := Lib.hid (below_step HG20.out hb)
      have HOd := Lib.hid (HOc.out.keep hb)
      clear hb g21 HO20 HG20 HOc
      generalize W20.heap.size = b20 at *
      have hq1 : (RK.set 0 (u + dl))[1]? = some v := by rw [List.getElem?_set, if_neg (by omega)]; exact HVv.out
      have HQ1 := Lib.hid hq1
      obtain ⟨g', cg', eg, _, _, _, hT21⟩ := HOd.out.tab (by omega)
      injection eg with e1 e2 e3
      injection e1 with e1
      injection e1 with e1
      subst e1
      have HT21 := Lib.hid hT21
      clear hT21 e3 e2 hq1
      obtain ⟨t0, t1⟩ := HT21.out.at_ HQ1.out
      simp only [Nat.one_mul] at t0 t1
      have XY1 := XY.out.keep HG21.out
      have l0 := Later.cell t0
      have l1 := Later.cell t1
      have l2 := Later.cell XY1.c0
      have l3 := Later.cell XY1.c1
      clear t0 t1 XY1
      refine wp_later_tail 7 (by kernel_rfl) (by kernel_rfl) ?_
      simp only [List.take_succ_cons, List.take_zero, List.drop_succ_cons, List.drop_zero]
      repeat (go_big_quiet_step ((go_at_call 35; with_reducible exact Calls.later (rSub_any v dl _))))
      refine wpQuiet_nil ?_
      intro X
      clear l0 l1 l2 l3
      have k0 := HT21.out.keep X.below
      have f0 := k0.free 2
      have f1 := k0.free 3
      obtain ⟨t0, t1⟩ := k0.at_ HQ1.out
      simp only [Nat.one_mul] at t0 t1
      have hne3 : (Value.slice (some ⟨g3, 0, none⟩) (K + 1) c3).ownBlock ≠ some g := fun e => by have e1 : some g3 = some g := e; injection e1 with e1; omega
      go_upto_region 22 with fail
      refine wp_named (fun Z => OwE Z Y.heap.size (.slice (some ⟨g, 0, none⟩) (D + 1) cg) (D + 1) ((RK.set 0 (u + dl)).set 1 (v - dl)) ∧ Below Wc.heap.size Wc Z ∧ Z.ownsRow zs 22 1 (.slice (some ⟨g3, 0, none⟩) (K + 1) c3) (K + 1) (vs ++ [.slice (some ⟨g, 0, none⟩) (D + 1) cg])) ⟨ow_setI (HOd.out.keep X.below) 1 (v - dl), below_at (below_step HG21.out X.below) hle 2 3 _ _, ownsRow_setCell (ownsRow_setCell (HZs.out ▸ ownsRow_keep HO21.out X.below) _ hne3) _ hne3⟩ (fun Z2 hZ => ?_)
      have HO22 := Lib.hid hZ.2.2
      have HG22 := Lib.hid hZ.2.1
      have HOe := Lib.hid hZ.1
      clear hZ f0 f1 t0 t1 k0 HOd HT21 HG21 HO21
      obtain ⟨last, hlast⟩ : ∃ last, (RK.set 0 (u + dl)).set 1 (v - dl) = last := ⟨_, rfl⟩
      have hll : last.length = D + 1 := by rw [← hlast, List.length_set, List.length_set]; exact HRl.out
      obtain ⟨a1, ha1⟩ : ∃ a1, atE last (cfE cs K) = a1 := ⟨_, rfl⟩
      have hv2 : verZ tv (forge R last) cs (D : Int) = (a1, 0) := by rw [← ha1, ← hlast]; exact (HFG.out _).trans (red_right HRl.out hD1 HU.out HVv.out HSM.out)
      have HV2 := Lib.hid hv2
      have HOf := Lib.hid (hlast ▸ HOe.out)
      have HLl := Lib.hid hll
      have HA1 := Lib.hid (show atE last x = a1 by rw [← ha1, cfE_some HX.out])
      have HA2 := Lib.hid (show atE RK x = fv by rw [← HAT.out, cfE_some HX.out])
      have XT3 := XT.out.keep HG22.out
      have XW3 := XW.out.keep HG22.out
      have t0 := XT3.c0
      have t1 := XT3.c1
      have t2 := XW3.c0
      have t3 := XW3.c1
      clear hv2 hll ha1 hlast HOe XT3 XW3 HV1
      go_wp2_with fail
      refine (sVerify_as tv (some ⟨g3, 0, none⟩) (K + 1) c3 (forge R last) Ac (K + 1) cc cs (D : Int) a1 0 _ (forged_st HO22.out HF2.out HRn.out HG22.out HOf.out.sl') (HC.out.keep HG22.out) (by omega) HV2.out).mono ?_
      rintro e W22 ⟨rfl, hb⟩
      have HG23 := Lib.hid (below_step HG22.out hb)
      have HOg := Lib.hid (HOf.out.keep hb)
      clear hb HO22 HG22 HOf t0 t1 t2 t3
      go_upto_region 23 with fail
      refine wp_named1 (fun V23 hb g23 hz23 => ?_)
      have XV := Lib.hid (show Two V23 W22.heap.size 43 (.int .u64 (vF a1.A)) (.int .u64 (vF a1.B)) from g23)
      have HG := Lib.hid (below_step HG23.out hb)
      have HO := Lib.hid (HOg.out.keep hb)
      clear hb g23 HG23 HOg
      generalize W22.heap.size = bV at *
      obtain ⟨adC, hadC, p0, p1⟩ := (HC.out.keep HG.out).at_ HX.out
      subst hadC
      obtain ⟨adR, B1, m1, d2, hadR, yR, hs1⟩ := (HR.out.keep HG.out).at_ HRK.out
      injection hadR with hadR
      subst hadR
      rw [add_base] at yR
      have hm1 : m1 = D + 1 := by have := hs1.len; have := HRl.out; omega
      subst hm1
      have HS1 := Lib.hid hs1
      have XSg := XS.out.keep HG.out
      have l0 := Later.cell p0
      have l1 := Later.cell p1
      have l2 := Later.cell yR
      have l3 := Later.cell XV.out.c0
      have l4 := Later.cell XV.out.c1
      have l5 := Later.cell XSg.c0
      have l6 := Later.cell XSg.c1
      clear p0 p1 yR XSg hs1 hS1
      obtain ⟨bq, hq⟩ : ∃ bq : Bool, ∀ w : World, (binOp .neq 43 (.agg #[.int .u64 (vF a1.A), .int .u64 (vF a1.B)]) (.agg #[.int .u64 (vF fv.A), .int .u64 (vF fv.B)])).run Try.prog w = .ok (.bool bq) w := ⟨_, run_neqlE a1 fv⟩
      refine wp_floatN (by kernel_rfl) (lexOK_of (by kernel_rfl) (by kernel_rfl)) (chainOF_of (by kernel_rfl)) (fun V10 hb hS => ?_)
      have HW := Lib.hid hb
      have HSL := Lib.hid hS
      clear hb hS
      refine wpF_seg 17 (by kernel_rfl) ?_
      simp only [List.take_succ_cons, List.take_zero, List.drop_succ_cons, List.drop_zero]
      repeat (go_big_quiet_step (fail))
      refine wpQuiet_nil ?_
      refine wpF_call 23 Try.func23 (by kernel_rfl) (by kernel_rfl) _ _ #[.agg #[.slice A 3 c, .slice B' m' c'], .slice (some ⟨gv, 0, none⟩) 3 3] rfl (by kernel_rfl) (by kernel_rfl) HSL.out (fun V11 hV => ?_)
      have HW2 := Lib.hid (below_step HG.out (below_step HW.out hV))
      have hoks := HS.out.ok.oks
      have hidx := HS.out.ok.idx
      rw [hl3] at hoks hidx
      refine (sFinal_as A 3 c B' m' c' ts (some ⟨gv, 0, none⟩) 3 3 (proV Ls cs) fv _ (HS.out.m.keep HW2.out) (HV.out.keep HW2.out) hoks hidx HFv.out).mono ?_
      rintro e W11 ⟨rfl, hb⟩
      have hb2 := ext_trans hV hb
      have HW3 := Lib.hid (below_step HW.out hb2)
      have HSL2 := Lib.hid (HSL.out.ext hb2)
      clear HW HSL HW2 hoks hidx
      refine ⟨_, rfl, hb, ?_⟩
      clear hb hb2 hV
      simp only [Act.put, List.setIfInBounds_toArray, List.set_cons_zero, List.set_cons_succ]
      refine wpF_seg 7 (by kernel_rfl) ?_
      simp only [List.take_succ_cons, List.take_zero, List.drop_succ_cons, List.drop_zero]
      repeat (go_big_quiet_step (fail))
      refine wpQuiet_nil ?_
      refine wpF_call 33 Try.func33 (by kernel_rfl) (by kernel_rfl) _ _ #[.slice (some ⟨g, 0, none⟩) (D + 1) cg, .agg #[.int .u64 (vF x.A), .int .u64 (vF x.B)]] rfl (by kernel_rfl) (by kernel_rfl) HSL2.out (fun V13 hV => ?_)
      have HW5 := Lib.hid (below_step HW3.out hV)
      refine (rPAt_as (some ⟨g, 0, none⟩) (D + 1) cg last x a1 _ ((HO.out.keep HW5.out).sl') (by omega) HA1.out).mono ?_
      rintro e W13 ⟨rfl, hb⟩
      have hb2 := ext_trans hV hb
      have HW6 := Lib.hid (below_step HW3.out hb2)
      have HSL6 := Lib.hid (HSL2.out.ext hb2)
      clear HW3 HSL2 HW5
      refine ⟨_, rfl, hb, ?_⟩
      clear hb hb2 hV
      simp only [Act.put, List.setIfInBounds_toArray, List.set_cons_zero, List.set_cons_succ]
      refine wpF_seg 10 (by kernel_rfl) ?_
      simp only [List.take_succ_cons, List.take_zero, List.drop_succ_cons, List.drop_zero]
      repeat (go_big_quiet_step (fail))
      refine wpQuiet_nil ?_
      refine wpF_call 33 Try.func33 (by kernel_rfl) (by kernel_rfl) _ _ #[.slice B1 (D + 1) d2, .agg #[.int .u64 (vF x.A), .int .u64 (vF x.B)]] rfl (by kernel_rfl) (by kernel_rfl) HSL6.out (fun V14 hV => ?_)
      have HW7 := Lib.hid (below_step HW6.out hV)
      refine (rPAt_as B1 (D + 1) d2 RK x fv _ (HS1.out.keep HW7.out) (by omega) HA2.out).mono ?_
      rintro e W14 ⟨rfl, hb⟩
      have hb2 := ext_trans hV hb
      have HW8 := Lib.hid (below_step HW6.out hb2)
      clear HW6 HSL6 HW7
      refine ⟨_, rfl, hb, ?_⟩
      clear hb hb2 hV
      simp only [Act.put, List.setIfInBounds_toArray, List.set_cons_zero, List.set_cons_succ]
      cases bq
      all_goals
        refine wpF_seg 4 (by kernel_rfl) ?_
        simp only [List.take_succ_cons, List.take_zero, List.drop_succ_cons, List.drop_zero]
        repeat (go_big_quiet_step (fail))
        refine wpQuiet_nil ?_
        refine wpF_nil (fun V12 hb => ?_)
        have HBz := Lib.hid (below_step HB.out (below_step HG.out (below_step HW8.out hb)))
        clear hb
        go_wp2_with fail
        go_ret
        exact ⟨rfl, HBz.out⟩

end Go.Proofs.Ytombcjdhjcmhhaa
