/- The walk of the law SumcheckLinearity: Total and Round are linear in the coefficients; no conditions. -/
import Derived.Test.YtombcjdhjcmhhaaGf
import Derived.Test.YtombcjdhjcmhhaaGf
import Derived.Test.YtombcjdhjcmhhaaGe
import Derived.Test.YtombcjdhjcmhhaaGb
import Derived.Test.YtombcjdhjcmhhaaGf
import Derived.Test.YtombcjdhjcmhhaaGf
import Derived.Test.YtombcjdhjcmhhaaRefD
import Derived.Deep.CutRange
namespace Go.Proofs.Ytombcjdhjcmhhaa
set_option maxRecDepth 8000
open Go.RowKit Gold

/-- a list of terms of the call's own whose lists of indices lie in an older world -/
def OwM4 (W w : World) (base : Nat) (v : Value) (n : Nat) (ts : List Tm) : Prop :=
  ∃ ss : List Value, ss.length = n ∧ w.ownsRow base 65 3 v n ((List.zipWith tmC ts ss).flatten) ∧ ts.length = n ∧
    ∀ (i : Nat) (t : Tm), ts[i]? = some t → ∃ B m d, ss[i]? = some (Value.slice B m d) ∧ SiZ W B m d (t.2.map fun k : Nat => (k : Int))
theorem OwM4.nil (W w : World) (base : Nat) : OwM4 W w base (.slice none 0 0) 0 [] := ⟨[], rfl, ⟨rfl, .inl ⟨rfl, rfl⟩⟩, rfl, fun i L hL => by simp at hL⟩
theorem OwM4.keep {W w w' : World} {base : Nat} {v : Value} {n : Nat} {ts : List Tm} (h : OwM4 W w base v n ts) (hb : Below w.heap.size w w') : OwM4 W w' base v n ts := by
  obtain ⟨ss, h0, h1, h2, h3⟩ := h
  exact ⟨ss, h0, ownsRow_keep h1 hb, h2, h3⟩
theorem OwM4.far {W w : World} {base : Nat} {v : Value} {n : Nat} {ts : List Tm} (h : OwM4 W w base v n ts) {a : Addr} (x : Value) (e : a.block < base) : OwM4 W (w.setCell a x) base v n ts := by
  obtain ⟨ss, h0, h1, h2, h3⟩ := h
  exact ⟨ss, h0, ownsRow_setCell h1 x (fun k => by have := (World.ownsRow.lt h1 _ k).1; omega), h2, h3⟩
theorem OwM4.lt {W w : World} {base : Nat} {v : Value} {n : Nat} {ts : List Tm} (h : OwM4 W w base v n ts) : ∀ q, v.ownBlock = some q → base ≤ q := by
  obtain ⟨ss, _, h1, _⟩ := h
  exact fun q hq => (World.ownsRow.lt h1 q hq).1
theorem OwM4.shape {W w : World} {base : Nat} {v : Value} {n : Nat} {ts : List Tm} (h : OwM4 W w base v n ts) : ∃ A c, v = .slice A n c ∧ n ≤ c ∧ c ≤ 9223372036854775807 := by
  obtain ⟨ss, _, h1, _⟩ := h
  rcases h1.2 with ⟨rfl, rfl⟩ | ⟨g, cap, cur, rfl, _, _, hc, hm, _⟩
  · exact ⟨none, 0, rfl, Nat.le_refl _, Nat.zero_le _⟩
  · exact ⟨_, cap, rfl, hc, by unfold maxLen at hm; omega⟩
theorem OwM4.tm {W w : World} {base : Nat} {A : Option Addr} {n c : Nat} {ts : List Tm} (h : OwM4 W w base (.slice A n c) n ts) (hW : Below W.heap.size W w) : TM w A n c ts := by
  obtain ⟨A', c', e, h5, h6⟩ := h.shape
  injection e with e1 e2 e3
  subst e1
  subst e3
  obtain ⟨ss, h0, h1, h2, h3⟩ := h
  refine ⟨by unfold rawT; rw [List.length_map]; exact h2.symm, h5, h6, fun i p hp => ?_⟩
  unfold rawT at hp
  rw [List.getElem?_map] at hp
  cases ht : ts[i]? with
  | none => rw [ht] at hp; cases hp
  | some t =>
    rw [ht] at hp
    injection hp with hp
    subst hp
    obtain ⟨B, m, d, k1, k2⟩ := h3 i t ht
    have hi : i < n := by rw [← h2]; exact (List.getElem?_eq_some_iff.1 ht).1
    rcases h1.2 with ⟨e, e0⟩ | ⟨g, cap, cur, e, _, hg, _, _, _, hT⟩
    · omega
    · injection e with e1 e2 e3
      subst e1
      have hf := flat_get ts ss (by omega) i t _ ht k1
      refine ⟨_, B, m, d, rfl, ⟨?_, ?_, ?_⟩, k2.keep hW⟩
      · rw [add_base]
        exact row_cell hg hT (by have := hf 0 (by omega); rw [Nat.add_zero] at this; rw [this]; rfl)
      · rw [add_base]
        exact row_cell hg hT (by rw [hf 1 (by omega)]; rfl)
      · rw [add_base]
        exact row_cell hg hT (by rw [hf 2 (by omega)]; rfl)
theorem hOp_appendM4 {o : Oper} {a : Act} {w : World} {K : Value → World → Prop} (W : World) (s x : Operand)
    (ho : o.op = .call { callee := .builtin .append, args := #[s, x], argTypes := #[28, 28] }) (base : Nat) (v : Value) (n : Nat) (ts : List Tm) (hs : a.eval s = v) (hown : OwM4 W w base v n ts)
    (g c : Nat) (B : Option Addr) (m d : Nat) (t : Tm) (hx : a.eval x = .slice (some ⟨g, 0, none⟩) 1 c) (hy : Tri w g 65 (.int .u64 (vF t.1.A)) (.int .u64 (vF t.1.B)) (.slice B m d)) (hl : SiZ W B m d (t.2.map fun k : Nat => (k : Int))) (hn : n ≤ 65536) (hbase : base ≤ w.heap.size)
    (h : ∀ v' w', OwM4 W w' base v' (n + 1) (ts ++ [t]) → w.grownBy w' v.ownBlock → K v' w') : hOp Try.prog o K a w := by
  obtain ⟨i, hi, hz, hs2, hb⟩ := info_parts term_info
  obtain ⟨ss, h0, h1, h2, h3⟩ := hown
  obtain ⟨v', w', hrun, hown', hg, _⟩ := run_append_own (P := Try.prog) w base 28 o.type 65 i (.agg #[.int .u64 0, .int .u64 0, .slice none 0 0]) 3 40 Try.underlying28 hi hz hs2 hb rfl (by omega) v n _ h1 ⟨g, 0, none⟩ 1 c (tmC t (.slice B m d)) rfl
    (by
      intro j u hj
      rw [add_base]
      match j, hj with
      | 0, hj => injection hj with hj; subst hj; exact hy.c0
      | 1, hj => injection hj with hj; subst hj; exact hy.c1
      | 2, hj => injection hj with hj; subst hj; exact hy.c2
      | j + 3, hj => simp [tmC] at hj)
    (by
      intro u hu
      simp [tmC] at hu
      rcases hu with rfl | rfl | rfl <;> rfl)
    (by unfold maxLen; omega) (by omega) hbase
  unfold hOp execOp
  simp only [ho, resolve, invoke, builtin, Sem.run_bind, Sem.run_pure, Result.andThen_ok, List.map_toArray, List.map_cons, List.map_nil, hs, hx, hrun]
  have hzip : List.zipWith tmC (ts ++ [t]) (ss ++ [.slice B m d]) = List.zipWith tmC ts ss ++ [tmC t (.slice B m d)] := by
    rw [List.zipWith_append (by omega)]
    rfl
  refine h v' w' ⟨ss ++ [.slice B m d], by simp [h0], by rw [hzip, List.flatten_append, List.flatten_cons, List.flatten_nil, List.append_nil]; exact hown', by simp [h2], fun k M hM => ?_⟩ hg
  by_cases hk : k < n
  · rw [List.getElem?_append_left (by omega)] at hM
    obtain ⟨B', m', d', k1, k2⟩ := h3 k M hM
    exact ⟨B', m', d', by rw [List.getElem?_append_left (by omega)]; exact k1, k2⟩
  · rw [List.getElem?_append_right (by omega)] at hM
    have hk0 : k - ts.length = 0 := by
      have := (List.getElem?_eq_some_iff.1 hM).1
      simp at this
      omega
    rw [hk0] at hM
    injection hM with hM
    subst hM
    exact ⟨B, m, d, by rw [List.getElem?_append_right (by omega), h0, ← h2, hk0]; rfl, hl⟩
theorem run_buildP {ev : Operand → Value} {o : Oper} {x : Operand} (a b : Int) (A : Option Addr) (n c : Nat) (ho : o.op = .buildSlice 28 1 #[(0, x)]) (hx : ev x = .agg #[.int .u64 a, .int .u64 b, .slice A n c]) (w : World) :
    (execOp ev o).run Try.prog w = .ok (.value (.slice (some ⟨w.heap.size, 0, none⟩) 1 1)) (w.alloc (.cells #[.int .u64 a, .int .u64 b, .slice A n c] 65)) := by
  unfold execOp
  rw [ho]
  simp only [List.map_toArray, List.map_cons, List.map_nil, hx]
  go_simp
theorem run_storeMs {ev : Operand → Value} {o : Oper} {p x : Operand} {u1 u2 : Value} {w : World} {t : TypeId} (b : Nat) (v : Value) (hv : ∃ A n c, v = .slice A n c) (ho : o.op = .store 28 p x) (hp : ev p = .pointer (some ⟨b, 1, none⟩)) (hx : ev x = v) (h : Two w b t u1 u2) :
    (execOp ev o).run Try.prog w = .ok .skip (w.setCell ⟨b, 1, none⟩ v) := by
  obtain ⟨A, n, c, rfl⟩ := hv
  have c0 := h.c1
  have f0 := h.f1
  unfold execOp
  rw [ho]
  simp only [hp, hx]
  go_simp
theorem run_allocS (ev : Operand → Value) (o : Oper) (w : World) (h : o.op = .alloc 30) : (execOp ev o).run Try.prog w = .ok (.value (ptr w.heap.size)) (w.alloc (.cells #[.slice none 0 0, .slice none 0 0] 30)) := by
  unfold execOp ptr
  rw [h]
  go_simp
theorem run_storeSum {ev : Operand → Value} {o : Oper} {p x : Operand} {u1 u2 : Value} {w : World} {t : TypeId} (b : Nat) (A B : Option Addr) (n c m d : Nat) (ho : o.op = .store 30 p x) (hp : ev p = .pointer (some ⟨b, 0, none⟩)) (hx : ev x = .agg #[.slice A n c, .slice B m d]) (h : Two w b t u1 u2) :
    (execOp ev o).run Try.prog w = .ok .skip ((w.setCell ⟨b, 0, none⟩ (.slice A n c)).setCell ⟨b, 1, none⟩ (.slice B m d)) := by
  have c0 := h.c0
  have c1 := h.c1
  have f0 := h.f0
  have f1 := h.f1
  unfold execOp
  rw [ho]
  simp only [hp, hx]
  go_simp
theorem below_two {N b : Nat} {A B : World} (h : Below N A B) (hb : N ≤ b) (u v : Value) : Below N A ((B.setCell ⟨b, 0, none⟩ u).setCell ⟨b, 1, none⟩ v) := by
  have h1 : Below N A (B.setCell ⟨b, 0, none⟩ u) := h.setCell hb u
  exact h1.setCell hb v
theorem run_neqE_eq (x : E2) (w : World) : (binOp .neq 43 (.agg #[.int .u64 (vF x.A), .int .u64 (vF x.B)]) (.agg #[.int .u64 (vF x.A), .int .u64 (vF x.B)])).run Try.prog w = .ok (.bool false) w := by
  simp [go_sem, Try.underlying43]
theorem rAdd_as (x y z : E2) (w : World) (h : x + y = z) : Calls Try.prog 32 #[.agg #[.int .u64 (vF x.A), .int .u64 (vF x.B)], .agg #[.int .u64 (vF y.A), .int .u64 (vF y.B)]] w fun e w' => e = .returned (.agg #[.int .u64 (vF z.A), .int .u64 (vF z.B)]) ∧ Below w.heap.size w w' := h ▸ rAdd_any x y w
theorem rMul_as (x y z : E2) (w : World) (h : x * y = z) : Calls Try.prog 36 #[.agg #[.int .u64 (vF x.A), .int .u64 (vF x.B)], .agg #[.int .u64 (vF y.A), .int .u64 (vF y.B)]] w fun e w' => e = .returned (.agg #[.int .u64 (vF z.A), .int .u64 (vF z.B)]) ∧ Below w.heap.size w w' := h ▸ rMul_any x y w
theorem rPAt_as (A : Option Addr) (n c : Nat) (v : List E2) (y z : E2) (w : World) (h : Sl w A n c v) (hn : n ≤ 20) (hz : atE v y = z) :
    Calls Try.prog 33 #[.slice A n c, .agg #[.int .u64 (vF y.A), .int .u64 (vF y.B)]] w fun e w' => e = .returned (.agg #[.int .u64 (vF z.A), .int .u64 (vF z.B)]) ∧ Below w.heap.size w w' := hz ▸ rPAt_any A n c v y w h hn
theorem scl_take {ts : List Tm} {y : E2} {j : Nat} {t : Tm} (h : ts[j]? = some t) : sclT (ts.take j) y ++ [(t.1 * y, t.2)] = sclT (ts.take (j + 1)) y := by
  obtain ⟨hl, he⟩ := List.getElem?_eq_some_iff.1 h
  unfold sclT
  rw [List.take_succ_eq_append_getElem hl, List.map_append, he]
  rfl
theorem addr_add (ad : Addr) (i j : Nat) : (ad.add i).add j = ad.add (i + j) := by
  unfold Addr.add
  by_cases hi : i = 0
  · subst hi
    simp
  · by_cases hj : j = 0
    · subst hj
      simp
    · rw [if_neg hi, if_neg hj, if_neg (by omega)]
      simp [Nat.add_assoc]
theorem TM.take {w : World} {A : Option Addr} {n c : Nat} {ts : List Tm} (h : TM w A n c ts) {k : Nat} (hk : k ≤ n) : TM w A k c (ts.take k) := by
  have hl := h.len
  have hc := h.cap
  refine ⟨by unfold rawT; rw [List.length_map, List.length_take]; omega, by omega, h.top, fun i p hp => ?_⟩
  unfold rawT at hp
  rw [List.map_take, List.getElem?_take] at hp
  split at hp
  · exact SlM.cells h i p hp
  · cases hp
theorem TM.drop {w : World} {A : Option Addr} {n c : Nat} {ts : List Tm} (h : TM w A n c ts) {k : Nat} (hk : k ≤ n) : TM w (if c = k then A else Option.map (fun x => x.add (k * 3)) A) (n - k) (c - k) (ts.drop k) := by
  have hl := h.len
  have hc := h.cap
  have ht := h.top
  refine ⟨by unfold rawT; rw [List.length_map, List.length_drop]; omega, by omega, by omega, fun i p hp => ?_⟩
  unfold rawT at hp
  rw [List.map_drop, List.getElem?_drop] at hp
  have hi := (List.getElem?_eq_some_iff.1 hp).1
  rw [List.length_map] at hi
  rw [if_neg (by omega)]
  obtain ⟨ad', B, m, d, e, k1, k2⟩ := SlM.cells h (k + i) p hp
  subst e
  exact ⟨_, B, m, d, rfl, by rw [addr_add, show k * 3 + i * 3 = (k + i) * 3 by omega]; exact k1, k2⟩

set_option maxHeartbeats 16000000 in
set_option maxRecDepth 100000 in
theorem sumcheckLinearity_any (x : Value) (r1 r2 N0 : Int) (w : World) (hx : RawS w x) (u1 : U64 r1) (u2 : U64 r2) (u0 : U8 N0) :
    Calls Try.prog 7 #[x, .agg #[.int .u64 r1, .int .u64 r2], .int .u8 N0] w fun e w' => e = .returned (.bool true) ∧ Below w.heap.size w w' := by
  obtain ⟨A0, A1, A2, B, n0, c0, n1, c1, n2, c2, m, e, q0, q1, q2, rs, N, rfl, hN, h0, h1, h2, w0, w1, w2, hR, wR⟩ := hx.ex
  have H0 := Lib.hid h0
  have H1 := Lib.hid h1
  have H2 := Lib.hid h2
  have HR := Lib.hid hR
  have WR := Lib.hid wR
  have hN0 := u0.1
  have hN1 := u0.2
  clear hx h0 h1 h2 hR wR u0
  go_enter Try.func7, Try.ntmps7
  go_wp2_with fail
  refine calls_named2 (fun V1 hbV g0 g1 hzV => ?_)
  have X0 := Lib.hid (show Five V1 w.heap.size 26 (.slice A0 n0 c0) (.slice A1 n1 c1) (.slice A2 n2 c2) (.slice B m e) (.int .u8 N) from g0)
  have X1 := Lib.hid (show Two V1 (w.heap.size + 1) 43 (.int .u64 r1) (.int .u64 r2) from g1)
  have HBa := Lib.hid hbV
  clear hbV g0 g1
  refine (sanity6_any _).mono ?_
  rintro e W2 ⟨rfl, hb⟩
  have X2 := Lib.hid (X1.out.keep hb)
  have HB2 := Lib.hid (below_step HBa.out hb)
  have XX := X0.out.keep hb
  have x0 := XX.c0
  have x1 := XX.c1
  have x2 := XX.c2
  have x3 := XX.c3
  have x4 := XX.c4
  clear hb XX X0 X1 HBa
  go_wp2_with fail
  refine (rSumMade_any A0 A1 A2 B n0 c0 n1 c1 n2 c2 m _ q0 q1 q2 rs N 4 _ (by omega) hN (Sr.keep H0.out HB2.out) (Sr.keep H1.out HB2.out) (Sr.keep H2.out HB2.out) w0 w1 w2 (HR.out.keep HB2.out) WR.out).mono ?_
  rintro e W3 ⟨A, c, B', m', c', Ls, ts, d, rfl, hT, hM, hok, hd, hl3, ht4, hb⟩
  clear x0 x1 x2 x3 x4
  have HS := Lib.hid (SumIn.mk hT hM hok)
  have X3 := Lib.hid (X2.out.keep hb)
  have HB3 := Lib.hid (below_step HB2.out hb)
  have hmtH := Lib.hid hM.len
  have hmc := hM.cap
  have hct := hM.top
  have hm4 : m' ≤ 4 := by have := hM.len; omega
  clear hb hT hM hok H0 H1 H2 HR WR w0 w1 w2 HB2 hN X2
  go_upto_region 3 with fail
  refine wp_named1 (fun V4 hb g4 hz4 => ?_)
  have XS := Lib.hid (show Two V4 W3.heap.size 30 (.slice A 3 c) (.slice B' m' c') from g4)
  have HS4 := Lib.hid (HS.out.keep hb)
  have X4 := Lib.hid (X3.out.keep hb)
  have HB4 := Lib.hid (below_step HB3.out hb)
  clear hb g4 HS HB3 X3
  generalize W3.heap.size = bS at *
  have y0 := X4.out.c0
  have y1 := X4.out.c1
  go_wp2_with fail
  refine (rMade_any r1 r2 _ u1 u2).mono ?_
  rintro e W5 ⟨rfl, hb⟩
  have XS5 := Lib.hid (XS.out.keep hb)
  have HS5 := Lib.hid (HS4.out.keep hb)
  have HB5 := Lib.hid (below_step HB4.out hb)
  clear hb XS HS4 X4 HB4 y0 y1
  go_upto_region 4 with fail
  refine wp_named1 (fun Wc hb g8 hz8 => ?_)
  have XY := Lib.hid (show Two Wc W5.heap.size 43 (.int .u64 (vF (toE r1 r2).A)) (.int .u64 (vF (toE r1 r2).B)) from g8)
  have XS := Lib.hid (XS5.out.keep hb)
  have HS := Lib.hid (HS5.out.keep hb)
  have HB := Lib.hid (below_step HB5.out hb)
  clear hb g8 XS5 HS5 HB5
  generalize W5.heap.size = bY at *
  generalize toE r1 r2 = y at *
  have s0 := XS.out.c0
  go_upto_region 5 with fail
  refine wp_named1 (fun V6 hb g6 hz6 => ?_)
  have XC := Lib.hid (show Two V6 Wc.heap.size 30 (.slice A 3 c) (.slice none 0 0) from g6)
  have HL6 := Lib.hid hb
  have hzc := hb.size
  clear hb g6 s0
  obtain ⟨bC, hbC⟩ : ∃ bC, Wc.heap.size = bC := ⟨_, rfl⟩
  have HBC := Lib.hid hbC
  rw [hbC] at XC hz6
  have hbCt : ∀ (o : Obj), (Wc.alloc o).heap.size = bC + 1 := fun o => by rw [World.size_alloc, hbC]
  clear hbCt
  rw [hbC]
  clear hbC hzc
  go_wp2_with fail
  go_loopw [11] (fun s wr => ∃ (j : Nat) (u : Value), j ≤ m' ∧ s = .int .i64 j ∧ OwM4 Wc wr (bC + 1) u j (sclT (ts.take j) y) ∧ Two wr bC 30 (.slice A 3 c) u ∧ Below Wc.heap.size Wc wr ∧ bC + 1 ≤ wr.heap.size) (fun s _ => m' - (intOf s).toNat)
  case atStart => exact ⟨0, _, Nat.zero_le _, rfl, OwM4.nil _ _ _, XC.out, HL6.out, hz6⟩
  case round =>
    obtain ⟨j, u, hj, rfl, hu, hc2, hb, hz⟩ := hrel
    have HU := Lib.hid hu
    have HC := Lib.hid hc2
    have HL := Lib.hid hb
    clear hu hc2 hb
    have XSr := XS.out.keep HL.out
    have s1 := XSr.c1
    by_cases hlt : j < m'
    · obtain ⟨t, ht⟩ := HS.out.m.get hlt
      obtain ⟨ad, Bi, mi, di, hB', ⟨p0, p1, p2⟩, hsi⟩ := HS.out.m.at_ ht
      subst hB'
      have HT := Lib.hid ht
      have HSi := Lib.hid hsi
      replace p0 := cell_keep p0 HL.out
      replace p1 := cell_keep p1 HL.out
      replace p2 := cell_keep p2 HL.out
      have XYr := XY.out.keep HL.out
      have hsw := HBC.out
      have hbb : bC < bC + 1 := Nat.lt_succ_self _
      have lt1 : ∀ {a : Addr} {v : Value}, Wc.cell? a = some v → a.block < bC + 1 := fun h => by have := World.block_lt_of_cell? _ _ h; omega
      obtain ⟨ad', Bi', mi', di', hB', ⟨z0, z1, z2⟩, _⟩ := HS.out.m.at_ HT.out
      injection hB' with hB'
      subst hB'
      have l0 := LaterB.cell (B := bC + 1) HC.out.c1 hbb
      have l1 := LaterB.cell (B := bC + 1) s1 (lt1 XS.out.c1)
      have l2 := LaterB.cell (B := bC + 1) p0 (lt1 z0)
      have l3 := LaterB.cell (B := bC + 1) p1 (lt1 z1)
      have l4 := LaterB.cell (B := bC + 1) p2 (lt1 z2)
      have l5 := LaterB.cell (B := bC + 1) XYr.c0 (lt1 XY.out.c0)
      have l6 := LaterB.cell (B := bC + 1) XYr.c1 (lt1 XY.out.c1)
      have j1 : (j : Int) < (m' : Int) := by omega
      have j0 : (0 : Int) ≤ (j : Int) := by omega
      obtain ⟨Au, cu, hue, _, _⟩ := HU.out.shape
      subst hue
      clear p0 p1 p2 z0 z1 z2 ht hsi XYr XSr lt1 hsw
      go_upto_region 8 with fail
      clear s1
      refine Tl.wp_held_tailB 20 (bC + 1) (by kernel_rfl) (lexOK_of (by kernel_rfl) (by kernel_rfl)) (Tl.chainW_of (by kernel_rfl)) rfl (by kernel_rfl) (by kernel_rfl) (fun W0 hbW hSW => ?_)
      have HU0 := Lib.hid (HU.out.keep hbW)
      have HC0 := Lib.hid (HC.out.keep hbW)
      have HL0 := Lib.hid (below_step HL.out hbW)
      have HSS := Lib.hid hSW
      have hz0 : bC + 1 ≤ W0.heap.size := by have := hbW.size; omega
      clear hbW hSW
      refine wpHeld_seg 9 HSS.out (by kernel_rfl) ?_
      simp only [List.take_succ_cons, List.take_zero, List.drop_succ_cons, List.drop_zero]
      repeat (go_big_quiet_step (fail))
      refine wpQuiet_nil ?_
      refine wpHeld_call 36 Try.func36 (by kernel_rfl) (by kernel_rfl) _ _ #[.agg #[.int .u64 (vF t.1.A), .int .u64 (vF t.1.B)], .agg #[.int .u64 (vF y.A), .int .u64 (vF y.B)]] rfl (by kernel_rfl) (by kernel_rfl) ?_
      refine (rMul_any t.1 y _).mono ?_
      rintro e W1 ⟨rfl, hb⟩
      have HU1 := Lib.hid (HU0.out.keep hb)
      have HC1 := Lib.hid (HC0.out.keep hb)
      have HL1 := Lib.hid (below_step HL0.out hb)
      have HS1 := Lib.hid (LaterB.step HSS.out (hb.mono hz0))
      have hz1 : bC + 1 ≤ W1.heap.size := by have := hb.size; omega
      clear hb
      refine ⟨_, rfl, HS1.out, ?_⟩
      simp only [Act.put, List.setIfInBounds_toArray, List.set_cons_zero, List.set_cons_succ]
      refine wpHeld_seg 7 HS1.out (by kernel_rfl) ?_
      simp only [List.take_succ_cons, List.take_zero, List.drop_succ_cons, List.drop_zero]
      repeat (go_big_quiet_step (fail))
      refine wpQuiet_nil ?_
      clear l0 l1 l2 l3 l4 l5 l6
      have HSb := Lib.hid (LaterB.step HS1.out ((Below.refl (bC + 1) W1).alloc hz1 (.cells #[.int .u64 (vF (t.1 * y).A), .int .u64 (vF (t.1 * y).B), .slice Bi mi di] 65)))
      refine wpHeld_run _ _ (by kernel_rfl) (by kernel_rfl) (run_buildP (vF (t.1 * y).A) (vF (t.1 * y).B) Bi mi di rfl rfl _) HSb.out ?_
      simp only [Act.put, List.setIfInBounds_toArray, List.set_cons_zero, List.set_cons_succ]
      have hbB : Below W1.heap.size W1 (W1.alloc (.cells #[.int .u64 (vF (t.1 * y).A), .int .u64 (vF (t.1 * y).B), .slice Bi mi di] 65)) := (Below.refl _ _).alloc (Nat.le_refl _) _
      have HBb := Lib.hid hbB
      clear hbB
      refine wpHeld_op (by kernel_rfl) (by kernel_rfl) ?_
      refine hOp_appendM4 Wc (.tmp 37) (.tmp 53) rfl (bC + 1) _ j _ rfl (HU1.out.keep HBb.out) W1.heap.size 1 Bi mi di (t.1 * y, t.2) rfl (Tri.new W1 _ _ _ _) HSi.out (by omega) (by have := HBb.out.size; omega) ?_
      intro v1 w1 hown1 hg1
      have hlv : ∀ q, (Value.slice Au j cu).ownBlock = some q → bC + 1 ≤ q := fun q hq => HU1.out.lt q hq
      have HU2 := Lib.hid hown1
      have HC2 := Lib.hid (two_grownR (HC1.out.keep HBb.out) hg1 hlv hbb)
      have hwl : Wc.heap.size ≤ bC + 1 := by have := HBC.out; omega
      have HL2 := Lib.hid (Below.grown (below_step HL1.out HBb.out) hg1 (by have := HBb.out.size; have := HL1.out.size; omega) (fun q hq => by have := hlv q hq; omega))
      have HSz := Lib.hid (LaterB.step HSb.out (Below.grown (Below.refl (bC + 1) _) hg1 (by have := HBb.out.size; omega) hlv))
      have hz2 : bC + 1 ≤ w1.heap.size := by have := hg1.size; have := HBb.out.size; omega
      clear hown1 hg1
      refine ⟨HSz.out, ?_⟩
      simp only [Act.put, List.setIfInBounds_toArray, List.set_cons_zero, List.set_cons_succ]
      obtain ⟨A1', c1', rfl, _⟩ := HU2.out.shape
      refine wpHeld_seg 1 HSz.out (by kernel_rfl) ?_
      simp only [List.take_succ_cons, List.take_zero, List.drop_succ_cons, List.drop_zero]
      repeat (go_big_quiet_step (fail))
      refine wpQuiet_nil (wpHeld_nil ?_)
      refine mOp_run0 _ rfl rfl (run_storeMs bC _ ⟨_, _, _, rfl⟩ rfl rfl rfl HC2.out) ?_
      have HUn : Hid (OwM4 Wc w1 (bC + 1) (.slice A1' (j + 1) c1') (j + 1) (sclT (ts.take (j + 1)) y)) := Lib.hid (scl_take HT.out ▸ HU2.out)
      go_wp2_with fail
      go_roundw
      case rel => exact ⟨j + 1, _, by omega, by go_num, HUn.out.far _ hbb, HC2.out.set1 _, HL2.out.setCell (by show Wc.heap.size ≤ bC; have := HBC.out; omega) _, by simpa using hz2⟩
      case measure => simp [intOf]; omega
    · have hjm : j = m' := by omega
      have hjn : ¬ ((j : Int) < (m' : Int)) := by omega
      obtain ⟨Au, cu, rfl, _, _⟩ := HU.out.shape
      have hmt := hmtH.out
      have htk : ts.take j = ts := List.take_of_length_le (by omega)
      have HU2 : Hid (TM wr Au m' cu (sclT ts y)) := Lib.hid (by have := HU.out; rw [htk] at this; subst hjm; exact this.tm HL.out)
      have HSr := Lib.hid (HS.out.keep HL.out)
      have HSs := Lib.hid (SumIn.mk HSr.out.t HU2.out (HSr.out.ok.scl y))
      have HC2 : Hid (Two wr bC 30 (.slice A 3 c) (.slice Au m' cu)) := Lib.hid (hjm ▸ HC.out)
      have XSr2 := Lib.hid XSr
      have XYr := Lib.hid (XY.out.keep HL.out)
      have HBr := Lib.hid (below_step HB.out HL.out)
      clear htk HU HU2 HC HS XS XY HB HL hmt hz6 XC HL6 hjm
      obtain ⟨Wd, hWd⟩ : ∃ Wd : World, Wd = wr := ⟨_, rfl⟩
      subst hWd
      obtain ⟨nn, hnn, hnm⟩ : ∃ nn : Nat, N0 % ((m' : Int) + 1) = (nn : Int) ∧ nn ≤ m' := ⟨(N0 % ((m' : Int) + 1)).toNat, by have := Int.emod_nonneg N0 (show (m' : Int) + 1 ≠ 0 by omega); omega, by have := Int.emod_lt_of_pos N0 (show (0 : Int) < (m' : Int) + 1 by omega); omega⟩
      go_upto_region 10 with fail
      rw [hnn]
      clear hnn
      have l0 := Later.cell XSr2.out.c0
      have l1 := Later.cell XSr2.out.c1
      have i0 : (0 : Int) ≤ (nn : Int) := by omega
      have i1 : (nn : Int) ≤ (c' : Int) := by omega
      refine Fl.wp_floatN (by kernel_rfl) (lexOK_of (by kernel_rfl) (by kernel_rfl)) (chainOF_of (by kernel_rfl)) (fun V10 hb hS => ?_)
      have HW := Lib.hid hb
      have HSL := Lib.hid hS
      clear hb hS
      refine Fl.wpF_seg 7 (by kernel_rfl) ?_
      simp only [List.take_succ_cons, List.take_zero, List.drop_succ_cons, List.drop_zero]
      repeat (go_big_quiet_step (fail))
      refine wpQuiet_nil ?_
      refine Fl.wpF_make (.cells #[.slice none 0 0, .slice none 0 0] 30) (by kernel_rfl) (by kernel_rfl) (by kernel_rfl) (fun w1 => run_allocS _ _ w1 rfl) (fun bA W11 hb11 hbA hbw => ?_)
      have XT := Lib.hid (show Two W11 bA 30 (.slice none 0 0) (.slice none 0 0) from hbA)
      have HW7 := Lib.hid (below_step HW.out hb11)
      have HSL7 := Lib.hid (HSL.out.ext hb11)
      clear HW HSL hbA hb11
      simp only [Act.put, mkVal, List.setIfInBounds_toArray, List.set_cons_zero, List.set_cons_succ]
      refine Fl.wpF_store (fun W => (W.setCell ⟨bA, 0, none⟩ (.slice A 3 c)).setCell ⟨bA, 1, none⟩ (.slice B' nn c')) (by kernel_rfl) (by kernel_rfl) (by kernel_rfl) (by kernel_rfl) (fun W hW => run_storeSum bA A B' 3 c nn c' rfl rfl rfl (XT.out.keep hW)) (fun W hW => ⟨⟨_, below_two (below_step HSL7.out.below hW) hbw _ _⟩, rfl⟩) (fun W15 hW15 => ?_)
      have XA1 := Lib.hid ((((XT.out.keep hW15).set0 (.slice A 3 c)).set1 (.slice B' nn c')))
      have HW8 := Lib.hid (below_two (below_step HW7.out hW15) hbw (.slice A 3 c) (.slice B' nn c'))
      clear XT HW7 HSL7 hW15
      simp only [Act.put]
      clear l0 l1
      refine Fl.wpF_nil (fun Ya hY0 => ?_)
      have XA := Lib.hid (XA1.out.keep hY0)
      have HL1 := Lib.hid (below_step HW8.out hY0)
      clear XA1 HW8 hY0
      have XSa := XSr2.out.keep HL1.out
      go_upto_region 11 with fail
      have l0 := Later.cell XSa.c0
      have l1 := Later.cell XSa.c1
      have i2 : (nn : Int) ≤ (m' : Int) := by omega
      have i3 : (m' : Int) ≤ (c' : Int) := by omega
      refine Fl.wp_floatN (by kernel_rfl) (lexOK_of (by kernel_rfl) (by kernel_rfl)) (chainOF_of (by kernel_rfl)) (fun V10 hb hS => ?_)
      have HW := Lib.hid hb
      have HSL := Lib.hid hS
      clear hb hS
      refine Fl.wpF_seg 7 (by kernel_rfl) ?_
      simp only [List.take_succ_cons, List.take_zero, List.drop_succ_cons, List.drop_zero]
      repeat (go_big_quiet_step (fail))
      refine wpQuiet_nil ?_
      refine Fl.wpF_make (.cells #[.slice none 0 0, .slice none 0 0] 30) (by kernel_rfl) (by kernel_rfl) (by kernel_rfl) (fun w1 => run_allocS _ _ w1 rfl) (fun bB W11 hb11 hbA hbw => ?_)
      have XT := Lib.hid (show Two W11 bB 30 (.slice none 0 0) (.slice none 0 0) from hbA)
      have HW7 := Lib.hid (below_step HW.out hb11)
      have HSL7 := Lib.hid (HSL.out.ext hb11)
      clear HW HSL hbA hb11
      simp only [Act.put, mkVal, List.setIfInBounds_toArray, List.set_cons_zero, List.set_cons_succ]
      refine Fl.wpF_store (fun W => (W.setCell ⟨bB, 0, none⟩ (.slice A 3 c)).setCell ⟨bB, 1, none⟩ (.slice (if c' = nn then B' else Option.map (fun x => x.add (nn * 3)) B') (m' - nn) (c' - nn))) (by kernel_rfl) (by kernel_rfl) (by kernel_rfl) (by kernel_rfl) (fun W hW => run_storeSum bB A (if c' = nn then B' else Option.map (fun x => x.add (nn * 3)) B') 3 c (m' - nn) (c' - nn) rfl rfl rfl (XT.out.keep hW)) (fun W hW => ⟨⟨_, below_two (below_step HSL7.out.below hW) hbw _ _⟩, rfl⟩) (fun W15 hW15 => ?_)
      have XA1 := Lib.hid ((((XT.out.keep hW15).set0 (.slice A 3 c)).set1 (.slice (if c' = nn then B' else Option.map (fun x => x.add (nn * 3)) B') (m' - nn) (c' - nn))))
      have HW8 := Lib.hid (below_two (below_step HW7.out hW15) hbw (.slice A 3 c) (.slice (if c' = nn then B' else Option.map (fun x => x.add (nn * 3)) B') (m' - nn) (c' - nn)))
      clear XT HW7 HSL7 hW15
      simp only [Act.put]
      clear l0 l1 XSa
      refine Fl.wpF_nil (fun Yb hY0 => ?_)
      have XB0 := XA1.out.keep hY0
      have HL2 := Lib.hid (below_step HW8.out hY0)
      clear XA1 HW8 hY0
      have HT1 := HSr.out.m.take hnm
      have HT2 := HSr.out.m.drop hnm
      obtain ⟨Bd, hBd⟩ : ∃ Bd, (if c' = nn then B' else Option.map (fun x => x.add (nn * 3)) B') = Bd := ⟨_, rfl⟩
      obtain ⟨md, hmd⟩ : ∃ md, m' - nn = md := ⟨_, rfl⟩
      obtain ⟨cd, hcd⟩ : ∃ cd, c' - nn = cd := ⟨_, rfl⟩
      rw [hBd, hmd, hcd] at XB0 HT2
      rw [hBd]
      have XB := Lib.hid XB0
      have HL := Lib.hid (below_step HL1.out HL2.out)
      have XSz := Lib.hid (XSr2.out.keep HL.out)
      have XYz := Lib.hid (XYr.out.keep HL.out)
      have XCz := Lib.hid (HC2.out.keep HL.out)
      have XAz := Lib.hid (XA.out.keep HL2.out)
      have HSz := Lib.hid (HSr.out.keep HL.out)
      have HCz := Lib.hid (HSs.out.keep HL.out)
      have HAz := Lib.hid ((SumIn.mk HSr.out.t HT1 (HSr.out.ok.sub (fun t ht => List.mem_of_mem_take ht) (by rw [List.length_take]; omega))).keep HL.out)
      have HBz := Lib.hid ((SumIn.mk HSr.out.t HT2 (HSr.out.ok.sub (fun t ht => List.mem_of_mem_drop ht) (by rw [List.length_drop]; omega))).keep HL.out)
      have HB := Lib.hid (below_step HBr.out HL.out)
      clear XB0 HT1 HT2 HL HL1 HL2 XSr2 XYr HC2 XA HSr HSs HBr hBd hmd hcd
      obtain ⟨tv, htv⟩ : ∃ tv, totE Ls ts (2 ^ d) = tv := ⟨_, rfl⟩
      obtain ⟨ta, hta⟩ : ∃ ta, totE Ls (ts.take nn) (2 ^ d) = ta := ⟨_, rfl⟩
      obtain ⟨tb, htb⟩ : ∃ tb, totE Ls (ts.drop nn) (2 ^ d) = tb := ⟨_, rfl⟩
      have hsp := tot_split Ls ts nn (2 ^ d)
      have hsc := tot_scl Ls ts y (2 ^ d)
      rw [htv, hta, htb] at hsp
      rw [htv] at hsc
      have HTv := Lib.hid htv
      have HTa := Lib.hid hta
      have HTb := Lib.hid htb
      have HSp := Lib.hid hsp
      have HSc := Lib.hid hsc
      clear htv hta htb hsp hsc
      go_upto_region 12 with fail
      have l0 := Later.cell XSz.out.c0
      have l1 := Later.cell XSz.out.c1
      have l2 := Later.cell XCz.out.c0
      have l3 := Later.cell XCz.out.c1
      have l4 := Later.cell XAz.out.c0
      have l5 := Later.cell XAz.out.c1
      have l6 := Later.cell XB.out.c0
      have l7 := Later.cell XB.out.c1
      have l8 := Later.cell XYz.out.c0
      have l9 := Later.cell XYz.out.c1
      refine wp_floatN (by kernel_rfl) (lexOK_of (by kernel_rfl) (by kernel_rfl)) (chainOF_of (by kernel_rfl)) (fun V12 hb hS => ?_)
      have HW0 := Lib.hid hb
      have HSL0 := Lib.hid hS
      clear hb hS
      refine wpF_seg 1 (by kernel_rfl) ?_
      simp only [List.take_succ_cons, List.take_zero, List.drop_succ_cons, List.drop_zero]
      repeat (go_big_quiet_step (fail))
      refine wpQuiet_nil ?_
      refine wpF_call 21 Try.func21 (by kernel_rfl) (by kernel_rfl) _ _ #[.agg #[.slice A 3 c, .slice Au m' cu]] rfl (by kernel_rfl) (by kernel_rfl) HSL0.out (fun VV hV => ?_)
      have HW := Lib.hid (below_step HW0.out hV)
      refine (sTotal_as A 3 c Ls Au m' cu (sclT ts y) d (tv * y) _ (HCz.out.t.keep HW.out) (HCz.out.m.keep HW.out) HCz.out.ok HSc.out).mono ?_
      rintro e WW ⟨rfl, hb⟩
      have hb2 := ext_trans hV hb
      have HWn := Lib.hid (below_step HW0.out hb2)
      have HSLn := Lib.hid (HSL0.out.ext hb2)
      clear HW0 HSL0 HW
      have HW0 := HWn
      have HSL0 := HSLn
      clear HWn HSLn
      refine ⟨_, rfl, hb, ?_⟩
      clear hb hb2 hV
      simp only [Act.put, List.setIfInBounds_toArray, List.set_cons_zero, List.set_cons_succ]
      refine wpF_seg 1 (by kernel_rfl) ?_
      simp only [List.take_succ_cons, List.take_zero, List.drop_succ_cons, List.drop_zero]
      repeat (go_big_quiet_step (fail))
      refine wpQuiet_nil ?_
      refine wpF_call 21 Try.func21 (by kernel_rfl) (by kernel_rfl) _ _ #[.agg #[.slice A 3 c, .slice B' m' c']] rfl (by kernel_rfl) (by kernel_rfl) HSL0.out (fun VV hV => ?_)
      have HW := Lib.hid (below_step HW0.out hV)
      refine (sTotal_as A 3 c Ls B' m' c' ts d tv _ (HSz.out.t.keep HW.out) (HSz.out.m.keep HW.out) HSz.out.ok HTv.out).mono ?_
      rintro e WW ⟨rfl, hb⟩
      have hb2 := ext_trans hV hb
      have HWn := Lib.hid (below_step HW0.out hb2)
      have HSLn := Lib.hid (HSL0.out.ext hb2)
      clear HW0 HSL0 HW
      have HW0 := HWn
      have HSL0 := HSLn
      clear HWn HSLn
      refine ⟨_, rfl, hb, ?_⟩
      clear hb hb2 hV
      simp only [Act.put, List.setIfInBounds_toArray, List.set_cons_zero, List.set_cons_succ]
      refine wpF_seg 1 (by kernel_rfl) ?_
      simp only [List.take_succ_cons, List.take_zero, List.drop_succ_cons, List.drop_zero]
      repeat (go_big_quiet_step (fail))
      refine wpQuiet_nil ?_
      refine wpF_call 36 Try.func36 (by kernel_rfl) (by kernel_rfl) _ _ #[.agg #[.int .u64 (vF tv.A), .int .u64 (vF tv.B)], .agg #[.int .u64 (vF y.A), .int .u64 (vF y.B)]] rfl (by kernel_rfl) (by kernel_rfl) HSL0.out (fun VV hV => ?_)
      have HW := Lib.hid (below_step HW0.out hV)
      refine (rMul_any tv y _).mono ?_
      rintro e WW ⟨rfl, hb⟩
      have hb2 := ext_trans hV hb
      have HWn := Lib.hid (below_step HW0.out hb2)
      have HSLn := Lib.hid (HSL0.out.ext hb2)
      clear HW0 HSL0 HW
      have HW0 := HWn
      have HSL0 := HSLn
      clear HWn HSLn
      refine ⟨_, rfl, hb, ?_⟩
      clear hb hb2 hV
      simp only [Act.put, List.setIfInBounds_toArray, List.set_cons_zero, List.set_cons_succ]
      have hq83 := run_neqE_eq (tv * y)
      refine wpF_seg 3 (by kernel_rfl) ?_
      simp only [List.take_succ_cons, List.take_zero, List.drop_succ_cons, List.drop_zero]
      repeat (go_big_quiet_step (fail))
      refine wpQuiet_nil ?_
      refine wpF_call 21 Try.func21 (by kernel_rfl) (by kernel_rfl) _ _ #[.agg #[.slice A 3 c, .slice B' nn c']] rfl (by kernel_rfl) (by kernel_rfl) HSL0.out (fun VV hV => ?_)
      have HW := Lib.hid (below_step HW0.out hV)
      refine (sTotal_as A 3 c Ls B' nn c' (ts.take nn) d ta _ (HAz.out.t.keep HW.out) (HAz.out.m.keep HW.out) HAz.out.ok HTa.out).mono ?_
      rintro e WW ⟨rfl, hb⟩
      have hb2 := ext_trans hV hb
      have HWn := Lib.hid (below_step HW0.out hb2)
      have HSLn := Lib.hid (HSL0.out.ext hb2)
      clear HW0 HSL0 HW
      have HW0 := HWn
      have HSL0 := HSLn
      clear HWn HSLn
      refine ⟨_, rfl, hb, ?_⟩
      clear hb hb2 hV
      simp only [Act.put, List.setIfInBounds_toArray, List.set_cons_zero, List.set_cons_succ]
      refine wpF_seg 1 (by kernel_rfl) ?_
      simp only [List.take_succ_cons, List.take_zero, List.drop_succ_cons, List.drop_zero]
      repeat (go_big_quiet_step (fail))
      refine wpQuiet_nil ?_
      refine wpF_call 21 Try.func21 (by kernel_rfl) (by kernel_rfl) _ _ #[.agg #[.slice A 3 c, .slice Bd md cd]] rfl (by kernel_rfl) (by kernel_rfl) HSL0.out (fun VV hV => ?_)
      have HW := Lib.hid (below_step HW0.out hV)
      refine (sTotal_as A 3 c Ls Bd md cd (ts.drop nn) d tb _ (HBz.out.t.keep HW.out) (HBz.out.m.keep HW.out) HBz.out.ok HTb.out).mono ?_
      rintro e WW ⟨rfl, hb⟩
      have hb2 := ext_trans hV hb
      have HWn := Lib.hid (below_step HW0.out hb2)
      have HSLn := Lib.hid (HSL0.out.ext hb2)
      clear HW0 HSL0 HW
      have HW0 := HWn
      have HSL0 := HSLn
      clear HWn HSLn
      refine ⟨_, rfl, hb, ?_⟩
      clear hb hb2 hV
      simp only [Act.put, List.setIfInBounds_toArray, List.set_cons_zero, List.set_cons_succ]
      refine wpF_call 32 Try.func32 (by kernel_rfl) (by kernel_rfl) _ _ #[.agg #[.int .u64 (vF ta.A), .int .u64 (vF ta.B)], .agg #[.int .u64 (vF tb.A), .int .u64 (vF tb.B)]] rfl (by kernel_rfl) (by kernel_rfl) HSL0.out (fun VV hV => ?_)
      have HW := Lib.hid (below_step HW0.out hV)
      refine (rAdd_as ta tb tv _ HSp.out).mono ?_
      rintro e WW ⟨rfl, hb⟩
      have hb2 := ext_trans hV hb
      have HWn := Lib.hid (below_step HW0.out hb2)
      have HSLn := Lib.hid (HSL0.out.ext hb2)
      clear HW0 HSL0 HW
      have HW0 := HWn
      have HSL0 := HSLn
      clear HWn HSLn
      refine ⟨_, rfl, hb, ?_⟩
      clear hb hb2 hV
      simp only [Act.put, List.setIfInBounds_toArray, List.set_cons_zero, List.set_cons_succ]
      refine wpF_seg 1 (by kernel_rfl) ?_
      simp only [List.take_succ_cons, List.take_zero, List.drop_succ_cons, List.drop_zero]
      repeat (go_big_quiet_step (fail))
      refine wpQuiet_nil ?_
      refine wpF_call 21 Try.func21 (by kernel_rfl) (by kernel_rfl) _ _ #[.agg #[.slice A 3 c, .slice B' m' c']] rfl (by kernel_rfl) (by kernel_rfl) HSL0.out (fun VV hV => ?_)
      have HW := Lib.hid (below_step HW0.out hV)
      refine (sTotal_as A 3 c Ls B' m' c' ts d tv _ (HSz.out.t.keep HW.out) (HSz.out.m.keep HW.out) HSz.out.ok HTv.out).mono ?_
      rintro e WW ⟨rfl, hb⟩
      have hb2 := ext_trans hV hb
      have HWn := Lib.hid (below_step HW0.out hb2)
      have HSLn := Lib.hid (HSL0.out.ext hb2)
      clear HW0 HSL0 HW
      have HW0 := HWn
      have HSL0 := HSLn
      clear HWn HSLn
      refine ⟨_, rfl, hb, ?_⟩
      clear hb hb2 hV
      simp only [Act.put, List.setIfInBounds_toArray, List.set_cons_zero, List.set_cons_succ]
      have hq92 := run_neqE_eq tv
      refine wpF_seg 2 (by kernel_rfl) ?_
      simp only [List.take_succ_cons, List.take_zero, List.drop_succ_cons, List.drop_zero]
      repeat (go_big_quiet_step (fail))
      refine wpQuiet_nil ?_
      clear l0 l1 l2 l3 l4 l5 l6 l7 l8 l9 hq83 hq92
      refine wpF_nil (fun Ye hY0 => ?_)
      have HLe := Lib.hid (below_step HW0.out hY0)
      clear HW0 HSL0 hY0
      go_upto_region 14 with fail
      have XSe := XSz.out.keep HLe.out
      have s0 := XSe.c0
      have s1 := XSe.c1
      clear XSe
      go_wp2_with fail
      obtain ⟨L, hL⟩ : ∃ L, Ls[0]? = some L := ⟨Ls[0], List.getElem?_eq_getElem _⟩
      have hLd := HSz.out.ok.len L (List.mem_of_getElem? hL)
      refine (rLog_any A 3 c (.slice B' m' c') Ls L d _ (HSz.out.t.keep HLe.out) hL hLd (by omega)).mono ?_
      rintro e W14 ⟨rfl, hb⟩
      have HL14 := Lib.hid (below_step HLe.out hb)
      clear hb HLe s0 s1 hL hLd
      cases d with
      | zero =>
        go_wp2_with fail
        go_ret
        exact ⟨rfl, below_step HB.out HL14.out⟩
      | succ K =>
        have hK0 : ¬ (((K + 1 : Nat) : Int) = 0) := by omega
        have hK1 : ¬ ((K : Int) + 1 = 0) := by omega
        obtain ⟨D, hD⟩ : ∃ D, degT ts = D := ⟨_, rfl⟩
        obtain ⟨Dp, hDp⟩ : ∃ Dp, degT (ts.take nn) = Dp := ⟨_, rfl⟩
        obtain ⟨Dq, hDq⟩ : ∃ Dq, degT (ts.drop nn) = Dq := ⟨_, rfl⟩
        obtain ⟨Rg, hRg⟩ : ∃ Rg, rndE Ls ts (2 ^ (K + 1)) = Rg := ⟨_, rfl⟩
        obtain ⟨Rh, hRh⟩ : ∃ Rh, rndE Ls (sclT ts y) (2 ^ (K + 1)) = Rh := ⟨_, rfl⟩
        obtain ⟨Rp, hRp⟩ : ∃ Rp, rndE Ls (ts.take nn) (2 ^ (K + 1)) = Rp := ⟨_, rfl⟩
        obtain ⟨Rq, hRq⟩ : ∃ Rq, rndE Ls (ts.drop nn) (2 ^ (K + 1)) = Rq := ⟨_, rfl⟩
        have hD1 := degT_pos ts
        have hDp1 := degT_pos (ts.take nn)
        have hDq1 := degT_pos (ts.drop nn)
        have hD3 := HSz.out.ok.deg3
        have hDp3 := HAz.out.ok.deg3
        have hDq3 := HBz.out.ok.deg3
        have hlg : Rg.length = D + 1 := by rw [← hRg, rnd_length, hD]
        have hlh : Rh.length = D + 1 := by rw [← hRh, rnd_length, deg_scl, hD]
        have HSCL := Lib.hid (fun (i : Nat) (hi : i < D + 1) => show cfE Rg i * y = cfE Rh i by rw [← hRg, ← hRh]; exact (rnd_scl (Ls := Ls) (ts := ts) (y := y) (n := 2 ^ (K + 1)) (by rw [hD]; exact hi)).symm)
        have HSPL := Lib.hid (fun (i : Nat) (hi : i < D + 1) => show atE Rp (nd i) + atE Rq (nd i) = cfE Rg i by rw [← hRg, ← hRp, ← hRq]; exact at_split HSz.out.ok (by rw [hD]; exact hi))
        rw [hD] at hD1 hD3
        rw [hDp] at hDp1 hDp3
        rw [hDq] at hDq1 hDq3
        have HD := Lib.hid (show degT ts + 1 = D + 1 by rw [hD])
        have HDh := Lib.hid (show degT (sclT ts y) + 1 = D + 1 by rw [deg_scl, hD])
        have HDp := Lib.hid (show degT (ts.take nn) + 1 = Dp + 1 by rw [hDp])
        have HDq := Lib.hid (show degT (ts.drop nn) + 1 = Dq + 1 by rw [hDq])
        have HRg := Lib.hid hRg
        have HRh := Lib.hid hRh
        have HRp := Lib.hid hRp
        have HRq := Lib.hid hRq
        have Hlg := Lib.hid hlg
        have Hlh := Lib.hid hlh
        clear hD hDp hDq hRg hRh hRp hRq hlg hlh
        have X16 := XSz.out.keep HL14.out
        have s0 := X16.c0
        have s1 := X16.c1
        clear X16
        go_wp2_with fail
        refine (sRound_as A 3 c Ls B' m' c' ts K Rg (D + 1) _ (HSz.out.t.keep HL14.out) (HSz.out.m.keep HL14.out) HSz.out.ok HRg.out HD.out).mono ?_
        rintro e W16 ⟨Ag, cg, rfl, hsg, hb⟩
        have HL16 := Lib.hid (below_step HL14.out hb)
        have HG16 := Lib.hid hsg
        clear hb HL14 s0 s1 hsg
        have X16 := XCz.out.keep HL16.out
        have s0 := X16.c0
        have s1 := X16.c1
        clear X16
        go_wp2_with fail
        refine (sRound_as A 3 c Ls Au m' cu (sclT ts y) K Rh (D + 1) _ (HCz.out.t.keep HL16.out) (HCz.out.m.keep HL16.out) HCz.out.ok HRh.out HDh.out).mono ?_
        rintro e W17 ⟨Ah, ch, rfl, hsh, hb⟩
        have HL17 := Lib.hid (below_step HL16.out hb)
        have HG17 := Lib.hid (HG16.out.keep hb)
        have HH17 := Lib.hid hsh
        clear hb HL16 s0 s1 hsh HG16
        have X16 := XAz.out.keep HL17.out
        have s0 := X16.c0
        have s1 := X16.c1
        clear X16
        go_wp2_with fail
        refine (sRound_as A 3 c Ls B' nn c' (ts.take nn) K Rp (Dp + 1) _ (HAz.out.t.keep HL17.out) (HAz.out.m.keep HL17.out) HAz.out.ok HRp.out HDp.out).mono ?_
        rintro e W18 ⟨Ap, cp, rfl, hsp, hb⟩
        have HL18 := Lib.hid (below_step HL17.out hb)
        have HG18 := Lib.hid (HG17.out.keep hb)
        have HH18 := Lib.hid (HH17.out.keep hb)
        have HP18 := Lib.hid hsp
        clear hb HL17 s0 s1 hsp HG17 HH17
        have X16 := XB.out.keep HL18.out
        have s0 := X16.c0
        have s1 := X16.c1
        clear X16
        go_wp2_with fail
        refine (sRound_as A 3 c Ls Bd md cd (ts.drop nn) K Rq (Dq + 1) _ (HBz.out.t.keep HL18.out) (HBz.out.m.keep HL18.out) HBz.out.ok HRq.out HDq.out).mono ?_
        rintro e Wl ⟨Aq, cq, rfl, hsq, hb⟩
        have HLl := Lib.hid (below_step HL18.out hb)
        have HGl := Lib.hid (HG18.out.keep hb)
        have HHl := Lib.hid (HH18.out.keep hb)
        have HPl := Lib.hid (HP18.out.keep hb)
        have HQl := Lib.hid hsq
        clear hb HL18 s0 s1 hsq HG18 HH18 HP18
        have k1 : ¬ ((D : Int) + 1 < 2) := by omega
        have k2 : ¬ ((Dp : Int) + 1 < 2) := by omega
        have k3 : ¬ ((Dq : Int) + 1 < 2) := by omega
        go_wp2_with fail
        go_loopw [19] (fun s wr => ∃ i : Nat, i ≤ D + 1 ∧ s = .int .i64 i ∧ Below Wl.heap.size Wl wr) (fun s _ => D + 1 - (intOf s).toNat)
        case atStart => exact ⟨0, Nat.zero_le _, rfl, Below.refl _ _⟩
        case round =>
          obtain ⟨i, hi, rfl, hb⟩ := hrel
          have HLr := Lib.hid hb
          clear hb
          by_cases hid : i < D + 1
          · have hid' : (i : Int) < (D : Int) + 1 := by omega
            have hi0 : (0 : Int) ≤ (i : Int) := by omega
            go_wp2_with fail
            refine (rFromNd5 (i : Int) _ (by omega) (by omega)).mono ?_
            rintro e W25 ⟨rfl, hb⟩
            have HL25 := Lib.hid (below_step HLr.out hb)
            clear hb HLr
            go_upto_region 26 with fail
            refine wp_named1 (fun V26 hb g26 hz26 => ?_)
            have XZ := Lib.hid (show Two V26 W25.heap.size 43 (.int .u64 (vF (nd i).A)) (.int .u64 (vF (nd i).B)) from g26)
            have HLv := Lib.hid (below_step HL25.out hb)
            clear hb g26 HL25
            generalize W25.heap.size = bZ at *
            obtain ⟨gi, hgi⟩ : ∃ gi, Rg[i]? = some gi := ⟨Rg[i]'(by have := Hlg.out; omega), List.getElem?_eq_getElem _⟩
            obtain ⟨ghi, hhi⟩ : ∃ ghi, Rh[i]? = some ghi := ⟨Rh[i]'(by have := Hlh.out; omega), List.getElem?_eq_getElem _⟩
            have hm1 := HSCL.out i hid
            have hm2 := HSPL.out i hid
            rw [cfE_some hgi, cfE_some hhi] at hm1
            rw [cfE_some hgi] at hm2
            obtain ⟨pa, hpa⟩ : ∃ pa, atE Rp (nd i) = pa := ⟨_, rfl⟩
            obtain ⟨qa, hqa⟩ : ∃ qa, atE Rq (nd i) = qa := ⟨_, rfl⟩
            rw [hpa, hqa] at hm2
            have HM1 := Lib.hid hm1
            have HM2 := Lib.hid hm2
            have HPA := Lib.hid hpa
            have HQA := Lib.hid hqa
            obtain ⟨adg, hadg, p0, p1⟩ := (HGl.out.keep HLv.out).at_ hgi
            obtain ⟨adh, hadh, p2, p3⟩ := (HHl.out.keep HLv.out).at_ hhi
            subst hadg
            subst hadh
            have XYv := XYz.out.keep (below_step HLl.out HLv.out)
            have l0 := Later.cell p0
            have l1 := Later.cell p1
            have l2 := Later.cell p2
            have l3 := Later.cell p3
            have l4 := Later.cell XYv.c0
            have l5 := Later.cell XYv.c1
            have l6 := Later.cell XZ.out.c0
            have l7 := Later.cell XZ.out.c1
            clear p0 p1 p2 p3 XYv hgi hhi hm1 hm2 hpa hqa
            refine wp_floatN (by kernel_rfl) (lexOK_of (by kernel_rfl) (by kernel_rfl)) (chainOF_of (by kernel_rfl)) (fun V12 hb hS => ?_)
            have HW0 := Lib.hid hb
            have HSL0 := Lib.hid hS
            clear hb hS
            refine wpF_seg 9 (by kernel_rfl) ?_
            simp only [List.take_succ_cons, List.take_zero, List.drop_succ_cons, List.drop_zero]
            repeat (go_big_quiet_step (fail))
            refine wpQuiet_nil ?_
            refine wpF_call 36 Try.func36 (by kernel_rfl) (by kernel_rfl) _ _ #[.agg #[.int .u64 (vF gi.A), .int .u64 (vF gi.B)], .agg #[.int .u64 (vF y.A), .int .u64 (vF y.B)]] rfl (by kernel_rfl) (by kernel_rfl) HSL0.out (fun VV hV => ?_)
            have HW := Lib.hid (below_step HW0.out hV)
            refine (rMul_as gi y ghi _ HM1.out).mono ?_
            rintro e WW ⟨rfl, hb⟩
            have hb2 := ext_trans hV hb
            have HWn := Lib.hid (below_step HW0.out hb2)
            have HSLn := Lib.hid (HSL0.out.ext hb2)
            clear HW0 HSL0 HW
            have HW0 := HWn
            have HSL0 := HSLn
            clear HWn HSLn
            refine ⟨_, rfl, hb, ?_⟩
            clear hb hb2 hV
            simp only [Act.put, List.setIfInBounds_toArray, List.set_cons_zero, List.set_cons_succ]
            have hq1 := run_neqE_eq ghi
            refine wpF_seg 4 (by kernel_rfl) ?_
            simp only [List.take_succ_cons, List.take_zero, List.drop_succ_cons, List.drop_zero]
            repeat (go_big_quiet_step (fail))
            refine wpQuiet_nil ?_
            refine wpF_call 33 Try.func33 (by kernel_rfl) (by kernel_rfl) _ _ #[.slice Ap (Dp + 1) cp, .agg #[.int .u64 (vF (nd i).A), .int .u64 (vF (nd i).B)]] rfl (by kernel_rfl) (by kernel_rfl) HSL0.out (fun VV hV => ?_)
            have HW := Lib.hid (below_step HW0.out hV)
            refine (rPAt_as Ap (Dp + 1) cp Rp (nd i) pa _ (HPl.out.keep (below_step HLv.out HW.out)) (by omega) HPA.out).mono ?_
            rintro e WW ⟨rfl, hb⟩
            have hb2 := ext_trans hV hb
            have HWn := Lib.hid (below_step HW0.out hb2)
            have HSLn := Lib.hid (HSL0.out.ext hb2)
            clear HW0 HSL0 HW
            have HW0 := HWn
            have HSL0 := HSLn
            clear HWn HSLn
            refine ⟨_, rfl, hb, ?_⟩
            clear hb hb2 hV
            simp only [Act.put, List.setIfInBounds_toArray, List.set_cons_zero, List.set_cons_succ]
            refine wpF_seg 2 (by kernel_rfl) ?_
            simp only [List.take_succ_cons, List.take_zero, List.drop_succ_cons, List.drop_zero]
            repeat (go_big_quiet_step (fail))
            refine wpQuiet_nil ?_
            refine wpF_call 33 Try.func33 (by kernel_rfl) (by kernel_rfl) _ _ #[.slice Aq (Dq + 1) cq, .agg #[.int .u64 (vF (nd i).A), .int .u64 (vF (nd i).B)]] rfl (by kernel_rfl) (by kernel_rfl) HSL0.out (fun VV hV => ?_)
            have HW := Lib.hid (below_step HW0.out hV)
            refine (rPAt_as Aq (Dq + 1) cq Rq (nd i) qa _ (HQl.out.keep (below_step HLv.out HW.out)) (by omega) HQA.out).mono ?_
            rintro e WW ⟨rfl, hb⟩
            have hb2 := ext_trans hV hb
            have HWn := Lib.hid (below_step HW0.out hb2)
            have HSLn := Lib.hid (HSL0.out.ext hb2)
            clear HW0 HSL0 HW
            have HW0 := HWn
            have HSL0 := HSLn
            clear HWn HSLn
            refine ⟨_, rfl, hb, ?_⟩
            clear hb hb2 hV
            simp only [Act.put, List.setIfInBounds_toArray, List.set_cons_zero, List.set_cons_succ]
            refine wpF_call 32 Try.func32 (by kernel_rfl) (by kernel_rfl) _ _ #[.agg #[.int .u64 (vF pa.A), .int .u64 (vF pa.B)], .agg #[.int .u64 (vF qa.A), .int .u64 (vF qa.B)]] rfl (by kernel_rfl) (by kernel_rfl) HSL0.out (fun VV hV => ?_)
            have HW := Lib.hid (below_step HW0.out hV)
            refine (rAdd_as pa qa gi _ HM2.out).mono ?_
            rintro e WW ⟨rfl, hb⟩
            have hb2 := ext_trans hV hb
            have HWn := Lib.hid (below_step HW0.out hb2)
            have HSLn := Lib.hid (HSL0.out.ext hb2)
            clear HW0 HSL0 HW
            have HW0 := HWn
            have HSL0 := HSLn
            clear HWn HSLn
            refine ⟨_, rfl, hb, ?_⟩
            clear hb hb2 hV
            simp only [Act.put, List.setIfInBounds_toArray, List.set_cons_zero, List.set_cons_succ]
            have hq2 := run_neqE_eq gi
            refine wpF_seg 6 (by kernel_rfl) ?_
            simp only [List.take_succ_cons, List.take_zero, List.drop_succ_cons, List.drop_zero]
            repeat (go_big_quiet_step (fail))
            refine wpQuiet_nil ?_
            clear l0 l1 l2 l3 l4 l5 l6 l7 hq1 hq2
            refine wpF_nil (fun Yf hY0 => ?_)
            have HLf := Lib.hid (below_step HLv.out (below_step HW0.out hY0))
            clear HW0 HSL0 hY0
            go_wp2_with fail
            go_roundw
            case rel => exact ⟨i + 1, by omega, by go_num, HLf.out⟩
            case measure => simp [intOf]; omega
          · have hie : i = D + 1 := by omega
            subst hie
            go_wp2_with fail
            go_ret
            exact ⟨rfl, below_step HB.out (below_step HLl.out HLr.out)⟩

end Go.Proofs.Ytombcjdhjcmhhaa
