/- Several texts in one: Smn, Smo. -/
import Derived.Test.YtombcjdhjcmhhaaGd
import Derived.Test.YtombcjdhjcmhhaaGb
/- What the fixed examples of the laws of package sumcheck are worth, and the moves that their walk takes; no conditions. -/
namespace Go.Proofs.Ytombcjdhjcmhhaa
set_option maxRecDepth 8000
open Go.RowKit Gold

def exT : List E2 := [ndZ (1), ndZ (2), ndZ (3), ndZ (4)]
def exC : List E2 := [ndZ (5), ndZ (3)]
def exO : List Tm := [(ndZ (1), [0])]
def exW : List Tm := [(ndZ (1), [0, 0])]
def exR : List (List E2) := [[ndZ (10), ndZ (20), ndZ (34)], [ndZ (36), ndZ (64), ndZ (100)]]
theorem ex_okO : OkS [exT] exO 2 := ⟨by decide, by decide, by decide, by decide, by decide, by decide, by unfold InT; decide⟩
theorem ex_okW : OkS [exT] exW 2 := ⟨by decide, by decide, by decide, by decide, by decide, by decide, by unfold InT; decide⟩
theorem ex_totO : totE [exT] exO (2 ^ 2) = ndZ (10) := by decide +kernel
theorem ex_totW : totE [exT] exW (2 ^ 2) = ndZ (30) := by decide +kernel
theorem ex_rndO : rndE [exT] exO (2 ^ (1 + 1)) = [ndZ (4), ndZ (6)] := by decide +kernel
theorem ex_rndW : rndE [exT] exW (2 ^ (1 + 1)) = [ndZ (10), ndZ (20), ndZ (34)] := by decide +kernel
theorem ex_proR : proR [exT] exW exC = exR := by decide +kernel
theorem ex_proV : proV [exT] exC = [ndZ (12)] := by decide +kernel
theorem ex_int1 : interpE [ndZ (10), ndZ (20), ndZ (34)] = [ndZ (10), ndZ (8), ndZ (2)] := by
  symm
  refine IsInterp.eq (by decide) ⟨by decide +kernel, by decide, fun k hk => ?_⟩
  match k, hk with
  | 0, _ => decide +kernel
  | 1, _ => decide +kernel
  | 2, _ => decide +kernel
  | k + 3, hk => exact absurd hk (by simp)
theorem ex_int2 : interpE [ndZ (36), ndZ (64), ndZ (100)] = [ndZ (36), ndZ (24), ndZ (4)] := by
  symm
  refine IsInterp.eq (by decide) ⟨by decide +kernel, by decide, fun k hk => ?_⟩
  match k, hk with
  | 0, _ => decide +kernel
  | 1, _ => decide +kernel
  | 2, _ => decide +kernel
  | k + 3, hk => exact absurd hk (by simp)
theorem ex_at1 : atE [ndZ (10), ndZ (20), ndZ (34)] (ndZ (5)) = ndZ (100) := by
  rw [← evE_interpE, ex_int1]
  decide +kernel
theorem ex_at2 : atE [ndZ (36), ndZ (64), ndZ (100)] (ndZ (3)) = ndZ (144) := by
  rw [← evE_interpE, ex_int2]
  decide +kernel
theorem ex_ver1 : verA (ndZ (30)) exR exC 2 1 = (ndZ (100), 0) := by
  show (if (0 : Int) = 0 then redE (ndZ (30)) [ndZ (10), ndZ (20), ndZ (34)] (ndZ (5)) 2 else _) = _
  rw [if_pos rfl]
  unfold redE
  rw [if_pos (by decide), if_pos (by decide +kernel), ex_at1]
theorem ex_ver : verZ (ndZ (30)) exR exC 2 = (ndZ (144), 0) := by
  unfold verZ
  rw [if_pos (by decide)]
  show verA (ndZ (30)) exR exC 2 2 = _
  rw [verA, ex_ver1, if_pos rfl]
  show redE (ndZ (100)) [ndZ (36), ndZ (64), ndZ (100)] (ndZ (3)) 2 = _
  unfold redE
  rw [if_pos (by decide), if_pos (by decide +kernel), ex_at2]
theorem ex_verS : verZ (ndZ (31)) exR exC 2 = (E2.zero, 60) := by decide +kernel
theorem ex_verD : verZ (ndZ (30)) exR exC 3 = (E2.zero, 61) := by decide +kernel
theorem ex_verA : verZ (ndZ (30)) exR [ndZ (5)] 2 = (E2.zero, 1) := by decide +kernel
theorem ex_ver0 : verZ (ndZ (8)) [] [] 1 = (ndZ (8), 0) := by decide +kernel
theorem ex_degO : degZ (rawT exO) = 1 := by decide
theorem ex_degW : degZ (rawT exW) = 2 := by decide
theorem ex_val3 : (varS (rawL [[ndZ (1), ndZ (2), ndZ (3)]]) []).2 = false := by decide +kernel
theorem ex_valI : (varS (rawL [exT]) [(0, 0, [1])]).2 = false := by decide +kernel
theorem ex_fin : finE exW [ndZ (7)] = ndZ (49) := by decide +kernel

theorem ST.one {w : World} {b : Nat} {A : Option Addr} {n c : Nat} {L : List E2} (h : One w b 22 (.slice A n c)) (hs : Sl w A n c L) : ST w (some ⟨b, 0, none⟩) 1 1 [L] := by
  refine ⟨rfl, Nat.le_refl _, by omega, fun i p hp => ?_⟩
  match i, hp with
  | 0, hp =>
    injection hp with hp
    subst hp
    exact ⟨_, A, n, c, rfl, by rw [add_base]; exact h.c, hs⟩
  | i + 1, hp => simp at hp
theorem SiZ.one {w : World} {b : Nat} {z : Int} (h : One w b 3 (.int .i64 z)) : SiZ w (some ⟨b, 0, none⟩) 1 1 [z] := by
  refine ⟨rfl, Nat.le_refl _, by omega, (fun e => by cases e), fun i p hp => ?_⟩
  match i, hp with
  | 0, hp =>
    injection hp with hp
    subst hp
    exact ⟨_, rfl, by rw [add_base]; exact h.c⟩
  | i + 1, hp => simp at hp
theorem SiZ.two {w : World} {b : Nat} {z y : Int} (h : Two w b 3 (.int .i64 z) (.int .i64 y)) : SiZ w (some ⟨b, 0, none⟩) 2 2 [z, y] := by
  refine ⟨rfl, Nat.le_refl _, by omega, (fun e => by cases e), fun i p hp => ?_⟩
  match i, hp with
  | 0, hp =>
    injection hp with hp
    subst hp
    exact ⟨_, rfl, by rw [add_base]; exact h.c0⟩
  | 1, hp =>
    injection hp with hp
    subst hp
    exact ⟨_, rfl, by rw [add_base]; exact h.c1⟩
  | i + 2, hp => simp at hp
theorem SlM.one {w : World} {b : Nat} {x y : Int} {A : Option Addr} {n c : Nat} {zs : List Int} (h : Tri w b 65 (.int .u64 x) (.int .u64 y) (.slice A n c)) (hs : SiZ w A n c zs) : SlM w (some ⟨b, 0, none⟩) 1 1 [(x, y, zs)] := by
  refine ⟨rfl, Nat.le_refl _, by omega, fun i p hp => ?_⟩
  match i, hp with
  | 0, hp =>
    injection hp with hp
    subst hp
    exact ⟨_, A, n, c, rfl, by rw [add_base]; exact ⟨h.c0, h.c1, h.c2⟩, hs⟩
  | i + 1, hp => simp at hp

/-! ### Contracts with their results under given names -/
theorem sTotal_as (A : Option Addr) (n c : Nat) (Ls : List (List E2)) (B : Option Addr) (m d : Nat) (ts : List Tm) (K : Nat) (v : E2) (w : World) (hT : ST w A n c Ls) (hM : TM w B m d ts) (hok : OkS Ls ts K) (hv : totE Ls ts (2 ^ K) = v) :
    Calls Try.prog 21 #[.agg #[.slice A n c, .slice B m d]] w fun e w' => e = .returned (.agg #[.int .u64 (vF v.A), .int .u64 (vF v.B)]) ∧ Below w.heap.size w w' := hv ▸ sTotal_any A n c Ls B m d ts K w hT hM hok
theorem sRound_as (A : Option Addr) (n c : Nat) (Ls : List (List E2)) (B : Option Addr) (m d : Nat) (ts : List Tm) (K : Nat) (R : List E2) (N : Nat) (w : World) (hT : ST w A n c Ls) (hM : TM w B m d ts) (hok : OkS Ls ts (K + 1)) (hR : rndE Ls ts (2 ^ (K + 1)) = R) (hN : degT ts + 1 = N) :
    Calls Try.prog 27 #[.agg #[.slice A n c, .slice B m d]] w fun e w' => ∃ A' c', e = .returned (.slice A' N c') ∧ Sl w' A' N c' R ∧ Below w.heap.size w w' :=
  (sRound_any A n c Ls B m d ts K w hT hM hok).mono fun _ _ ⟨g, q, he, hq, hTb, _, hb⟩ => by
    have e1 : q = N := hq.trans hN
    subst e1
    have hd := hok.deg3
    rw [hR] at hTb
    refine ⟨_, q, he, hTb.sl ?_ (Nat.le_refl _) (by omega), hb⟩
    rw [← hR]
    unfold rndE
    rw [tabE_length]
    exact hq
theorem sDegree_as (T : Value) (A : Option Addr) (n c : Nat) (ts : List (Int × Int × List Int)) (N : Nat) (w : World) (h : SlM w A n c ts) (hT : ∃ B m d, T = .slice B m d) (hN : degZ ts = N) :
    Calls Try.prog 19 #[.agg #[T, .slice A n c]] w fun e w' => e = .returned (.int .i64 (N : Int)) ∧ Below w.heap.size w w' := hN ▸ sDegree_any T A n c ts w h hT
theorem sValid_as (A : Option Addr) (n c : Nat) (Qs : List (List (Int × Int))) (B : Option Addr) (m d : Nat) (ts : List (Int × Int × List Int)) (b : Bool) (w : World) (hT : SW w A n c Qs) (hM : SlM w B m d ts) (hb : (varS Qs ts).2 = b) :
    Calls Try.prog 10 #[.agg #[.slice A n c, .slice B m d]] w fun e w' => e = .returned (.bool b) ∧ Below w.heap.size w w' := hb ▸ sValid_any A n c Qs B m d ts w hT hM
theorem sVerify_as (v : E2) (A : Option Addr) (n c : Nat) (Ls : List (List E2)) (C : Option Addr) (k f : Nat) (rs : List E2) (D : Int) (z : E2) (er : Int) (w : World) (hT : ST w A n c Ls) (hC : Sl w C k f rs) (hn : n ≤ 65536) (hv : verZ v Ls rs D = (z, er)) :
    Calls Try.prog 30 #[.agg #[.int .u64 (vF v.A), .int .u64 (vF v.B)], .slice A n c, .agg #[.slice C k f, .int .i64 D]] w fun e w' => e = .returned (.tuple #[.agg #[.int .u64 (vF z.A), .int .u64 (vF z.B)], .int .i64 er]) ∧ Below w.heap.size w w' := by
  have h := sVerify_any v A n c Ls C k f rs D w hT hC hn
  rw [hv] at h
  exact h
theorem sFinal_as (T : Option Addr) (n c : Nat) (B : Option Addr) (m d : Nat) (ts : List Tm) (E : Option Addr) (q f : Nat) (vs : List E2) (v : E2) (w : World) (hM : TM w B m d ts) (hV : Sl w E q f vs) (ho : okTs ((q : Nat) : Int) (rawT ts) = true) (hI : InT ts q) (hv : finE ts vs = v) :
    Calls Try.prog 23 #[.agg #[.slice T n c, .slice B m d], .slice E q f] w fun e w' => e = .returned (.agg #[.int .u64 (vF v.A), .int .u64 (vF v.B)]) ∧ Below w.heap.size w w' := hv ▸ sFinal_any T n c B m d ts E q f vs w hM hV ho hI

/-! ### Moves of drawn regions: slices of one element -/
section
variable {ops : Array Oper} {w0 : World} {Q : Exit → Act → World → Prop}
theorem wpF_one (t e : TypeId) (u : Value) (u1 : ∀ w : World, ∀ ev : Operand → Value, ∀ o : Oper, ∀ x : Operand, o.op = .buildSlice t 1 #[(0, x)] → ev x = u → (execOp ev o).run Try.prog w = .ok (.value (.slice (some ⟨w.heap.size, 0, none⟩) 1 1)) (w.alloc (.cells u.cells e)))
    {o : Oper} {l : List Oper} {a : Act} {w : World} {x : Operand} (ho : o.op = .buildSlice t 1 #[(0, x)]) (hx : a.eval x = u) (hw : Region.wanted o (yielded ops a.tmps) = true)
    (h : ∀ b V, Below w.heap.size w V → V.heap[b]? = some (.cells u.cells e (0, 0)) → wpF Try.prog ops w0 Q l (a.put o.dst (.slice (some ⟨b, 0, none⟩) 1 1)) V) : wpF Try.prog ops w0 Q (o :: l) a w := by
  have hm : makerOp o = true := by unfold makerOp; rw [ho]
  have hs : stillOp o = false := by unfold stillOp; rw [ho]
  have hv : ∀ b, mkVal o b = .slice (some ⟨b, 0, none⟩) 1 1 := fun b => by unfold mkVal; rw [ho]
  refine wpF_make (.cells u.cells e) hs hm hw (fun W => ?_) (fun b V hb hg _ => ?_)
  · rw [hv]
    exact u1 W a.eval o x ho hx
  · rw [hv]
    exact h b V hb hg
theorem wpF_tabs1 {o : Oper} {l : List Oper} {a : Act} {w : World} {x : Operand} (A : Option Addr) (n c : Nat) (ho : o.op = .buildSlice 27 1 #[(0, x)]) (hx : a.eval x = .slice A n c) (hw : Region.wanted o (yielded ops a.tmps) = true)
    (h : ∀ b V, Below w.heap.size w V → One V b 22 (.slice A n c) → wpF Try.prog ops w0 Q l (a.put o.dst (.slice (some ⟨b, 0, none⟩) 1 1)) V) : wpF Try.prog ops w0 Q (o :: l) a w := by
  refine wpF_one 27 22 (.slice A n c) (fun w ev o x ho hx => ?_) ho hx hw h
  unfold execOp
  rw [ho]
  simp only [List.map_toArray, List.map_cons, List.map_nil, hx]
  go_simp
theorem wpF_idx1 {o : Oper} {l : List Oper} {a : Act} {w : World} {x : Operand} (z : Int) (ho : o.op = .buildSlice 63 1 #[(0, x)]) (hx : a.eval x = .int .i64 z) (hw : Region.wanted o (yielded ops a.tmps) = true)
    (h : ∀ b V, Below w.heap.size w V → One V b 3 (.int .i64 z) → wpF Try.prog ops w0 Q l (a.put o.dst (.slice (some ⟨b, 0, none⟩) 1 1)) V) : wpF Try.prog ops w0 Q (o :: l) a w := by
  refine wpF_one 63 3 (.int .i64 z) (fun w ev o x ho hx => ?_) ho hx hw h
  unfold execOp
  rw [ho]
  simp only [List.map_toArray, List.map_cons, List.map_nil, hx]
  go_simp
theorem wpF_term1 {o : Oper} {l : List Oper} {a : Act} {w : World} {x : Operand} (p q : Int) (A : Option Addr) (n c : Nat) (ho : o.op = .buildSlice 28 1 #[(0, x)]) (hx : a.eval x = .agg #[.int .u64 p, .int .u64 q, .slice A n c]) (hw : Region.wanted o (yielded ops a.tmps) = true)
    (h : ∀ b V, Below w.heap.size w V → Tri V b 65 (.int .u64 p) (.int .u64 q) (.slice A n c) → wpF Try.prog ops w0 Q l (a.put o.dst (.slice (some ⟨b, 0, none⟩) 1 1)) V) : wpF Try.prog ops w0 Q (o :: l) a w := by
  refine wpF_one 28 65 (.agg #[.int .u64 p, .int .u64 q, .slice A n c]) (fun w ev o x ho hx => ?_) ho hx hw h
  unfold execOp
  rw [ho]
  simp only [List.map_toArray, List.map_cons, List.map_nil, hx]
  go_simp
end

set_option maxHeartbeats 1000000 in
theorem ints6_any (A : Option Addr) (n c : Nat) (zs : List Int) (w : World) (h : Sz w A n c zs) (hw : ∀ z, z ∈ zs → -9223372036854775808 ≤ z ∧ z < 9223372036854775808) (hn : n ≤ 65536) :
    Calls Try.prog 38 #[.slice A n c] w fun e w' => ∃ A' c', e = .returned (.slice A' n c') ∧ Sl w' A' n c' (zs.map ndZ) ∧ Below w.heap.size w w' := by
  have hnc := h.cap
  have hct := h.top
  have HL := Lib.hid h.len
  have HS := Lib.hid h
  have HW := Lib.hid hw
  clear h hw
  go_enter Try.func38, Try.ntmps38
  go_wp2_with fail
  go_loopw [3, 4] (fun v i wr => ∃ k : Nat, k ≤ n ∧ i = .int .i64 k ∧ OwE wr w.heap.size v k ((zs.take k).map ndZ) ∧ Below w.heap.size w wr) (fun _ i _ => n - (intOf i).toNat)
  case atStart => exact ⟨0, Nat.zero_le _, rfl, OwE.made w w.heap.size (Nat.le_refl _), (Below.refl _ _).alloc (Nat.le_refl _) _⟩
  case round =>
    obtain ⟨k, hk, rfl, ho, hb⟩ := hrel
    have HO := Lib.hid ho
    have HB := Lib.hid hb
    clear ho hb
    by_cases hlt : k < n
    · obtain ⟨z, hz⟩ : ∃ z, zs[k]? = some z := ⟨zs[k]'(by have := HL.out; omega), List.getElem?_eq_getElem _⟩
      obtain ⟨ad, rfl, h0⟩ := HS.out.cells k z hz
      replace h0 := cell_keep h0 HB.out
      have hzw := HW.out z (List.mem_of_getElem? hz)
      have HX := Lib.hid hz
      clear hz
      go_wp2_with fail
      refine (rFromInt_any z _ hzw.1 hzw.2).mono ?_
      rintro e W1 ⟨rfl, hb⟩
      have HO1 := Lib.hid (HO.out.keep hb)
      have HB1 := Lib.hid (below_step HB.out hb)
      clear hb h0 hzw
      go_wp2_with (at_builtin; refine wpList_appendE rfl (.tmp 12) (.tmp 18) rfl (w.heap.size) _ k _ rfl (HO1.out.keep ((Below.refl _ _).alloc (Nat.le_refl _) _)) W1.heap.size 1 (ndZ z) rfl (Two.new W1 _ _ _) (by omega) (by have := HB1.out.size; simp; omega) ?_; intro v1 w1 hown1 hg1; have HO2 := Lib.hid hown1; have HB2 := Lib.hid (below_grown (w0 := w) (HB1.out.alloc HB1.out.size _) hg1 (HO1.out.keep ((Below.refl _ _).alloc (Nat.le_refl _) _)) (Nat.le_refl _)); clear hown1 hg1)
      go_roundw
      case rel => exact ⟨k + 1, by omega, by go_num, by rw [List.take_succ_eq_append_getElem (by have := HL.out; omega), List.map_append, (List.getElem?_eq_some_iff.1 HX.out).2]; exact HO2.out, HB2.out⟩
      case measure => simp [intOf]; omega
    · have hkn : k = n := by omega
      subst hkn
      obtain ⟨A1, c1, rfl, hs1⟩ := HO.out.sl
      have HSQ := Lib.hid hs1
      clear hs1
      go_wp2_with fail
      go_ret
      exact ⟨A1, c1, rfl, by have := HSQ.out; rw [HL.out, List.take_length, ← HL.out] at this; exact this, HB.out⟩

end Go.Proofs.Ytombcjdhjcmhhaa

/- Contract of the fixed examples of the laws of package sumcheck; no conditions. -/
namespace Go.Proofs.Ytombcjdhjcmhhaa
set_option maxRecDepth 8000
open Go.RowKit Gold

theorem run_neqE_same6 (x : E2) (w : World) : (binOp .neq 43 (.agg #[.int .u64 (vF x.A), .int .u64 (vF x.B)]) (.agg #[.int .u64 (vF x.A), .int .u64 (vF x.B)])).run Try.prog w = .ok (.bool false) w := by
  simp [go_sem, Try.underlying43]
set_option maxHeartbeats 8000000 in
set_option maxRecDepth 100000 in
theorem sanity6_any (w : World) : Calls Try.prog 8 #[] w fun e w' => e = .returned (.bool true) ∧ Below w.heap.size w w' := by
  go_enter Try.func8, Try.ntmps8
  go_wp2_with fail
  refine calls_named1 (fun V1 hbV g0 hzV => ?_)
  have hn0 := Sz.of (zs := [1, 2, 3, 4]) g0 (by decide)
  have HB2 := Lib.hid hbV
  have z3 := Lib.hid hn0
  clear hn0
  clear hbV hzV g0
  refine (ints6_any (some ⟨w.heap.size, 0, none⟩) 4 4 [1, 2, 3, 4] _ z3.out (by intro z hz'; simp at hz'; omega) (by omega)).mono ?_
  rintro e W4 ⟨At, ct, rfl, hs, hb⟩
  have z5 := Lib.hid (z3.out.keep hb)
  clear z3
  have HB5 := Lib.hid (below_step HB2.out hb)
  clear HB2
  clear hb
  have t6 := Lib.hid hs
  clear hs
  clear z5
  have hta := t6.out.top
  have hca := t6.out.cap
  have hx0 : Sl W4 At 4 ct exT := t6.out
  clear t6
  have t7 := Lib.hid hx0
  clear hx0
  go_wp2_with fail
  refine calls_named1 (fun V8 hbV g0 hzV => ?_)
  have hn0 := (show One V8 (W4.heap.size) 22 (.slice At 4 ct) from g0)
  have t9 := Lib.hid (t7.out.keep hbV)
  clear t7
  have HB9 := Lib.hid (below_step HB5.out hbV)
  clear HB5
  have o10 := Lib.hid hn0
  clear hn0
  clear hbV hzV g0
  have ht := ST.one o10.out t9.out
  have T111 := Lib.hid ht
  clear ht
  clear o10
  refine (rFromNd5 1 _ (by omega) (by omega)).mono ?_
  rintro e W12 ⟨rfl, hb⟩
  have t13 := Lib.hid (t9.out.keep hb)
  clear t9
  have T113 := Lib.hid (T111.out.keep hb)
  clear T111
  have HB13 := Lib.hid (below_step HB9.out hb)
  clear HB9
  clear hb
  go_wp2_with fail
  refine calls_named4 (fun V14 hbV g0 g1 g2 g3 hzV => ?_)
  have hn0 := (show One V14 (W12.heap.size) 3 (.int .i64 0) from g0)
  have hn1 := (show Tri V14 (W12.heap.size + 1) 65 (.int .u64 (vF (ndZ (1)).A)) (.int .u64 (vF (ndZ (1)).B)) (.slice (some ⟨(W12.heap.size), 0, none⟩) 1 1) from g1)
  have hn2 := (show Two V14 (W12.heap.size + 1 + 1) 30 (.slice (some ⟨W4.heap.size, 0, none⟩) 1 1) (.slice (some ⟨(W12.heap.size + 1), 0, none⟩) 1 1) from g2)
  have hn3 := (show One V14 (W12.heap.size + 1 + 1 + 1) 22 (.slice At 4 ct) from g3)
  have t15 := Lib.hid (t13.out.keep hbV)
  clear t13
  have T115 := Lib.hid (T113.out.keep hbV)
  clear T113
  have HB15 := Lib.hid (below_step HB13.out hbV)
  clear HB13
  have i16 := Lib.hid hn0
  clear hn0
  have p17 := Lib.hid hn1
  clear hn1
  have X218 := Lib.hid hn2
  clear hn2
  have o19 := Lib.hid hn3
  clear hn3
  clear hbV hzV g0 g1 g2 g3
  have hm : TM V14 (some ⟨W12.heap.size + 1, 0, none⟩) 1 1 exO := SlM.one p17.out (SiZ.one i16.out)
  have M120 := Lib.hid hm
  clear hm
  clear i16
  clear p17
  have ht := ST.one o19.out t15.out
  have T221 := Lib.hid ht
  clear ht
  clear o19
  refine (rFromNd5 1 _ (by omega) (by omega)).mono ?_
  rintro e W22 ⟨rfl, hb⟩
  have t23 := Lib.hid (t15.out.keep hb)
  clear t15
  have T123 := Lib.hid (T115.out.keep hb)
  clear T115
  have X223 := Lib.hid (X218.out.keep hb)
  clear X218
  have M123 := Lib.hid (M120.out.keep hb)
  clear M120
  have T223 := Lib.hid (T221.out.keep hb)
  clear T221
  have HB23 := Lib.hid (below_step HB15.out hb)
  clear HB15
  clear hb
  go_wp2_with fail
  refine calls_named4 (fun V24 hbV g0 g1 g2 g3 hzV => ?_)
  have hn0 := (show Two V24 (W22.heap.size) 3 (.int .i64 0) (.int .i64 0) from g0)
  have hn1 := (show Tri V24 (W22.heap.size + 1) 65 (.int .u64 (vF (ndZ (1)).A)) (.int .u64 (vF (ndZ (1)).B)) (.slice (some ⟨(W22.heap.size), 0, none⟩) 2 2) from g1)
  have hn2 := (show Two V24 (W22.heap.size + 1 + 1) 30 (.slice (some ⟨W12.heap.size + 1 + 1 + 1, 0, none⟩) 1 1) (.slice (some ⟨(W22.heap.size + 1), 0, none⟩) 1 1) from g2)
  have hn3 := Sz.of (zs := [5, 3]) g3 (by decide)
  have t25 := Lib.hid (t23.out.keep hbV)
  clear t23
  have T125 := Lib.hid (T123.out.keep hbV)
  clear T123
  have X225 := Lib.hid (X223.out.keep hbV)
  clear X223
  have M125 := Lib.hid (M123.out.keep hbV)
  clear M123
  have T225 := Lib.hid (T223.out.keep hbV)
  clear T223
  have HB25 := Lib.hid (below_step HB23.out hbV)
  clear HB23
  have i26 := Lib.hid hn0
  clear hn0
  have p27 := Lib.hid hn1
  clear hn1
  have X328 := Lib.hid hn2
  clear hn2
  have z29 := Lib.hid hn3
  clear hn3
  clear hbV hzV g0 g1 g2 g3
  have hm : TM V24 (some ⟨W22.heap.size + 1, 0, none⟩) 1 1 exW := SlM.one p27.out (SiZ.two i26.out)
  have M230 := Lib.hid hm
  clear hm
  clear i26
  clear p27
  refine (ints6_any (some ⟨W22.heap.size + 1 + 1 + 1, 0, none⟩) 2 2 [5, 3] _ z29.out (by intro z hz'; simp at hz'; omega) (by omega)).mono ?_
  rintro e W31 ⟨Ac, cc, rfl, hs, hb⟩
  have t32 := Lib.hid (t25.out.keep hb)
  clear t25
  have T132 := Lib.hid (T125.out.keep hb)
  clear T125
  have X232 := Lib.hid (X225.out.keep hb)
  clear X225
  have M132 := Lib.hid (M125.out.keep hb)
  clear M125
  have T232 := Lib.hid (T225.out.keep hb)
  clear T225
  have X332 := Lib.hid (X328.out.keep hb)
  clear X328
  have z32 := Lib.hid (z29.out.keep hb)
  clear z29
  have M232 := Lib.hid (M230.out.keep hb)
  clear M230
  have HB32 := Lib.hid (below_step HB25.out hb)
  clear HB25
  clear hb
  have c33 := Lib.hid hs
  clear hs
  clear z32
  have htc := c33.out.top
  have hcc := c33.out.cap
  have hx0 : Sl W31 Ac 2 cc exC := c33.out
  clear c33
  have c34 := Lib.hid hx0
  clear hx0
  generalize W22.heap.size + 1 + 1 = bX3 at *
  generalize W22.heap.size + 1 = bM2 at *
  generalize W12.heap.size + 1 + 1 + 1 = bT2 at *
  generalize W12.heap.size + 1 + 1 = bX2 at *
  generalize W12.heap.size + 1 = bM1 at *
  generalize W4.heap.size = bT1 at *
  have x0 := X332.out.c0
  have x1 := X332.out.c1
  go_wp2_with fail
  clear x0 x1
  refine (sProve_any (some ⟨bT2, 0, none⟩) 1 1 [exT] (some ⟨bM2, 0, none⟩) 1 1 exW Ac 2 cc exC _ T232.out M232.out c34.out ex_okW).mono ?_
  rw [ex_proR, ex_proV]
  rintro e W35 ⟨gR, gv, rfl, hR, hV, hb⟩
  have t36 := Lib.hid (t32.out.keep hb)
  clear t32
  have T136 := Lib.hid (T132.out.keep hb)
  clear T132
  have X236 := Lib.hid (X232.out.keep hb)
  clear X232
  have M136 := Lib.hid (M132.out.keep hb)
  clear M132
  have T236 := Lib.hid (T232.out.keep hb)
  clear T232
  have X336 := Lib.hid (X332.out.keep hb)
  clear X332
  have M236 := Lib.hid (M232.out.keep hb)
  clear M232
  have c36 := Lib.hid (c34.out.keep hb)
  clear c34
  have HB36 := Lib.hid (below_step HB32.out hb)
  clear HB32
  clear hb
  have R37 := Lib.hid hR
  clear hR
  have V38 := Lib.hid hV
  clear hV
  go_wp2_with fail
  refine (rFromNd5 30 _ (by omega) (by omega)).mono ?_
  rintro e W39 ⟨rfl, hb⟩
  have t40 := Lib.hid (t36.out.keep hb)
  clear t36
  have T140 := Lib.hid (T136.out.keep hb)
  clear T136
  have X240 := Lib.hid (X236.out.keep hb)
  clear X236
  have M140 := Lib.hid (M136.out.keep hb)
  clear M136
  have T240 := Lib.hid (T236.out.keep hb)
  clear T236
  have X340 := Lib.hid (X336.out.keep hb)
  clear X336
  have M240 := Lib.hid (M236.out.keep hb)
  clear M236
  have c40 := Lib.hid (c36.out.keep hb)
  clear c36
  have R40 := Lib.hid (R37.out.keep hb)
  clear R37
  have V40 := Lib.hid (V38.out.keep hb)
  clear V38
  have HB40 := Lib.hid (below_step HB36.out hb)
  clear HB36
  clear hb
  go_wp2_with fail
  refine (sVerify_as (ndZ (30)) (some ⟨gR, 0, none⟩) 2 2 exR Ac 2 cc exC 2 (ndZ (144)) 0 _ R40.out c40.out (by omega) ex_ver).mono ?_
  rintro e W41 ⟨rfl, hb⟩
  have t42 := Lib.hid (t40.out.keep hb)
  clear t40
  have T142 := Lib.hid (T140.out.keep hb)
  clear T140
  have X242 := Lib.hid (X240.out.keep hb)
  clear X240
  have M142 := Lib.hid (M140.out.keep hb)
  clear M140
  have T242 := Lib.hid (T240.out.keep hb)
  clear T240
  have X342 := Lib.hid (X340.out.keep hb)
  clear X340
  have M242 := Lib.hid (M240.out.keep hb)
  clear M240
  have c42 := Lib.hid (c40.out.keep hb)
  clear c40
  have R42 := Lib.hid (R40.out.keep hb)
  clear R40
  have V42 := Lib.hid (V40.out.keep hb)
  clear V40
  have HB42 := Lib.hid (below_step HB40.out hb)
  clear HB40
  clear hb
  go_wp2_with fail
  refine calls_named1 (fun V43 hbV g0 hzV => ?_)
  have hn0 := (show Two V43 (W41.heap.size) 43 (.int .u64 (vF (ndZ (144)).A)) (.int .u64 (vF (ndZ (144)).B)) from g0)
  have t44 := Lib.hid (t42.out.keep hbV)
  clear t42
  have T144 := Lib.hid (T142.out.keep hbV)
  clear T142
  have X244 := Lib.hid (X242.out.keep hbV)
  clear X242
  have M144 := Lib.hid (M142.out.keep hbV)
  clear M142
  have T244 := Lib.hid (T242.out.keep hbV)
  clear T242
  have X344 := Lib.hid (X342.out.keep hbV)
  clear X342
  have M244 := Lib.hid (M242.out.keep hbV)
  clear M242
  have c44 := Lib.hid (c42.out.keep hbV)
  clear c42
  have R44 := Lib.hid (R42.out.keep hbV)
  clear R42
  have V44 := Lib.hid (V42.out.keep hbV)
  clear V42
  have HB44 := Lib.hid (below_step HB42.out hbV)
  clear HB42
  have X745 := Lib.hid hn0
  clear hn0
  clear hbV hzV g0
  generalize W41.heap.size = bX7 at *
  refine (rFromNd5 31 _ (by omega) (by omega)).mono ?_
  rintro e W46 ⟨rfl, hb⟩
  have t47 := Lib.hid (t44.out.keep hb)
  clear t44
  have T147 := Lib.hid (T144.out.keep hb)
  clear T144
  have X247 := Lib.hid (X244.out.keep hb)
  clear X244
  have M147 := Lib.hid (M144.out.keep hb)
  clear M144
  have T247 := Lib.hid (T244.out.keep hb)
  clear T244
  have X347 := Lib.hid (X344.out.keep hb)
  clear X344
  have M247 := Lib.hid (M244.out.keep hb)
  clear M244
  have c47 := Lib.hid (c44.out.keep hb)
  clear c44
  have R47 := Lib.hid (R44.out.keep hb)
  clear R44
  have V47 := Lib.hid (V44.out.keep hb)
  clear V44
  have X747 := Lib.hid (X745.out.keep hb)
  clear X745
  have HB47 := Lib.hid (below_step HB44.out hb)
  clear HB44
  clear hb
  go_wp2_with fail
  refine (sVerify_as (ndZ (31)) (some ⟨gR, 0, none⟩) 2 2 exR Ac 2 cc exC 2 E2.zero 60 _ R47.out c47.out (by omega) ex_verS).mono ?_
  rintro e W48 ⟨rfl, hb⟩
  have t49 := Lib.hid (t47.out.keep hb)
  clear t47
  have T149 := Lib.hid (T147.out.keep hb)
  clear T147
  have X249 := Lib.hid (X247.out.keep hb)
  clear X247
  have M149 := Lib.hid (M147.out.keep hb)
  clear M147
  have T249 := Lib.hid (T247.out.keep hb)
  clear T247
  have X349 := Lib.hid (X347.out.keep hb)
  clear X347
  have M249 := Lib.hid (M247.out.keep hb)
  clear M247
  have c49 := Lib.hid (c47.out.keep hb)
  clear c47
  have R49 := Lib.hid (R47.out.keep hb)
  clear R47
  have V49 := Lib.hid (V47.out.keep hb)
  clear V47
  have X749 := Lib.hid (X747.out.keep hb)
  clear X747
  have HB49 := Lib.hid (below_step HB47.out hb)
  clear HB47
  clear hb
  go_wp2_with fail
  refine calls_named1 (fun V50 hbV g0 hzV => ?_)
  have t51 := Lib.hid (t49.out.keep hbV)
  clear t49
  have T151 := Lib.hid (T149.out.keep hbV)
  clear T149
  have X251 := Lib.hid (X249.out.keep hbV)
  clear X249
  have M151 := Lib.hid (M149.out.keep hbV)
  clear M149
  have T251 := Lib.hid (T249.out.keep hbV)
  clear T249
  have X351 := Lib.hid (X349.out.keep hbV)
  clear X349
  have M251 := Lib.hid (M249.out.keep hbV)
  clear M249
  have c51 := Lib.hid (c49.out.keep hbV)
  clear c49
  have R51 := Lib.hid (R49.out.keep hbV)
  clear R49
  have V51 := Lib.hid (V49.out.keep hbV)
  clear V49
  have X751 := Lib.hid (X749.out.keep hbV)
  clear X749
  have HB51 := Lib.hid (below_step HB49.out hbV)
  clear HB49
  clear hbV hzV g0
  refine (rFromNd5 30 _ (by omega) (by omega)).mono ?_
  rintro e W52 ⟨rfl, hb⟩
  have t53 := Lib.hid (t51.out.keep hb)
  clear t51
  have T153 := Lib.hid (T151.out.keep hb)
  clear T151
  have X253 := Lib.hid (X251.out.keep hb)
  clear X251
  have M153 := Lib.hid (M151.out.keep hb)
  clear M151
  have T253 := Lib.hid (T251.out.keep hb)
  clear T251
  have X353 := Lib.hid (X351.out.keep hb)
  clear X351
  have M253 := Lib.hid (M251.out.keep hb)
  clear M251
  have c53 := Lib.hid (c51.out.keep hb)
  clear c51
  have R53 := Lib.hid (R51.out.keep hb)
  clear R51
  have V53 := Lib.hid (V51.out.keep hb)
  clear V51
  have X753 := Lib.hid (X751.out.keep hb)
  clear X751
  have HB53 := Lib.hid (below_step HB51.out hb)
  clear HB51
  clear hb
  go_wp2_with fail
  refine (sVerify_as (ndZ (30)) (some ⟨gR, 0, none⟩) 2 2 exR Ac 2 cc exC 3 E2.zero 61 _ R53.out c53.out (by omega) ex_verD).mono ?_
  rintro e W54 ⟨rfl, hb⟩
  have t55 := Lib.hid (t53.out.keep hb)
  clear t53
  have T155 := Lib.hid (T153.out.keep hb)
  clear T153
  have X255 := Lib.hid (X253.out.keep hb)
  clear X253
  have M155 := Lib.hid (M153.out.keep hb)
  clear M153
  have T255 := Lib.hid (T253.out.keep hb)
  clear T253
  have X355 := Lib.hid (X353.out.keep hb)
  clear X353
  have M255 := Lib.hid (M253.out.keep hb)
  clear M253
  have c55 := Lib.hid (c53.out.keep hb)
  clear c53
  have R55 := Lib.hid (R53.out.keep hb)
  clear R53
  have V55 := Lib.hid (V53.out.keep hb)
  clear V53
  have X755 := Lib.hid (X753.out.keep hb)
  clear X753
  have HB55 := Lib.hid (below_step HB53.out hb)
  clear HB53
  clear hb
  go_wp2_with fail
  go_upto_region 11 with fail
  refine wp_named1 (fun V56 hbV g0 hzV => ?_)
  have t57 := Lib.hid (t55.out.keep hbV)
  clear t55
  have T157 := Lib.hid (T155.out.keep hbV)
  clear T155
  have X257 := Lib.hid (X255.out.keep hbV)
  clear X255
  have M157 := Lib.hid (M155.out.keep hbV)
  clear M155
  have T257 := Lib.hid (T255.out.keep hbV)
  clear T255
  have X357 := Lib.hid (X355.out.keep hbV)
  clear X355
  have M257 := Lib.hid (M255.out.keep hbV)
  clear M255
  have c57 := Lib.hid (c55.out.keep hbV)
  clear c55
  have R57 := Lib.hid (R55.out.keep hbV)
  clear R55
  have V57 := Lib.hid (V55.out.keep hbV)
  clear V55
  have X757 := Lib.hid (X755.out.keep hbV)
  clear X755
  have HB57 := Lib.hid (below_step HB55.out hbV)
  clear HB55
  clear hbV hzV g0
  go_cut [13, 14] from 73 to 81 (fun p q wx => ∃ b, p = .pointer (some ⟨b, 0, none⟩) ∧ q = .int .i64 1 ∧ Below V56.heap.size V56 wx)
  case first =>
    have cr := R57.out
    have cc0 := c57.out
    have HcR := Lib.hid cr
    have HcC := Lib.hid cc0
    clear cr cc0
    go_region_with (first
      | (go_at_call 37; refine (rFromNd5 30 _ (by omega) (by omega)).mono ?_; rintro e Wa ⟨rfl, hba⟩; try (have tz := (Two.drew (Two.new V56 43 (.int .u64 0) (.int .u64 0))).keep hba; have z0 := tz.c0; have z1 := tz.c1; have f0 := tz.f0; have f1 := tz.f1))
      | (go_at_call 30; refine (sVerify_as (ndZ (30)) (some ⟨gR, 0, none⟩) 2 2 exR Ac 1 cc [ndZ (5)] 2 E2.zero 1 _ (HcR.out.keep (by first | exact below_step (Below.refl _ V56).drew hba | exact below_step ((Below.refl _ V56).alloc (Nat.le_refl _) (.cells #[.int .u64 0, .int .u64 0] 43)).drew hba | exact (below_step (Below.refl _ V56).drew hba).alloc (below_step (Below.refl _ V56).drew hba).size (.cells #[.int .u64 0, .int .u64 0] 43))) (((HcC.out.take (show 1 ≤ 2 by omega)).cast (rfl : _ = [ndZ (5)])).keep (by first | exact below_step (Below.refl _ V56).drew hba | exact below_step ((Below.refl _ V56).alloc (Nat.le_refl _) (.cells #[.int .u64 0, .int .u64 0] 43)).drew hba | exact (below_step (Below.refl _ V56).drew hba).alloc (below_step (Below.refl _ V56).drew hba).size (.cells #[.int .u64 0, .int .u64 0] 43))) (by omega) ex_verA).mono ?_; rintro e Wb ⟨rfl, hbb⟩; first | (have ty := tz.keep hbb; replace z0 := ty.c0; replace z1 := ty.c1; replace f0 := ty.f0; replace f1 := ty.f1) | (have ty := (Two.new Wa 43 (.int .u64 0) (.int .u64 0)).keep hbb; have z0 := ty.c0; have z1 := ty.c1; have f0 := ty.f0; have f1 := ty.f1) | skip))
    all_goals
      go_wp2_with fail
      go_meet
    all_goals first
      | exact ⟨_, rfl, rfl, (below_step (below_step (Below.refl _ V56).drew hba) hbb).alloc (below_step (below_step (Below.refl _ V56).drew hba) hbb).size _⟩
      | exact ⟨_, rfl, rfl, ((below_step ((below_step (Below.refl _ V56).drew hba).alloc (below_step (Below.refl _ V56).drew hba).size (.cells #[.int .u64 0, .int .u64 0] 43)) hbb).setCell (below_step (Below.refl _ V56).drew hba).size _).setCell (below_step (Below.refl _ V56).drew hba).size _⟩
      | exact ⟨_, rfl, rfl, ((below_step (below_step ((Below.refl _ V56).alloc (Nat.le_refl _) (.cells #[.int .u64 0, .int .u64 0] 43)).drew hba) hbb).setCell (Nat.le_refl _) _).setCell (Nat.le_refl _) _⟩
  case rest =>
    obtain ⟨bz, rfl, rfl, hb⟩ := hcut
    have t58 := Lib.hid (t57.out.keep hb)
    clear t57
    have T158 := Lib.hid (T157.out.keep hb)
    clear T157
    have X258 := Lib.hid (X257.out.keep hb)
    clear X257
    have M158 := Lib.hid (M157.out.keep hb)
    clear M157
    have T258 := Lib.hid (T257.out.keep hb)
    clear T257
    have X358 := Lib.hid (X357.out.keep hb)
    clear X357
    have M258 := Lib.hid (M257.out.keep hb)
    clear M257
    have c58 := Lib.hid (c57.out.keep hb)
    clear c57
    have R58 := Lib.hid (R57.out.keep hb)
    clear R57
    have V58 := Lib.hid (V57.out.keep hb)
    clear V57
    have X758 := Lib.hid (X757.out.keep hb)
    clear X757
    have HB58 := Lib.hid (below_step HB57.out hb)
    clear HB57
    clear hb
    go_wp2_with fail
    refine (rFromNd5 8 _ (by omega) (by omega)).mono ?_
    rintro e W59 ⟨rfl, hb⟩
    have t60 := Lib.hid (t58.out.keep hb)
    clear t58
    have T160 := Lib.hid (T158.out.keep hb)
    clear T158
    have X260 := Lib.hid (X258.out.keep hb)
    clear X258
    have M160 := Lib.hid (M158.out.keep hb)
    clear M158
    have T260 := Lib.hid (T258.out.keep hb)
    clear T258
    have X360 := Lib.hid (X358.out.keep hb)
    clear X358
    have M260 := Lib.hid (M258.out.keep hb)
    clear M258
    have c60 := Lib.hid (c58.out.keep hb)
    clear c58
    have R60 := Lib.hid (R58.out.keep hb)
    clear R58
    have V60 := Lib.hid (V58.out.keep hb)
    clear V58
    have X760 := Lib.hid (X758.out.keep hb)
    clear X758
    have HB60 := Lib.hid (below_step HB58.out hb)
    clear HB58
    clear hb
    go_wp2_with fail
    refine (sVerify_as (ndZ (8)) none 0 0 [] none 0 0 [] 1 (ndZ (8)) 0 _ (ST.nil _) (Sl.nil _) (by omega) ex_ver0).mono ?_
    rintro e W61 ⟨rfl, hb⟩
    have t62 := Lib.hid (t60.out.keep hb)
    clear t60
    have T162 := Lib.hid (T160.out.keep hb)
    clear T160
    have X262 := Lib.hid (X260.out.keep hb)
    clear X260
    have M162 := Lib.hid (M160.out.keep hb)
    clear M160
    have T262 := Lib.hid (T260.out.keep hb)
    clear T260
    have X362 := Lib.hid (X360.out.keep hb)
    clear X360
    have M262 := Lib.hid (M260.out.keep hb)
    clear M260
    have c62 := Lib.hid (c60.out.keep hb)
    clear c60
    have R62 := Lib.hid (R60.out.keep hb)
    clear R60
    have V62 := Lib.hid (V60.out.keep hb)
    clear V60
    have X762 := Lib.hid (X760.out.keep hb)
    clear X760
    have HB62 := Lib.hid (below_step HB60.out hb)
    clear HB60
    clear hb
    go_wp2_with fail
    refine wp_named1 (fun V63 hbV g0 hzV => ?_)
    have hn0 := (show Two V63 (W61.heap.size) 43 (.int .u64 (vF (ndZ (8)).A)) (.int .u64 (vF (ndZ (8)).B)) from g0)
    have t64 := Lib.hid (t62.out.keep hbV)
    clear t62
    have T164 := Lib.hid (T162.out.keep hbV)
    clear T162
    have X264 := Lib.hid (X262.out.keep hbV)
    clear X262
    have M164 := Lib.hid (M162.out.keep hbV)
    clear M162
    have T264 := Lib.hid (T262.out.keep hbV)
    clear T262
    have X364 := Lib.hid (X362.out.keep hbV)
    clear X362
    have M264 := Lib.hid (M262.out.keep hbV)
    clear M262
    have c64 := Lib.hid (c62.out.keep hbV)
    clear c62
    have R64 := Lib.hid (R62.out.keep hbV)
    clear R62
    have V64 := Lib.hid (V62.out.keep hbV)
    clear V62
    have X764 := Lib.hid (X762.out.keep hbV)
    clear X762
    have HB64 := Lib.hid (below_step HB62.out hbV)
    clear HB62
    have X1565 := Lib.hid hn0
    clear hn0
    clear hbV hzV g0
    generalize W61.heap.size = bX15 at *
    have l0a := Later.cell X264.out.c0
    have l0b := Later.cell X264.out.c1
    have l1a := Later.cell X364.out.c0
    have l1b := Later.cell X364.out.c1
    have l2a := Later.cell X764.out.c0
    have l2b := Later.cell X764.out.c1
    have l3a := Later.cell X1565.out.c0
    have l3b := Later.cell X1565.out.c1
    obtain ⟨adv, hadv, p0, p1⟩ := V64.out.at_ (i := 0) rfl
    injection hadv with hadv
    subst hadv
    simp only [Nat.zero_mul, Nat.zero_add, add_base] at p0 p1
    have l4a := Later.cell p0
    have l4b := Later.cell p1
    clear p0 p1
    try simp only [List.append_eq, List.cons_append, List.nil_append]
    refine wp_floatN (by kernel_rfl) (lexOK_of (by kernel_rfl) (by kernel_rfl)) (chainOF_of (by kernel_rfl)) (fun V66 hb hS => ?_)
    have t67 := Lib.hid (t64.out.keep hb)
    clear t64
    have T167 := Lib.hid (T164.out.keep hb)
    clear T164
    have X267 := Lib.hid (X264.out.keep hb)
    clear X264
    have M167 := Lib.hid (M164.out.keep hb)
    clear M164
    have T267 := Lib.hid (T264.out.keep hb)
    clear T264
    have X367 := Lib.hid (X364.out.keep hb)
    clear X364
    have M267 := Lib.hid (M264.out.keep hb)
    clear M264
    have c67 := Lib.hid (c64.out.keep hb)
    clear c64
    have R67 := Lib.hid (R64.out.keep hb)
    clear R64
    have V67 := Lib.hid (V64.out.keep hb)
    clear V64
    have X767 := Lib.hid (X764.out.keep hb)
    clear X764
    have X1567 := Lib.hid (X1565.out.keep hb)
    clear X1565
    have HB67 := Lib.hid (below_step HB64.out hb)
    clear HB64
    clear hb
    have HS66' := Lib.hid hS
    clear hS
    clear X267
    clear X367
    clear c67
    clear R67
    clear X767
    clear X1567
    refine wpF_seg 1 (by kernel_rfl) ?_
    simp only [List.take_succ_cons, List.take_zero, List.drop_succ_cons, List.drop_zero]
    repeat (go_big_quiet_step (fail))
    refine wpQuiet_nil ?_
    refine wpF_call 21 Try.func21 (by kernel_rfl) (by kernel_rfl) _ _ #[.agg #[.slice (some ⟨bT1, 0, none⟩) 1 1, .slice (some ⟨bM1, 0, none⟩) 1 1]] rfl (by kernel_rfl) (by kernel_rfl) HS66'.out (fun V68 hV => ?_)
    refine (sTotal_as (some ⟨bT1, 0, none⟩) 1 1 [exT] (some ⟨bM1, 0, none⟩) 1 1 exO 2 (ndZ (10)) _ (T167.out.keep hV) (M167.out.keep hV) ex_okO ex_totO).mono ?_
    rintro e W68 ⟨rfl, hb⟩
    have hb2 := ext_trans hV hb
    have t69 := Lib.hid (t67.out.keep hb2)
    clear t67
    have T169 := Lib.hid (T167.out.keep hb2)
    clear T167
    have M169 := Lib.hid (M167.out.keep hb2)
    clear M167
    have T269 := Lib.hid (T267.out.keep hb2)
    clear T267
    have M269 := Lib.hid (M267.out.keep hb2)
    clear M267
    have V69 := Lib.hid (V67.out.keep hb2)
    clear V67
    have HB69 := Lib.hid (below_step HB67.out hb2)
    clear HB67
    have HS69 := Lib.hid (HS66'.out.ext hb2)
    clear HS66'
    refine ⟨_, rfl, hb, ?_⟩
    clear hb hb2 hV
    simp only [Act.put, List.setIfInBounds_toArray, List.set_cons_zero, List.set_cons_succ]
    refine wpF_call 37 Try.func37 (by kernel_rfl) (by kernel_rfl) _ _ #[.int .i64 (10)] rfl (by kernel_rfl) (by kernel_rfl) HS69.out (fun V70 hV => ?_)
    refine (rFromNd5 (10) _ (by omega) (by omega)).mono ?_
    rintro e W70 ⟨rfl, hb⟩
    have hb2 := ext_trans hV hb
    have t71 := Lib.hid (t69.out.keep hb2)
    clear t69
    have T171 := Lib.hid (T169.out.keep hb2)
    clear T169
    have M171 := Lib.hid (M169.out.keep hb2)
    clear M169
    have T271 := Lib.hid (T269.out.keep hb2)
    clear T269
    have M271 := Lib.hid (M269.out.keep hb2)
    clear M269
    have V71 := Lib.hid (V69.out.keep hb2)
    clear V69
    have HB71 := Lib.hid (below_step HB69.out hb2)
    clear HB69
    have HS71 := Lib.hid (HS69.out.ext hb2)
    clear HS69
    refine ⟨_, rfl, hb, ?_⟩
    clear hb hb2 hV
    simp only [Act.put, List.setIfInBounds_toArray, List.set_cons_zero, List.set_cons_succ]
    have hq91 := run_eqE_same (ndZ (10))
    refine wpF_seg 3 (by kernel_rfl) ?_
    simp only [List.take_succ_cons, List.take_zero, List.drop_succ_cons, List.drop_zero]
    repeat (go_big_quiet_step (fail))
    refine wpQuiet_nil ?_
    refine wpF_call 27 Try.func27 (by kernel_rfl) (by kernel_rfl) _ _ #[.agg #[.slice (some ⟨bT1, 0, none⟩) 1 1, .slice (some ⟨bM1, 0, none⟩) 1 1]] rfl (by kernel_rfl) (by kernel_rfl) HS71.out (fun V72 hV => ?_)
    refine (sRound_as (some ⟨bT1, 0, none⟩) 1 1 [exT] (some ⟨bM1, 0, none⟩) 1 1 exO 1 [ndZ (4), ndZ (6)] 2 _ (T171.out.keep hV) (M171.out.keep hV) ex_okO ex_rndO (by decide)).mono ?_
    rintro e W72 ⟨A46, c46, rfl, hs, hb⟩
    have hb2 := ext_trans hV hb
    have t73 := Lib.hid (t71.out.keep hb2)
    clear t71
    have T173 := Lib.hid (T171.out.keep hb2)
    clear T171
    have M173 := Lib.hid (M171.out.keep hb2)
    clear M171
    have T273 := Lib.hid (T271.out.keep hb2)
    clear T271
    have M273 := Lib.hid (M271.out.keep hb2)
    clear M271
    have V73 := Lib.hid (V71.out.keep hb2)
    clear V71
    have HB73 := Lib.hid (below_step HB71.out hb2)
    clear HB71
    have HS73 := Lib.hid (HS71.out.ext hb2)
    clear HS71
    have L46_74 := Lib.hid hs
    clear hs
    refine ⟨_, rfl, hb, ?_⟩
    clear hb hb2 hV
    simp only [Act.put, List.setIfInBounds_toArray, List.set_cons_zero, List.set_cons_succ]
    refine wpF_ints2 4 6 rfl (by kernel_rfl) (fun b75 V75 hb hg => ?_)
    have t76 := Lib.hid (t73.out.keep hb)
    clear t73
    have T176 := Lib.hid (T173.out.keep hb)
    clear T173
    have M176 := Lib.hid (M173.out.keep hb)
    clear M173
    have T276 := Lib.hid (T273.out.keep hb)
    clear T273
    have M276 := Lib.hid (M273.out.keep hb)
    clear M273
    have V76 := Lib.hid (V73.out.keep hb)
    clear V73
    have L46_76 := Lib.hid (L46_74.out.keep hb)
    clear L46_74
    have HB76 := Lib.hid (below_step HB73.out hb)
    clear HB73
    have HS76 := Lib.hid (HS73.out.ext hb)
    clear HS73
    clear hb
    have Z47_77 := Lib.hid hg
    clear hg
    simp only [Act.put, List.setIfInBounds_toArray, List.set_cons_zero, List.set_cons_succ]
    refine wpF_call 38 Try.func38 (by kernel_rfl) (by kernel_rfl) _ _ #[.slice (some ⟨b75, 0, none⟩) 2 2] rfl (by kernel_rfl) (by kernel_rfl) HS76.out (fun V78 hV => ?_)
    refine (ints6_any (some ⟨b75, 0, none⟩) 2 2 [4, 6] _ (Z47_77.out.keep hV) (by intro z hz'; simp at hz'; omega) (by omega)).mono ?_
    rintro e W78 ⟨A48, c48, rfl, hs, hb⟩
    have hb2 := ext_trans hV hb
    have t79 := Lib.hid (t76.out.keep hb2)
    clear t76
    have T179 := Lib.hid (T176.out.keep hb2)
    clear T176
    have M179 := Lib.hid (M176.out.keep hb2)
    clear M176
    have T279 := Lib.hid (T276.out.keep hb2)
    clear T276
    have M279 := Lib.hid (M276.out.keep hb2)
    clear M276
    have V79 := Lib.hid (V76.out.keep hb2)
    clear V76
    have L46_79 := Lib.hid (L46_76.out.keep hb2)
    clear L46_76
    have Z47_79 := Lib.hid (Z47_77.out.keep hb2)
    clear Z47_77
    have HB79 := Lib.hid (below_step HB76.out hb2)
    clear HB76
    have HS79 := Lib.hid (HS76.out.ext hb2)
    clear HS76
    have L48_80 := Lib.hid hs
    clear hs
    refine ⟨_, rfl, hb, ?_⟩
    clear hb hb2 hV
    simp only [Act.put, List.setIfInBounds_toArray, List.set_cons_zero, List.set_cons_succ]
    clear Z47_79
    refine wpF_call 18 Try.func18 (by kernel_rfl) (by kernel_rfl) _ _ #[.slice A46 2 c46, .slice A48 2 c48] rfl (by kernel_rfl) (by kernel_rfl) HS79.out (fun V81 hV => ?_)
    refine (same_yes A46 2 c46 A48 2 c48 [ndZ (4), ndZ (6)] _ (L46_79.out.keep hV) (L48_80.out.keep hV)).mono ?_
    rintro e W81 ⟨rfl, hb⟩
    have hb2 := ext_trans hV hb
    have t82 := Lib.hid (t79.out.keep hb2)
    clear t79
    have T182 := Lib.hid (T179.out.keep hb2)
    clear T179
    have M182 := Lib.hid (M179.out.keep hb2)
    clear M179
    have T282 := Lib.hid (T279.out.keep hb2)
    clear T279
    have M282 := Lib.hid (M279.out.keep hb2)
    clear M279
    have V82 := Lib.hid (V79.out.keep hb2)
    clear V79
    have L46_82 := Lib.hid (L46_79.out.keep hb2)
    clear L46_79
    have L48_82 := Lib.hid (L48_80.out.keep hb2)
    clear L48_80
    have HB82 := Lib.hid (below_step HB79.out hb2)
    clear HB79
    have HS82 := Lib.hid (HS79.out.ext hb2)
    clear HS79
    refine ⟨_, rfl, hb, ?_⟩
    clear hb hb2 hV
    simp only [Act.put, List.setIfInBounds_toArray, List.set_cons_zero, List.set_cons_succ]
    clear L46_82
    clear L48_82
    refine wpF_seg 3 (by kernel_rfl) ?_
    simp only [List.take_succ_cons, List.take_zero, List.drop_succ_cons, List.drop_zero]
    repeat (go_big_quiet_step (fail))
    refine wpQuiet_nil ?_
    refine wpF_call 21 Try.func21 (by kernel_rfl) (by kernel_rfl) _ _ #[.agg #[.slice (some ⟨bT2, 0, none⟩) 1 1, .slice (some ⟨bM2, 0, none⟩) 1 1]] rfl (by kernel_rfl) (by kernel_rfl) HS82.out (fun V83 hV => ?_)
    refine (sTotal_as (some ⟨bT2, 0, none⟩) 1 1 [exT] (some ⟨bM2, 0, none⟩) 1 1 exW 2 (ndZ (30)) _ (T282.out.keep hV) (M282.out.keep hV) ex_okW ex_totW).mono ?_
    rintro e W83 ⟨rfl, hb⟩
    have hb2 := ext_trans hV hb
    have t84 := Lib.hid (t82.out.keep hb2)
    clear t82
    have T184 := Lib.hid (T182.out.keep hb2)
    clear T182
    have M184 := Lib.hid (M182.out.keep hb2)
    clear M182
    have T284 := Lib.hid (T282.out.keep hb2)
    clear T282
    have M284 := Lib.hid (M282.out.keep hb2)
    clear M282
    have V84 := Lib.hid (V82.out.keep hb2)
    clear V82
    have HB84 := Lib.hid (below_step HB82.out hb2)
    clear HB82
    have HS84 := Lib.hid (HS82.out.ext hb2)
    clear HS82
    refine ⟨_, rfl, hb, ?_⟩
    clear hb hb2 hV
    simp only [Act.put, List.setIfInBounds_toArray, List.set_cons_zero, List.set_cons_succ]
    refine wpF_call 37 Try.func37 (by kernel_rfl) (by kernel_rfl) _ _ #[.int .i64 (30)] rfl (by kernel_rfl) (by kernel_rfl) HS84.out (fun V85 hV => ?_)
    refine (rFromNd5 (30) _ (by omega) (by omega)).mono ?_
    rintro e W85 ⟨rfl, hb⟩
    have hb2 := ext_trans hV hb
    have t86 := Lib.hid (t84.out.keep hb2)
    clear t84
    have T186 := Lib.hid (T184.out.keep hb2)
    clear T184
    have M186 := Lib.hid (M184.out.keep hb2)
    clear M184
    have T286 := Lib.hid (T284.out.keep hb2)
    clear T284
    have M286 := Lib.hid (M284.out.keep hb2)
    clear M284
    have V86 := Lib.hid (V84.out.keep hb2)
    clear V84
    have HB86 := Lib.hid (below_step HB84.out hb2)
    clear HB84
    have HS86 := Lib.hid (HS84.out.ext hb2)
    clear HS84
    refine ⟨_, rfl, hb, ?_⟩
    clear hb hb2 hV
    simp only [Act.put, List.setIfInBounds_toArray, List.set_cons_zero, List.set_cons_succ]
    have hq103 := run_eqE_same (ndZ (30))
    refine wpF_seg 4 (by kernel_rfl) ?_
    simp only [List.take_succ_cons, List.take_zero, List.drop_succ_cons, List.drop_zero]
    repeat (go_big_quiet_step (fail))
    refine wpQuiet_nil ?_
    refine wpF_call 27 Try.func27 (by kernel_rfl) (by kernel_rfl) _ _ #[.agg #[.slice (some ⟨bT2, 0, none⟩) 1 1, .slice (some ⟨bM2, 0, none⟩) 1 1]] rfl (by kernel_rfl) (by kernel_rfl) HS86.out (fun V87 hV => ?_)
    refine (sRound_as (some ⟨bT2, 0, none⟩) 1 1 [exT] (some ⟨bM2, 0, none⟩) 1 1 exW 1 [ndZ (10), ndZ (20), ndZ (34)] 3 _ (T286.out.keep hV) (M286.out.keep hV) ex_okW ex_rndW (by decide)).mono ?_
    rintro e W87 ⟨A52, c52, rfl, hs, hb⟩
    have hb2 := ext_trans hV hb
    have t88 := Lib.hid (t86.out.keep hb2)
    clear t86
    have T188 := Lib.hid (T186.out.keep hb2)
    clear T186
    have M188 := Lib.hid (M186.out.keep hb2)
    clear M186
    have T288 := Lib.hid (T286.out.keep hb2)
    clear T286
    have M288 := Lib.hid (M286.out.keep hb2)
    clear M286
    have V88 := Lib.hid (V86.out.keep hb2)
    clear V86
    have HB88 := Lib.hid (below_step HB86.out hb2)
    clear HB86
    have HS88 := Lib.hid (HS86.out.ext hb2)
    clear HS86
    have L52_89 := Lib.hid hs
    clear hs
    refine ⟨_, rfl, hb, ?_⟩
    clear hb hb2 hV
    simp only [Act.put, List.setIfInBounds_toArray, List.set_cons_zero, List.set_cons_succ]
    refine wpF_ints3 10 20 34 rfl (by kernel_rfl) (fun b90 V90 hb hg => ?_)
    have t91 := Lib.hid (t88.out.keep hb)
    clear t88
    have T191 := Lib.hid (T188.out.keep hb)
    clear T188
    have M191 := Lib.hid (M188.out.keep hb)
    clear M188
    have T291 := Lib.hid (T288.out.keep hb)
    clear T288
    have M291 := Lib.hid (M288.out.keep hb)
    clear M288
    have V91 := Lib.hid (V88.out.keep hb)
    clear V88
    have L52_91 := Lib.hid (L52_89.out.keep hb)
    clear L52_89
    have HB91 := Lib.hid (below_step HB88.out hb)
    clear HB88
    have HS91 := Lib.hid (HS88.out.ext hb)
    clear HS88
    clear hb
    have Z53_92 := Lib.hid hg
    clear hg
    simp only [Act.put, List.setIfInBounds_toArray, List.set_cons_zero, List.set_cons_succ]
    refine wpF_call 38 Try.func38 (by kernel_rfl) (by kernel_rfl) _ _ #[.slice (some ⟨b90, 0, none⟩) 3 3] rfl (by kernel_rfl) (by kernel_rfl) HS91.out (fun V93 hV => ?_)
    refine (ints6_any (some ⟨b90, 0, none⟩) 3 3 [10, 20, 34] _ (Z53_92.out.keep hV) (by intro z hz'; simp at hz'; omega) (by omega)).mono ?_
    rintro e W93 ⟨A54, c54, rfl, hs, hb⟩
    have hb2 := ext_trans hV hb
    have t94 := Lib.hid (t91.out.keep hb2)
    clear t91
    have T194 := Lib.hid (T191.out.keep hb2)
    clear T191
    have M194 := Lib.hid (M191.out.keep hb2)
    clear M191
    have T294 := Lib.hid (T291.out.keep hb2)
    clear T291
    have M294 := Lib.hid (M291.out.keep hb2)
    clear M291
    have V94 := Lib.hid (V91.out.keep hb2)
    clear V91
    have L52_94 := Lib.hid (L52_91.out.keep hb2)
    clear L52_91
    have Z53_94 := Lib.hid (Z53_92.out.keep hb2)
    clear Z53_92
    have HB94 := Lib.hid (below_step HB91.out hb2)
    clear HB91
    have HS94 := Lib.hid (HS91.out.ext hb2)
    clear HS91
    have L54_95 := Lib.hid hs
    clear hs
    refine ⟨_, rfl, hb, ?_⟩
    clear hb hb2 hV
    simp only [Act.put, List.setIfInBounds_toArray, List.set_cons_zero, List.set_cons_succ]
    clear Z53_94
    refine wpF_call 18 Try.func18 (by kernel_rfl) (by kernel_rfl) _ _ #[.slice A52 3 c52, .slice A54 3 c54] rfl (by kernel_rfl) (by kernel_rfl) HS94.out (fun V96 hV => ?_)
    refine (same_yes A52 3 c52 A54 3 c54 [ndZ (10), ndZ (20), ndZ (34)] _ (L52_94.out.keep hV) (L54_95.out.keep hV)).mono ?_
    rintro e W96 ⟨rfl, hb⟩
    have hb2 := ext_trans hV hb
    have t97 := Lib.hid (t94.out.keep hb2)
    clear t94
    have T197 := Lib.hid (T194.out.keep hb2)
    clear T194
    have M197 := Lib.hid (M194.out.keep hb2)
    clear M194
    have T297 := Lib.hid (T294.out.keep hb2)
    clear T294
    have M297 := Lib.hid (M294.out.keep hb2)
    clear M294
    have V97 := Lib.hid (V94.out.keep hb2)
    clear V94
    have L52_97 := Lib.hid (L52_94.out.keep hb2)
    clear L52_94
    have L54_97 := Lib.hid (L54_95.out.keep hb2)
    clear L54_95
    have HB97 := Lib.hid (below_step HB94.out hb2)
    clear HB94
    have HS97 := Lib.hid (HS94.out.ext hb2)
    clear HS94
    refine ⟨_, rfl, hb, ?_⟩
    clear hb hb2 hV
    simp only [Act.put, List.setIfInBounds_toArray, List.set_cons_zero, List.set_cons_succ]
    clear L52_97
    clear L54_97
    refine wpF_seg 5 (by kernel_rfl) ?_
    simp only [List.take_succ_cons, List.take_zero, List.drop_succ_cons, List.drop_zero]
    repeat (go_big_quiet_step (fail))
    refine wpQuiet_nil ?_
    refine wpF_call 37 Try.func37 (by kernel_rfl) (by kernel_rfl) _ _ #[.int .i64 (12)] rfl (by kernel_rfl) (by kernel_rfl) HS97.out (fun V98 hV => ?_)
    refine (rFromNd5 (12) _ (by omega) (by omega)).mono ?_
    rintro e W98 ⟨rfl, hb⟩
    have hb2 := ext_trans hV hb
    have t99 := Lib.hid (t97.out.keep hb2)
    clear t97
    have T199 := Lib.hid (T197.out.keep hb2)
    clear T197
    have M199 := Lib.hid (M197.out.keep hb2)
    clear M197
    have T299 := Lib.hid (T297.out.keep hb2)
    clear T297
    have M299 := Lib.hid (M297.out.keep hb2)
    clear M297
    have V99 := Lib.hid (V97.out.keep hb2)
    clear V97
    have HB99 := Lib.hid (below_step HB97.out hb2)
    clear HB97
    have HS99 := Lib.hid (HS97.out.ext hb2)
    clear HS97
    refine ⟨_, rfl, hb, ?_⟩
    clear hb hb2 hV
    simp only [Act.put, List.setIfInBounds_toArray, List.set_cons_zero, List.set_cons_succ]
    clear V99
    have hq117 := run_eqE_same (ndZ (12))
    refine wpF_seg 4 (by kernel_rfl) ?_
    simp only [List.take_succ_cons, List.take_zero, List.drop_succ_cons, List.drop_zero]
    repeat (go_big_quiet_step (fail))
    refine wpQuiet_nil ?_
    refine wpF_call 37 Try.func37 (by kernel_rfl) (by kernel_rfl) _ _ #[.int .i64 (144)] rfl (by kernel_rfl) (by kernel_rfl) HS99.out (fun V100 hV => ?_)
    refine (rFromNd5 (144) _ (by omega) (by omega)).mono ?_
    rintro e W100 ⟨rfl, hb⟩
    have hb2 := ext_trans hV hb
    have t101 := Lib.hid (t99.out.keep hb2)
    clear t99
    have T1101 := Lib.hid (T199.out.keep hb2)
    clear T199
    have M1101 := Lib.hid (M199.out.keep hb2)
    clear M199
    have T2101 := Lib.hid (T299.out.keep hb2)
    clear T299
    have M2101 := Lib.hid (M299.out.keep hb2)
    clear M299
    have HB101 := Lib.hid (below_step HB99.out hb2)
    clear HB99
    have HS101 := Lib.hid (HS99.out.ext hb2)
    clear HS99
    refine ⟨_, rfl, hb, ?_⟩
    clear hb hb2 hV
    simp only [Act.put, List.setIfInBounds_toArray, List.set_cons_zero, List.set_cons_succ]
    have hq122 := run_eqE_same (ndZ (144))
    refine wpF_seg 20 (by kernel_rfl) ?_
    simp only [List.take_succ_cons, List.take_zero, List.drop_succ_cons, List.drop_zero]
    repeat (go_big_quiet_step (fail))
    refine wpQuiet_nil ?_
    refine wpF_call 37 Try.func37 (by kernel_rfl) (by kernel_rfl) _ _ #[.int .i64 (8)] rfl (by kernel_rfl) (by kernel_rfl) HS101.out (fun V102 hV => ?_)
    refine (rFromNd5 (8) _ (by omega) (by omega)).mono ?_
    rintro e W102 ⟨rfl, hb⟩
    have hb2 := ext_trans hV hb
    have t103 := Lib.hid (t101.out.keep hb2)
    clear t101
    have T1103 := Lib.hid (T1101.out.keep hb2)
    clear T1101
    have M1103 := Lib.hid (M1101.out.keep hb2)
    clear M1101
    have T2103 := Lib.hid (T2101.out.keep hb2)
    clear T2101
    have M2103 := Lib.hid (M2101.out.keep hb2)
    clear M2101
    have HB103 := Lib.hid (below_step HB101.out hb2)
    clear HB101
    have HS103 := Lib.hid (HS101.out.ext hb2)
    clear HS101
    refine ⟨_, rfl, hb, ?_⟩
    clear hb hb2 hV
    simp only [Act.put, List.setIfInBounds_toArray, List.set_cons_zero, List.set_cons_succ]
    have hq143 := run_eqE_same (ndZ (8))
    refine wpF_seg 8 (by kernel_rfl) ?_
    simp only [List.take_succ_cons, List.take_zero, List.drop_succ_cons, List.drop_zero]
    repeat (go_big_quiet_step (fail))
    refine wpQuiet_nil ?_
    refine wpF_call 19 Try.func19 (by kernel_rfl) (by kernel_rfl) _ _ #[.agg #[.slice (some ⟨bT1, 0, none⟩) 1 1, .slice (some ⟨bM1, 0, none⟩) 1 1]] rfl (by kernel_rfl) (by kernel_rfl) HS103.out (fun V104 hV => ?_)
    refine (sDegree_as (.slice (some ⟨bT1, 0, none⟩) 1 1) (some ⟨bM1, 0, none⟩) 1 1 (rawT exO) 1 _ (M1103.out.keep hV) ⟨_, _, _, rfl⟩ ex_degO).mono ?_
    rintro e W104 ⟨rfl, hb⟩
    have hb2 := ext_trans hV hb
    have t105 := Lib.hid (t103.out.keep hb2)
    clear t103
    have T1105 := Lib.hid (T1103.out.keep hb2)
    clear T1103
    have M1105 := Lib.hid (M1103.out.keep hb2)
    clear M1103
    have T2105 := Lib.hid (T2103.out.keep hb2)
    clear T2103
    have M2105 := Lib.hid (M2103.out.keep hb2)
    clear M2103
    have HB105 := Lib.hid (below_step HB103.out hb2)
    clear HB103
    have HS105 := Lib.hid (HS103.out.ext hb2)
    clear HS103
    refine ⟨_, rfl, hb, ?_⟩
    clear hb hb2 hV
    simp only [Act.put, List.setIfInBounds_toArray, List.set_cons_zero, List.set_cons_succ]
    refine wpF_seg 4 (by kernel_rfl) ?_
    simp only [List.take_succ_cons, List.take_zero, List.drop_succ_cons, List.drop_zero]
    repeat (go_big_quiet_step (fail))
    refine wpQuiet_nil ?_
    refine wpF_call 19 Try.func19 (by kernel_rfl) (by kernel_rfl) _ _ #[.agg #[.slice (some ⟨bT2, 0, none⟩) 1 1, .slice (some ⟨bM2, 0, none⟩) 1 1]] rfl (by kernel_rfl) (by kernel_rfl) HS105.out (fun V106 hV => ?_)
    refine (sDegree_as (.slice (some ⟨bT2, 0, none⟩) 1 1) (some ⟨bM2, 0, none⟩) 1 1 (rawT exW) 2 _ (M2105.out.keep hV) ⟨_, _, _, rfl⟩ ex_degW).mono ?_
    rintro e W106 ⟨rfl, hb⟩
    have hb2 := ext_trans hV hb
    have t107 := Lib.hid (t105.out.keep hb2)
    clear t105
    have T1107 := Lib.hid (T1105.out.keep hb2)
    clear T1105
    have M1107 := Lib.hid (M1105.out.keep hb2)
    clear M1105
    have T2107 := Lib.hid (T2105.out.keep hb2)
    clear T2105
    have M2107 := Lib.hid (M2105.out.keep hb2)
    clear M2105
    have HB107 := Lib.hid (below_step HB105.out hb2)
    clear HB105
    have HS107 := Lib.hid (HS105.out.ext hb2)
    clear HS105
    refine ⟨_, rfl, hb, ?_⟩
    clear hb hb2 hV
    simp only [Act.put, List.setIfInBounds_toArray, List.set_cons_zero, List.set_cons_succ]
    refine wpF_seg 4 (by kernel_rfl) ?_
    simp only [List.take_succ_cons, List.take_zero, List.drop_succ_cons, List.drop_zero]
    repeat (go_big_quiet_step (fail))
    refine wpQuiet_nil ?_
    refine wpF_call 10 Try.func10 (by kernel_rfl) (by kernel_rfl) _ _ #[.agg #[.slice (some ⟨bT2, 0, none⟩) 1 1, .slice (some ⟨bM2, 0, none⟩) 1 1]] rfl (by kernel_rfl) (by kernel_rfl) HS107.out (fun V108 hV => ?_)
    refine (sValid_as (some ⟨bT2, 0, none⟩) 1 1 (rawL [exT]) (some ⟨bM2, 0, none⟩) 1 1 ((rawT exW)) true _ (SW.of (T2107.out.keep hV)) (M2107.out.keep hV) (by rw [ex_okW.vs])).mono ?_
    rintro e W108 ⟨rfl, hb⟩
    have hb2 := ext_trans hV hb
    have t109 := Lib.hid (t107.out.keep hb2)
    clear t107
    have T1109 := Lib.hid (T1107.out.keep hb2)
    clear T1107
    have M1109 := Lib.hid (M1107.out.keep hb2)
    clear M1107
    have T2109 := Lib.hid (T2107.out.keep hb2)
    clear T2107
    have M2109 := Lib.hid (M2107.out.keep hb2)
    clear M2107
    have HB109 := Lib.hid (below_step HB107.out hb2)
    clear HB107
    have HS109 := Lib.hid (HS107.out.ext hb2)
    clear HS107
    refine ⟨_, rfl, hb, ?_⟩
    clear hb hb2 hV
    simp only [Act.put, List.setIfInBounds_toArray, List.set_cons_zero, List.set_cons_succ]
    refine wpF_seg 3 (by kernel_rfl) ?_
    simp only [List.take_succ_cons, List.take_zero, List.drop_succ_cons, List.drop_zero]
    repeat (go_big_quiet_step (fail))
    refine wpQuiet_nil ?_
    refine wpF_call 10 Try.func10 (by kernel_rfl) (by kernel_rfl) _ _ #[.agg #[.slice none 0 0, .slice none 0 0]] rfl (by kernel_rfl) (by kernel_rfl) HS109.out (fun V110 hV => ?_)
    refine (sValid_as none 0 0 (rawL []) none 0 0 ((rawT [])) false _ (SW.of (ST.nil _)) (SlM.nil _) rfl).mono ?_
    rintro e W110 ⟨rfl, hb⟩
    have hb2 := ext_trans hV hb
    have t111 := Lib.hid (t109.out.keep hb2)
    clear t109
    have T1111 := Lib.hid (T1109.out.keep hb2)
    clear T1109
    have M1111 := Lib.hid (M1109.out.keep hb2)
    clear M1109
    have T2111 := Lib.hid (T2109.out.keep hb2)
    clear T2109
    have M2111 := Lib.hid (M2109.out.keep hb2)
    clear M2109
    have HB111 := Lib.hid (below_step HB109.out hb2)
    clear HB109
    have HS111 := Lib.hid (HS109.out.ext hb2)
    clear HS109
    refine ⟨_, rfl, hb, ?_⟩
    clear hb hb2 hV
    simp only [Act.put, List.setIfInBounds_toArray, List.set_cons_zero, List.set_cons_succ]
    refine wpF_seg 5 (by kernel_rfl) ?_
    simp only [List.take_succ_cons, List.take_zero, List.drop_succ_cons, List.drop_zero]
    repeat (go_big_quiet_step (fail))
    refine wpQuiet_nil ?_
    refine wpF_tabs1 At 3 ct rfl rfl (by kernel_rfl) (fun b112 V112 hb hg => ?_)
    have t113 := Lib.hid (t111.out.keep hb)
    clear t111
    have T1113 := Lib.hid (T1111.out.keep hb)
    clear T1111
    have M1113 := Lib.hid (M1111.out.keep hb)
    clear M1111
    have T2113 := Lib.hid (T2111.out.keep hb)
    clear T2111
    have M2113 := Lib.hid (M2111.out.keep hb)
    clear M2111
    have HB113 := Lib.hid (below_step HB111.out hb)
    clear HB111
    have HS113 := Lib.hid (HS111.out.ext hb)
    clear HS111
    clear hb
    have O63_114 := Lib.hid hg
    clear hg
    simp only [Act.put, List.setIfInBounds_toArray, List.set_cons_zero, List.set_cons_succ]
    have ht := ST.one O63_114.out ((t113.out.take (show 3 ≤ 4 by omega)).cast (rfl : _ = [ndZ (1), ndZ (2), ndZ (3)]))
    have T63_115 := Lib.hid ht
    clear ht
    clear O63_114
    refine wpF_seg 1 (by kernel_rfl) ?_
    simp only [List.take_succ_cons, List.take_zero, List.drop_succ_cons, List.drop_zero]
    repeat (go_big_quiet_step (fail))
    refine wpQuiet_nil ?_
    refine wpF_call 10 Try.func10 (by kernel_rfl) (by kernel_rfl) _ _ #[.agg #[.slice (some ⟨b112, 0, none⟩) 1 1, .slice none 0 0]] rfl (by kernel_rfl) (by kernel_rfl) HS113.out (fun V116 hV => ?_)
    refine (sValid_as (some ⟨b112, 0, none⟩) 1 1 (rawL [[ndZ (1), ndZ (2), ndZ (3)]]) none 0 0 ((rawT [])) false _ (SW.of (T63_115.out.keep hV)) (SlM.nil _) ex_val3).mono ?_
    rintro e W116 ⟨rfl, hb⟩
    have hb2 := ext_trans hV hb
    have t117 := Lib.hid (t113.out.keep hb2)
    clear t113
    have T1117 := Lib.hid (T1113.out.keep hb2)
    clear T1113
    have M1117 := Lib.hid (M1113.out.keep hb2)
    clear M1113
    have T2117 := Lib.hid (T2113.out.keep hb2)
    clear T2113
    have M2117 := Lib.hid (M2113.out.keep hb2)
    clear M2113
    have T63_117 := Lib.hid (T63_115.out.keep hb2)
    clear T63_115
    have HB117 := Lib.hid (below_step HB113.out hb2)
    clear HB113
    have HS117 := Lib.hid (HS113.out.ext hb2)
    clear HS113
    refine ⟨_, rfl, hb, ?_⟩
    clear hb hb2 hV
    simp only [Act.put, List.setIfInBounds_toArray, List.set_cons_zero, List.set_cons_succ]
    clear T63_117
    refine wpF_seg 4 (by kernel_rfl) ?_
    simp only [List.take_succ_cons, List.take_zero, List.drop_succ_cons, List.drop_zero]
    repeat (go_big_quiet_step (fail))
    refine wpQuiet_nil ?_
    refine wpF_tabs1 At 4 ct rfl rfl (by kernel_rfl) (fun b118 V118 hb hg => ?_)
    have t119 := Lib.hid (t117.out.keep hb)
    clear t117
    have T1119 := Lib.hid (T1117.out.keep hb)
    clear T1117
    have M1119 := Lib.hid (M1117.out.keep hb)
    clear M1117
    have T2119 := Lib.hid (T2117.out.keep hb)
    clear T2117
    have M2119 := Lib.hid (M2117.out.keep hb)
    clear M2117
    have HB119 := Lib.hid (below_step HB117.out hb)
    clear HB117
    have HS119 := Lib.hid (HS117.out.ext hb)
    clear HS117
    clear hb
    have O65_120 := Lib.hid hg
    clear hg
    simp only [Act.put, List.setIfInBounds_toArray, List.set_cons_zero, List.set_cons_succ]
    have ht := ST.one O65_120.out t119.out
    have T65_121 := Lib.hid ht
    clear ht
    clear O65_120
    refine wpF_idx1 1 rfl rfl (by kernel_rfl) (fun b122 V122 hb hg => ?_)
    have t123 := Lib.hid (t119.out.keep hb)
    clear t119
    have T1123 := Lib.hid (T1119.out.keep hb)
    clear T1119
    have M1123 := Lib.hid (M1119.out.keep hb)
    clear M1119
    have T2123 := Lib.hid (T2119.out.keep hb)
    clear T2119
    have M2123 := Lib.hid (M2119.out.keep hb)
    clear M2119
    have T65_123 := Lib.hid (T65_121.out.keep hb)
    clear T65_121
    have HB123 := Lib.hid (below_step HB119.out hb)
    clear HB119
    have HS123 := Lib.hid (HS119.out.ext hb)
    clear HS119
    clear hb
    have O66_124 := Lib.hid hg
    clear hg
    simp only [Act.put, List.setIfInBounds_toArray, List.set_cons_zero, List.set_cons_succ]
    have ht := SiZ.one O66_124.out
    have I66_125 := Lib.hid ht
    clear ht
    clear O66_124
    refine wpF_seg 1 (by kernel_rfl) ?_
    simp only [List.take_succ_cons, List.take_zero, List.drop_succ_cons, List.drop_zero]
    repeat (go_big_quiet_step (fail))
    refine wpQuiet_nil ?_
    refine wpF_term1 0 0 (some ⟨b122, 0, none⟩) 1 1 rfl rfl (by kernel_rfl) (fun b126 V126 hb hg => ?_)
    have t127 := Lib.hid (t123.out.keep hb)
    clear t123
    have T1127 := Lib.hid (T1123.out.keep hb)
    clear T1123
    have M1127 := Lib.hid (M1123.out.keep hb)
    clear M1123
    have T2127 := Lib.hid (T2123.out.keep hb)
    clear T2123
    have M2127 := Lib.hid (M2123.out.keep hb)
    clear M2123
    have T65_127 := Lib.hid (T65_123.out.keep hb)
    clear T65_123
    have I66_127 := Lib.hid (I66_125.out.keep hb)
    clear I66_125
    have HB127 := Lib.hid (below_step HB123.out hb)
    clear HB123
    have HS127 := Lib.hid (HS123.out.ext hb)
    clear HS123
    clear hb
    have O67_128 := Lib.hid hg
    clear hg
    simp only [Act.put, List.setIfInBounds_toArray, List.set_cons_zero, List.set_cons_succ]
    have ht := SlM.one O67_128.out I66_127.out
    have M67_129 := Lib.hid ht
    clear ht
    clear O67_128
    clear I66_127
    refine wpF_seg 1 (by kernel_rfl) ?_
    simp only [List.take_succ_cons, List.take_zero, List.drop_succ_cons, List.drop_zero]
    repeat (go_big_quiet_step (fail))
    refine wpQuiet_nil ?_
    refine wpF_call 10 Try.func10 (by kernel_rfl) (by kernel_rfl) _ _ #[.agg #[.slice (some ⟨b118, 0, none⟩) 1 1, .slice (some ⟨b126, 0, none⟩) 1 1]] rfl (by kernel_rfl) (by kernel_rfl) HS127.out (fun V130 hV => ?_)
    refine (sValid_as (some ⟨b118, 0, none⟩) 1 1 (rawL [exT]) (some ⟨b126, 0, none⟩) 1 1 ([(0, 0, [1])]) false _ (SW.of (T65_127.out.keep hV)) (M67_129.out.keep hV) ex_valI).mono ?_
    rintro e W130 ⟨rfl, hb⟩
    have hb2 := ext_trans hV hb
    have t131 := Lib.hid (t127.out.keep hb2)
    clear t127
    have T1131 := Lib.hid (T1127.out.keep hb2)
    clear T1127
    have M1131 := Lib.hid (M1127.out.keep hb2)
    clear M1127
    have T2131 := Lib.hid (T2127.out.keep hb2)
    clear T2127
    have M2131 := Lib.hid (M2127.out.keep hb2)
    clear M2127
    have T65_131 := Lib.hid (T65_127.out.keep hb2)
    clear T65_127
    have M67_131 := Lib.hid (M67_129.out.keep hb2)
    clear M67_129
    have HB131 := Lib.hid (below_step HB127.out hb2)
    clear HB127
    have HS131 := Lib.hid (HS127.out.ext hb2)
    clear HS127
    refine ⟨_, rfl, hb, ?_⟩
    clear hb hb2 hV
    simp only [Act.put, List.setIfInBounds_toArray, List.set_cons_zero, List.set_cons_succ]
    clear T65_131
    clear M67_131
    refine wpF_seg 4 (by kernel_rfl) ?_
    simp only [List.take_succ_cons, List.take_zero, List.drop_succ_cons, List.drop_zero]
    repeat (go_big_quiet_step (fail))
    refine wpQuiet_nil ?_
    refine wpF_ints1 7 rfl (by kernel_rfl) (fun b132 V132 hb hg => ?_)
    have t133 := Lib.hid (t131.out.keep hb)
    clear t131
    have T1133 := Lib.hid (T1131.out.keep hb)
    clear T1131
    have M1133 := Lib.hid (M1131.out.keep hb)
    clear M1131
    have T2133 := Lib.hid (T2131.out.keep hb)
    clear T2131
    have M2133 := Lib.hid (M2131.out.keep hb)
    clear M2131
    have HB133 := Lib.hid (below_step HB131.out hb)
    clear HB131
    have HS133 := Lib.hid (HS131.out.ext hb)
    clear HS131
    clear hb
    have Z69_134 := Lib.hid hg
    clear hg
    simp only [Act.put, List.setIfInBounds_toArray, List.set_cons_zero, List.set_cons_succ]
    refine wpF_call 38 Try.func38 (by kernel_rfl) (by kernel_rfl) _ _ #[.slice (some ⟨b132, 0, none⟩) 1 1] rfl (by kernel_rfl) (by kernel_rfl) HS133.out (fun V135 hV => ?_)
    refine (ints6_any (some ⟨b132, 0, none⟩) 1 1 [7] _ (Z69_134.out.keep hV) (by intro z hz'; simp at hz'; omega) (by omega)).mono ?_
    rintro e W135 ⟨A70, c70, rfl, hs, hb⟩
    have hb2 := ext_trans hV hb
    have t136 := Lib.hid (t133.out.keep hb2)
    clear t133
    have T1136 := Lib.hid (T1133.out.keep hb2)
    clear T1133
    have M1136 := Lib.hid (M1133.out.keep hb2)
    clear M1133
    have T2136 := Lib.hid (T2133.out.keep hb2)
    clear T2133
    have M2136 := Lib.hid (M2133.out.keep hb2)
    clear M2133
    have Z69_136 := Lib.hid (Z69_134.out.keep hb2)
    clear Z69_134
    have HB136 := Lib.hid (below_step HB133.out hb2)
    clear HB133
    have HS136 := Lib.hid (HS133.out.ext hb2)
    clear HS133
    have L70_137 := Lib.hid hs
    clear hs
    refine ⟨_, rfl, hb, ?_⟩
    clear hb hb2 hV
    simp only [Act.put, List.setIfInBounds_toArray, List.set_cons_zero, List.set_cons_succ]
    clear Z69_136
    refine wpF_call 23 Try.func23 (by kernel_rfl) (by kernel_rfl) _ _ #[.agg #[.slice (some ⟨bT2, 0, none⟩) 1 1, .slice (some ⟨bM2, 0, none⟩) 1 1], .slice A70 1 c70] rfl (by kernel_rfl) (by kernel_rfl) HS136.out (fun V138 hV => ?_)
    refine (sFinal_as (some ⟨bT2, 0, none⟩) 1 1 (some ⟨bM2, 0, none⟩) 1 1 exW A70 1 c70 [ndZ (7)] (ndZ (49)) _ (M2136.out.keep hV) (L70_137.out.keep hV) (by decide) (by unfold InT; decide) ex_fin).mono ?_
    rintro e W138 ⟨rfl, hb⟩
    have hb2 := ext_trans hV hb
    have t139 := Lib.hid (t136.out.keep hb2)
    clear t136
    have T1139 := Lib.hid (T1136.out.keep hb2)
    clear T1136
    have M1139 := Lib.hid (M1136.out.keep hb2)
    clear M1136
    have T2139 := Lib.hid (T2136.out.keep hb2)
    clear T2136
    have M2139 := Lib.hid (M2136.out.keep hb2)
    clear M2136
    have L70_139 := Lib.hid (L70_137.out.keep hb2)
    clear L70_137
    have HB139 := Lib.hid (below_step HB136.out hb2)
    clear HB136
    have HS139 := Lib.hid (HS136.out.ext hb2)
    clear HS136
    refine ⟨_, rfl, hb, ?_⟩
    clear hb hb2 hV
    simp only [Act.put, List.setIfInBounds_toArray, List.set_cons_zero, List.set_cons_succ]
    clear L70_139
    refine wpF_call 37 Try.func37 (by kernel_rfl) (by kernel_rfl) _ _ #[.int .i64 (49)] rfl (by kernel_rfl) (by kernel_rfl) HS139.out (fun V140 hV => ?_)
    refine (rFromNd5 (49) _ (by omega) (by omega)).mono ?_
    rintro e W140 ⟨rfl, hb⟩
    have hb2 := ext_trans hV hb
    have t141 := Lib.hid (t139.out.keep hb2)
    clear t139
    have T1141 := Lib.hid (T1139.out.keep hb2)
    clear T1139
    have M1141 := Lib.hid (M1139.out.keep hb2)
    clear M1139
    have T2141 := Lib.hid (T2139.out.keep hb2)
    clear T2139
    have M2141 := Lib.hid (M2139.out.keep hb2)
    clear M2139
    have HB141 := Lib.hid (below_step HB139.out hb2)
    clear HB139
    have HS141 := Lib.hid (HS139.out.ext hb2)
    clear HS139
    refine ⟨_, rfl, hb, ?_⟩
    clear hb hb2 hV
    simp only [Act.put, List.setIfInBounds_toArray, List.set_cons_zero, List.set_cons_succ]
    have hq192 := run_eqE_same (ndZ (49))
    refine wpF_seg 3 (by kernel_rfl) ?_
    simp only [List.take_succ_cons, List.take_zero, List.drop_succ_cons, List.drop_zero]
    repeat (go_big_quiet_step (fail))
    refine wpQuiet_nil ?_
    refine wpF_nil (fun V142 hb => ?_)
    have t143 := Lib.hid (t141.out.keep hb)
    clear t141
    have T1143 := Lib.hid (T1141.out.keep hb)
    clear T1141
    have M1143 := Lib.hid (M1141.out.keep hb)
    clear M1141
    have T2143 := Lib.hid (T2141.out.keep hb)
    clear T2141
    have M2143 := Lib.hid (M2141.out.keep hb)
    clear M2141
    have HB143 := Lib.hid (below_step HB141.out hb)
    clear HB141
    clear hb
    go_wp2_with fail
    go_ret
    exact ⟨rfl, HB143.out⟩

end Go.Proofs.Ytombcjdhjcmhhaa
