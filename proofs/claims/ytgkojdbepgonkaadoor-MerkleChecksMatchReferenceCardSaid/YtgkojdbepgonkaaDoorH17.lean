/- Several texts in one: Mkt, Mkv, Mkd, Mkw. -/
import Derived.Test.YtgkojdbepgonkaaDoorH16
import Derived.Test.YtgkojdbepgonkaaDoorH14
import Derived.Laws.ResultCell
/- Bits, peaks: setBits, Bag, Push. -/
namespace Go.Proofs.YtgkojdbepgonkaaDoor
set_option maxRecDepth 8000
set_option linter.unusedVariables false
set_option linter.unusedSimpArgs false
open Go.RowKit
attribute [local simp] z32_ne z32_run
attribute [-simp] Tryd.zeroValue34 Tryd.isAgg34 Tryd.sizeOf34
theorem bits_and_i64 (a b : Nat) (ha : a < 2 ^ 62) (hb : b < 2 ^ 62) : bits .and .i64 (a : Int) (b : Int) = ((a &&& b : Nat) : Int) := by
  have hx : a &&& b < 2 ^ 63 := Nat.and_lt_two_pow _ (by omega)
  have h1 : (BitVec.ofInt 64 (a : Int)).toNat = a := by rw [BitVec.toNat_ofInt]; omega
  have h2 : (BitVec.ofInt 64 (b : Int)).toNat = b := by rw [BitVec.toNat_ofInt]; omega
  show IntKind.i64.wrap ((BitVec.ofInt 64 (a : Int) &&& BitVec.ofInt 64 (b : Int)).toNat : Int) = _
  rw [BitVec.toNat_and, h1, h2, IntKind.wrap_i64]
  omega
theorem setBits_any (n : Nat) (w : World) (hn : n ≤ 100000) :
    Calls Tryd.prog 61 #[.int .i64 (n : Int)] w fun e w' => e = .returned (.int .i64 ((onesN n : Nat) : Int)) ∧ w' = w := by
  go_enter Tryd.func61, Tryd.ntmps61
  go_wp2_with fail
  go_loopw [0, 3] (fun s t wr => ∃ m b : Nat, m ≤ n ∧ b + onesN m = onesN n ∧ s = .int .i64 m ∧ t = .int .i64 b ∧ wr = w) (fun s _ _ => (intOf s).toNat)
  case atStart => exact ⟨n, 0, Nat.le_refl _, Nat.zero_add _, rfl, rfl, rfl⟩
  case round =>
    obtain ⟨m, b, hm, hb, rfl, rfl, rfl⟩ := hrel
    have HBB := Lib.hid hb
    have hob := onesN_le n
    have hb2 : b ≤ 100000 := by omega
    clear hb hob
    by_cases h0 : m = 0
    · subst h0
      have e : onesN n = b := by have := HBB.out; rw [onesN_zero] at this; omega
      go_wp2_with fail
      go_ret
      first | exact ⟨rfl, rfl⟩ | (rw [e]; exact ⟨rfl, rfl⟩)
    · have h1 : (0 : Int) < (m : Int) := by omega
      have hs := ones_strike m (by omega)
      have hle : m &&& (m - 1) ≤ m - 1 := Nat.and_le_right
      have ha := bits_and_i64 m (m - 1) (by omega) (by omega)
      rw [show (((m - 1 : Nat)) : Int) = (m : Int) - 1 by omega] at ha
      obtain ⟨c, hc⟩ : ∃ c, m &&& (m - 1) = c := ⟨_, rfl⟩
      rw [hc] at ha hs hle
      have hw : IntKind.i64.wrap ((b : Int) + 1) = ((b + 1 : Nat) : Int) := by rw [IntKind.wrap_i64]; omega
      have hw2 : IntKind.i64.wrap ((m : Int) - 1) = (m : Int) - 1 := by rw [IntKind.wrap_i64]; omega
      have HS := Lib.hid hs
      clear hs hc
      go_wp2_with fail
      go_roundw
      case rel => exact ⟨c, b + 1, by omega, by have := HBB.out; have := HS.out; omega, by first | rfl | go_num, by first | rfl | go_num, by first | trivial | rfl⟩
      case measure => simp [intOf]; omega
theorem bagN_cons {d : List Nat} {P : List (List Nat)} (h : P ≠ []) : bagN (d :: P) = prN d (bagN P) := by
  match P, h with
  | e :: P, _ => rfl
theorem bagN_size : ∀ (P : List (List Nat)), (∀ d ∈ P, d.length = 32 ∧ ∀ x ∈ d, x < 256) → (bagN P).length = 32 ∧ ∀ x ∈ bagN P, x < 256
  | [], _ => ⟨List.length_replicate, fun x hx => by rw [(List.mem_replicate.1 hx).2]; decide⟩
  | [d], h => h d List.mem_cons_self
  | d :: e :: P, _ => ⟨prN_length _ _, prN_lt _ _⟩
theorem exec_buildZ {ev : Operand → Value} {o : Oper} (w : World) (ho : o.op = .build 34 #[]) : (execOp ev o).run Tryd.prog w = .ok (.value (.agg (celB (List.replicate 32 0)).toArray)) w := by
  unfold execOp
  rw [ho]
  go_simp
  rfl
set_option maxHeartbeats 2000000 in
theorem bag_any (A : Option Addr) (n c : Nat) (Ds : List (List Nat)) (w : World) (h : Db w A n c Ds) (hn : n ≤ 100000) (hG : Gl w) (R : List Nat) (hR : bagN Ds = R) :
    Calls Tryd.prog 50 #[.slice A n c] w fun e w' => e = .returned (.agg (celB R).toArray) ∧ Below w.heap.size w w' := by
  obtain ⟨hr32, _⟩ := bagN_size Ds h.dig
  rw [hR] at hr32
  have hlen := h.len
  have hcap := h.cap
  have htop := h.top
  have HD := Lib.hid h
  have HG := Lib.hid hG
  have HR := Lib.hid hR
  have HLN := Lib.hid hlen
  have HGw := Lib.hid hG
  have HDw := Lib.hid h
  clear h hG hR hlen
  go_enter Tryd.func50, Tryd.ntmps50
  go_upto_region 1 with fail
  refine wp_named1 (fun w1 hb1 g0 hlt1 => ?_)
  have H0 : Hid (RowB w1 34 w.heap.size (List.replicate 32 0)) := Lib.hid g0
  have HB1 := Lib.hid hb1
  have HD1 := Lib.hid (HD.out.keep hb1)
  have HG1 := Lib.hid (HG.out.keep hb1)
  clear g0 hb1 HD HG
  by_cases hn0 : n = 0
  · subst hn0
    obtain rfl : Ds = [] := List.length_eq_zero_iff.1 HLN.out.symm
    obtain rfl : List.replicate 32 0 = R := HR.out
    go_upto_region 2 with fail
    refine wp_region_lit ?_
    refine wpList_val rfl _ w1 (exec_buildZ w1 rfl) ?_
    simp only [Act.put, List.setIfInBounds_toArray, List.set_cons_zero, List.set_cons_succ]
    refine wpList_skip0 rfl _ (exec_storeD List.length_replicate List.length_replicate H0.out rfl rfl rfl) ?_
    refine wpList_nil ?_
    simp only [Act.put]
    go_wp2_with fail
    refine bodyPost_ret (v := .agg (celB (List.replicate 32 0)).toArray) ?_ rfl ⟨rfl, bel_setRow HB1.out (Nat.le_refl _) _⟩
    exact results_cell_row rfl _ _ w.heap.size 34 _ (0, 0) _ rfl (H0.out.row (List.replicate 32 0)) Tryd.underlying34 rfl (dig_size List.length_replicate)
  · have hni : ¬ ((n : Int) = 0) := by omega
    obtain ⟨g, o, rfl⟩ := HD1.out.some_ (by omega)
    have hw : IntKind.i64.wrap ((n : Int) - 1) = ((n - 1 : Nat) : Int) := by rw [IntKind.wrap_i64]; omega
    have hlt : n - 1 < Ds.length := by have := HLN.out; omega
    obtain ⟨d, hd⟩ : ∃ d, Ds[n - 1]? = some d := ⟨_, List.getElem?_eq_getElem hlt⟩
    obtain ⟨hd32, hdb⟩ := HD1.out.dig d (List.mem_of_getElem? hd)
    obtain ⟨g', o', e, hr⟩ := HD1.out.cells _ _ hd
    injection e with e
    injection e with e1 e2
    subst e1 e2
    have hdr : Ds.drop (n - 1) = [d] := by
      rw [List.drop_eq_getElem_cons hlt, List.drop_of_length_le (by have := HLN.out; omega)]
      rw [List.getElem?_eq_getElem hlt] at hd
      injection hd with hd
      rw [hd]
    have HRG := Lib.hid hr
    clear hr hd
    go_upto_region 4 with fail
    refine wp_region_lit ?_
    refine wpList_val rfl (.slice (some ⟨g, o, none⟩) n c) w1 rfl ?_
    simp only [Act.put, List.setIfInBounds_toArray, List.set_cons_zero, List.set_cons_succ]
    refine wpList_val rfl (.int .i64 ((n - 1 : Nat) : Int)) w1 rfl ?_
    simp only [Act.put, List.setIfInBounds_toArray, List.set_cons_zero, List.set_cons_succ]
    refine wpList_val rfl (.pointer (some ⟨g, o + 32 * (n - 1), none⟩)) w1 (exec_idxM w1 g o n c (n - 1) (by omega) rfl rfl rfl) ?_
    simp only [Act.put, List.setIfInBounds_toArray, List.set_cons_zero, List.set_cons_succ]
    refine wpList_val rfl (.agg (celB d).toArray) w1 (exec_loadM g (o + 32 * (n - 1)) hd32 HRG.out rfl rfl) ?_
    simp only [Act.put, List.setIfInBounds_toArray, List.set_cons_zero, List.set_cons_succ]
    refine wpList_val rfl (ptr w1.heap.size) (w1.alloc (.cells z32 34)) (run_allocD _ _ w1 rfl) ?_
    simp only [Act.put, List.setIfInBounds_toArray, List.set_cons_zero, List.set_cons_succ]
    have H1 : Hid (RowB (w1.alloc (.cells z32 34)) 34 w1.heap.size (List.replicate 32 0)) := Lib.hid (heap_new w1 _)
    have hb2 : Below w1.heap.size w1 (w1.alloc (.cells z32 34)) := (Below.refl _ _).alloc (Nat.le_refl _) _
    refine wpList_skip0 rfl _ (exec_storeD hd32 List.length_replicate H1.out rfl rfl rfl) ?_
    refine wpList_nil ?_
    simp only [Act.put, ptr]
    have HB3 := Lib.hid (bel_setRow hb2 (Nat.le_refl _) (celB d).toArray)
    have H13 := Lib.hid (H1.out.row d)
    clear H1 hb2
    obtain ⟨w3, hw3⟩ : ∃ w3, (w1.alloc (.cells z32 34)).setRow w1.heap.size (celB d).toArray = w3 := ⟨_, rfl⟩
    rw [hw3] at HB3 H13 ⊢
    clear hw3
    have H03 := Lib.hid (H0.out.keep HB3.out)
    have HD3 := Lib.hid (HD1.out.keep HB3.out)
    have HG3 := Lib.hid (HG1.out.keep HB3.out)
    have HBw3 := Lib.hid (bel_step HB1.out HB3.out)
    obtain ⟨bd, hbd⟩ : ∃ bd, w1.heap.size = bd := ⟨_, rfl⟩
    rw [hbd] at H13 hlt1 ⊢
    clear H0 HD1 HG1 HB1 HB3 HRG hbd
    have HI : Hid (RowB w3 34 bd (bagN (Ds.drop (n - 1)))) := Lib.hid (by rw [hdr]; exact H13.out)
    clear H13 hdr
    have hcast : IntKind.i64.wrap (((n - 1 : Nat) : Int) - 1) = ((n - 1 : Nat) : Int) - 1 := by rw [IntKind.wrap_i64]; omega
    go_wp2_with fail
    clear hcast hw
    go_loopw [5] (fun s wr => ∃ p : Nat, p ≤ n - 1 ∧ s = .int .i64 ((p : Int) - 1) ∧ Below w.heap.size w wr ∧ RowB wr 34 w.heap.size (List.replicate 32 0) ∧ RowB wr 34 bd (bagN (Ds.drop p))) (fun s _ => ((intOf s) + 1).toNat)
    case atStart => exact ⟨n - 1, Nat.le_refl _, rfl, HBw3.out, H03.out, HI.out⟩
    case round =>
      clear HBw3 H03 HD3 HI HG3
      obtain ⟨p, hp, rfl, h1, h2, h4⟩ := hrel
      have h3 := HDw.out.keep h1
      have HB := Lib.hid h1
      have H0 := Lib.hid h2
      have HD := Lib.hid h3
      have HG := Lib.hid (HGw.out.keep h1)
      obtain ⟨acc, hacc⟩ : ∃ acc, bagN (Ds.drop p) = acc := ⟨_, rfl⟩
      obtain ⟨ha32, hab⟩ := bagN_size (Ds.drop p) (fun d hd => h3.dig d (List.mem_of_mem_drop hd))
      rw [hacc] at h4 ha32 hab
      have HACC := Lib.hid hacc
      have HI := Lib.hid h4
      clear h1 h2 h3 h4 hacc
      by_cases hp0 : p = 0
      · subst hp0
        obtain rfl : acc = R := by have := HACC.out; rw [List.drop_zero, HR.out] at this; exact this.symm
        go_upto_region 9 with fail
        refine wp_region_lit ?_
        refine wpList_val rfl (.agg (celB acc).toArray) wr (exec_loadD ha32 HI.out rfl rfl) ?_
        simp only [Act.put, List.setIfInBounds_toArray, List.set_cons_zero, List.set_cons_succ]
        refine wpList_skip0 rfl _ (exec_storeD ha32 List.length_replicate H0.out rfl rfl rfl) ?_
        refine wpList_nil ?_
        simp only [Act.put]
        go_wp2_with fail
        refine bodyPost_ret (v := .agg (celB acc).toArray) ?_ rfl ⟨rfl, bel_setRow HB.out (Nat.le_refl _) _⟩
        exact results_cell_row rfl _ _ w.heap.size 34 _ (0, 0) _ rfl (H0.out.row acc) Tryd.underlying34 rfl (dig_size ha32)
      · obtain ⟨p, rfl⟩ : ∃ j, p = j + 1 := ⟨p - 1, by omega⟩
        have hge : (0 : Int) ≤ ((p + 1 : Nat) : Int) - 1 := by omega
        have hpl : p < Ds.length := by have := HLN.out; omega
        obtain ⟨d2, hd2⟩ : ∃ d, Ds[p]? = some d := ⟨_, List.getElem?_eq_getElem hpl⟩
        obtain ⟨hd232, hd2b⟩ := HD.out.dig d2 (List.mem_of_getElem? hd2)
        obtain ⟨g', o', e, hr⟩ := HD.out.cells _ _ hd2
        injection e with e
        injection e with e1 e2
        subst e1 e2
        obtain ⟨z, hz⟩ : ∃ z, prN d2 acc = z := ⟨_, rfl⟩
        have HST := Lib.hid (show bagN (Ds.drop p) = z by
          rw [List.drop_eq_getElem_cons hpl, bagN_cons (fun e => by have := congrArg List.length e; rw [List.length_drop] at this; simp at this; have := HLN.out; omega), HACC.out]
          rw [List.getElem?_eq_getElem hpl] at hd2
          injection hd2 with hd2
          rw [hd2]
          exact hz)
        have hz32 : z.length = 32 := by rw [← hz]; exact prN_length _ _
        have HZ := Lib.hid (show shaN (1 :: (d2 ++ acc)) = z from hz)
        have HRG := Lib.hid hr
        clear hz hr hd2
        go_upto_region 8 with fail
        refine Tl.wp_held_tailB 6 wr.heap.size (by kernel_rfl) (lexOK_of (by kernel_rfl) (by kernel_rfl)) (Tl.chainW_of (by kernel_rfl)) rfl (by kernel_rfl) (by kernel_rfl) (fun W0 hbW hSW => ?_)
        have HSW := Lib.hid hSW
        have HB0 := Lib.hid (bel_step HB.out hbW)
        have HI0 := Lib.hid (HI.out.keep hbW)
        have H00 := Lib.hid (H0.out.keep hbW)
        have HD0 := Lib.hid (HD.out.keep hbW)
        have hzz := hbW.size
        clear hSW hbW
        refine wpHeld_seg 5 HSW.out (by kernel_rfl) ?_
        simp only [List.take_succ_cons, List.take_zero, List.drop_succ_cons, List.drop_zero]
        iterate 2 (go_big_quiet_step (fail))
        refine wpQuiet_val (by kernel_rfl) (.pointer (some ⟨g, o + 32 * p, none⟩)) (fun v hv => exec_idxM v g o n c p (by omega) rfl rfl (by show Value.int .i64 (((p + 1 : Nat) : Int) - 1) = _; rw [show ((p + 1 : Nat) : Int) - 1 = (p : Int) by omega])) ?_
        simp only [Act.put, List.setIfInBounds_toArray, List.set_cons_zero, List.set_cons_succ]
        refine wpQuiet_val (by kernel_rfl) (.agg (celB d2).toArray) (fun v hv => exec_loadM g (o + 32 * p) hd232 (rangeAt_keep HRG.out (LaterB.of hv)) rfl rfl) ?_
        simp only [Act.put, List.setIfInBounds_toArray, List.set_cons_zero, List.set_cons_succ]
        refine wpQuiet_val (by kernel_rfl) (.agg (celB acc).toArray) (fun v hv => exec_loadD ha32 (HI.out.keep (LaterB.of hv)) rfl rfl) ?_
        simp only [Act.put, List.setIfInBounds_toArray, List.set_cons_zero, List.set_cons_succ]
        refine wpQuiet_nil ?_
        refine wpHeld_call 92 Tryd.func92 (by kernel_rfl) (by kernel_rfl) _ _ #[.agg (celB d2).toArray, .agg (celB acc).toArray] rfl (by kernel_rfl) (by kernel_rfl) ?_
        refine (pair_any d2 acc W0 hd232 ha32 hd2b hab (HGw.out.keep HB0.out) z HZ.out).mono ?_
        rintro e3 W6 ⟨rfl, hb6⟩
        have HI6 := Lib.hid (HI0.out.keep hb6)
        have H06 := Lib.hid (H00.out.keep hb6)
        have HD6 := Lib.hid (HD0.out.keep hb6)
        have HB6 := Lib.hid (bel_step HB0.out hb6)
        refine ⟨_, rfl, LaterB.step HSW.out (hb6.mono (by omega)), ?_⟩
        simp only [Act.put, List.setIfInBounds_toArray, List.set_cons_zero, List.set_cons_succ]
        refine wpHeld_nil ?_
        refine mOp_run0 _ rfl rfl (exec_storeD hz32 ha32 HI6.out rfl rfl rfl) ?_
        have hw2 : IntKind.i64.wrap (((p + 1 : Nat) : Int) - 1 - 1) = (p : Int) - 1 := by rw [IntKind.wrap_i64]; omega
        go_wp2_with fail
        go_roundw
        case rel => exact ⟨p, by omega, by first | rfl | go_num, bel_setRow HB6.out (by omega) _, (row_far (by omega) _).trans H06.out, by rw [HST.out]; exact HI6.out.row z⟩
        case measure => simp [intOf]
end Go.Proofs.YtgkojdbepgonkaaDoor

/- Push: a leaf is added to the peaks. -/
namespace Go.Proofs.YtgkojdbepgonkaaDoor
set_option linter.unusedVariables false
set_option linter.unusedSimpArgs false
set_option maxRecDepth 8000
open Go.RowKit
attribute [local simp] z32_ne z32_run
attribute [-simp] Tryd.zeroValue34 Tryd.isAgg34 Tryd.sizeOf34
/-- append to a slice without spare capacity -/
theorem Db.flat {w : World} {g o n c : Nat} {Ds : List (List Nat)} (h : Db w (some ⟨g, o, none⟩) n c Ds) (j : Nat) (u : Value) (hj : (celD Ds)[j]? = some u) : w.cell? ((⟨g, o, none⟩ : Addr).add j) = some u := by
  have hjl := (List.getElem?_eq_some_iff.1 hj).1
  have hll : (celD Ds).length = 32 * Ds.length := by
    unfold celD
    rw [celB_length, List.length_flatten, List.map_congr_left (g := fun _ => 32) (fun d hd => (h.dig d hd).1), List.map_const', List.sum_replicate_nat]
    omega
  have hi : j / 32 < Ds.length := by omega
  obtain ⟨d, hd⟩ : ∃ d, Ds[j / 32]? = some d := ⟨_, List.getElem?_eq_getElem hi⟩
  obtain ⟨g', o', e, hr⟩ := h.cells _ _ hd
  injection e with e
  injection e with e1 e2
  subst e1 e2
  have e3 := celD_at Ds (j / 32) d (fun d hd => (h.dig d hd).1) hd (j % 32) (by omega)
  rw [show 32 * (j / 32) + j % 32 = j by omega, hj] at e3
  have := hr (j % 32) u e3.symm
  rw [Addr.add_mid]
  rwa [show o + 32 * (j / 32) + j % 32 = o + j by omega] at this
theorem OwD.lower {w : World} {base base' : Nat} {v : Value} {n : Nat} {Ds : List (List Nat)} (h : OwD w base v n Ds) (hb : base' ≤ base) : OwD w base' v n Ds := by
  refine ⟨⟨h.1.1, ?_⟩, h.2⟩
  rcases h.1.2 with hn | ⟨g, cap, cur, rfl, hbs, rest⟩
  · exact .inl hn
  · exact .inr ⟨g, cap, cur, rfl, by omega, rest⟩
theorem Db.full {w : World} {A : Option Addr} {n c : Nat} {Ds : List (List Nat)} (h : Db w A n c Ds) : Db w A n n Ds :=
  ⟨h.len, Nat.le_refl _, by have := h.cap; have := h.top; omega, fun e => by have := h.nil e; have := h.cap; omega, h.dig, h.cells⟩
theorem exec_cut3 {ev : Operand → Value} {o : Oper} {x y z : Operand} (w : World) (A : Option Addr) (n c p : Nat) (hp : p ≤ c) (ho : o.op = .slice 26 x none (some y) (some z)) (hx : ev x = .slice A n c) (hy : ev y = .int .i64 ((p : Nat) : Int)) (hz : ev z = .int .i64 ((p : Nat) : Int)) :
    (execOp ev o).run Tryd.prog w = .ok (.value (.slice A p p)) w := by
  have h0 : (0 : Int) ≤ (p : Int) := by omega
  have h1 : (p : Int) ≤ (c : Int) := by omega
  unfold execOp
  simp only [ho, hx]
  go_simp
  simp only [Tryd.sizeOf34, Result.andThen]
theorem hOp_appendG {o : Oper} {a : Act} {w : World} {K : Value → World → Prop} (s x : Operand)
    (ho : o.op = .call { callee := .builtin .append, args := #[s, x], argTypes := #[26, 26] }) (A : Option Addr) (n : Nat) (Ds : List (List Nat)) (hs : a.eval s = .slice A n n) (hD : Db w A n n Ds)
    (g c : Nat) (d : List Nat) (hx : a.eval x = .slice (some ⟨g, 0, none⟩) 1 c) (hd : RowB w 34 g d) (hdl : d.length = 32) (hn : n ≤ 65536)
    (h : ∀ v' w', OwD w' w.heap.size v' (n + 1) (Ds ++ [d]) → Below w.heap.size w w' → K v' w') : hOp Tryd.prog o K a w := by
  obtain ⟨i, hi, hz, hs2, hb⟩ := info_parts dig_info
  have hcl : (celB d).length = 1 * 32 := by rw [celB_length, hdl]
  have hdig : ∀ z ∈ Ds ++ [d], z.length = 32 := fun z hz => by
    rcases List.mem_append.1 hz with hz | hz
    · exact (hD.dig z hz).1
    · rw [List.mem_singleton.1 hz]; exact hdl
  have hlen := hD.len
  obtain ⟨v', w', hrun, hown', hg⟩ : ∃ v' w', (Builtin.append_ #[26, 26] o.type #[.slice A n n, .slice (some ⟨g, 0, none⟩) 1 c]).run Tryd.prog w = .ok v' w' ∧ w'.ownsRow w.heap.size 34 32 v' (n + 1) (celD Ds ++ celB d) ∧ w.grownBy w' none := by
    cases A with
    | none =>
      obtain rfl : n = 0 := hD.nil rfl
      obtain rfl : Ds = [] := List.length_eq_zero_iff.1 hlen.symm
      obtain ⟨v', w', h1, h2, h3, _⟩ := run_append_own (P := Tryd.prog) w w.heap.size 26 o.type 34 i (.agg z32) 32 32 Tryd.underlying26 hi hz hs2 hb rfl (by omega) (.slice none 0 0) 0 [] (World.ownsRow_nil w _ _ _) ⟨g, 0, none⟩ 1 c (celB d) hcl (row_cells hd) (fun u hu => celB_one' hu) (by unfold maxLen; omega) (by omega) (Nat.le_refl _)
      exact ⟨v', w', h1, h2, h3⟩
    | some ad =>
      have hcs : ∀ j u, (celD Ds)[j]? = some u → w.cell? (ad.add j) = some u := by
        intro j u hj
        by_cases h0 : n = 0
        · obtain rfl : Ds = [] := List.length_eq_zero_iff.1 (by omega)
          cases hj
        · obtain ⟨g', o', e⟩ := hD.some_ (by omega)
          injection e with e
          subst e
          exact hD.flat j u hj
      have hll : (celD Ds).length = n * 32 := by
        unfold celD
        rw [celB_length, List.length_flatten, List.map_congr_left (g := fun _ => 32) (fun d hd => (hD.dig d hd).1), List.map_const', List.sum_replicate_nat, hlen]
      exact run_append_arg_grows (P := Tryd.prog) w 26 o.type 34 i (.agg z32) 32 32 Tryd.underlying26 hi hz hs2 hb rfl (by omega) ad n n (celD Ds) hll hcs ⟨g, 0, none⟩ 1 c (celB d) hcl (row_cells hd) (by omega) (by unfold maxLen; omega) (by omega)
  unfold hOp
  simp [execOp, ho, resolve, invoke, builtin, hs, hx, hrun, Result.andThen]
  refine h v' w' ⟨?_, hdig⟩ ⟨hg.os, hg.tape, hg.output, hg.size, fun k hk => hg.block k hk (fun e => by cases e)⟩
  rw [celD_append]
  exact hown'
set_option maxHeartbeats 2000000 in
theorem push_any (A : Option Addr) (n c : Nat) (Ds : List (List Nat)) (cnt : Nat) (B : Option Addr) (nb cb : Nat) (b : List Nat) (w : World) (h : Db w A n c Ds) (hn : n ≤ 60000) (hc : cnt ≤ 100000) (hB : Sb w B nb cb b) (hnb : nb ≤ 140737488351232) (hG : Gl w) :
    Calls Tryd.prog 48 #[.slice A n c, .int .i64 (cnt : Int), .slice B nb cb] w fun e w' => ∃ v, e = .returned v ∧ OwD w' w.heap.size v (pushN Ds cnt (lfN b)).length (pushN Ds cnt (lfN b)) ∧ Below w.heap.size w w' := by
  have hlen := h.len
  have hcap := h.cap
  have htop := h.top
  have hnil := h.nil
  have HD := Lib.hid h
  have HG := Lib.hid hG
  have HLN := Lib.hid hlen
  obtain ⟨q, hq⟩ : ∃ q, lfN b = q := ⟨_, rfl⟩
  have hq32 : q.length = 32 := by rw [← hq]; exact lfN_length b
  have hqb : ∀ z ∈ q, z < 256 := by rw [← hq]; exact lfN_lt b
  have HQ := Lib.hid (show shaN (0 :: b) = q from hq)
  rw [hq]
  clear h hG hlen hq
  obtain ⟨L, hL⟩ : ∃ L, pushN Ds cnt q = L := ⟨_, rfl⟩
  rw [hL]
  have HL := Lib.hid hL
  clear hL
  go_enter Tryd.func48, Tryd.ntmps48
  go_wp2_with fail
  refine (leaf_any B nb cb b w hB hnb HG.out q HQ.out).mono ?_
  rintro e2 W1 ⟨rfl, hb1⟩
  have H5 : Hid (RowB (W1.alloc (.cells z32 34)) 34 W1.heap.size (List.replicate 32 0)) := Lib.hid (heap_new W1 _)
  have hsc := run_storeB (P := Tryd.prog) (ws := q) H5.out (by rw [hq32, List.length_replicate])
  have hsz : (celB q).length = 32 := by rw [celB_length, hq32]
  go_wp2_with fail
  simp only [Tryd.sizeOf34, Result.andThen, ↓reduceIte, hsc]
  rw [Oper.upon_skip]
  have hb3 : Below W1.heap.size W1 ((W1.alloc (.cells z32 34)).setRow W1.heap.size (celB q).toArray) := bel_setRow ((Below.refl _ _).alloc (Nat.le_refl _) _) (Nat.le_refl _) _
  have H53 := Lib.hid (H5.out.row q)
  have hs2 := hb1.size
  clear hsc hsz H5 hB
  obtain ⟨W3, hW3⟩ : ∃ W3, (W1.alloc (.cells z32 34)).setRow W1.heap.size (celB q).toArray = W3 := ⟨_, rfl⟩
  rw [hW3] at hb3 H53 ⊢
  clear hW3
  have HB3 := Lib.hid (bel_step hb1 hb3)
  obtain ⟨bd, hbd⟩ : ∃ bd, W1.heap.size = bd := ⟨_, rfl⟩
  rw [hbd] at H53 hs2 ⊢
  clear hb1 hb3 hbd
  go_wp2_with fail
  go_loopw [1, 8] (fun s t wr => ∃ (m p : Nat) (d : List Nat), m ≤ 100000 ∧ p ≤ n ∧ s = .int .i64 m ∧ t = .int .i64 p ∧ Below w.heap.size w wr ∧ RowB wr 34 bd d ∧ (d.length = 32 ∧ ∀ z ∈ d, z < 256) ∧ pushN (Ds.take p) m d = L) (fun _ t _ => (intOf t).toNat)
  case atStart => exact ⟨cnt, n, q, hc, Nat.le_refl _, rfl, rfl, HB3.out, H53.out, ⟨hq32, hqb⟩, by rw [List.take_of_length_le (by have := HLN.out; omega)]; exact HL.out⟩
  case round =>
    clear HB3 H53
    obtain ⟨m, p, d, hm, hp, rfl, rfl, h1, h2, ⟨hd32, hdb⟩, h3⟩ := hrel
    have HB := Lib.hid h1
    have HI := Lib.hid h2
    have HS := Lib.hid h3
    have HDr := Lib.hid (HD.out.keep h1)
    have HGr := Lib.hid (HG.out.keep h1)
    clear h1 h2 h3
    have ha0 := bits_and_i64 m 1 (by omega) (by omega)
    rw [Nat.and_one_is_mod] at ha0
    have ha : bits .and .i64 (m : Int) 1 = ((m % 2 : Nat) : Int) := ha0
    clear ha0
    by_cases hodd : m % 2 = 1
    · have ha : bits .and .i64 (m : Int) 1 = 1 := by rw [ha, hodd]; rfl
      by_cases hp0 : p = 0
      · subst hp0
        have hgt : ¬ ((0 : Int) < ((0 : Nat) : Int)) := by omega
        have hstop : pushN (Ds.take 0) m d = Ds.take 0 ++ [d] := pushN_stop d (fun e => e.2 (by rw [List.take_zero]))
        have HL2 := Lib.hid (show L = Ds.take 0 ++ [d] by rw [← HS.out, hstop])
        have hp1 : ((0 : Nat) : Int) ≤ (c : Int) := by omega
        have hp2 : (0 : Int) ≤ ((0 : Nat) : Int) := by omega
        clear hstop
        go_upto_region 7 with fail
        refine wp_heldB wr.heap.size (by kernel_rfl) (lexOK_of (by kernel_rfl) (by kernel_rfl)) (chainOK_of (by kernel_rfl)) (fun W0 hbW hSW => ?_)
        have HSW := Lib.hid hSW
        have hzz := hbW.size
        have HB0 := Lib.hid (bel_step HB.out hbW)
        have HI0 := Lib.hid (HI.out.keep hbW)
        have HD0 := Lib.hid ((HDr.out.keep hbW).take (k := 0) (by omega)).full
        clear hSW hbW
        refine wpHeld_seg 5 HSW.out (by kernel_rfl) ?_
        simp only [List.take_succ_cons, List.take_zero, List.drop_succ_cons, List.drop_zero]
        iterate 3 (go_big_quiet_step (fail))
        refine wpQuiet_val (by kernel_rfl) (.slice A 0 0) (fun v hv => exec_cut3 v A n c 0 (by omega) rfl rfl rfl rfl) ?_
        simp only [Act.put, List.setIfInBounds_toArray, List.set_cons_zero, List.set_cons_succ]
        refine wpQuiet_val (by kernel_rfl) (.agg (celB d).toArray) (fun v hv => exec_loadD hd32 (HI.out.keep (LaterB.of hv)) rfl rfl) ?_
        simp only [Act.put, List.setIfInBounds_toArray, List.set_cons_zero, List.set_cons_succ]
        refine wpQuiet_nil ?_
        have hb4 : Below W0.heap.size W0 (W0.alloc (.cells (celB d).toArray 34)) := (Below.refl _ _).alloc (Nat.le_refl _) _
        have HRow := Lib.hid (show RowB (W0.alloc (.cells (celB d).toArray 34)) 34 W0.heap.size d from heap_new W0 _)
        have HS4 := Lib.hid (LaterB.step HSW.out (hb4.mono (by omega)))
        have HB4 := Lib.hid (bel_step HB0.out hb4)
        have HD4 := Lib.hid (HD0.out.keep hb4)
        refine wpHeld_run _ _ (by kernel_rfl) (by kernel_rfl) (run_buildS1 hd32 rfl rfl W0) HS4.out ?_
        simp only [Act.put, List.setIfInBounds_toArray, List.set_cons_zero, List.set_cons_succ]
        have hz4 := hb4.size
        clear hb4 HD0 HB0 HSW
        generalize W0.alloc (.cells (celB d).toArray 34) = W4 at *
        generalize W0.heap.size = q4 at *
        refine wpHeld_op (by kernel_rfl) (by kernel_rfl) ?_
        refine hOp_appendG (.tmp 33) (.tmp 35) rfl A 0 (Ds.take 0) rfl HD4.out q4 1 d rfl HRow.out hd32 (by omega) ?_
        intro v5 W5 ho5 hb5
        have HO5 := Lib.hid ho5
        have HB5 := Lib.hid (bel_step HB4.out hb5)
        refine ⟨LaterB.step HS4.out (hb5.mono (by omega)), ?_⟩
        simp only [Act.put, List.setIfInBounds_toArray, List.set_cons_zero, List.set_cons_succ]
        refine wpHeld_seg 1 (LaterB.step HS4.out (hb5.mono (by omega))) (by kernel_rfl) ?_
        simp only [List.take_succ_cons, List.take_zero, List.drop_succ_cons, List.drop_zero]
        go_big_quiet_step (fail)
        refine wpQuiet_nil (wpHeld_nil ?_)
        go_wp2_with fail
        go_ret
        have hll : L.length = 0 + 1 := by
          rw [HL2.out, List.length_append, List.length_take, List.length_singleton]
          have := HLN.out
          omega
        refine ⟨v5, rfl, ?_, HB5.out⟩
        rw [hll]
        have ho := HO5.out
        rw [← HL2.out] at ho
        exact ho.lower HB4.out.size
      · obtain ⟨p, rfl⟩ : ∃ j, p = j + 1 := ⟨p - 1, by omega⟩
        have hgt : (0 : Int) < ((p + 1 : Nat) : Int) := by omega
        have hw1 : IntKind.i64.wrap (((p + 1 : Nat) : Int) - 1) = (p : Int) := by rw [IntKind.wrap_i64]; omega
        have hcc : (p : Int) = ((p : Nat) : Int) := rfl
        have hpn : (p : Int) < (n : Int) := by omega
        have hpl : p < Ds.length := by have := HLN.out; omega
        obtain ⟨e, he⟩ : ∃ e, Ds[p]? = some e := ⟨_, List.getElem?_eq_getElem hpl⟩
        obtain ⟨he32, heb⟩ := HDr.out.dig e (List.mem_of_getElem? he)
        obtain ⟨g, o, rfl, hr⟩ := HDr.out.cells _ _ he
        obtain ⟨z, hz⟩ : ∃ z, prN e d = z := ⟨_, rfl⟩
        have hz32 : z.length = 32 := by rw [← hz]; exact prN_length _ _
        have hzb : ∀ x ∈ z, x < 256 := by rw [← hz]; exact prN_lt _ _
        have HST := Lib.hid (show pushN (Ds.take p) (m / 2) z = L by
          rw [← HS.out, List.take_add_one, he]
          show _ = pushN (Ds.take p ++ [e]) m d
          rw [pushN_join e d hodd, hz])
        have HZ := Lib.hid (show shaN (1 :: (e ++ d)) = z from hz)
        have HRG := Lib.hid hr
        clear hz hr he hcc
        go_upto_region 6 with fail
        refine Tl.wp_held_tailB 6 wr.heap.size (by kernel_rfl) (lexOK_of (by kernel_rfl) (by kernel_rfl)) (Tl.chainW_of (by kernel_rfl)) rfl (by kernel_rfl) (by kernel_rfl) (fun W0 hbW hSW => ?_)
        have HSW := Lib.hid hSW
        have HB0 := Lib.hid (bel_step HB.out hbW)
        have HI0 := Lib.hid (HI.out.keep hbW)
        have hzz := hbW.size
        clear hSW hbW
        refine wpHeld_seg 5 HSW.out (by kernel_rfl) ?_
        simp only [List.take_succ_cons, List.take_zero, List.drop_succ_cons, List.drop_zero]
        iterate 2 (go_big_quiet_step (fail))
        refine wpQuiet_val (by kernel_rfl) (.pointer (some ⟨g, o + 32 * p, none⟩)) (fun v hv => exec_idxM v g o n c p (by omega) rfl rfl rfl) ?_
        simp only [Act.put, List.setIfInBounds_toArray, List.set_cons_zero, List.set_cons_succ]
        refine wpQuiet_val (by kernel_rfl) (.agg (celB e).toArray) (fun v hv => exec_loadM g (o + 32 * p) he32 (rangeAt_keep HRG.out (LaterB.of hv)) rfl rfl) ?_
        simp only [Act.put, List.setIfInBounds_toArray, List.set_cons_zero, List.set_cons_succ]
        refine wpQuiet_val (by kernel_rfl) (.agg (celB d).toArray) (fun v hv => exec_loadD hd32 (HI.out.keep (LaterB.of hv)) rfl rfl) ?_
        simp only [Act.put, List.setIfInBounds_toArray, List.set_cons_zero, List.set_cons_succ]
        refine wpQuiet_nil ?_
        refine wpHeld_call 92 Tryd.func92 (by kernel_rfl) (by kernel_rfl) _ _ #[.agg (celB e).toArray, .agg (celB d).toArray] rfl (by kernel_rfl) (by kernel_rfl) ?_
        refine (pair_any e d W0 he32 hd32 heb hdb (HG.out.keep HB0.out) z HZ.out).mono ?_
        rintro e3 W6 ⟨rfl, hb6⟩
        have HI6 := Lib.hid (HI0.out.keep hb6)
        have HB6 := Lib.hid (bel_step HB0.out hb6)
        refine ⟨_, rfl, LaterB.step HSW.out (hb6.mono (by omega)), ?_⟩
        simp only [Act.put, List.setIfInBounds_toArray, List.set_cons_zero, List.set_cons_succ]
        refine wpHeld_nil ?_
        refine mOp_run0 _ rfl rfl (exec_storeD hz32 hd32 HI6.out rfl rfl rfl) ?_
        go_wp2_with fail
        exact ⟨⟨m / 2, p, z, by omega, by omega, congrArg (Value.int .i64) (by omega), rfl, bel_setRow HB6.out hs2 _, HI6.out.row z, ⟨hz32, hzb⟩, HST.out⟩, by simp [intOf]⟩
    · have ha : bits .and .i64 (m : Int) 1 = 0 := by rw [ha, show m % 2 = 0 by omega]; rfl
      have hstop : pushN (Ds.take p) m d = Ds.take p ++ [d] := pushN_stop d (fun e => hodd e.1)
      have HL2 := Lib.hid (show L = Ds.take p ++ [d] by rw [← HS.out, hstop])
      have hp1 : ((p : Nat) : Int) ≤ (c : Int) := by omega
      have hp2 : (0 : Int) ≤ ((p : Nat) : Int) := by omega
      clear hstop
      go_upto_region 7 with fail
      refine wp_heldB wr.heap.size (by kernel_rfl) (lexOK_of (by kernel_rfl) (by kernel_rfl)) (chainOK_of (by kernel_rfl)) (fun W0 hbW hSW => ?_)
      have HSW := Lib.hid hSW
      have hzz := hbW.size
      have HB0 := Lib.hid (bel_step HB.out hbW)
      have HI0 := Lib.hid (HI.out.keep hbW)
      have HD0 := Lib.hid ((HDr.out.keep hbW).take (k := p) (by omega)).full
      clear hSW hbW
      refine wpHeld_seg 5 HSW.out (by kernel_rfl) ?_
      simp only [List.take_succ_cons, List.take_zero, List.drop_succ_cons, List.drop_zero]
      iterate 3 (go_big_quiet_step (fail))
      refine wpQuiet_val (by kernel_rfl) (.slice A p p) (fun v hv => exec_cut3 v A n c p (by omega) rfl rfl rfl rfl) ?_
      simp only [Act.put, List.setIfInBounds_toArray, List.set_cons_zero, List.set_cons_succ]
      refine wpQuiet_val (by kernel_rfl) (.agg (celB d).toArray) (fun v hv => exec_loadD hd32 (HI.out.keep (LaterB.of hv)) rfl rfl) ?_
      simp only [Act.put, List.setIfInBounds_toArray, List.set_cons_zero, List.set_cons_succ]
      refine wpQuiet_nil ?_
      have hb4 : Below W0.heap.size W0 (W0.alloc (.cells (celB d).toArray 34)) := (Below.refl _ _).alloc (Nat.le_refl _) _
      have HRow := Lib.hid (show RowB (W0.alloc (.cells (celB d).toArray 34)) 34 W0.heap.size d from heap_new W0 _)
      have HS4 := Lib.hid (LaterB.step HSW.out (hb4.mono (by omega)))
      have HB4 := Lib.hid (bel_step HB0.out hb4)
      have HD4 := Lib.hid (HD0.out.keep hb4)
      refine wpHeld_run _ _ (by kernel_rfl) (by kernel_rfl) (run_buildS1 hd32 rfl rfl W0) HS4.out ?_
      simp only [Act.put, List.setIfInBounds_toArray, List.set_cons_zero, List.set_cons_succ]
      have hz4 := hb4.size
      clear hb4 HD0 HB0 HSW
      generalize W0.alloc (.cells (celB d).toArray 34) = W4 at *
      generalize W0.heap.size = q4 at *
      refine wpHeld_op (by kernel_rfl) (by kernel_rfl) ?_
      refine hOp_appendG (.tmp 33) (.tmp 35) rfl A p (Ds.take p) rfl HD4.out q4 1 d rfl HRow.out hd32 (by omega) ?_
      intro v5 W5 ho5 hb5
      have HO5 := Lib.hid ho5
      have HB5 := Lib.hid (bel_step HB4.out hb5)
      refine ⟨LaterB.step HS4.out (hb5.mono (by omega)), ?_⟩
      simp only [Act.put, List.setIfInBounds_toArray, List.set_cons_zero, List.set_cons_succ]
      refine wpHeld_seg 1 (LaterB.step HS4.out (hb5.mono (by omega))) (by kernel_rfl) ?_
      simp only [List.take_succ_cons, List.take_zero, List.drop_succ_cons, List.drop_zero]
      go_big_quiet_step (fail)
      refine wpQuiet_nil (wpHeld_nil ?_)
      go_wp2_with fail
      go_ret
      have hll : L.length = p + 1 := by
        rw [HL2.out, List.length_append, List.length_take, List.length_singleton]
        have := HLN.out
        omega
      refine ⟨v5, rfl, ?_, HB5.out⟩
      rw [hll]
      have ho := HO5.out
      rw [← HL2.out] at ho
      exact ho.lower HB4.out.size
end Go.Proofs.YtgkojdbepgonkaaDoor

/- The root, both sides. -/
namespace Go.Proofs.YtgkojdbepgonkaaDoor
set_option linter.unusedVariables false
set_option linter.unusedSimpArgs false
set_option maxRecDepth 8000
open Go.RowKit
attribute [local simp] z32_ne z32_run
attribute [-simp] Tryd.zeroValue34 Tryd.isAgg34 Tryd.sizeOf34
theorem results_row_tmp {P : Program} {fn : Func} {p u : Tmp} {ty : TypeId} (h : fn.results = #[.cell p ty, .tmp u]) (tmps : Array Value) (w : World) (g : Nat) (t : TypeId) (cs : Array Value) (fr : Nat × Nat) (d : TypeDesc) (v : Value)
    (hp : tmps.getD p undef = .pointer (some ⟨g, 0, none⟩)) (hv : tmps.getD u undef = v) (hg : w.heap[g]? = some (.cells cs t fr))
    (hu : P.underlying ty = some d) (hd : (match d with | .struct _ | .array _ _ => true | _ => false) = true) (hi : (P.info? ty).map (·.size) = some cs.size) :
    (results fn tmps).run P w = .ok (.tuple #[.agg cs, v]) w := by
  rw [results_cell_tmp h, hp, hv]
  simp [asAddr, Result.andThen, run_loadVar_row w g t ty cs fr d hg hu hd hi]
set_option maxHeartbeats 2000000 in
theorem root_yes (A : Option Addr) (n c : Nat) (Ls : List (List Nat)) (w : World) (h : Pb w A n c Ls) (hn1 : 1 ≤ n) (hn : n ≤ 65536) (hL : ∀ l ∈ Ls, l.length ≤ 140737488351232) (hG : Gl w) (R : List Nat) (hR : rootN Ls = R) :
    Calls Tryd.prog 45 #[.slice A n c] w fun e w' => e = .returned (.tuple #[.agg (celB R).toArray, .int .i64 0]) ∧ Below w.heap.size w w' := by
  have hl : R.length = 32 := by rw [← hR]; exact rootN_length (by have := h.len; omega)
  have HR := Lib.hid hR
  have HS := Lib.hid h
  have HLL := Lib.hid hL
  have HG := Lib.hid hG
  have hne : ¬ ((n : Int) = 0) := by omega
  have hgt : ¬ ((65536 : Int) < (n : Int)) := by omega
  clear h hG hL hR
  go_enter Tryd.func45, Tryd.ntmps45
  go_upto_region 1 with fail
  refine wp_named1 (fun w1 hb1 g0 hlt1 => ?_)
  have H0 : Hid (RowB w1 34 w.heap.size (List.replicate 32 0)) := Lib.hid g0
  have HB1 := Lib.hid hb1
  have HS1 := Lib.hid (HS.out.keep hb1)
  have HG1 := Lib.hid (HG.out.keep hb1)
  clear g0 hb1 HS HG
  go_wp2_with fail
  refine (mdigest_any n A n c Ls w1 HS1.out hn1 (Nat.le_refl _) hn HLL.out HG1.out R HR.out).mono ?_
  rintro e W2 ⟨rfl, hb⟩
  have H2 := Lib.hid (H0.out.keep hb)
  have HB2 := Lib.hid (bel_step HB1.out hb)
  clear hb H0 HB1 HS1 HG1
  have hsc := run_storeB (P := Tryd.prog) (ws := R) H2.out (by rw [hl, List.length_replicate])
  have hsz : (celB R).length = 32 := by rw [celB_length, hl]
  go_wp2_with fail
  simp only [Tryd.sizeOf34, Result.andThen, ↓reduceIte, hsc]
  rw [Oper.upon_skip]
  go_wp2_with fail
  refine bodyPost_ret (v := .tuple #[.agg (celB R).toArray, .int .i64 0]) ?_ rfl ⟨rfl, bel_setRow HB2.out (Nat.le_refl _) _⟩
  exact results_row_tmp rfl _ _ w.heap.size 34 _ (0, 0) _ _ rfl rfl (H2.out.row R) Tryd.underlying34 rfl (dig_size hl)
theorem size8_ok (n : Nat) (w : World) (hn1 : 1 ≤ n) (hn : n ≤ 65536) :
    Calls Tryd.prog 58 #[.int .i64 (n : Int)] w fun e w' => e = .returned (.int .i64 0) ∧ w' = w := by
  have h1 : ¬ ((n : Int) < 1) := by omega
  have h2 : ¬ ((65536 : Int) < (n : Int)) := by omega
  go_enter Tryd.func58, Tryd.ntmps58
  go_wp2_with fail
  go_ret
  exact ⟨rfl, rfl⟩
end Go.Proofs.YtgkojdbepgonkaaDoor

/- Open and Witness. -/
namespace Go.Proofs.YtgkojdbepgonkaaDoor
set_option linter.unusedVariables false
set_option linter.unusedSimpArgs false
set_option maxRecDepth 8000
open Go.RowKit
attribute [local simp] z32_ne z32_run
attribute [-simp] Tryd.zeroValue34 Tryd.isAgg34 Tryd.sizeOf34
theorem closedN_len : ∀ (s : Nat), 1 ≤ s → ∀ (f : Nat) (is : List Int), (closedN f s is).length ≤ s := by
  refine tree_ind ?_ ?_
  · intro f is
    by_cases h : is = []
    · subst h; rw [closedN_nil f (Nat.le_refl _)]; exact Nat.le_refl _
    · rw [closedN_one f h]; exact Nat.zero_le _
  · intro s hs hp hl ihl ihr f is
    by_cases h : is = []
    · subst h; rw [closedN_nil f (by omega)]; show 1 ≤ s; omega
    · rw [closedN_split f h hs, List.length_append]
      have := ihl f (is.take (belowN is ((f + leftN s : Nat) : Int)))
      have := ihr (f + leftN s) (is.drop (belowN is ((f + leftN s : Nat) : Int)))
      omega
theorem sibN_len : ∀ (s : Nat), 1 ≤ s → ∀ (f : Nat) (i : Int), (sibN f s i).length < s := by
  refine tree_ind ?_ ?_
  · intro f i; rw [sibN_one]; exact Nat.zero_lt_one
  · intro s hs hp hl ihl ihr f i
    by_cases h : i < ((f + leftN s : Nat) : Int)
    · rw [sibN_left f hs h, List.length_append]
      have := ihl f i
      simp
      omega
    · rw [sibN_right f hs h, List.length_append]
      have := ihr (f + leftN s) i
      simp
      omega
set_option maxHeartbeats 2000000 in
theorem open_any (A : Option Addr) (n c : Nat) (Ls : List (List Nat)) (I : Option Addr) (k d : Nat) (is : List Int) (w : World) (h : Pb w A n c Ls) (hi : Ib w I k d is) (hn1 : 1 ≤ n) (hn : n ≤ 65536) (hL : ∀ l ∈ Ls, l.length ≤ 140737488351232) (hG : Gl w) :
    Calls Tryd.prog 46 #[.slice A n c, .slice I k d] w fun e w' => (incF 0 (n : Int) is = true ∧ ∃ v, e = .returned (.tuple #[.agg #[v], .int .i64 0]) ∧ OwD w' w.heap.size v (closedN 0 n is).length (digsN Ls (closedN 0 n is)) ∧ Below w.heap.size w w') ∨
      (incF 0 (n : Int) is = false ∧ e = .returned (.tuple #[.agg #[.slice none 0 0], .int .i64 1]) ∧ Below w.heap.size w w') := by
  have HP := Lib.hid h
  have HI := Lib.hid hi
  have HL := Lib.hid hL
  have HG := Lib.hid hG
  have hni : ¬ ((n : Int) = 0) := by omega
  have hgt : ¬ ((65536 : Int) < (n : Int)) := by omega
  clear h hi hL hG
  go_enter Tryd.func46, Tryd.ntmps46
  go_upto_region 1 with fail
  refine wp_named1 (fun w1 hb1 g0 hlt1 => ?_)
  have HB1 := Lib.hid hb1
  have HP1 := Lib.hid (HP.out.keep hb1)
  have HI1 := Lib.hid (HI.out.keep hb1)
  have HG1 := Lib.hid (HG.out.keep hb1)
  have H0 : Hid (One w1 w.heap.size 28 (.slice none 0 0)) := Lib.hid g0
  have c0 := H0.out.c
  have f0 := H0.out.f
  clear g0 hb1 HP HI HG
  go_wp2_with fail
  refine (increasing_any I k d is (n : Int) w1 HI1.out (by omega)).mono ?_
  rintro e W1 ⟨rfl, rfl⟩
  by_cases hinc : incF 0 (n : Int) is = true
  · rw [hinc]
    go_wp2_with fail
    refine (whole_any n W1).mono ?_
    rintro e W2 ⟨rfl, hb2⟩
    have HP2 := Lib.hid (HP1.out.keep hb2)
    have HI2 := Lib.hid (HI1.out.keep hb2)
    have HG2 := Lib.hid (HG1.out.keep hb2)
    have H02 := Lib.hid (H0.out.keep hb2)
    have HB2 := Lib.hid (bel_step HB1.out hb2)
    clear hb2 HP1 HI1 HG1 H0 HB1
    go_wp2_with fail
    refine (closed_any 0 n I k d W2).mono ?_
    rintro e W3 ⟨b1, b2, rfl, hcl, hg1, hg2, hb3⟩
    have HP3 := Lib.hid (HP2.out.keep hb3)
    have HI3 := Lib.hid (HI2.out.keep hb3)
    have HG3 := Lib.hid (HG2.out.keep hb3)
    have H03 := Lib.hid (H02.out.keep hb3)
    have HB3 := Lib.hid (bel_step HB2.out hb3)
    have HCL := Lib.hid hcl
    clear hb3 HP2 HI2 HG2 H02 HB2 hcl
    go_wp2_with fail
    refine (digests_any 93 (enters_of Tryd.func93 (by kernel_rfl) rfl) #[.pointer (some ⟨b1, 0, none⟩), .pointer (some ⟨b2, 0, none⟩)] (closedN 0 n is) (ClG b1 b2 0 n I k d is) (closed_iter n 0 n I k d is b1 b2 (Nat.le_refl _) hn1 (by omega))
      A n c Ls W3 HP3.out (fun B hB => ⟨⟨heap_keep HCL.out.1 hB, heap_keep HCL.out.2 hB⟩, HI3.out.keep hB⟩) hn HL.out HG3.out (fun x hx => by have := closedN_in n hn1 0 is x hx; omega) (by have := closedN_len n hn1 0 is; omega)).mono ?_
    rintro e W4 ⟨v, rfl, hv, hb4⟩
    have H04 := Lib.hid (H03.out.keep hb4)
    have HB4 := Lib.hid (bel_step HB3.out hb4)
    have HV := Lib.hid hv
    have c4 := H04.out.c
    have f4 := H04.out.f
    obtain ⟨Av, nv, cv, rfl⟩ := hv.slice
    have hs3 := HB3.out.size
    clear hb4 hv c0 f0
    go_wp2_with fail
    refine bodyPost_ret (v := .tuple #[.agg #[.slice Av nv cv], .int .i64 0]) ?_ rfl (.inl ⟨hinc, _, rfl, ?_, HB4.out.setCell (Nat.le_refl _) _⟩)
    · exact results_row_tmp rfl _ _ w.heap.size 28 _ (0, 0) _ _ rfl rfl (H04.out.set _) Tryd.underlying28 rfl (by kernel_rfl)
    · have hlt3 := H03.out.lt
      exact (HV.out.same fun b o hb ho => (Below.heap_setCell _ _ _ b (by show b ≠ w.heap.size; omega)).trans ho).lower hs3
  · have hinf : incF 0 (n : Int) is = false := by simpa using hinc
    rw [hinf]
    go_wp2_with fail
    refine bodyPost_ret (v := .tuple #[.agg #[.slice none 0 0], .int .i64 1]) ?_ rfl (.inr ⟨hinf, rfl, HB1.out.setCell (Nat.le_refl _) _⟩)
    exact results_row_tmp rfl _ _ w.heap.size 28 _ (0, 0) _ _ rfl rfl (H0.out.set _) Tryd.underlying28 rfl (by kernel_rfl)
set_option maxHeartbeats 2000000 in
theorem witness_any (A : Option Addr) (n c : Nat) (Ls : List (List Nat)) (i : Int) (w : World) (h : Pb w A n c Ls) (hn1 : 1 ≤ n) (hn : n ≤ 65536) (hL : ∀ l ∈ Ls, l.length ≤ 140737488351232) (hG : Gl w) :
    Calls Tryd.prog 47 #[.slice A n c, .int .i64 i] w fun e w' => ((0 ≤ i ∧ i < (n : Int)) ∧ ∃ v, e = .returned (.tuple #[v, .int .i64 0]) ∧ OwD w' w.heap.size v (sibN 0 n i).length (digsN Ls (sibN 0 n i)) ∧ Below w.heap.size w w') ∨
      (¬ (0 ≤ i ∧ i < (n : Int)) ∧ e = .returned (.tuple #[.slice none 0 0, .int .i64 1]) ∧ Below w.heap.size w w') := by
  have HP := Lib.hid h
  have HL := Lib.hid hL
  have HG := Lib.hid hG
  have hgt : ¬ ((65536 : Int) < (n : Int)) := by omega
  clear h hL hG
  obtain ⟨C, hC⟩ : ∃ C : Prop, (0 ≤ i ∧ i < (n : Int)) = C := ⟨_, rfl⟩
  rw [hC]
  have HC := Lib.hid (show C ↔ (0 ≤ i ∧ i < (n : Int)) by rw [← hC])
  clear hC
  go_enter Tryd.func47, Tryd.ntmps47
  by_cases h1 : i < 0
  · go_wp2_with fail
    refine bodyPost_ret (v := .tuple #[.slice none 0 0, .int .i64 1]) ?_ rfl (.inr ⟨fun e => by have := HC.out.1 e; omega, rfl, Below.refl _ _⟩)
    exact results_tmp2 (fn := Tryd.f47) (t := 4) (u := 5) rfl _ _ _
  · by_cases h2 : (n : Int) ≤ i
    · go_wp2_with fail
      refine bodyPost_ret (v := .tuple #[.slice none 0 0, .int .i64 1]) ?_ rfl (.inr ⟨fun e => by have := HC.out.1 e; omega, rfl, Below.refl _ _⟩)
      exact results_tmp2 (fn := Tryd.f47) (t := 4) (u := 5) rfl _ _ _
    · go_wp2_with fail
      refine (whole_any n w).mono ?_
      rintro e W2 ⟨rfl, hb2⟩
      have HP2 := Lib.hid (HP.out.keep hb2)
      have HG2 := Lib.hid (HG.out.keep hb2)
      have HB2 := Lib.hid hb2
      clear hb2 HP HG
      unfold subV
      go_wp2_with fail
      refine (siblings_any 0 n i W2).mono ?_
      rintro e W3 ⟨b1, b2, rfl, hcl, hg1, hg2, hb3⟩
      have HP3 := Lib.hid (HP2.out.keep hb3)
      have HG3 := Lib.hid (HG2.out.keep hb3)
      have HB3 := Lib.hid (bel_step HB2.out hb3)
      have HCL := Lib.hid hcl
      clear hb3 HP2 HG2 HB2 hcl
      go_wp2_with fail
      refine (digests_any 99 (enters_of Tryd.func99 (by kernel_rfl) rfl) #[.pointer (some ⟨b1, 0, none⟩), .pointer (some ⟨b2, 0, none⟩)] (sibN 0 n i) (SbB b1 b2 0 n i) (siblings_iter n 0 n i b1 b2 (Nat.le_refl _) hn1 (by omega))
        A n c Ls W3 HP3.out (fun B hB => ⟨heap_keep HCL.out.1 hB, heap_keep HCL.out.2 hB⟩) hn HL.out HG3.out (fun x hx => by have := sibN_in n hn1 0 i x hx; omega) (by have := sibN_len n hn1 0 i; omega)).mono ?_
      rintro e W4 ⟨v, rfl, hv, hb4⟩
      have HB4 := Lib.hid (bel_step HB3.out hb4)
      have HV := Lib.hid hv
      have hs3 := HB3.out.size
      clear hb4 hv
      go_wp2_with fail
      refine bodyPost_ret (v := .tuple #[v, .int .i64 0]) ?_ rfl (.inl ⟨HC.out.2 ⟨by omega, by omega⟩, v, rfl, HV.out.lower hs3, HB4.out⟩)
      exact results_tmp2 (fn := Tryd.f47) (t := 4) (u := 5) rfl _ _ _
end Go.Proofs.YtgkojdbepgonkaaDoor
