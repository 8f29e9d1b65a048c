/- Several texts in one: Shq, Shr, Shs, Sht, Shu. -/
import Derived.Test.YtgkojdbepgonkaaDoorH09
/- The reference's compression. -/
namespace Go.Proofs.YtgkojdbepgonkaaDoor
set_option maxRecDepth 8000
set_option linter.unusedVariables false
set_option linter.unusedSimpArgs false
open Go.RowKit
theorem kA_size : kA.size = 64 := by unfold kA; rw [List.size_toArray, celW_length, kN_length]
theorem kN_at {i : Nat} (h : i < 64) : kN[i]? = some (kN.getD i 0) := by rw [List.getD_eq_getElem?_getD, List.getElem?_eq_getElem (by rw [kN_length]; exact h)]; rfl
attribute [local simp] z64_ne z64_run
attribute [-simp] Tryd.zeroValue146 Tryd.isAgg146 Tryd.sizeOf146
set_option maxHeartbeats 1000000 in
theorem rcomp_any (s : Ch) (ad : Addr) (bt : Nat → Nat) (cp : Nat) (w : World) (hs : s.Ok) (hB : Blk w ad bt) (hcp : 64 ≤ cp) (hcm : cp ≤ 9223372036854775807) :
    Calls Tryd.prog 87 #[.agg (celW (chL s)).toArray, .slice (some ad) 64 cp] w fun e w' => e = .returned (.agg (celW (chL (compN s bt))).toArray) ∧ Below w.heap.size w w' := by
  have HB0 := Lib.hid hB
  clear hB
  go_enter Tryd.func87, Tryd.ntmps87
  go_wp2_with fail
  refine calls_named2 (fun w1 hb1 g0 g1 hlt1 => ?_)
  have hr0 : RowW w1 127 w.heap.size (chL s) := g0
  have hr1 : RowW w1 127 (w.heap.size + 1) [0, 0, 0, 0, 0, 0, 0, 0] := g1
  clear g0 g1 hlt1
  have HR0 := Lib.hid hr0
  have HR1 := Lib.hid hr1
  have HB := Lib.hid hb1
  clear hr0 hr1 hb1
  with_reducible refine (rsched_any ad bt cp w1 (HB0.out.keep HB.out) hcp hcm).mono ?_
  rintro e W1 ⟨rfl, hb⟩
  have HRA := Lib.hid (HR0.out.keep hb)
  have HRB := Lib.hid (HR1.out.keep hb)
  have HBA := Lib.hid (bel_step HB.out hb)
  clear hb HR0 HR1 HB
  generalize hcs : celW (schedN bt) = cl
  have hcz : cl.length = 64 := by rw [← hcs, celW_length, schedN_length]
  go_wp2_with fail
  refine (rconst_any W1).mono ?_
  rintro e W2 ⟨rfl, hb⟩
  have HRA2 := Lib.hid (HRA.out.keep hb)
  have HRB2 := Lib.hid (HRB.out.keep hb)
  have HBA2 := Lib.hid (bel_step HBA.out hb)
  clear hb HRA HRB HBA
  obtain ⟨kl, hks⟩ : ∃ kl : List Value, celW kN = kl := ⟨_, rfl⟩
  have hkz : kl.length = 64 := by rw [← hks, celW_length, kN_length]
  rw [show kA = kl.toArray by rw [← hks]; rfl]
  obtain ⟨W3, hW3⟩ : ∃ W3, W3 = (W2.alloc (.cells z64 146)).alloc (.cells z64 146) := ⟨_, rfl⟩
  have h5 : RowW W3 146 W2.heap.size (List.replicate 64 0) := by rw [hW3]; exact heap_old _ (heap_new W2 _)
  have h6 : RowW W3 146 (W2.heap.size + 1) (List.replicate 64 0) := by
    rw [hW3]
    have h := heap_new (W2.alloc (.cells z64 146)) (.cells z64 146)
    rw [alloc_sz] at h
    exact h
  have hb3 : Below W2.heap.size W2 W3 := by rw [hW3]; exact ((Below.refl _ _).alloc (Nat.le_refl _) _).alloc (by simp) _
  have hsc1 := run_storeW (P := Tryd.prog) (ws := schedN bt) h5 (by rw [schedN_length, List.length_replicate])
  rw [hcs, hW3] at hsc1
  have h51 := h5.row (schedN bt)
  have h61 := h6.farRow (show W2.heap.size + 1 ≠ W2.heap.size by omega) (celW (schedN bt)).toArray
  have hb4 := bel_setRow hb3 (Nat.le_refl _) (celW (schedN bt)).toArray
  rw [hcs, hW3] at h51 h61 hb4
  go_wp2_with fail
  simp only [Tryd.sizeOf146, Result.andThen, ↓reduceIte, hsc1]
  rw [Oper.upon_skip]
  clear hsc1 h5 h6 hb3 hW3 W3
  generalize ((W2.alloc (.cells z64 146)).alloc (.cells z64 146)).setRow W2.heap.size cl.toArray = W4 at *
  have hsc2 := run_storeW (P := Tryd.prog) (ws := kN) h61 (by rw [kN_length, List.length_replicate])
  rw [hks] at hsc2
  have h52 := h51.farRow (show W2.heap.size ≠ W2.heap.size + 1 by omega) (celW kN).toArray
  have h62 := h61.row kN
  have hb5 := bel_setRow hb4 (show W2.heap.size ≤ W2.heap.size + 1 by omega) (celW kN).toArray
  rw [hks] at h52 h62 hb5
  go_wp2_with fail
  simp only [Tryd.sizeOf146, Result.andThen, ↓reduceIte, hsc2]
  rw [Oper.upon_skip]
  clear hsc2 hb4 h51 h61 hcs hks
  have hg : w.heap.size + 2 ≤ W2.heap.size := HRB2.out.lt
  have hbb := bel_step HBA2.out hb5
  have hr0 := HRA2.out.keep hb5
  have hr1 := HRB2.out.keep hb5
  clear hb5 HRA2 HRB2 HBA2
  generalize W4.setRow (W2.heap.size + 1) kl.toArray = w2 at *
  generalize W2.heap.size = gw at *
  have HRW := Lib.hid h52
  have HRK := Lib.hid h62
  clear h52 h62
  have HR0 := Lib.hid hr0
  have HR1 := Lib.hid hr1
  have HB := Lib.hid hbb
  clear hr0 hr1 hbb
  go_wp2_with fail
  have c0 := HR0.out.at_ (i := 0) (x := s.a) rfl
  have c1 := HR0.out.at_ (i := 1) (x := s.b) rfl
  have c2 := HR0.out.at_ (i := 2) (x := s.c) rfl
  have c3 := HR0.out.at_ (i := 3) (x := s.d) rfl
  go_quiet (fail)
  have hb1 : Below w2.heap.size w2 (w2.drewN nq) := bel_drewN _ _ _
  have HB1 := Lib.hid hb1
  clear c0 c1 c2 c3 hb1
  generalize w2.drewN nq = w3 at *
  go_wp2_with fail
  have c4 := cell_keep (HR0.out.at_ (i := 4) (x := s.e) rfl) HB1.out
  have c5 := cell_keep (HR0.out.at_ (i := 5) (x := s.f) rfl) HB1.out
  have c6 := cell_keep (HR0.out.at_ (i := 6) (x := s.g) rfl) HB1.out
  have c7 := cell_keep (HR0.out.at_ (i := 7) (x := s.h) rfl) HB1.out
  go_quiet (fail)
  have hb1 : Below w3.heap.size w3 (w3.drewN nq) := bel_drewN _ _ _
  have HB2 := Lib.hid (bel_step HB1.out hb1)
  clear c4 c5 c6 c7 hb1
  generalize w3.drewN nq = w4 at *
  have H0 := Lib.hid (HR0.out.keep HB2.out)
  have H1 := Lib.hid (HR1.out.keep HB2.out)
  have HW := Lib.hid (HRW.out.keep HB2.out)
  have HWK := Lib.hid (HRK.out.keep HB2.out)
  have HBW := Lib.hid (bel_step HB.out HB2.out)
  clear HR0 HR1 HRW HRK HB HB1 HB2
  have HWB := Lib.hid (schedN_lt bt HB0.out.byte)
  have HWL := Lib.hid (schedN_length bt)
  have HC := Lib.hid (show compN s bt = addCh s (rndN (schedN bt) s 64) from rfl)
  clear HB0
  generalize schedN bt = ws at *
  go_wp2_with fail
  go_loopw [7, 8, 9, 10, 11, 12, 13, 14, 15] (fun va vb vc vd ve vf vg vh s0 wr => ∃ (i : Nat) (S : Ch), i ≤ 64 ∧ s0 = .int .i64 i ∧ S = rndN ws s i ∧ va = .int .u32 S.a ∧ vb = .int .u32 S.b ∧ vc = .int .u32 S.c ∧ vd = .int .u32 S.d ∧ ve = .int .u32 S.e ∧ vf = .int .u32 S.f ∧ vg = .int .u32 S.g ∧ vh = .int .u32 S.h ∧ Below w4.heap.size w4 wr) (fun _ _ _ _ _ _ _ _ s0 _ => 64 - (intOf s0).toNat)
  case atStart => exact ⟨0, s, by omega, rfl, rfl, rfl, rfl, rfl, rfl, rfl, rfl, rfl, rfl, Below.refl _ _⟩
  case round =>
    obtain ⟨i, S, hi, rfl, hS, rfl, rfl, rfl, rfl, rfl, rfl, rfl, rfl, hb⟩ := hrel
    have hok : S.Ok := by rw [hS]; exact rndN_ok ws hs i
    have HS := Lib.hid hS
    have HB := Lib.hid hb
    clear hS hb
    by_cases hlt : i < 64
    · have hk1 : (i : Int) < 64 := by omega
      have hk0 : (0 : Int) ≤ (i : Int) := by omega
      obtain ⟨a, b, c, d, e, f, g, hh⟩ := S
      obtain ⟨la, lb, lc, ld, le, lf, lg, lh⟩ := hok
      dsimp only at la lb lc ld le lf lg lh
      have LA := Lib.hid la
      have LB := Lib.hid lb
      have LC := Lib.hid lc
      have LD := Lib.hid ld
      have LE := Lib.hid le
      have LF := Lib.hid lf
      have LG := Lib.hid lg
      have LH := Lib.hid lh
      clear la lb lc ld le lf lg lh
      have lk := Later.cell (cell_keep (HWK.out.at_ (kN_at hlt)) HB.out)
      have lw := Later.cell (cell_keep (HW.out.at_ (x := ws.getD i 0) (by rw [List.getD_eq_getElem?_getD, List.getElem?_eq_getElem (by rw [HWL.out]; exact hlt)]; rfl)) HB.out)
      generalize hk : kN.getD i 0 = k at lk
      generalize hx : ws.getD i 0 = x at lw
      have HKX := Lib.hid (And.intro hk hx)
      clear hk hx
      dsimp only
      go_wp2_with fail
      refine wp_later_lex (by kernel_rfl) (lexOK_of (by kernel_rfl) (by kernel_rfl)) ?_
      repeat (go_big_quiet_step (first | (go_at_call 106; with_reducible exact Calls.later (rrotate_6 e _ LE.out)) | (go_at_call 106; with_reducible exact Calls.later (rrotate_11 e _ LE.out)) | (go_at_call 106; with_reducible exact Calls.later (rrotate_25 e _ LE.out))))
      refine wpQuiet_nil ?_
      intro X
      clear lk lw
      have HB2 := Lib.hid (bel_step HB.out X.below)
      generalize X.at = w5 at *
      go_wp2_with fail
      with_reducible refine (rrotate_2 a w5 LA.out).mono ?_
      rintro e1 W6 ⟨rfl, hb⟩
      have HB3 := Lib.hid (bel_step HB2.out hb)
      clear hb
      go_wp2_with fail
      with_reducible refine (rrotate_13 a W6 LA.out).mono ?_
      rintro e1 W7 ⟨rfl, hb⟩
      have HB4 := Lib.hid (bel_step HB3.out hb)
      clear hb
      go_wp2_with fail
      with_reducible refine (rrotate_22 a W7 LA.out).mono ?_
      rintro e1 W8 ⟨rfl, hb⟩
      have HB5 := Lib.hid (bel_step HB4.out hb)
      clear hb
      go_wp2_with fail
      go_roundw
      case rel =>
        have q1 := three_val (rotN_lt (n := 6) LE.out) (rotN_lt (n := 11) LE.out) (rotN_lt (n := 25) LE.out)
        have q2 := chs_val LE.out LF.out LG.out
        have q3 := three_val (rotN_lt (n := 2) LA.out) (rotN_lt (n := 13) LA.out) (rotN_lt (n := 22) LA.out)
        have q4 := maj_val_or LA.out LB.out LC.out
        rw [show ((4294967295 : Int) - (e : Int)) % 4294967296 = 4294967295 - (e : Int) by have := LE.out; omega]
        rw [q1, q2, q3, q4]
        refine ⟨i + 1, roundN ⟨a, b, c, d, e, f, g, hh⟩ k x, by omega, by go_num, ?_, ?_, rfl, rfl, rfl, ?_, rfl, rfl, rfl, HB5.out⟩
        · rw [rndN, ← HS.out, HKX.out.1, HKX.out.2]
        · show _ = Value.int .u32 ((((hh + Sg1 e + chN e f g + k + x) % 4294967296 + (Sg0 a + majN a b c) % 4294967296) % 4294967296 : Nat) : Int)
          refine congrArg (Value.int .u32) ?_
          unfold Sg1 Sg0
          omega
        · show _ = Value.int .u32 (((d + (hh + Sg1 e + chN e f g + k + x) % 4294967296) % 4294967296 : Nat) : Int)
          refine congrArg (Value.int .u32) ?_
          unfold Sg1
          omega
      case measure => simp [intOf]; omega
    · have hkn : i = 64 := by omega
      subst hkn
      have c0 := cell_keep (H0.out.at_ (i := 0) (x := s.a) rfl) HB.out
      have c1 := cell_keep (H0.out.at_ (i := 1) (x := s.b) rfl) HB.out
      have c2 := cell_keep (H0.out.at_ (i := 2) (x := s.c) rfl) HB.out
      have c3 := cell_keep (H0.out.at_ (i := 3) (x := s.d) rfl) HB.out
      have c4 := cell_keep (H0.out.at_ (i := 4) (x := s.e) rfl) HB.out
      have c5 := cell_keep (H0.out.at_ (i := 5) (x := s.f) rfl) HB.out
      have c6 := cell_keep (H0.out.at_ (i := 6) (x := s.g) rfl) HB.out
      have c7 := cell_keep (H0.out.at_ (i := 7) (x := s.h) rfl) HB.out
      have hr1 := H1.out.keep HB.out
      have d0 := hr1.at_ (i := 0) (x := 0) rfl
      have d1 := hr1.at_ (i := 1) (x := 0) rfl
      have d2 := hr1.at_ (i := 2) (x := 0) rfl
      have d3 := hr1.at_ (i := 3) (x := 0) rfl
      have d4 := hr1.at_ (i := 4) (x := 0) rfl
      have d5 := hr1.at_ (i := 5) (x := 0) rfl
      have d6 := hr1.at_ (i := 6) (x := 0) rfl
      have d7 := hr1.at_ (i := 7) (x := 0) rfl
      have f0 := hr1.free 0
      have f1 := hr1.free 1
      have f2 := hr1.free 2
      have f3 := hr1.free 3
      have f4 := hr1.free 4
      have f5 := hr1.free 5
      have f6 := hr1.free 6
      have f7 := hr1.free 7
      have HR := Lib.hid hr1
      clear hr1
      go_wp2_with fail
      refine bodyPost_ret (v := .agg (celW (chL (compN s bt))).toArray) ?_ rfl ⟨rfl, ?_⟩
      · have hf := ((((((((HR.out.put 0 _ _ (add_val s.a S.a)).put 1 _ _ (add_val s.b S.b)).put 2 _ _ (add_val s.c S.c)).put 3 _ _ (add_val s.d S.d)).put 4 _ _ (add_val s.e S.e)).put 5 _ _ (add_val s.f S.f)).put 6 _ _ (add_val s.g S.g)).put 7 _ _ (add_val s.h S.h))
        rw [HC.out, ← HS.out]
        exact results_cell_row rfl _ _ (w.heap.size + 1) 127 _ (0, 0) _ rfl hf Tryd.underlying127 rfl (by kernel_rfl)
      · have hb := bel_step HBW.out HB.out
        exact (((((((hb.setCell (by simp) _).setCell (by simp) _).setCell (by simp) _).setCell (by simp) _).setCell (by simp) _).setCell (by simp) _).setCell (by simp) _).setCell (by simp) _
end Go.Proofs.YtgkojdbepgonkaaDoor

/- The reference's Join, Bytes, Pad. -/
namespace Go.Proofs.YtgkojdbepgonkaaDoor
set_option linter.unusedVariables false
set_option linter.unusedSimpArgs false
set_option maxRecDepth 8000
open Go.RowKit
/-- append(s, t...), t any slice -/
theorem wpList_appendBa {ops : Array Oper} {rest : List Oper} {o : Oper} {a : Act} {Q : Exit → Act → World → Prop} {w : World} (hgd : o.guard = none) (s x : Operand)
    (ho : o.op = .call { callee := .builtin .append, args := #[s, x], argTypes := #[29, 29] }) (base : Nat) (v : Value) (n : Nat) (bs : List Nat) (hs : a.eval s = v) (hown : OwB w base v n bs)
    (A : Option Addr) (m c : Nat) (ys : List Nat) (hx : a.eval x = .slice A m c) (hy : Sb w A m c ys) (hn : n + m ≤ 140737488353000) (hbase : base ≤ w.heap.size)
    (h : ∀ v' w', OwB w' base v' (n + m) (bs ++ ys) → Below base w w' → wpList Tryd.prog ops Q rest (a.put o.dst v') w') : wpList Tryd.prog ops Q (o :: rest) a w := by
  cases A with
  | some ad => exact wpList_appendBs hgd s x ho base v n bs hs hown ad m c ys hx hy hn hbase h
  | none =>
    have hc0 := hy.nil rfl
    have hm0 : m = 0 := by have := hy.cap; omega
    subst hc0
    subst hm0
    have hys : ys = [] := List.eq_nil_of_length_eq_zero hy.len.symm
    subst hys
    obtain ⟨i, hi, hz, hs2, hb⟩ := info_parts u8_info
    refine wpList_append_own_none hgd s x 29 ho base 5 i 1 Tryd.underlying29 hi v n (celB bs) hs hown.1 hx ?_
    exact h v w (by rw [List.append_nil]; exact hown) (Below.refl _ _)
set_option maxHeartbeats 1000000 in
theorem rjoin_any (A : Option Addr) (n c : Nat) (xs : List Nat) (B : Option Addr) (m d : Nat) (bs : List Nat) (w : World) (ha : Sb w A n c xs) (hb : Sb w B m d bs) (hn : n + m ≤ 140737488351300) :
    Calls Tryd.prog 38 #[.slice A n c, .slice B m d] w fun e w' => ∃ C f, e = .returned (.slice C (n + m) f) ∧ Sb w' C (n + m) f (xs ++ bs) ∧ Below w.heap.size w w' := by
  go_enter Tryd.func38, Tryd.ntmps38
  have hb0 : Below w.heap.size w (w.alloc (.cells #[] 5)) := (Below.refl _ _).alloc (Nat.le_refl _) _
  go_upto_region 2 with (at_builtin; refine wpList_appendBa rfl (.tmp 6) (.tmp 7) rfl w.heap.size _ 0 [] rfl (OwB.made w _ (Nat.le_refl _)) A n c xs rfl (ha.keep hb0) (by omega) (by simp) ?_; intro v1 w1 ho1 hb1; rw [Nat.zero_add, List.nil_append] at ho1; have HO1 := Lib.hid ho1; have HB1 := Lib.hid (hb0.trans hb1); obtain ⟨C1, f1, rfl, _⟩ := ho1.sl; clear ho1 hb1 hb0)
  have hbs := hb.keep HB1.out
  go_upto_region 3 with (at_builtin; refine wpList_appendBa rfl (.tmp 9) (.tmp 10) rfl w.heap.size _ n xs rfl HO1.out B m d bs rfl hbs (by omega) HB1.out.size ?_; intro v2 w2 ho2 hb2; have HO2 := Lib.hid ho2; have HB2 := Lib.hid (HB1.out.trans hb2); obtain ⟨C2, f2, rfl, hs2⟩ := ho2.sl; clear ho2 hb2)
  go_wp2_with fail
  go_ret
  exact ⟨C2, f2, rfl, hs2, HB2.out⟩
attribute [local simp] z32_ne z32_run
attribute [-simp] Tryd.zeroValue34 Tryd.isAgg34 Tryd.sizeOf34
theorem take_snoc {bs : List Nat} {k : Nat} (h : k < bs.length) : bs.take k ++ [bs.getD k 0] = bs.take (k + 1) := by
  rw [List.take_succ_eq_append_getElem h, List.getD_eq_getElem?_getD, List.getElem?_eq_getElem h]
  rfl
theorem some_getD {bs : List Nat} {k : Nat} (h : k < bs.length) : bs[k]? = some (bs.getD k 0) := by rw [List.getD_eq_getElem?_getD, List.getElem?_eq_getElem h]; rfl
set_option maxHeartbeats 1000000 in
theorem rbytes_any (x : List Nat) (w : World) (hl : x.length = 32) (hb : ∀ z ∈ x, z < 256) :
    Calls Tryd.prog 40 #[.agg (celB x).toArray] w fun e w' => ∃ C f, e = .returned (.slice C 32 f) ∧ Sb w' C 32 f x ∧ Below w.heap.size w w' := by
  have HL := Lib.hid hl
  have HXB := Lib.hid hb
  clear hl hb
  go_enter Tryd.func40, Tryd.ntmps40
  go_wp2_with fail
  refine wp_named2 (fun w1 hb1 g0 g1 hlt1 => ?_)
  have H0 : Hid (RowB w1 34 w.heap.size x) := Lib.hid g0
  have hrow : w1.heap[w.heap.size + 1]? = some (.cells #[] 5 (0, 0)) := g1
  have HO0 : Hid (OwB w1 (w.heap.size + 1) (.slice (some ⟨w.heap.size + 1, 0, none⟩) 0 0) 0 []) := Lib.hid ⟨⟨rfl, .inr ⟨w.heap.size + 1, 0, _, rfl, Nat.le_refl _, hrow, Nat.le_refl _, by unfold maxLen; omega, rfl, rfl⟩⟩, fun _ h => by cases h⟩
  have HB1 := Lib.hid hb1
  clear g0 g1 hb1 hrow
  go_loopw [3, 4] (fun v s wr => ∃ k : Nat, k ≤ 32 ∧ s = .int .i64 k ∧ RowB wr 34 w.heap.size x ∧ OwB wr (w.heap.size + 1) v k (x.take k) ∧ Below w.heap.size w wr ∧ w.heap.size + 1 ≤ wr.heap.size) (fun _ s _ => 32 - (intOf s).toNat)
  case atStart => exact ⟨0, by omega, rfl, H0.out, HO0.out, HB1.out, by omega⟩
  case round =>
    clear H0 HO0 HB1
    obtain ⟨k, hk, rfl, hr, ho, hb, hz⟩ := hrel
    have HR := Lib.hid hr
    have HO := Lib.hid ho
    have HB := Lib.hid hb
    obtain ⟨C, f, rfl, hsl⟩ := ho.sl
    have HSL := Lib.hid hsl
    clear hr ho hb hsl
    by_cases hlt : k < 32
    · have hk1 : (k : Int) < 32 := by omega
      have hk0 : (0 : Int) ≤ (k : Int) := by omega
      have c0 := HR.out.at_ (some_getD (show k < x.length by rw [HL.out]; exact hlt))
      have hxb := getD_byte HXB.out k
      have HTS := Lib.hid (take_snoc (show k < x.length by rw [HL.out]; exact hlt))
      generalize x.getD k 0 = y at *
      go_upto_region 4 with (at_builtin; refine wpList_appendB rfl (.tmp 10) (.tmp 14) rfl (w.heap.size + 1) _ k _ rfl (HO.out.keep ((Below.refl _ _).alloc (Nat.le_refl _) _)) wr.heap.size 1 y rfl (One.new wr _ _) hxb (by omega) (by simp; omega) ?_; intro v1 w2 ho1 hb1; have HO1 := Lib.hid ho1; have HB2 := Lib.hid (((Below.refl (w.heap.size + 1) wr).alloc hz (.cells #[.int .u8 (y : Int)] 5)).trans hb1); obtain ⟨C1, f1, rfl, _⟩ := ho1.sl; clear ho1 hb1)
      go_wp2_with fail
      go_roundw
      case rel => exact ⟨k + 1, by omega, by go_num, HR.out.same (HB2.out.block _ (by omega)), by rw [← HTS.out]; exact HO1.out, HB.out.trans (HB2.out.mono (by omega)), Nat.le_trans hz HB2.out.size⟩
      case measure => simp [intOf]; omega
    · obtain rfl : k = 32 := by omega
      go_wp2_with fail
      go_ret
      refine ⟨C, f, rfl, HSL.out.cast ?_, HB.out⟩
      exact List.take_of_length_le (by rw [HL.out]; exact Nat.le_refl _)
end Go.Proofs.YtgkojdbepgonkaaDoor

/- The reference's Pad, Masked; repeated. -/
namespace Go.Proofs.YtgkojdbepgonkaaDoor
set_option linter.unusedVariables false
set_option linter.unusedSimpArgs false
set_option maxRecDepth 8000
open Go.RowKit
theorem OwB.empty1 {w : World} {g t : Nat} (h : w.heap[g]? = some (.cells #[] t (0, 0))) {e : Nat} (ht : t = e) {base : Nat} (hb : base ≤ g) : w.ownsRow base e 1 (.slice (some ⟨g, 0, none⟩) 0 0) 0 [] :=
  ⟨rfl, .inr ⟨g, 0, _, rfl, hb, ht ▸ h, Nat.le_refl _, by unfold maxLen; omega, rfl, rfl⟩⟩
set_option maxHeartbeats 2000000 in
theorem rpad_any (A : Option Addr) (n c : Nat) (bs : List Nat) (w : World) (h : Sb w A n c bs) (hn : n ≤ 140737488351233) :
    Calls Tryd.prog 86 #[.slice A n c] w fun e w' => ∃ C f, e = .returned (.slice C (64 * nblk n) f) ∧ Sb w' C (64 * nblk n) f (msgN bs) ∧ Below w.heap.size w w' := by
  have HLN := Lib.hid h.len
  have hz63 := zerosN_le n
  have HTOT := Lib.hid (total_len n)
  have HS := Lib.hid h
  clear h
  go_enter Tryd.func86, Tryd.ntmps86
  have hb0 : Below w.heap.size w (w.alloc (.cells #[] 5)) := (Below.refl _ _).alloc (Nat.le_refl _) _
  go_upto_region 2 with (at_builtin; refine wpList_appendBa rfl (.tmp 6) (.tmp 7) rfl w.heap.size _ 0 [] rfl (OwB.made w _ (Nat.le_refl _)) A n c bs rfl (HS.out.keep hb0) (by omega) (by simp) ?_; intro v1 w1 ho1 hb1; rw [Nat.zero_add, List.nil_append] at ho1; have HO1 := Lib.hid ho1; have HB1 := Lib.hid (hb0.trans hb1); obtain ⟨C1, f1, rfl, _⟩ := ho1.sl; clear ho1 hb1 hb0)
  go_wp2_with (at_builtin; refine wpList_appendB rfl (.tmp 9) (.tmp 10) rfl w.heap.size _ n _ rfl (HO1.out.keep ((Below.refl _ _).alloc (Nat.le_refl _) _)) w1.heap.size 1 128 rfl (One.new w1 _ _) (by omega) (by omega) (by have := HB1.out.size; simp; omega) ?_; intro v2 w2 ho2 hb2; have HO2 := Lib.hid ho2; have HB2 := Lib.hid (HB1.out.trans (((Below.refl w.heap.size w1).alloc HB1.out.size _).trans hb2)); obtain ⟨C2, f2, rfl, _⟩ := ho2.sl; clear ho2 hb2)
  go_loopw [3] (fun v wr => ∃ k L : Nat, k ≤ zerosN n ∧ L = n + 1 + k ∧ OwB wr w.heap.size v L (bs ++ [128] ++ List.replicate k 0) ∧ Below w.heap.size w wr) (fun v _ => match v with | .slice _ m _ => n + 1 + zerosN n - m | _ => 0)
  case atStart => exact ⟨0, n + 1, Nat.zero_le _, rfl, by rw [List.replicate_zero, List.append_nil]; exact HO2.out, HB2.out⟩
  case round =>
    clear HO1 HB1 HO2 HB2
    obtain ⟨k, L, hk, hL, ho, hb⟩ := hrel
    have HLk := Lib.hid hL
    have HO := Lib.hid ho
    have HB := Lib.hid hb
    obtain ⟨C, f, rfl, _⟩ := ho.sl
    clear ho hb
    have hLs : L ≤ 140737488353000 := by omega
    by_cases hlt : k < zerosN n
    · have hne : (((L : Int) % 64) != 56) = true := by rw [bne_iff_ne]; unfold zerosN at hlt; omega
      clear hL
      go_wp2_with (at_builtin; refine wpList_appendB rfl (.tmp 16) (.tmp 17) rfl w.heap.size _ L _ rfl (HO.out.keep ((Below.refl _ _).alloc (Nat.le_refl _) _)) wr.heap.size 1 0 rfl (One.new wr _ _) (by omega) (by omega) (by have := HB.out.size; simp; omega) ?_; intro v2 w2 ho2 hb2; have HO2 := Lib.hid ho2; have HB2 := Lib.hid (HB.out.trans (((Below.refl w.heap.size wr).alloc HB.out.size (.cells #[.int .u8 0] 5)).trans hb2)); obtain ⟨C2, f2, rfl, _⟩ := ho2.sl; clear ho2 hb2)
      go_roundw
      case rel => exact ⟨k + 1, L + 1, hlt, by have := HLk.out; omega, by rw [List.replicate_succ', ← List.append_assoc]; exact HO2.out, HB2.out⟩
      case measure => have := HLk.out; simp; omega
    · have hkz : k = zerosN n := by omega
      have hne : (((L : Int) % 64) != 56) = false := by
        have : (L : Int) % 64 = 56 := by unfold zerosN at hkz; omega
        simp [this]
      clear hL
      go_wp2_with fail
      have HKZ := Lib.hid hkz
      clear hkz hlt hk
      go_loopw [3, 5] (fun v s wr => ∃ i M : Nat, i ≤ 8 ∧ s = .int .i64 i ∧ M = L + i ∧ OwB wr w.heap.size v M (bs ++ [128] ++ List.replicate k 0 ++ lenB n i) ∧ Below w.heap.size w wr) (fun _ s _ => 8 - (intOf s).toNat)
      case atStart => exact ⟨0, L, Nat.zero_le _, rfl, rfl, by rw [show lenB n 0 = [] from rfl, List.append_nil]; exact HO.out, HB.out⟩
      case round =>
        clear HO HB
        obtain ⟨i, M, hi, rfl, hM, ho, hb⟩ := hrel
        have HM := Lib.hid hM
        have HO := Lib.hid ho
        have HB := Lib.hid hb
        obtain ⟨C, f, rfl, hsl⟩ := ho.sl
        have HSL := Lib.hid hsl
        have hMs : M ≤ 140737488352000 := by have := HLk.out; have := HKZ.out; omega
        clear ho hb hM hsl
        by_cases hlt : i < 8
        · have hk1 : (i : Int) < 8 := by omega
          have hk0 : (0 : Int) ≤ (i : Int) := by omega
          have e2 : ((56 : Int) - 8 * (i : Int)).toNat = 56 - 8 * i := by omega
          have e3 : min (56 - 8 * i) 64 = 56 - 8 * i := by omega
          have e4 : (0 : Int) ≤ (56 : Int) - 8 * (i : Int) := by omega
          have hv : (n : Int) * 8 / 2 ^ (56 - 8 * i) % 256 = ((lenF n i : Nat) : Int) := by unfold lenF; rw [Nat.mul_comm 8 n]; rfl
          have hy := lenF_lt n i
          have HSC := Lib.hid (lenB_succ n i)
          generalize lenF n i = y at *
          go_wp2_with (at_builtin; refine wpList_appendB rfl (.tmp 27) (.tmp 34) rfl w.heap.size _ M _ rfl (HO.out.keep ((Below.refl _ _).alloc (Nat.le_refl _) _)) wr.heap.size 1 y rfl (One.new wr _ _) hy (by omega) (by have := HB.out.size; simp; omega) ?_; intro v2 w2 ho2 hb2; have HO2 := Lib.hid ho2; have HB2 := Lib.hid (HB.out.trans (((Below.refl w.heap.size wr).alloc HB.out.size (.cells #[.int .u8 (y : Int)] 5)).trans hb2)); obtain ⟨C2, f2, rfl, _⟩ := ho2.sl; clear ho2 hb2)
          go_roundw
          case rel => exact ⟨i + 1, M + 1, by omega, by go_num, by have := HM.out; omega, by rw [HSC.out, ← List.append_assoc]; exact HO2.out, HB2.out⟩
          case measure => simp [intOf]; omega
        · obtain rfl : i = 8 := by omega
          have hMM : M = 64 * nblk n := by have := HTOT.out; have := HM.out; have := HLk.out; have := HKZ.out; omega
          have HMM := Lib.hid hMM
          clear hMM
          go_wp2_with fail
          go_ret
          rw [← HMM.out]
          refine ⟨C, f, rfl, HSL.out.cast ?_, HB.out⟩
          unfold msgN padN
          rw [← HLN.out, ← HKZ.out]
          simp
end Go.Proofs.YtgkojdbepgonkaaDoor

/- The reference's Sum. -/
namespace Go.Proofs.YtgkojdbepgonkaaDoor
set_option linter.unusedVariables false
set_option linter.unusedSimpArgs false
set_option maxRecDepth 8000
open Go.RowKit
attribute [local simp] z32_ne z32_run
attribute [-simp] Tryd.zeroValue34 Tryd.isAgg34 Tryd.sizeOf34 Tryd.isAgg127 Tryd.sizeOf127
theorem ch_size (s : Ch) : (Tryd.prog.info? 127).map (·.size) = some (celW (chL s)).toArray.size := by rw [List.size_toArray, celW_length, chL_length]; kernel_rfl
theorem exec_loadC {ev : Operand → Value} {o : Oper} {w : World} {x : Operand} {g t : Nat} {s : Ch} (h : RowW w t g (chL s)) (ho : o.op = .load 127 x) (hx : ev x = .pointer (some ⟨g, 0, none⟩)) :
    (execOp ev o).run Tryd.prog w = .ok (.value (.agg (celW (chL s)).toArray)) w := exec_loadRow g _ ho hx h Tryd.underlying127 (ch_size s)
theorem blk_drop {p : List Nat} {w : World} {ad : Addr} {n c j : Nat} (h : Sb w (some ad) n c p) (hj : 64 * j + 64 ≤ n) : Blk w (ad.add (64 * j)) (blkF p j) :=
  ⟨fun i => blkF_lt h.byte j i, fun i hi => by
    have := h.at_ (i := 64 * j + i) (by omega)
    rw [ad_add]
    exact this⟩
set_option maxHeartbeats 2000000 in
theorem rsum_any (A : Option Addr) (n c : Nat) (bs : List Nat) (w : World) (h : Sb w A n c bs) (hn : n ≤ 140737488351233) (R : List Nat) (hR : shaN bs = R) :
    Calls Tryd.prog 41 #[.slice A n c] w fun e w' => e = .returned (.agg (celB R).toArray) ∧ Below w.heap.size w w' := by
  have hl : R.length = 32 := by rw [← hR]; exact shaN_length _
  have HR := Lib.hid (show digN (stN ch0 (msgN bs) (nblk n)) 32 = R by rw [← hR, h.len]; rfl)
  have HS := Lib.hid h
  clear hR h
  go_enter Tryd.func41, Tryd.ntmps41
  go_wp2_with fail
  refine calls_named1 (fun w1 hb1 g0 hlt1 => ?_)
  have H0 : Hid (RowB w1 34 w.heap.size (List.replicate 32 0)) := Lib.hid g0
  have HB1 := Lib.hid hb1
  have HS1 := Lib.hid (HS.out.keep hb1)
  clear g0 hb1 HS
  refine (rinitial_any w1).mono ?_
  rintro e W2 ⟨rfl, hb⟩
  have H02 := Lib.hid (H0.out.keep hb)
  have HB2 := Lib.hid (bel_step HB1.out hb)
  have HS2 := Lib.hid (HS1.out.keep hb)
  clear hb H0 HB1 HS1
  go_wp2_with fail
  refine (rpad_any A n c bs W2 HS2.out hn).mono ?_
  rintro e W3 ⟨C, f, rfl, hs3, hb⟩
  have H03 := Lib.hid (H02.out.keep hb)
  have HB3 := Lib.hid (bel_step HB2.out hb)
  have HP3 := Lib.hid hs3
  have hcap := hs3.cap
  have htop := hs3.top
  obtain ⟨ad, rfl⟩ := hs3.some_ (by unfold nblk; omega)
  clear hb H02 HB2 HS2 hs3
  have hk8 : nblk n ≤ 2199023255520 := by unfold nblk; omega
  generalize nblk n = K at *
  generalize msgN bs = p at *
  have hsc := run_storeCells_new (P := Tryd.prog) W3 127 #[.int .u32 0, .int .u32 0, .int .u32 0, .int .u32 0, .int .u32 0, .int .u32 0, .int .u32 0, .int .u32 0] (celW (chL ch0)).toArray (by kernel_rfl) rfl celW_one
  have hsz : (celW (chL ch0)).length = 8 := rfl
  generalize hcs : celW (chL ch0) = cs at *
  go_wp2_with fail
  simp only [Tryd.sizeOf127, Result.andThen, ↓reduceIte, hsc, hsz]
  rw [Oper.upon_skip]
  clear hsc
  go_wp2_with fail
  refine wp_named1 (fun W4 hb4 g0 hlt4 => ?_)
  have H04 := Lib.hid (H03.out.keep hb4)
  have HB4 := Lib.hid (bel_step HB3.out hb4)
  have HP4 := Lib.hid (HP3.out.keep hb4)
  have HC4 : Hid (RowW W4 127 W3.heap.size (chL ch0)) := Lib.hid (by unfold RowW; rw [hcs]; exact g0)
  have hz : w.heap.size < W3.heap.size := H03.out.lt
  clear g0 hb4 hlt4 H03 HB3 HP3 hcs hsz
  generalize W3.heap.size = g at *
  obtain ⟨L, hL⟩ : ∃ L, L = 64 * K := ⟨_, rfl⟩
  rw [← hL] at HP4 hcap ⊢
  have HLK := Lib.hid hL
  have hLs : L ≤ 140737488353300 := by omega
  clear hL
  go_loopw [5] (fun s wr => ∃ j i : Nat, j ≤ K ∧ i = 64 * j ∧ s = .int .i64 i ∧ RowW wr 127 g (chL (stN ch0 p j)) ∧ RowB wr 34 w.heap.size (List.replicate 32 0) ∧ Sb wr (some ad) L f p ∧ Below w.heap.size w wr) (fun s _ => L - (intOf s).toNat)
  case atStart => exact ⟨0, 0, by omega, rfl, rfl, HC4.out, H04.out, HP4.out, HB4.out⟩
  case round =>
    clear HC4 H04 HP4 HB4
    obtain ⟨j, i, hj, hi, rfl, hc, h0, hp, hb⟩ := hrel
    have HI := Lib.hid hi
    have HC := Lib.hid hc
    have H0 := Lib.hid h0
    have HP := Lib.hid hp
    have HB := Lib.hid hb
    clear hc h0 hp hb
    by_cases hlt : j < K
    · have hiL : i + 64 ≤ L := by have := HLK.out; omega
      have hk1 : (i : Int) < (L : Int) := by omega
      have hk0 : (0 : Int) ≤ (i : Int) := by omega
      have hne : ¬ f = i := by omega
      have hw1 : IntKind.i64.wrap ((i : Int) + 64) = (i : Int) + 64 := by rw [IntKind.wrap_i64]; omega
      have hk2 : (i : Int) + 64 ≤ (f : Int) := by omega
      have hk3 : ((i : Int) + 64).toNat = i + 64 := by omega
      have hk4 : (0 : Int) ≤ (i : Int) + 64 := by omega
      have hk5 : (i : Int) ≤ (i : Int) + 64 := by omega
      have hk6 : i + 64 - i = 64 := by omega
      clear hi
      go_wp2_with fail
      refine wp_later_tail 7 (by kernel_rfl) (by kernel_rfl) ?_
      simp only [List.take_succ_cons, List.take_zero, List.drop_succ_cons, List.drop_zero]
      refine wpQuiet_val (by kernel_rfl) _ (fun v hv => by obtain ⟨X, rfl⟩ := hv; exact exec_loadC (HC.out.keep X.below) rfl rfl) ?_
      simp only [Act.put, List.setIfInBounds_toArray, List.set_cons_zero, List.set_cons_succ]
      have hB : ∀ X : Later wr, Blk X.at (ad.add i) (blkF p j) := fun X => by
        rw [HI.out]
        exact blk_drop (HP.out.keep X.below) (by have := HI.out; omega)
      generalize hS : stN ch0 p j = S at *
      have hok : S.Ok := by rw [← hS]; exact stN_ok ch0_ok _ _
      have HST := Lib.hid (show stN ch0 p (j + 1) = compN S (blkF p j) by rw [stN, hS])
      clear hS
      repeat (go_big_quiet_step ((go_at_call 87; with_reducible exact Calls.later (rcomp_any S (ad.add i) (blkF p j) (f - i) _ hok (hB _) (by omega) (by omega)))))
      refine wpQuiet_nil ?_
      intro X
      have HC5 := Lib.hid (HC.out.keep X.below)
      have H05 := Lib.hid (H0.out.keep X.below)
      have HP5 := Lib.hid (HP.out.keep X.below)
      have HB5 := Lib.hid (bel_step HB.out X.below)
      generalize X.at = w5 at *
      generalize compN S (blkF p j) = T at *
      clear HC H0 HP HB hB
      refine wpList_skip0 rfl (w5.setRow g (celW (chL T)).toArray) (exec_storeRow g _ _ rfl rfl rfl HC5.out (ch_size T) (by rw [List.size_toArray, List.size_toArray, celW_length, celW_length, chL_length, chL_length]) celW_one) ?_
      refine wpList_nil ?_
      simp only [Act.put, List.setIfInBounds_toArray, List.set_cons_zero, List.set_cons_succ]
      have HC6 := Lib.hid (HC5.out.row (chL T))
      have H06 := Lib.hid (H05.out.farRow (show w.heap.size ≠ g by omega) (celW (chL T)).toArray)
      have hb6 : Below g w5 (w5.setRow g (celW (chL T)).toArray) := bel_setRow (Below.refl _ _) (Nat.le_refl _) _
      have HB6 := Lib.hid (bel_setRow HB5.out (show w.heap.size ≤ g by omega) (celW (chL T)).toArray)
      have HP6 : Hid (Sb (w5.setRow g (celW (chL T)).toArray) (some ad) L f p) := Lib.hid (HP5.out.keepX HC5.out ((SameX.refl g w5).row _))
      clear HC5 H05 HB5 HP5 hb6
      generalize w5.setRow g (celW (chL T)).toArray = w6 at *
      go_wp2_with fail
      go_roundw
      case rel => exact ⟨j + 1, i + 64, hlt, by have := HI.out; omega, by go_num, by rw [HST.out]; exact HC6.out, H06.out, HP6.out, HB6.out⟩
      case measure => simp [intOf]; omega
    · obtain rfl : j = K := by omega
      obtain rfl : i = L := by have := HI.out; have := HLK.out; omega
      have hld := run_loadW (P := Tryd.prog) HC.out 8 (by rw [chL_length])
      generalize hS : stN ch0 p j = S at *
      have hok : S.Ok := by rw [← hS]; exact stN_ok ch0_ok _ _
      clear hS
      go_wp2_with fail
      simp only [Tryd.isAgg127, Tryd.sizeOf127, Result.andThen, ↓reduceIte, hld]
      rw [Oper.upon_value]
      clear hld
      go_wp2_with fail
      refine (rdigest_any S wr hok).mono ?_
      rintro e W6 ⟨rfl, hb6⟩
      have H06 := Lib.hid (H0.out.keep hb6)
      have HB6 := Lib.hid (bel_step HB.out hb6)
      rw [HR.out]
      clear hb6
      have hsc := run_storeB (P := Tryd.prog) (ws := R) H06.out (by rw [hl, List.length_replicate])
      have hsz : (celB R).length = 32 := by rw [celB_length, hl]
      go_wp2_with fail
      simp only [Tryd.sizeOf34, Result.andThen, ↓reduceIte, hsc]
      rw [Oper.upon_skip]
      go_wp2_with fail
      refine bodyPost_ret (v := .agg (celB R).toArray) ?_ rfl ⟨rfl, bel_setRow HB6.out (Nat.le_refl _) _⟩
      exact results_cell_row rfl _ _ w.heap.size 34 _ (0, 0) _ rfl (H06.out.row R) Tryd.underlying34 rfl (dig_size hl)
end Go.Proofs.YtgkojdbepgonkaaDoor

/- The reference's Leaf, Masked, Made, SameBytes. -/
namespace Go.Proofs.YtgkojdbepgonkaaDoor
set_option linter.unusedVariables false
set_option linter.unusedSimpArgs false
set_option maxRecDepth 8000
open Go.RowKit
attribute [local simp] z32_ne z32_run
attribute [-simp] Tryd.zeroValue34 Tryd.isAgg34 Tryd.sizeOf34
theorem OwB.nil1 {w : World} {g : Nat} (h : w.heap[g]? = some (.cells #[] 5 (0, 0))) {base : Nat} (hb : base ≤ g) : OwB w base (.slice (some ⟨g, 0, none⟩) 0 0) 0 [] := ⟨OwB.empty1 h rfl hb, fun _ h => by cases h⟩
set_option maxHeartbeats 1000000 in
theorem rleaf_any (A : Option Addr) (n c : Nat) (bs : List Nat) (w : World) (h : Sb w A n c bs) (hn : n ≤ 140737488351232) (R : List Nat) (hR : shaN (0 :: bs) = R) :
    Calls Tryd.prog 43 #[.slice A n c] w fun e w' => e = .returned (.agg (celB R).toArray) ∧ Below w.heap.size w w' := by
  have hl : R.length = 32 := by rw [← hR]; exact shaN_length _
  have HR := Lib.hid hR
  clear hR
  go_enter Tryd.func43, Tryd.ntmps43
  go_wp2_with fail
  refine calls_named2 (fun w1 hb1 g0 g1 hlt1 => ?_)
  have H0 : Hid (RowB w1 34 w.heap.size (List.replicate 32 0)) := Lib.hid g0
  have hz : RowB w1 5 (w.heap.size + 1) [0] := g1
  have HB1 := Lib.hid hb1
  refine (rjoin_any _ 1 1 [0] A n c bs w1 (hz.all (by decide) rfl (Nat.le_refl _) (by omega)) (h.keep hb1) (by omega)).mono ?_
  rintro e W2 ⟨C, f, rfl, hs, hb⟩
  have H02 := Lib.hid (H0.out.keep hb)
  have HB2 := Lib.hid (bel_step HB1.out hb)
  have HS2 := Lib.hid hs
  clear g0 g1 hb1 hlt1 H0 HB1 h hz hb hs
  go_wp2_with fail
  refine (rsum_any C (1 + n) f ([0] ++ bs) W2 HS2.out (by omega) R HR.out).mono ?_
  rintro e w2 ⟨rfl, hb2⟩
  have H2 := Lib.hid (H02.out.keep hb2)
  have HB3 := Lib.hid (bel_step HB2.out hb2)
  clear hb2 H02 HB2
  have hsc := run_storeB (P := Tryd.prog) (ws := R) H2.out (by rw [hl, List.length_replicate])
  have hsz : (celB R).length = 32 := by rw [celB_length, hl]
  go_wp2_with fail
  simp only [Tryd.sizeOf34, Result.andThen, ↓reduceIte, hsc]
  rw [Oper.upon_skip]
  go_wp2_with fail
  refine bodyPost_ret (v := .agg (celB R).toArray) ?_ rfl ⟨rfl, bel_setRow HB3.out (Nat.le_refl _) _⟩
  exact results_cell_row rfl _ _ w.heap.size 34 _ (0, 0) _ rfl (H2.out.row R) Tryd.underlying34 rfl (dig_size hl)
end Go.Proofs.YtgkojdbepgonkaaDoor
