/- Several texts in one: Mnb, Mnc, Mnd, Mne, Mnf. -/
import Derived.Test.YtcephdkcjcbanaaDoorH18
/- The selected indices; at most 40 leaves. -/
namespace Go.Proofs.YtcephdkcjcbanaaDoor
set_option maxRecDepth 8000
set_option linter.unusedVariables false
set_option linter.unusedSimpArgs false
open Go.RowKit
theorem zint_info : (Tryd.prog.info? 3).map (fun i => (i.zero, i.size, i.bytes)) = some (some (.int .i64 0), 1, 8) := by kernel_rfl
/-- a slice of integers of the call's own -/
def OwZ (w : World) (base : Nat) (v : Value) (n : Nat) (is : List Int) : Prop := w.ownsRow base 3 1 v n (is.map fun z => Value.int .i64 z)
theorem OwZ.keep {w w' : World} {base : Nat} {v : Value} {n : Nat} {is : List Int} (h : OwZ w base v n is) (hb : Below w.heap.size w w') : OwZ w' base v n is :=
  ⟨h.1, by
    rcases h.2 with hn | ⟨g, cap, cur, rfl, hbs, hgg, rest⟩
    · exact .inl hn
    · exact .inr ⟨g, cap, cur, rfl, hbs, heap_keep hgg hb, rest⟩⟩
theorem OwZ.made (w : World) (base : Nat) (hb : base ≤ w.heap.size) : OwZ (w.alloc (.cells #[] 3)) base (.slice (some ⟨w.heap.size, 0, none⟩) 0 0) 0 [] :=
  ⟨rfl, .inr ⟨w.heap.size, 0, #[], rfl, hb, heap_new w _, Nat.le_refl _, by unfold maxLen; omega, rfl, rfl⟩⟩
theorem OwZ.below {w w' : World} {base : Nat} {v : Value} {n : Nat} {is : List Int} (h : OwZ w base v n is) (hg : w.grownBy w' v.ownBlock) (hbase : base ≤ w.heap.size) : Below base w w' :=
  ⟨hg.os, hg.tape, hg.output, hg.size, fun k hk => hg.block k (by omega) (fun e => by have := (World.ownsRow.lt h k e.symm).1; omega)⟩
theorem OwZ.ib {w : World} {base : Nat} {v : Value} {n : Nat} {is : List Int} (h : OwZ w base v n is) : ∃ A c, v = .slice A n c ∧ Ib w A n c is := by
  have hvl : is.length = n := by simpa using h.1
  have hro := h
  rcases h.2 with ⟨rfl, rfl⟩ | ⟨g, cap, cur, rfl, hbs, hgg, k1, k2, _⟩
  · obtain rfl : is = [] := List.length_eq_zero_iff.1 hvl
    exact ⟨none, 0, rfl, ⟨rfl, Nat.le_refl _, Nat.zero_le _, fun _ => rfl, fun i p hp => by simp at hp⟩⟩
  · unfold maxLen at k2
    refine ⟨_, cap, rfl, ⟨hvl.symm, k1, by omega, (fun e => by cases e), fun i p hp => ⟨⟨g, 0, none⟩, rfl, ?_⟩⟩⟩
    rw [ad_base]
    have hl := (List.getElem?_eq_some_iff.1 hp).1
    rw [World.ownsRow.cellAt hro i (by omega), List.getElem?_map, hp]
    rfl
theorem wpList_appendZ {ops : Array Oper} {rest : List Oper} {o : Oper} {a : Act} {Q : Exit → Act → World → Prop} {w : World} (hgd : o.guard = none) (s x : Operand)
    (ho : o.op = .call { callee := .builtin .append, args := #[s, x], argTypes := #[26, 26] }) (base : Nat) (v : Value) (n : Nat) (is : List Int) (hs : a.eval s = v) (hown : OwZ w base v n is)
    (g c : Nat) (z : Int) (hx : a.eval x = .slice (some ⟨g, 0, none⟩) 1 c) (hy : One w g 3 (.int .i64 z)) (hn : n ≤ 65536) (hbase : base ≤ w.heap.size)
    (h : ∀ v' w', OwZ w' base v' (n + 1) (is ++ [z]) → w.grownBy w' v.ownBlock → wpList Tryd.prog ops Q rest (a.put o.dst v') w') : wpList Tryd.prog ops Q (o :: rest) a w := by
  refine wpList_plain hgd fun K hK => ?_
  obtain ⟨i, hi, hz, hs2, hb⟩ := info_parts zint_info
  obtain ⟨v', w', hrun, hown', hg, _⟩ := run_append_own (P := Tryd.prog) w base 26 o.type 3 i (.int .i64 0) 1 8 Tryd.underlying26 hi hz hs2 hb rfl (by omega) v n _ hown ⟨g, 0, none⟩ 1 c [.int .i64 z] rfl
    (by
      intro j u hj
      rw [ad_base]
      match j, hj with
      | 0, hj => injection hj with hj; subst hj; exact hy.c
      | j + 1, hj => simp at hj)
    (by
      intro u hu
      simp at hu
      subst hu
      rfl) (by unfold maxLen; omega) (by omega) hbase
  unfold Oper.wp
  simp [execOp, ho, resolve, invoke, builtin, hs, hx, hrun, Result.andThen]
  refine hK _ _ (h v' w' ?_ hg)
  unfold OwZ
  rw [List.map_append]
  exact hown'
/-- the indices below n whose bits are set -/
def idxN (n bits : Nat) : List Int := ((List.range n).filter fun i => bits / 2 ^ (i % 64) % 2 == 1).map fun i => ((i : Nat) : Int)
theorem idxN_succ (n bits : Nat) : idxN (n + 1) bits = idxN n bits ++ (if bits / 2 ^ (n % 64) % 2 = 1 then [(n : Int)] else []) := by
  unfold idxN
  rw [List.range_succ, List.filter_append, List.map_append]
  by_cases h : bits / 2 ^ (n % 64) % 2 = 1
  · rw [if_pos h, List.filter_cons, if_pos (by simpa using h)]; rfl
  · rw [if_neg h, List.filter_cons, if_neg (by simpa using h)]; rfl
theorem idxN_len (n bits : Nat) : (idxN n bits).length ≤ n := by
  unfold idxN
  rw [List.length_map]
  exact Nat.le_trans (List.length_filter_le _ _) (by rw [List.length_range]; exact Nat.le_refl _)
theorem and_u64_one (a : Nat) (ha : a < 2 ^ 64) : bits .and .u64 (a : Int) 1 = ((a % 2 : Nat) : Int) := by
  have h1 : (BitVec.ofInt 64 (a : Int)).toNat = a := by rw [BitVec.ofInt_natCast, BitVec.toNat_ofNat]; exact Nat.mod_eq_of_lt ha
  have h2 : (BitVec.ofInt 64 (1 : Int)).toNat = 1 := rfl
  show IntKind.u64.wrap ((BitVec.ofInt 64 (a : Int) &&& BitVec.ofInt 64 (1 : Int)).toNat : Int) = _
  rw [BitVec.toNat_and, h1, h2, Nat.and_one_is_mod]
  have : a % 2 < 2 := Nat.mod_lt _ (by omega)
  rw [IntKind.wrap_u64]
  omega
set_option maxHeartbeats 1000000 in
theorem indices_any (n bt : Nat) (w : World) (hn : n ≤ 1000) (hbt : bt < 2 ^ 64) :
    Calls Tryd.prog 32 #[.int .i64 (n : Int), .int .u64 (bt : Int)] w fun e w' => ∃ v, e = .returned v ∧ OwZ w' w.heap.size v (idxN n bt).length (idxN n bt) ∧ Below w.heap.size w w' := by
  go_enter Tryd.func32, Tryd.ntmps32
  have h0 := OwZ.made w w.heap.size (Nat.le_refl _)
  have hb0 : Below w.heap.size w (w.alloc (.cells #[] 3)) := (Below.refl _ _).alloc (Nat.le_refl _) _
  go_wp2_with fail
  generalize w.alloc (.cells #[] 3) = w1 at *
  have H0 := Lib.hid h0
  have HB0 := Lib.hid hb0
  clear h0 hb0
  go_loopw [5, 6] (fun v s wr => ∃ j : Nat, j ≤ n ∧ s = .int .i64 j ∧ OwZ wr w.heap.size v (idxN j bt).length (idxN j bt) ∧ Below w.heap.size w wr) (fun _ s _ => n - (intOf s).toNat)
  case atStart => exact ⟨0, Nat.zero_le _, rfl, H0.out, HB0.out⟩
  case round =>
    obtain ⟨j, hj, rfl, ho, hb⟩ := hrel
    have HO := Lib.hid ho
    have HB := Lib.hid hb
    clear ho hb H0 HB0
    by_cases hlt : j < n
    · have hk1 : (j : Int) < (n : Int) := by omega
      have hdl : bt / 2 ^ (j % 64) ≤ bt := Nat.div_le_self _ _
      have ha := and_u64_one (bt / 2 ^ (j % 64)) (by omega)
      have hs := idxN_succ j bt
      have hil := idxN_len j bt
      rw [show ((bt / 2 ^ (j % 64) : Nat) : Int) = (bt : Int) / 2 ^ (j % 64) from by simp] at ha
      have HS := Lib.hid hs
      clear hs hdl
      by_cases hbit : bt / 2 ^ (j % 64) % 2 = 1
      · have ha1 : bits .and .u64 ((bt : Int) / 2 ^ (j % 64)) 1 = 1 := by rw [ha, hbit]; rfl
        have HSS := Lib.hid (show idxN (j + 1) bt = idxN j bt ++ [(j : Int)] by rw [HS.out, if_pos hbit])
        have HIL := Lib.hid hil
        have hb2 : Below wr.heap.size wr (wr.alloc (.cells #[.int .i64 (j : Int)] 3)) := (Below.refl _ _).alloc (Nat.le_refl _) _
        have hg2 := One.new wr 3 (.int .i64 (j : Int))
        have HB2 := Lib.hid hb2
        have HG2 := Lib.hid hg2
        clear ha hbit hil hb2 hg2
        go_wp2_with (at_builtin; refine wpList_appendZ rfl (.tmp 19) (.tmp 21) rfl w.heap.size _ (idxN j bt).length (idxN j bt) rfl (HO.out.keep HB2.out) wr.heap.size 1 (j : Int) rfl HG2.out (by have := HIL.out; omega) (by have := HB.out.size; have := HB2.out.size; omega) ?_; intro v' w' ho2 hg2; have HO2 := Lib.hid ho2; have HBB := Lib.hid ((HB.out.trans (HB2.out.mono HB.out.size)).trans ((HO.out.keep HB2.out).below hg2 (by have := HB.out.size; have := HB2.out.size; omega))); clear ho2 hg2)
        go_roundw
        case rel => exact ⟨j + 1, hlt, by go_num, by rw [HSS.out, List.length_append]; exact HO2.out, HBB.out⟩
        case measure => simp [intOf]; omega
      · have ha1 : bits .and .u64 ((bt : Int) / 2 ^ (j % 64)) 1 = 0 := by rw [ha, show bt / 2 ^ (j % 64) % 2 = 0 by omega]; rfl
        have HSS := Lib.hid (show idxN (j + 1) bt = idxN j bt by rw [HS.out, if_neg hbit, List.append_nil])
        clear ha hbit hil
        go_wp2_with fail
        go_roundw
        case rel => exact ⟨j + 1, hlt, by go_num, by rw [HSS.out]; exact HO.out, HB.out⟩
        case measure => simp [intOf]; omega
    · obtain rfl : j = n := by omega
      have hk1 : ¬ ((j : Int) < (j : Int)) := by omega
      go_wp2_with fail
      go_ret
      exact ⟨_, rfl, HO.out, HB.out⟩
end Go.Proofs.YtcephdkcjcbanaaDoor

/- The leaves of the laws: at most 40, each of at most 70 bytes. -/
namespace Go.Proofs.YtcephdkcjcbanaaDoor
set_option linter.unusedVariables false
set_option linter.unusedSimpArgs false
set_option maxRecDepth 8000
open Go.RowKit
/-- at most 40 leaves of at most 70 bytes -/
def madeL (Ls : List (List Nat)) : List (List Nat) := if Ls = [] then [[]] else (Ls.take 40).map (·.take 70)
set_option maxHeartbeats 2000000 in
theorem made_any8 (A : Option Addr) (n c : Nat) (Ls : List (List Nat)) (w : World) (h : Pb w A n c Ls) :
    Calls Tryd.prog 31 #[.slice A n c, .int .i64 40] w fun e w' => ∃ v, e = .returned v ∧ OwP w' w.heap.size v (madeL Ls).length (madeL Ls) ∧ Below w.heap.size w w' := by
  have hcap := h.cap
  have htop := h.top
  have HP := Lib.hid h
  have HLN := Lib.hid h.len
  clear h
  go_enter Tryd.func31, Tryd.ntmps31
  have h0 := OwP.made w w.heap.size (Nat.le_refl _)
  have hb0 : Below w.heap.size w (w.alloc (.cells #[] 44)) := (Below.refl _ _).alloc (Nat.le_refl _) _
  go_wp2_with fail
  generalize w.alloc (.cells #[] 44) = w1 at *
  have H0 := Lib.hid h0
  have HB0 := Lib.hid hb0
  clear h0 hb0
  go_loopw [5, 6] (fun v s wr => ∃ j : Nat, j ≤ n ∧ j ≤ 40 ∧ s = .int .i64 j ∧ OwP wr w.heap.size v j ((Ls.take j).map (·.take 70)) ∧ Below w.heap.size w wr) (fun _ s _ => n - (intOf s).toNat)
  case atStart => exact ⟨0, Nat.zero_le _, Nat.zero_le _, rfl, H0.out, HB0.out⟩
  case round =>
    obtain ⟨j, hj, hj40, rfl, ho, hb⟩ := hrel
    obtain ⟨Av, cv, rfl, hpv⟩ := ho.pb
    have hcv := hpv.cap
    clear hpv
    have HO := Lib.hid ho
    have HB := Lib.hid hb
    have hbs := hb.size
    clear ho hb H0 HB0
    by_cases hlt : j < n
    · have hk1 : (j : Int) < (n : Int) := by omega
      have hk0 : (0 : Int) ≤ (j : Int) := by omega
      by_cases h40 : j < 40
      · have hk2 : (j : Int) < 40 := by omega
        obtain ⟨L, hL⟩ : ∃ L, Ls[j]? = some L := ⟨_, List.getElem?_eq_getElem (by have := HLN.out; omega)⟩
        obtain ⟨ad, B, m, d, rfl, hc, hs⟩ := HP.out.cells j L hL
        have HX := Lib.hid hL
        have HC := Lib.hid hc
        have HS := Lib.hid hs
        have hmd := hs.cap
        have hdt := hs.top
        clear hL hc hs
        by_cases hm : (70 : Int) < (m : Int)
        · have hd70 : (70 : Int) ≤ (d : Int) := by omega
          have HKK := Lib.hid (show (Ls.take (j + 1)).map (·.take 70) = (Ls.take j).map (·.take 70) ++ [L.take 70] by rw [List.take_add_one, HX.out, List.map_append]; rfl)
          have hS0 : Below w.heap.size w wr.drew := HB.out.drew
          haveI := LaterS.inh hS0
          have l0 := LaterS.get (S := Below w.heap.size w) (fun W hS => cell_keep HC.out hS)
          go_upto_region 5 with fail
          refine wp_ordA (Below w.heap.size w) [(0, true), (1, true), (2, true), (3, true), (4, true), (5, true), (6, true), (7, true), (8, true), (9, true), (10, true), (11, true), (12, false), (13, false), (14, true)] (by kernel_rfl) (by kernel_rfl) (fun _ _ dt _ _ h => by cases dt <;> exact h) rfl (by kernel_rfl) hS0 ?_
          refine wpO_q rfl (by kernel_rfl) ?_
          go_big_quiet_step (fail)
          refine wpQuiet_nil ?_
          refine wpO_q rfl (by kernel_rfl) ?_
          go_big_quiet_step (fail)
          refine wpQuiet_nil ?_
          refine wpO_q rfl (by kernel_rfl) ?_
          go_big_quiet_step (fail)
          refine wpQuiet_nil ?_
          refine wpO_q rfl (by kernel_rfl) ?_
          go_big_quiet_step (fail)
          refine wpQuiet_nil ?_
          refine wpO_q rfl (by kernel_rfl) ?_
          go_big_quiet_step (fail)
          refine wpQuiet_nil ?_
          refine wpO_q rfl (by kernel_rfl) ?_
          go_big_quiet_step (fail)
          refine wpQuiet_nil ?_
          refine wpO_q rfl (by kernel_rfl) ?_
          go_big_quiet_step (fail)
          refine wpQuiet_nil ?_
          refine wpO_q rfl (by kernel_rfl) ?_
          go_big_quiet_step (fail)
          refine wpQuiet_nil ?_
          refine wpO_q rfl (by kernel_rfl) ?_
          go_big_quiet_step (fail)
          refine wpQuiet_nil ?_
          refine wpO_q rfl (by kernel_rfl) ?_
          go_big_quiet_step (fail)
          refine wpQuiet_nil ?_
          refine wpO_q rfl (by kernel_rfl) ?_
          go_big_quiet_step (fail)
          refine wpQuiet_nil ?_
          refine wpO_q rfl (by kernel_rfl) ?_
          go_big_quiet_step (fail)
          refine wpQuiet_nil ?_
          clear l0
          refine wpO_op rfl (by kernel_rfl) ?_
          unfold hOp
          rw [run_buildP1 B 70 d rfl rfl wr.drew]
          have hb2 : Below wr.heap.size wr (wr.drew.alloc (.cells #[.slice B 70 d] 44)) := (Below.refl _ _).drew.alloc (Nat.le_refl _) _
          have hg2 := One.new wr.drew 44 (.slice B 70 d)
          refine ⟨HB.out.trans (hb2.mono hbs), ?_⟩
          simp only [Act.put, List.setIfInBounds_toArray, List.set_cons_zero, List.set_cons_succ]
          have HB2 := Lib.hid hb2
          have HG2 := Lib.hid hg2
          clear hb2 hg2
          have hsb : Sb w B 70 d (L.take 70) := by
            have := HS.out.take (k := 70) (by omega)
            first | exact this | (rw [List.take_of_length_le (by have := HS.out.len; omega)]; exact HS.out)
          refine wpO_op rfl (by kernel_rfl) ?_
          refine hOp_appendPs (.tmp 19) (.tmp 31) rfl w.heap.size _ j _ rfl (HO.out.keep HB2.out) wr.drew.heap.size 1 B 70 d (L.take 70) rfl HG2.out (hsb.keep (HB.out.trans (HB2.out.mono hbs))) (fun ad2 e hne e2 => by
            have h1 := (HO.out.lt e2).1
            obtain ⟨z, hz⟩ : ∃ z, (L.take 70)[0]? = some z := ⟨(L.take 70)[0]'(List.length_pos_iff.2 hne), List.getElem?_eq_getElem _⟩
            obtain ⟨ad', e', hc⟩ := hsb.cells 0 z hz
            rw [e] at e'
            injection e' with e'
            subst e'
            have := cell_lt' hc
            have hb : (ad2.add 0).block = ad2.block := by unfold Addr.add; split <;> rfl
            omega) (by omega) (by have := HB2.out.size; omega) ?_
          intro v' w' ho2 hg2 _
          have HO2 := Lib.hid ho2
          have HBB := Lib.hid ((HB.out.trans (HB2.out.mono hbs)).trans ((HO.out.keep HB2.out).below hg2 (by have := HB2.out.size; omega)))
          clear ho2 hg2
          refine ⟨HBB.out, ?_⟩
          simp only [Act.put, List.setIfInBounds_toArray, List.set_cons_zero, List.set_cons_succ]
          refine wpO_q rfl (by kernel_rfl) ?_
          go_big_quiet_step (fail)
          refine wpQuiet_nil ?_
          refine wpO_nil ?_
          go_wp2_with fail
          go_roundw
          case rel => exact ⟨j + 1, hlt, by omega, by go_num, by rw [HKK.out]; exact HO2.out, HBB.out⟩
          case measure => simp [intOf]; omega
        · have hmd2 : (m : Int) ≤ (d : Int) := by omega
          have hm0 : (0 : Int) ≤ (m : Int) := by omega
          have HKK := Lib.hid (show (Ls.take (j + 1)).map (·.take 70) = (Ls.take j).map (·.take 70) ++ [L.take 70] by rw [List.take_add_one, HX.out, List.map_append]; rfl)
          have hS0 : Below w.heap.size w wr.drew := HB.out.drew
          haveI := LaterS.inh hS0
          have l0 := LaterS.get (S := Below w.heap.size w) (fun W hS => cell_keep HC.out hS)
          go_upto_region 5 with fail
          refine wp_ordA (Below w.heap.size w) [(0, true), (1, true), (2, true), (3, true), (4, true), (5, true), (6, true), (7, true), (8, true), (9, true), (10, true), (11, true), (12, false), (13, false), (14, true)] (by kernel_rfl) (by kernel_rfl) (fun _ _ dt _ _ h => by cases dt <;> exact h) rfl (by kernel_rfl) hS0 ?_
          refine wpO_q rfl (by kernel_rfl) ?_
          go_big_quiet_step (fail)
          refine wpQuiet_nil ?_
          refine wpO_q rfl (by kernel_rfl) ?_
          go_big_quiet_step (fail)
          refine wpQuiet_nil ?_
          refine wpO_q rfl (by kernel_rfl) ?_
          go_big_quiet_step (fail)
          refine wpQuiet_nil ?_
          refine wpO_q rfl (by kernel_rfl) ?_
          go_big_quiet_step (fail)
          refine wpQuiet_nil ?_
          refine wpO_q rfl (by kernel_rfl) ?_
          go_big_quiet_step (fail)
          refine wpQuiet_nil ?_
          refine wpO_q rfl (by kernel_rfl) ?_
          go_big_quiet_step (fail)
          refine wpQuiet_nil ?_
          refine wpO_q rfl (by kernel_rfl) ?_
          go_big_quiet_step (fail)
          refine wpQuiet_nil ?_
          refine wpO_q rfl (by kernel_rfl) ?_
          go_big_quiet_step (fail)
          refine wpQuiet_nil ?_
          refine wpO_q rfl (by kernel_rfl) ?_
          go_big_quiet_step (fail)
          refine wpQuiet_nil ?_
          refine wpO_q rfl (by kernel_rfl) ?_
          go_big_quiet_step (fail)
          refine wpQuiet_nil ?_
          refine wpO_q rfl (by kernel_rfl) ?_
          go_big_quiet_step (fail)
          refine wpQuiet_nil ?_
          refine wpO_q rfl (by kernel_rfl) ?_
          go_big_quiet_step (fail)
          refine wpQuiet_nil ?_
          clear l0
          refine wpO_op rfl (by kernel_rfl) ?_
          unfold hOp
          rw [run_buildP1 B m d rfl rfl wr.drew]
          have hb2 : Below wr.heap.size wr (wr.drew.alloc (.cells #[.slice B m d] 44)) := (Below.refl _ _).drew.alloc (Nat.le_refl _) _
          have hg2 := One.new wr.drew 44 (.slice B m d)
          refine ⟨HB.out.trans (hb2.mono hbs), ?_⟩
          simp only [Act.put, List.setIfInBounds_toArray, List.set_cons_zero, List.set_cons_succ]
          have HB2 := Lib.hid hb2
          have HG2 := Lib.hid hg2
          clear hb2 hg2
          have hsb : Sb w B m d (L.take 70) := by
            have := HS.out.take (k := m) (by omega)
            first | exact this | (rw [List.take_of_length_le (by have := HS.out.len; omega)]; exact HS.out)
          refine wpO_op rfl (by kernel_rfl) ?_
          refine hOp_appendPs (.tmp 19) (.tmp 31) rfl w.heap.size _ j _ rfl (HO.out.keep HB2.out) wr.drew.heap.size 1 B m d (L.take 70) rfl HG2.out (hsb.keep (HB.out.trans (HB2.out.mono hbs))) (fun ad2 e hne e2 => by
            have h1 := (HO.out.lt e2).1
            obtain ⟨z, hz⟩ : ∃ z, (L.take 70)[0]? = some z := ⟨(L.take 70)[0]'(List.length_pos_iff.2 hne), List.getElem?_eq_getElem _⟩
            obtain ⟨ad', e', hc⟩ := hsb.cells 0 z hz
            rw [e] at e'
            injection e' with e'
            subst e'
            have := cell_lt' hc
            have hb : (ad2.add 0).block = ad2.block := by unfold Addr.add; split <;> rfl
            omega) (by omega) (by have := HB2.out.size; omega) ?_
          intro v' w' ho2 hg2 _
          have HO2 := Lib.hid ho2
          have HBB := Lib.hid ((HB.out.trans (HB2.out.mono hbs)).trans ((HO.out.keep HB2.out).below hg2 (by have := HB2.out.size; omega)))
          clear ho2 hg2
          refine ⟨HBB.out, ?_⟩
          simp only [Act.put, List.setIfInBounds_toArray, List.set_cons_zero, List.set_cons_succ]
          refine wpO_q rfl (by kernel_rfl) ?_
          go_big_quiet_step (fail)
          refine wpQuiet_nil ?_
          refine wpO_nil ?_
          go_wp2_with fail
          go_roundw
          case rel => exact ⟨j + 1, hlt, by omega, by go_num, by rw [HKK.out]; exact HO2.out, HBB.out⟩
          case measure => simp [intOf]; omega
      · obtain rfl : j = 40 := by omega
        have HM := Lib.hid (show madeL Ls = (Ls.take 40).map (·.take 70) by
          unfold madeL
          rw [if_neg (fun e => by have := HLN.out; rw [e] at this; simp at this; omega)])
        have HML := Lib.hid (show (madeL Ls).length = 40 by rw [HM.out, List.length_map, List.length_take]; have := HLN.out; omega)
        go_wp2_with fail
        go_ret
        exact ⟨_, rfl, by rw [HML.out, HM.out]; exact HO.out, HB.out⟩
    · obtain rfl : j = n := by omega
      have hk1 : ¬ ((j : Int) < (j : Int)) := by omega
      by_cases hj0 : j = 0
      · subst hj0
        obtain rfl : Ls = [] := List.length_eq_zero_iff.1 HLN.out.symm
        have hb2 : Below wr.heap.size wr ((wr.alloc (.cells #[] 5)).alloc (.cells #[.slice (some ⟨wr.heap.size, 0, none⟩) 0 0] 44)) := ((Below.refl _ _).alloc (Nat.le_refl _) _).alloc (by simp) _
        have hg2 : One ((wr.alloc (.cells #[] 5)).alloc (.cells #[.slice (some ⟨wr.heap.size, 0, none⟩) 0 0] 44)) (wr.heap.size + 1) 44 (.slice (some ⟨wr.heap.size, 0, none⟩) 0 0) := by
          have h := heap_new (wr.alloc (.cells #[] 5)) (.cells #[.slice (some ⟨wr.heap.size, 0, none⟩) 0 0] 44)
          rwa [alloc_sz] at h
        have HB2 := Lib.hid hb2
        have HG2 := Lib.hid hg2
        clear hb2 hg2
        go_wp2_with (at_builtin; refine wpList_appendPs rfl (.tmp 36) (.tmp 38) rfl w.heap.size _ 0 [] rfl (HO.out.keep HB2.out) (wr.heap.size + 1) 1 (some ⟨wr.heap.size, 0, none⟩) 0 0 [] rfl HG2.out (Sb.empty _ _ _ (by omega) (fun e => by cases e)) (fun ad e h => absurd rfl h) (by omega) (by have := HB2.out.size; omega) ?_; intro v' w' ho2 hg2 _; have HO2 := Lib.hid ho2; have HBB := Lib.hid ((HB.out.trans (HB2.out.mono hbs)).trans ((HO.out.keep HB2.out).below hg2 (by have := HB2.out.size; omega))); clear ho2 hg2)
        go_ret
        exact ⟨_, rfl, HO2.out, HBB.out⟩
      · have hji : ¬ ((j : Int) = 0) := by omega
        have HM := Lib.hid (show madeL Ls = (Ls.take j).map (·.take 70) by
          unfold madeL
          rw [if_neg (fun e => hj0 (by have := HLN.out; rw [e] at this; exact this)), List.take_of_length_le (by have := HLN.out; omega), List.take_of_length_le (by have := HLN.out; omega)])
        have HML := Lib.hid (show (madeL Ls).length = j by rw [HM.out, List.length_map, List.length_take]; have := HLN.out; omega)
        go_wp2_with fail
        go_ret
        exact ⟨_, rfl, by rw [HML.out, HM.out]; exact HO.out, HB.out⟩
end Go.Proofs.YtcephdkcjcbanaaDoor

/- The leaves and the selection of a query. -/
namespace Go.Proofs.YtcephdkcjcbanaaDoor
set_option linter.unusedVariables false
set_option linter.unusedSimpArgs false
set_option maxRecDepth 8000
open Go.RowKit
theorem madeL_pos (Ls : List (List Nat)) : 1 ≤ (madeL Ls).length := by
  unfold madeL
  by_cases h : Ls = []
  · rw [if_pos h]; exact Nat.le_refl _
  · rw [if_neg h, List.length_map, List.length_take]
    have := List.length_pos_iff.2 h
    omega
theorem madeL_le (Ls : List (List Nat)) : (madeL Ls).length ≤ 40 := by
  unfold madeL
  by_cases h : Ls = []
  · rw [if_pos h]; show 1 ≤ 40; omega
  · rw [if_neg h, List.length_map, List.length_take]
    omega
theorem madeL_small (Ls : List (List Nat)) : ∀ l ∈ madeL Ls, l.length ≤ 59999 := by
  unfold madeL
  by_cases h : Ls = []
  · rw [if_pos h]; intro l hl; rw [List.mem_singleton.1 hl]; exact Nat.zero_le _
  · rw [if_neg h]
    intro l hl
    obtain ⟨x, _, rfl⟩ := List.mem_map.1 hl
    rw [List.length_take]
    omega
set_option maxHeartbeats 1000000 in
theorem madeQ_any (A : Option Addr) (n c : Nat) (Ls : List (List Nat)) (bt : Nat) (w : World) (h : Pb w A n c Ls) (hbt : bt < 2 ^ 64) :
    Calls Tryd.prog 10 #[.agg #[.slice A n c, .int .u64 (bt : Int)]] w fun e w' => ∃ B m d I k f, e = .returned (.tuple #[.slice B m d, .slice I k f]) ∧ Pb w' B m d (madeL Ls) ∧ Ib w' I k f (idxN (madeL Ls).length bt) ∧ Below w.heap.size w w' := by
  have HP := Lib.hid h
  have HML := Lib.hid (madeL_le Ls)
  clear h
  obtain ⟨m, hm⟩ : ∃ m, (madeL Ls).length = m := ⟨_, rfl⟩
  rw [hm] at HML ⊢
  have HM := Lib.hid hm
  clear hm
  go_enter Tryd.func10, Tryd.ntmps10
  have g0 := heap_new w (.cells #[.slice A n c, .int .u64 (bt : Int)] 25)
  have hb0 : Below w.heap.size w (w.alloc (.cells #[.slice A n c, .int .u64 (bt : Int)] 25)) := (Below.refl _ _).alloc (Nat.le_refl _) _
  obtain ⟨w1, hw1⟩ : ∃ w1, w.alloc (.cells #[.slice A n c, .int .u64 (bt : Int)] 25) = w1 := ⟨_, rfl⟩
  rw [hw1] at g0 hb0
  have c0 := cells_at g0 0 (v := .slice A n c) rfl
  have c1 := cells_at g0 1 (v := .int .u64 (bt : Int)) rfl
  have HB0 := Lib.hid hb0
  clear hb0 g0
  go_wp2_with fail
  refine (made_any8 A n c Ls w1 (HP.out.keep HB0.out)).mono ?_
  rintro e W2 ⟨v, rfl, ho, hb⟩
  rw [HM.out] at ho
  obtain ⟨B, d, rfl, hpb⟩ := ho.pb
  have d1 := cell_keep c1 hb
  have HPB := Lib.hid hpb
  have HB2 := Lib.hid (bel_step HB0.out hb)
  clear ho hb hpb c0 c1 hw1
  go_wp2_with fail
  refine (indices_any m bt W2 (by have := HML.out; omega) hbt).mono ?_
  rintro e W3 ⟨v, rfl, ho, hb⟩
  obtain ⟨I, f, rfl, hib⟩ := ho.ib
  have HIB := Lib.hid hib
  have HP3 := Lib.hid (HPB.out.keep hb)
  have HB3 := Lib.hid (bel_step HB2.out hb)
  clear ho hb hib d1
  go_wp2_with fail
  refine bodyPost_ret (v := .tuple #[.slice B m d, .slice I (idxN m bt).length f]) ?_ rfl ⟨B, m, d, I, _, f, rfl, HP3.out, HIB.out, HB3.out⟩
  exact results_tmp2 (fn := Tryd.f10) (t := 2) (u := 3) rfl _ _ _
end Go.Proofs.YtcephdkcjcbanaaDoor

/- How often a digest occurs; the opened leaves. -/
namespace Go.Proofs.YtcephdkcjcbanaaDoor
set_option linter.unusedVariables false
set_option linter.unusedSimpArgs false
set_option maxRecDepth 8000
open Go.RowKit
attribute [local simp] z32_ne z32_run
attribute [-simp] Tryd.zeroValue31 Tryd.isAgg31 Tryd.sizeOf31
/-- how often a digest occurs -/
def countN (Ds : List (List Nat)) (d : List Nat) : Nat := (Ds.filter fun x => decide (x = d)).length
theorem countN_take {Ds : List (List Nat)} {d x : List Nat} {j : Nat} (h : Ds[j]? = some x) : countN (Ds.take (j + 1)) d = countN (Ds.take j) d + (if x = d then 1 else 0) := by
  unfold countN
  rw [List.take_add_one, h, List.filter_append, List.length_append]
  congr 1
  by_cases e : x = d
  · rw [if_pos e]; simp [e]
  · rw [if_neg e]; simp [e]
theorem countN_le (Ds : List (List Nat)) (d : List Nat) : countN Ds d ≤ Ds.length := List.length_filter_le _ _
set_option maxHeartbeats 2000000 in
theorem count_any (A : Option Addr) (n c : Nat) (Ds : List (List Nat)) (d : List Nat) (w : World) (hA : Db w A n c Ds) (hn : n ≤ 100000) (hd : d.length = 32) (hdb : ∀ x ∈ d, x < 256) :
    Calls Tryd.prog 29 #[.slice A n c, .agg (celB d).toArray] w fun e w' => e = .returned (.int .i64 ((countN Ds d : Nat) : Int)) ∧ Below w.heap.size w w' := by
  have HA := Lib.hid hA
  have HLN := Lib.hid hA.len
  have htop := hA.top
  have hcap := hA.cap
  clear hA
  go_enter Tryd.func29, Tryd.ntmps29
  go_upto_region 1 with fail
  refine wp_named1 (fun w1 hb1 g0 hlt1 => ?_)
  have H0 : Hid (RowB w1 31 w.heap.size d) := Lib.hid g0
  have HB1 := Lib.hid hb1
  clear g0 hb1
  go_wp2_with fail
  go_loopw [5, 6] (fun t s wr => ∃ j m : Nat, j ≤ n ∧ s = .int .i64 j ∧ t = .int .i64 m ∧ countN (Ds.take j) d = m ∧ Below w.heap.size w wr ∧ RowB wr 31 w.heap.size d) (fun _ s _ => n - (intOf s).toNat)
  case atStart => exact ⟨0, 0, Nat.zero_le _, rfl, rfl, rfl, HB1.out, H0.out⟩
  case round =>
    obtain ⟨j, m, hj, rfl, rfl, hm, hb, h0⟩ := hrel
    have HM := Lib.hid hm
    have HB := Lib.hid hb
    have HD := Lib.hid h0
    have hmj : m ≤ 100000 := by
      have := countN_le (Ds.take j) d
      rw [hm, List.length_take] at this
      omega
    clear hm hb h0 H0 HB1
    have hk0 : (0 : Int) ≤ (j : Int) := by omega
    by_cases hlt : j < n
    · have hk1 : (j : Int) < (n : Int) := by omega
      have hjd : j < Ds.length := by have := HLN.out; omega
      obtain ⟨x, hx⟩ : ∃ x, Ds[j]? = some x := ⟨_, List.getElem?_eq_getElem hjd⟩
      obtain ⟨hx32, hxb⟩ := HA.out.dig x (List.mem_of_getElem? hx)
      obtain ⟨g, o, rfl, hr1⟩ := (HA.out.keep HB.out).cells _ _ hx
      have HT := Lib.hid (countN_take (d := d) hx)
      have HR1 := Lib.hid hr1
      clear hx hr1
      have hS0 : Below wr.heap.size wr wr.drew := (Below.refl _ _).drew
      haveI := LaterS.inh hS0
      have hw : IntKind.i64.wrap ((m : Int) + 1) = ((m + 1 : Nat) : Int) := by rw [IntKind.wrap_i64]; omega
      go_upto_region 5 with fail
      refine wp_ordA (Below wr.heap.size wr) [(0, true), (1, true), (2, true), (3, true), (4, true), (5, true)] (by kernel_rfl) (by kernel_rfl) (fun _ _ dt _ _ h => by cases dt <;> exact h) rfl (by kernel_rfl) hS0 ?_
      refine wpO_q rfl (by kernel_rfl) ?_
      go_big_quiet_step (fail)
      refine wpQuiet_nil ?_
      refine wpO_q rfl (by kernel_rfl) ?_
      go_big_quiet_step (fail)
      refine wpQuiet_nil ?_
      refine wpO_val (.pointer (some ⟨g, o + 32 * j, none⟩)) rfl rfl (fun W hW => exec_idxM W g o n c j hlt rfl rfl rfl) ?_
      simp only [Act.put, List.setIfInBounds_toArray, List.set_cons_zero, List.set_cons_succ]
      refine wpO_val (.agg (celB x).toArray) rfl rfl (fun W hW => exec_loadM g (o + 32 * j) hx32 (rangeAt_keep HR1.out hW) rfl rfl) ?_
      simp only [Act.put, List.setIfInBounds_toArray, List.set_cons_zero, List.set_cons_succ]
      refine wpO_val (.agg (celB d).toArray) rfl rfl (fun W hW => exec_loadD hd (HD.out.keep hW) rfl rfl) ?_
      simp only [Act.put, List.setIfInBounds_toArray, List.set_cons_zero, List.set_cons_succ]
      refine wpO_val (.bool (decide (x = d))) rfl rfl (fun W hW => exec_cmpD rfl rfl rfl (run_eqD W x d hx32 hd hxb hdb)) ?_
      simp only [Act.put, List.setIfInBounds_toArray, List.set_cons_zero, List.set_cons_succ]
      refine wpO_nil ?_
      have HB2 := Lib.hid (bel_step HB.out hS0)
      have HD2 := Lib.hid (HD.out.keep hS0)
      by_cases hxd : x = d
      · have HT2 := Lib.hid (show countN (Ds.take (j + 1)) d = m + 1 by rw [HT.out, HM.out, if_pos hxd])
        rw [decide_eq_true hxd]
        go_wp2_with fail
        go_roundw
        case rel => exact ⟨j + 1, m + 1, hlt, by go_num, by first | rfl | go_num, HT2.out, HB2.out, HD2.out⟩
        case measure => simp [intOf]; omega
      · have HT2 := Lib.hid (show countN (Ds.take (j + 1)) d = m by rw [HT.out, HM.out, if_neg hxd]; rfl)
        rw [decide_eq_false hxd]
        go_wp2_with fail
        go_roundw
        case rel => exact ⟨j + 1, m, hlt, by go_num, rfl, HT2.out, HB2.out, HD2.out⟩
        case measure => simp [intOf]; omega
    · have hk1 : ¬ ((j : Int) < (n : Int)) := by omega
      have e : countN Ds d = m := by
        have h1 := HM.out
        rwa [List.take_of_length_le (by have := HLN.out; omega)] at h1
      go_wp2_with fail
      go_ret
      exact ⟨rfl, HB.out⟩
theorem run_storePs {ev : Operand → Value} {o : Oper} {p x : Operand} {u1 u2 : Value} {w : World} {t : TypeId} (b : Nat) (v : Value) (hv : ∃ A n c, v = .slice A n c) (ho : o.op = .store 22 p x) (hp : ev p = .pointer (some ⟨b, 1, none⟩)) (hx : ev x = v) (h : w.heap[b]? = some (.cells #[u1, u2] t (0, 0))) :
    (execOp ev o).run Tryd.prog w = .ok .skip (w.setCell ⟨b, 1, none⟩ v) := by
  obtain ⟨A, n, c, rfl⟩ := hv
  have c0 := cells_at h 1 (v := u2) rfl
  have f0 := frozen_of_row w b 1 _ _ h
  unfold execOp
  rw [ho]
  simp only [hp, hx]
  go_simp
theorem OwP.slice {w : World} {base : Nat} {v : Value} {n : Nat} {Ps : List (List Nat)} (h : OwP w base v n Ps) : ∃ A n c, v = .slice A n c := by
  obtain ⟨A, c, e, _⟩ := h.pb
  exact ⟨A, n, c, e⟩
theorem OwP.nil (w : World) (base : Nat) : OwP w base (.slice none 0 0) 0 [] := ⟨[], World.ownsRow_nil w _ _ _, rfl, fun i L hL => by simp at hL⟩
theorem OwP.far {w : World} {base : Nat} {v : Value} {n : Nat} {Ps : List (List Nat)} (h : OwP w base v n Ps) (p : Addr) (u : Value) (t : TypeId) (cs : Array Value) (hb : w.heap[p.block]? = some (.cells cs t (0, 0))) (hne : v.ownBlock ≠ some p.block) (hu : ∀ a, a.block = p.block → ∀ z, w.cell? a ≠ some (.int .u8 z)) : OwP (w.setCell p u) base v n Ps := by
  obtain ⟨vals, h1, h2, h3⟩ := h
  refine ⟨vals, ⟨h1.1, ?_⟩, h2, fun i L hL => ?_⟩
  · rcases h1.2 with hn | ⟨g, cap, cur, rfl, hbs, hgg, rest⟩
    · exact .inl hn
    · exact .inr ⟨g, cap, cur, rfl, hbs, (Below.heap_setCell w p u g (fun e => hne (by rw [← e]; rfl))).trans hgg, rest⟩
  · obtain ⟨B, m, d, k1, k2, k3⟩ := h3 i L hL
    exact ⟨B, m, d, k1, ⟨k2.len, k2.cap, k2.top, k2.nil, k2.byte, fun i z hz => by
      obtain ⟨ad, e, hc⟩ := k2.cells i z hz
      exact ⟨ad, e, (World.cell?_of_block (Below.heap_setCell w p u _ (fun e2 => hu _ e2 _ hc))).trans hc⟩⟩, k3⟩
theorem OwP.farRow {w : World} {base : Nat} {v : Value} {n : Nat} {Ps : List (List Nat)} (h : OwP w base v n Ps) (b : Nat) (ds : Array Value) (hne : v.ownBlock ≠ some b) (hu : ∀ a, a.block = b → ∀ z, w.cell? a ≠ some (.int .u8 z)) : OwP (w.setRow b ds) base v n Ps := by
  obtain ⟨vals, h1, h2, h3⟩ := h
  refine ⟨vals, ⟨h1.1, ?_⟩, h2, fun i L hL => ?_⟩
  · rcases h1.2 with hn | ⟨g, cap, cur, rfl, hbs, hgg, rest⟩
    · exact .inl hn
    · exact .inr ⟨g, cap, cur, rfl, hbs, (row_far (g := g) (fun e => hne (by rw [← e]; rfl)) ds).trans hgg, rest⟩
  · obtain ⟨B, m, d, k1, k2, k3⟩ := h3 i L hL
    exact ⟨B, m, d, k1, ⟨k2.len, k2.cap, k2.top, k2.nil, k2.byte, fun i z hz => by
      obtain ⟨ad, e, hc⟩ := k2.cells i z hz
      exact ⟨ad, e, (World.cell?_of_block (row_far (fun e2 => hu _ e2 _ hc) ds)).trans hc⟩⟩, k3⟩
theorem exec_loadLv {ev : Operand → Value} {o : Oper} {w : World} {x : Operand} (g : Nat) (u v : Value) (ho : o.op = .load 48 x) (hx : ev x = .pointer (some ⟨g, 0, none⟩)) (hc : w.heap[g]? = some (.cells #[u, v] 48 (0, 0))) :
    (execOp ev o).run Tryd.prog w = .ok (.value (.agg #[u, v])) w := by
  unfold execOp
  simp only [ho, hx, Instr.loadAt, Instr.sureAddr, Sem.run_bind, Sem.run_pure, Result.andThen_ok]
  rw [run_loadVar_row w g 48 48 #[u, v] (0, 0) _ hc Tryd.underlying48 rfl (by kernel_rfl)]
  rfl
theorem exec_storeLv {ev : Operand → Value} {o : Oper} {w : World} {x y : Operand} (g : Nat) (u v : Value) (A B : Option Addr) (n c m d : Nat) (ho : o.op = .store 48 x y) (hx : ev x = .pointer (some ⟨g, 0, none⟩)) (hy : ev y = .agg #[.slice A n c, .slice B m d]) (hc : w.heap[g]? = some (.cells #[u, v] 48 (0, 0))) :
    (execOp ev o).run Tryd.prog w = .ok .skip (w.setRow g #[.slice A n c, .slice B m d]) := exec_storeRow g _ _ ho hx hy hc (by kernel_rfl) rfl (by simp [Value.oneCell'])
theorem cells_no_u8 {w : World} {b : Nat} {t : TypeId} {A B : Option Addr} {n c m d : Nat} (h : w.heap[b]? = some (.cells #[.slice A n c, .slice B m d] t (0, 0))) (a : Addr) (ha : a.block = b) (z : Int) : w.cell? a ≠ some (.int .u8 z) := fun hc => by
  rw [World.cell?, ha, h] at hc
  match a with
  | ⟨_, off, spot⟩ =>
    cases spot with
    | some s => simp at hc
    | none =>
      have := List.mem_of_getElem? (l := [Value.slice A n c, Value.slice B m d]) (i := off) (by simpa using hc)
      simp at this
set_option maxHeartbeats 4000000 in
theorem leaves_any (A : Option Addr) (n c : Nat) (Ls : List (List Nat)) (I : Option Addr) (k f : Nat) (is : List Int) (w : World) (h : Pb w A n c Ls) (hi : Ib w I k f is) (hk : k ≤ 1000) (hin : ∀ z ∈ is, 0 ≤ z ∧ z < (n : Int)) :
    Calls Tryd.prog 26 #[.slice A n c, .slice I k f] w fun e w' => ∃ v, e = .returned (.agg #[.slice I k f, v]) ∧ OwP w' w.heap.size v k (is.map fun z => Ls.getD z.toNat []) ∧ Below w.heap.size w w' := by
  have hcap := h.cap
  have htop := h.top
  have hicap := hi.cap
  have hitop := hi.top
  have HP := Lib.hid h
  have HI := Lib.hid hi
  have HLN := Lib.hid (show n = Ls.length ∧ k = is.length from ⟨h.len, hi.len⟩)
  have HIN := Lib.hid hin
  clear h hi hin
  go_enter Tryd.func26, Tryd.ntmps26
  go_upto_region 1 with fail
  refine wp_named1 (fun w1 hb1 g0 hlt1 => ?_)
  have HB1 := Lib.hid hb1
  have H0 := Lib.hid g0
  clear hb1 g0
  go_wp2_with fail
  have g5 := heap_new w1 (.cells #[.slice I k f, .slice none 0 0] 48)
  have hb5 : Below w1.heap.size w1 (w1.alloc (.cells #[.slice I k f, .slice none 0 0] 48)) := (Below.refl _ _).alloc (Nat.le_refl _) _
  have HB2 := Lib.hid (bel_step HB1.out hb5)
  have H02 := Lib.hid (heap_keep H0.out hb5)
  have H5 := Lib.hid g5
  clear hb5 g5 H0 HB1
  obtain ⟨b5, hb5⟩ : ∃ b5, w1.heap.size = b5 := ⟨_, rfl⟩
  generalize w1.alloc (.cells #[.slice I k f, .slice none 0 0] 48) = w2 at *
  rw [hb5] at hlt1 H5 ⊢
  clear hb5
  go_loopw [6] (fun s wr => ∃ (j : Nat) (v : Value), j ≤ k ∧ s = .int .i64 j ∧ wr.heap[b5]? = some (.cells #[.slice I k f, v] 48 (0, 0)) ∧ wr.heap[w.heap.size]? = some (.cells #[.slice none 0 0, .slice none 0 0] 48 (0, 0)) ∧ OwP wr (b5 + 1) v j ((is.take j).map fun z => Ls.getD z.toNat []) ∧ Below w.heap.size w wr ∧ b5 < wr.heap.size) (fun s _ => k - (intOf s).toNat)
  case atStart => exact ⟨0, _, Nat.zero_le _, rfl, H5.out, H02.out, OwP.nil _ _, HB2.out, (Array.getElem?_eq_some_iff.1 H5.out).1⟩
  case round =>
    clear HB2 H02 H5
    obtain ⟨j, v, hj, rfl, h5, h0, ho, hb, hz⟩ := hrel
    obtain ⟨Av, cv, rfl, hpv⟩ := ho.pb
    clear hpv
    have HO := Lib.hid ho
    have HB := Lib.hid hb
    have H5 := Lib.hid h5
    have H0 := Lib.hid h0
    have hws := hb.size
    clear ho hb h0
    have hk0 : (0 : Int) ≤ (j : Int) := by omega
    by_cases hlt : j < k
    · have hk1 : (j : Int) < (k : Int) := by omega
      have hjl : j < is.length := by have := HLN.out; omega
      obtain ⟨z, hz0⟩ : ∃ z, is[j]? = some z := ⟨_, List.getElem?_eq_getElem hjl⟩
      obtain ⟨hz1, hz2⟩ := HIN.out z (List.mem_of_getElem? hz0)
      obtain ⟨q, rfl⟩ : ∃ q : Nat, z = (q : Int) := ⟨z.toNat, by omega⟩
      have hq : q < Ls.length := by have := HLN.out; omega
      obtain ⟨L, hL⟩ : ∃ L, Ls[q]? = some L := ⟨_, List.getElem?_eq_getElem hq⟩
      obtain ⟨ai, rfl, hci⟩ := HI.out.cells j _ hz0
      obtain ⟨ad, B, m, d, rfl, hcl, hs⟩ := HP.out.cells q L hL
      have HX := Lib.hid (show (is.take (j + 1)).map (fun z => Ls.getD z.toNat []) = (is.take j).map (fun z => Ls.getD z.toNat []) ++ [L] by
        rw [List.take_add_one, hz0, List.map_append]
        show _ ++ [Ls.getD ((q : Int)).toNat []] = _
        rw [Int.toNat_natCast, List.getD_eq_getElem?_getD, hL]; rfl)
      have HS := Lib.hid hs
      have d5 := cells_at h5 1 (v := .slice Av j cv) rfl
      have hown5 : some b5 ≠ (Value.slice Av j cv).ownBlock := fun e => by have := (HO.out.lt e.symm).1; omega
      have hlow : ∀ (a : Addr) (u : Value), w.cell? a = some u → some a.block ≠ (Value.slice Av j cv).ownBlock := fun a u hc e => by have := (HO.out.lt e.symm).1; have := cell_lt' hc; omega
      have l0 := LaterS.get (S := SaveO (.slice Av j cv) wr) (fun W hS => hS.cell d5 hown5)
      have l1 := LaterS.get (S := SaveO (.slice Av j cv) wr) (fun W hS => hS.cell (cell_keep hci HB.out) (hlow _ _ hci))
      have l2 := LaterS.get (S := SaveO (.slice Av j cv) wr) (fun W hS => hS.cell (cell_keep hcl HB.out) (hlow _ _ hcl))
      have hS0 : SaveO (.slice Av j cv) wr wr.drew := SaveO.of_below (Below.refl _ _).drew
      haveI := LaterS.inh hS0
      have hq1 : (0 : Int) ≤ (q : Int) := by omega
      have hq2 : (q : Int) < (n : Int) := by omega
      clear h5 hz0 hL hs hz1 hz2 d5
      go_upto_region 5 with fail
      refine Tl.wp_held_tail (S := fun w' => ∃ x : LaterS (SaveO (.slice Av j cv) wr), w' = x.at) 12 (by kernel_rfl) (lexOK_of (by kernel_rfl) (by kernel_rfl)) (Tl.chainW_of (by kernel_rfl)) rfl (by kernel_rfl) (by kernel_rfl) (LaterS.some hS0) ?_
      refine wpHeld_seg 9 (LaterS.some hS0) (by kernel_rfl) ?_
      simp only [List.take_succ_cons, List.take_zero, List.drop_succ_cons, List.drop_zero]
      iterate 9 (go_big_quiet_step (fail))
      refine wpQuiet_nil ?_
      clear l0 l1 l2
      have hb2 : Below wr.heap.size wr (wr.drew.alloc (.cells #[.slice B m d] 44)) := (Below.refl _ _).drew.alloc (Nat.le_refl _) _
      have hg2 := One.new wr.drew 44 (.slice B m d)
      have hS2 : SaveO (.slice Av j cv) wr (wr.drew.alloc (.cells #[.slice B m d] 44)) := SaveO.of_below hb2
      refine wpHeld_run _ _ (by kernel_rfl) (by kernel_rfl) (run_buildP1 B m d rfl rfl wr.drew) (LaterS.some hS2) ?_
      simp only [Act.put, List.setIfInBounds_toArray, List.set_cons_zero, List.set_cons_succ]
      have HB2 := Lib.hid hb2
      have HG2 := Lib.hid hg2
      clear hb2 hg2
      refine wpHeld_op (by kernel_rfl) (by kernel_rfl) ?_
      refine hOp_appendPs (.tmp 16) (.tmp 24) rfl (b5 + 1) _ j _ rfl (HO.out.keep HB2.out) wr.drew.heap.size 1 B m d L rfl HG2.out (HS.out.keep (HB.out.trans (HB2.out.mono hws))) (fun ad2 e hne e2 => by
        have h1 := (HO.out.lt e2).1
        obtain ⟨z, hz⟩ : ∃ z, L[0]? = some z := ⟨L[0]'(List.length_pos_iff.2 hne), List.getElem?_eq_getElem _⟩
        obtain ⟨ad', e', hc⟩ := HS.out.cells 0 z hz
        rw [e] at e'
        injection e' with e'
        subst e'
        have := cell_lt' hc
        have hb : (ad2.add 0).block = ad2.block := by unfold Addr.add; split <;> rfl
        omega) (by omega) (by have := HB2.out.size; omega) ?_
      intro v' w' ho2 hg2 hw2
      have HO2 := Lib.hid ho2
      have hS3 := hS2.grown hg2
      have HBB := Lib.hid ((HB.out.trans (HB2.out.mono hws)).trans (((HO.out.keep HB2.out).below hg2 (by have := HB2.out.size; omega)).mono (by omega)))
      have HW2 := Lib.hid (show v'.ownBlock ≠ some b5 from fun e => by
        rcases hw2 b5 e with h | h
        · exact hown5 h.symm
        · have := HB2.out.size
          omega)
      clear ho2 hg2 hw2
      refine ⟨LaterS.some hS3, ?_⟩
      simp only [Act.put, List.setIfInBounds_toArray, List.set_cons_zero, List.set_cons_succ]
      refine wpHeld_seg 1 (LaterS.some hS3) (by kernel_rfl) ?_
      simp only [List.take_succ_cons, List.take_zero, List.drop_succ_cons, List.drop_zero]
      go_big_quiet_step (fail)
      refine wpQuiet_nil ?_
      refine wpHeld_nil ?_
      have h53 : w'.heap[b5]? = some (.cells #[.slice (some ai) k f, .slice Av j cv] 48 (0, 0)) := (hS3.2 b5 hz hown5).trans H5.out
      have h03 : w'.heap[w.heap.size]? = some (.cells #[.slice none 0 0, .slice none 0 0] 48 (0, 0)) := (hS3.2 w.heap.size (by omega) (fun e => by have := (HO.out.lt e.symm).1; omega)).trans H0.out
      refine mOp_run0 _ rfl rfl (run_storePs b5 v' HO2.out.slice rfl rfl rfl h53) ?_
      go_wp2_with fail
      go_roundw
      case rel => exact ⟨j + 1, v', hlt, by go_num, heap_setCell_same _ _ 1 _ _ _ h53, (Below.heap_setCell _ _ _ _ (by show w.heap.size ≠ b5; omega)).trans h03, by rw [HX.out]; exact HO2.out.far _ _ 48 _ h53 HW2.out (fun a ha z => cells_no_u8 h53 a ha z), HBB.out.setCell (by show w.heap.size ≤ b5; omega) _, by have := hS3.1; simp [World.setCell]; omega⟩
      case measure => simp [intOf]; omega
    · obtain rfl : j = k := by omega
      have hk1 : ¬ ((j : Int) < (j : Int)) := by omega
      have HF := Lib.hid (show OwP wr w.heap.size (.slice Av j cv) j (is.map fun z => Ls.getD z.toNat []) by
        have ho := HO.out
        rw [List.take_of_length_le (by have := HLN.out; omega)] at ho
        obtain ⟨vals, h1, h2, h3⟩ := ho
        refine ⟨vals, ⟨h1.1, ?_⟩, h2, h3⟩
        rcases h1.2 with hn | ⟨g, cap, cur, e, hbs, rest⟩
        · exact .inl hn
        · exact .inr ⟨g, cap, cur, e, by omega, rest⟩)
      have HW0 : Hid ((Value.slice Av j cv).ownBlock ≠ some w.heap.size) := Lib.hid (fun e => by have := (HO.out.lt e).1; omega)
      have HG := Lib.hid (HF.out.farRow w.heap.size #[.slice I j f, .slice Av j cv] HW0.out (fun a ha z => cells_no_u8 H0.out a ha z))
      go_upto_region 6 with fail
      refine wp_region_lit ?_
      refine wpList_val rfl (.agg #[.slice I j f, .slice Av j cv]) wr (exec_loadLv b5 _ _ rfl rfl H5.out) ?_
      simp only [Act.put, List.setIfInBounds_toArray, List.set_cons_zero, List.set_cons_succ]
      refine wpList_skip0 rfl _ (exec_storeLv w.heap.size _ _ I Av j f j cv rfl rfl rfl H0.out) ?_
      refine wpList_nil ?_
      simp only [Act.put]
      go_wp2_with fail
      refine bodyPost_ret (v := .agg #[.slice I j f, .slice Av j cv]) ?_ rfl ⟨_, rfl, HG.out, bel_setRow HB.out (Nat.le_refl _) _⟩
      exact results_cell_row rfl _ _ w.heap.size 48 _ (0, 0) _ rfl (row_set H0.out _) Tryd.underlying48 rfl (by kernel_rfl)
end Go.Proofs.YtcephdkcjcbanaaDoor

/- The reference's small functions: a number of leaves refused, set bits counted. -/
namespace Go.Proofs.YtcephdkcjcbanaaDoor
set_option linter.unusedVariables false
set_option linter.unusedSimpArgs false
set_option maxRecDepth 8000
open Go.RowKit
theorem size8_small (z : Int) (w : World) (h : z < 1) :
    Calls Tryd.prog 34 #[.int .i64 z] w fun e w' => e = .returned (.int .i64 1) ∧ w' = w := by
  go_enter Tryd.func34, Tryd.ntmps34
  go_wp2_with fail
  go_ret
  exact ⟨rfl, rfl⟩
theorem size8_big (z : Int) (w : World) (h : 65536 < z) :
    Calls Tryd.prog 34 #[.int .i64 z] w fun e w' => e = .returned (.int .i64 2) ∧ w' = w := by
  have h1 : ¬ (z < 1) := by omega
  go_enter Tryd.func34, Tryd.ntmps34
  go_wp2_with fail
  go_ret
  exact ⟨rfl, rfl⟩
theorem rones_any (n : Nat) (w : World) (hn : n ≤ 100000) :
    Calls Tryd.prog 52 #[.int .i64 (n : Int)] w fun e w' => e = .returned (.int .i64 ((onesN n : Nat) : Int)) ∧ w' = w := by
  go_enter Tryd.func52, Tryd.ntmps52
  go_wp2_with fail
  go_loopw [0, 3] (fun s t wr => ∃ m b : Nat, m ≤ n ∧ b + onesN m = onesN n ∧ s = .int .i64 m ∧ t = .int .i64 b ∧ wr = w) (fun s _ _ => (intOf s).toNat)
  case atStart => exact ⟨n, 0, Nat.le_refl _, Nat.zero_add _, rfl, rfl, rfl⟩
  case round =>
    obtain ⟨m, b, hm, hb, rfl, rfl, rfl⟩ := hrel
    have HBB := Lib.hid hb
    have hob := onesN_le n
    have hb2 : b ≤ 100000 := by omega
    clear hb hob
    by_cases h0 : m = 0
    · subst h0
      have e : onesN n = b := by have := HBB.out; rw [onesN_zero] at this; omega
      go_wp2_with fail
      go_ret
      first | exact ⟨rfl, rfl⟩ | (rw [e]; exact ⟨rfl, rfl⟩)
    · have h1 : (0 : Int) < (m : Int) := by omega
      have HS := Lib.hid (onesN_step m)
      have hw1 : IntKind.i64.wrap (Int.tmod (m : Int) 2) = ((m % 2 : Nat) : Int) := by rw [IntKind.wrap_i64, Int.tmod_eq_emod_of_nonneg (by omega)]; omega
      have hw2 : IntKind.i64.wrap (Int.tdiv (m : Int) 2) = ((m / 2 : Nat) : Int) := by rw [IntKind.wrap_i64, Int.tdiv_eq_ediv_of_nonneg (by omega)]; omega
      have hw : IntKind.i64.wrap ((b : Int) + ((m % 2 : Nat) : Int)) = ((b + m % 2 : Nat) : Int) := by rw [IntKind.wrap_i64]; omega
      go_wp2_with fail
      go_roundw
      case rel => exact ⟨m / 2, b + m % 2, by omega, by have := HBB.out; have := HS.out; omega, by first | rfl | go_num, by first | rfl | go_num, by first | trivial | rfl⟩
      case measure => simp [intOf]; omega
end Go.Proofs.YtcephdkcjcbanaaDoor
