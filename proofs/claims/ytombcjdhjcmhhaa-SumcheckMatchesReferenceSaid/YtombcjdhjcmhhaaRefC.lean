/- Contracts of the reference of package poly: values, made lists, roots, quotients; no conditions but lengths. -/
import Derived.Test.YtombcjdhjcmhhaaRefB
namespace Go.Proofs.Ytombcjdhjcmhhaa
set_option maxRecDepth 8000
open Go.RowKit Gold

set_option maxHeartbeats 2000000 in
theorem rPEval_any (A : Option Addr) (n c : Nat) (xs : List E2) (y : E2) (w : World) (h : Sl w A n c xs) :
    Calls Try.prog 53 #[.slice A n c, .agg #[.int .u64 (vF y.A), .int .u64 (vF y.B)]] w fun e w' => e = .returned (.agg #[.int .u64 (vF (evE xs y).A), .int .u64 (vF (evE xs y).B)]) ∧ Below w.heap.size w w' := by
  have hnc := h.cap
  have hct := h.top
  have HL := Lib.hid h.len
  have HS := Lib.hid h
  clear h
  go_enter Try.func53, Try.ntmps53
  go_wp2_with fail
  refine wp_named3 (fun W hB g0 g1 g2 hz => ?_)
  have HB := Lib.hid hB
  have HY := Lib.hid (show Two W w.heap.size 43 (.int .u64 (vF y.A)) (.int .u64 (vF y.B)) from g0)
  have HR := Lib.hid (show Two W (w.heap.size + 1) 43 (.int .u64 0) (.int .u64 0) from g1)
  have HV := Lib.hid (show Two W (w.heap.size + 1 + 1) 43 (.int .u64 0) (.int .u64 0) from g2)
  clear hB g0 g1 g2
  go_loopw [6] (fun s wr => ∃ k : Nat, k ≤ n ∧ s = .int .i64 ((k : Int) - 1) ∧ Two wr w.heap.size 43 (.int .u64 (vF y.A)) (.int .u64 (vF y.B)) ∧ Two wr (w.heap.size + 1) 43 (.int .u64 0) (.int .u64 0) ∧ Two wr (w.heap.size + 1 + 1) 43 (.int .u64 (vF (evFrom xs y k).A)) (.int .u64 (vF (evFrom xs y k).B)) ∧ Below w.heap.size w wr) (fun s _ => (intOf s + 1).toNat)
  case atStart =>
    refine ⟨n, Nat.le_refl _, rfl, HY.out, HR.out, ?_, HB.out⟩
    rw [evFrom_end y (Nat.le_of_eq HL.out.symm)]
    exact HV.out
  case round =>
    clear HB HY HR HV
    obtain ⟨k, hk, rfl, hy, hr, hv, hb⟩ := hrel
    have HY := Lib.hid hy
    have HR := Lib.hid hr
    have HV := Lib.hid hv
    have HB := Lib.hid hb
    clear hy hr hv hb
    cases k with
    | zero =>
      have v0 := HV.out.c0
      have v1 := HV.out.c1
      have r0 := HR.out.c0
      have r1 := HR.out.c1
      have f0 := HR.out.f0
      have f1 := HR.out.f1
      go_wp2_with fail
      refine bodyPost_ret (v := .agg #[.int .u64 (vF (evFrom xs y 0).A), .int .u64 (vF (evFrom xs y 0).B)]) (by simp [results, Try.results53, go_sem, r0, r1]) rfl ⟨rfl, ?_⟩
      exact (HB.out.setCell (Nat.le_succ _) _).setCell (Nat.le_succ _) _
    | succ j =>
      obtain ⟨x, hx⟩ := HS.out.get (show j < n by omega)
      obtain ⟨ad, rfl, h0, h1⟩ := HS.out.at_ hx
      replace h0 := cell_keep h0 HB.out
      replace h1 := cell_keep h1 HB.out
      have HX := Lib.hid hx
      clear hx
      generalize hacc : evFrom xs y (j + 1) = v at HV
      have HA := Lib.hid hacc
      clear hacc
      have v0 := HV.out.c0
      have v1 := HV.out.c1
      have f0 := HV.out.f0
      have f1 := HV.out.f1
      have l0 := Later.cell v0
      have l1 := Later.cell v1
      have l2 := Later.cell HY.out.c0
      have l3 := Later.cell HY.out.c1
      have l4 := Later.cell h0
      have l5 := Later.cell h1
      clear h0 h1
      have hj0 : (0 : Int) ≤ (j : Int) := by omega
      have hj1 : (j : Int) < (n : Int) := by omega
      go_wp2_with fail
      refine wp_later_tail 8 (by kernel_rfl) (by kernel_rfl) ?_
      simp only [List.take_succ_cons, List.take_zero, List.drop_succ_cons, List.drop_zero]
      repeat (go_big_quiet_step (first
        | (go_at_call 36; with_reducible exact Calls.later (rMul_any v y _))
        | (go_at_call 32; with_reducible exact Calls.later (rAdd_any (v * y) x _))))
      refine wpQuiet_nil ?_
      intro X
      clear l0 l1 l2 l3 l4 l5
      have hb := X.below
      replace f0 := free_after hb v0 f0
      replace f1 := free_after hb v1 f1
      replace v0 := cell_after hb v0
      replace v1 := cell_after hb v1
      have HY1 := Lib.hid (HY.out.keep hb)
      have HR1 := Lib.hid (HR.out.keep hb)
      have HV1 := Lib.hid (HV.out.keep hb)
      have HB1 := Lib.hid (below_step HB.out hb)
      clear hb
      go_wp2_with fail
      go_roundw
      case rel =>
        refine ⟨j, by omega, by go_num, (HY1.out.far _ (by simp; omega)).far _ (by simp; omega), (HR1.out.far _ (by simp)).far _ (by simp), ?_, (HB1.out.setCell (by simp; omega) _).setCell (by simp; omega) _⟩
        rw [evFrom_step HX.out, HA.out]
        exact (HV1.out.set0 _).set1 _
      case measure => simp [intOf]

/-- the element that is made of two numbers -/
def madeE (p : Int × Int) : E2 := toE p.1 p.2
/-- pairs of numbers that a program may hold -/
def Nums (ps : List (Int × Int)) : Prop := ∀ p, p ∈ ps → U64 p.1 ∧ U64 p.2
/-- a slice that came in -/
def Sr (w : World) (A : Option Addr) (n c : Nat) (ps : List (Int × Int)) : Prop := SlR w A n c (ps.map fun p => (.int .u64 p.1, .int .u64 p.2))
theorem Sr.len {w : World} {A : Option Addr} {n c : Nat} {ps : List (Int × Int)} (h : Sr w A n c ps) : n = ps.length := by simpa using SlR.len h
theorem Sr.keep {w w' : World} {A : Option Addr} {n c : Nat} {ps : List (Int × Int)} (h : Sr w A n c ps) (hb : Below w.heap.size w w') : Sr w' A n c ps := SlR.keep h hb
theorem Sr.at_ {w : World} {A : Option Addr} {n c : Nat} {ps : List (Int × Int)} {i : Nat} {p : Int × Int} (h : Sr w A n c ps) (hx : ps[i]? = some p) : ∃ ad, A = some ad ∧ w.cell? (ad.add (i * 2)) = some (.int .u64 p.1) ∧ w.cell? ⟨(ad.add (i * 2)).block, (ad.add (i * 2)).off + 1, none⟩ = some (.int .u64 p.2) := by
  obtain ⟨ad, e, h1, h2⟩ := SlR.cells h i (.int .u64 p.1, .int .u64 p.2) (by simp [hx])
  exact ⟨ad, e, h1, h2⟩
theorem Sr.get {w : World} {A : Option Addr} {n c : Nat} {ps : List (Int × Int)} {i : Nat} (h : Sr w A n c ps) (hi : i < n) : ∃ p, ps[i]? = some p := ⟨ps[i]'(by have := h.len; omega), List.getElem?_eq_getElem _⟩
theorem take_map_snoc {ps : List (Int × Int)} {k : Nat} {p : Int × Int} (h : ps[k]? = some p) : (ps.take (k + 1)).map madeE = (ps.take k).map madeE ++ [madeE p] := by
  obtain ⟨hl, he⟩ := List.getElem?_eq_some_iff.1 h
  rw [List.take_succ_eq_append_getElem hl, List.map_append, he]
  rfl

set_option maxHeartbeats 2000000 in
theorem rPMade_any (A : Option Addr) (n c : Nat) (ps : List (Int × Int)) (q : Nat) (w : World) (h : Sr w A n c ps) (hw : Nums ps) (hq : q ≤ 65536) :
    Calls Try.prog 41 #[.slice A n c, .int .i64 q] w fun e w' => ∃ A' m c', e = .returned (.slice A' m c') ∧ m ≤ q ∧ Sl w' A' m c' ((ps.take q).map madeE) ∧ OwE w' w.heap.size (.slice A' m c') m ((ps.take q).map madeE) ∧ Below w.heap.size w w' := by
  have hnc := SlR.cap h
  have hct := SlR.top h
  have HL := Lib.hid h.len
  have HW := Lib.hid hw
  have HS := Lib.hid h
  clear h hw
  go_enter Try.func41, Try.ntmps41
  go_wp2_with fail
  go_loopw [5, 6] (fun v i wr => ∃ k : Nat, k ≤ n ∧ k ≤ q ∧ i = .int .i64 k ∧ OwE wr w.heap.size v k ((ps.take k).map madeE) ∧ Below w.heap.size w wr) (fun _ i _ => n - (intOf i).toNat)
  case atStart => exact ⟨0, Nat.zero_le _, Nat.zero_le _, rfl, OwE.made w w.heap.size (Nat.le_refl _), (Below.refl _ _).alloc (Nat.le_refl _) _⟩
  case round =>
    obtain ⟨k, hk, hkq, rfl, ho, hb⟩ := hrel
    have HO := Lib.hid ho
    have HB := Lib.hid hb
    clear ho hb
    by_cases hlt : k < n
    · by_cases hltq : k < q
      · obtain ⟨p, hp⟩ := HS.out.get hlt
        obtain ⟨ad, rfl, h0, h1⟩ := HS.out.at_ hp
        replace h0 := cell_keep h0 HB.out
        replace h1 := cell_keep h1 HB.out
        have hw := HW.out p (List.mem_of_getElem? hp)
        have HX := Lib.hid hp
        clear hp
        go_wp2_with fail
        refine (rMade_any p.1 p.2 _ hw.1 hw.2).mono ?_
        rintro e W1 ⟨rfl, hb⟩
        have HO1 := Lib.hid (HO.out.keep hb)
        have HB1 := Lib.hid (below_step HB.out hb)
        clear hb h0 h1 hw
        go_wp2_with (at_builtin; refine wpList_appendE rfl (.tmp 19) (.tmp 25) rfl (w.heap.size) _ k _ rfl (HO1.out.keep ((Below.refl _ _).alloc (Nat.le_refl _) _)) W1.heap.size 1 (madeE p) rfl (Two.new W1 _ _ _) (by omega) (by have := HB1.out.size; simp; omega) ?_; intro v1 w1 hown1 hg1; have HO2 := Lib.hid hown1; have HB2 := Lib.hid (below_grown (w0 := w) (HB1.out.alloc HB1.out.size _) hg1 (HO1.out.keep ((Below.refl _ _).alloc (Nat.le_refl _) _)) (Nat.le_refl _)); clear hown1 hg1)
        go_roundw
        case rel => exact ⟨k + 1, by omega, by omega, by go_num, by rw [take_map_snoc HX.out]; exact HO2.out, HB2.out⟩
        case measure => simp [intOf]; omega
      · have hkq' : k = q := by omega
        subst hkq'
        obtain ⟨A1, c1, rfl, hs1⟩ := HO.out.sl
        have HSQ := Lib.hid hs1
        clear hs1
        go_wp2_with fail
        go_ret
        exact ⟨A1, k, c1, rfl, hkq, HSQ.out, HO.out, HB.out⟩
    · have hkn : k = n := by omega
      obtain ⟨A1, c1, rfl, hs1⟩ := HO.out.sl
      have HSQ := Lib.hid hs1
      clear hs1
      go_wp2_with fail
      go_ret
      have e : ps.take q = ps.take k := by rw [hkn, HL.out, List.take_length, List.take_of_length_le (by have := HL.out; omega)]
      exact ⟨A1, k, c1, rfl, hkq, by rw [e]; exact HSQ.out, by rw [e]; exact HO.out, HB.out⟩

/-- exactly q elements -/
def exactE (ps : List (Int × Int)) (q : Nat) : List E2 := (ps.take q).map madeE ++ List.replicate (q - ps.length) E2.zero
theorem exactE_length (ps : List (Int × Int)) (q : Nat) : (exactE ps q).length = q := by
  unfold exactE
  rw [List.length_append, List.length_map, List.length_take, List.length_replicate]
  omega

set_option maxHeartbeats 2000000 in
theorem rPExactly_any (A : Option Addr) (n c : Nat) (ps : List (Int × Int)) (q : Nat) (w : World) (h : Sr w A n c ps) (hw : Nums ps) (hq : q ≤ 65536) :
    Calls Try.prog 14 #[.slice A n c, .int .i64 q] w fun e w' => ∃ A' c', e = .returned (.slice A' q c') ∧ Sl w' A' q c' (exactE ps q) ∧ Below w.heap.size w w' := by
  have HL := Lib.hid h.len
  have HW := Lib.hid hw
  have HS := Lib.hid h
  clear h hw
  go_enter Try.func14, Try.ntmps14
  go_wp2_with fail
  refine (rPMade_any A n c ps q _ HS.out HW.out hq).mono ?_
  rintro e W1 ⟨A1, m1, c1, rfl, hm1, hs, ho, hb⟩
  have HO := Lib.hid ho
  have HB := Lib.hid hb
  have HM := Lib.hid (show m1 = min q ps.length by have := hs.len; simpa using this)
  clear hs ho hb
  go_wp2_with fail
  go_loopw [5] (fun v wr => ∃ (k : Nat) (A2 : Option Addr) (c2 : Nat), v = .slice A2 k c2 ∧ k ≤ q ∧ m1 ≤ k ∧ OwE wr w.heap.size (.slice A2 k c2) k ((ps.take q).map madeE ++ List.replicate (k - m1) E2.zero) ∧ Below w.heap.size w wr) (fun v _ => match v with | .slice _ k _ => q - k | _ => 0)
  case atStart => exact ⟨m1, A1, c1, rfl, hm1, Nat.le_refl _, by rw [Nat.sub_self]; simpa using HO.out, HB.out⟩
  case round =>
    clear HO HB
    obtain ⟨k, A2, c2, rfl, hk, hmk, ho, hb⟩ := hrel
    obtain ⟨A3, c3, e3, hs3⟩ := ho.sl
    injection e3 with eA eN eC
    subst eA
    subst eC
    have hkc := hs3.cap
    have hct := hs3.top
    have HO1 := Lib.hid ho
    have HB1 := Lib.hid hb
    have HS3 := Lib.hid hs3
    clear ho hb hs3 eN
    by_cases hlt : k < q
    · go_wp2_with (at_builtin; refine wpList_appendE rfl (.tmp 13) (.tmp 15) rfl (w.heap.size) _ k _ rfl (HO1.out.keep ((Below.refl _ _).alloc (Nat.le_refl _) _)) wr.heap.size 1 (E2.zero) rfl (Two.new wr _ _ _) (by omega) (by have := HB1.out.size; simp; omega) ?_; intro v1 w1 hown1 hg1; have HO2 := Lib.hid hown1; have HB2 := Lib.hid (below_grown (w0 := w) (HB1.out.alloc HB1.out.size _) hg1 (HO1.out.keep ((Below.refl _ _).alloc (Nat.le_refl _) _)) (Nat.le_refl _)); clear hown1 hg1)
      obtain ⟨A4, c4, rfl, hs4⟩ := HO2.out.sl
      clear hs4
      go_roundw
      case rel => exact ⟨k + 1, A4, c4, rfl, by omega, by omega, by rw [show k + 1 - m1 = (k - m1) + 1 by omega, List.replicate_succ', ← List.append_assoc]; exact HO2.out, HB2.out⟩
      case measure => show q - (k + 1) < q - k; omega
    · have hkq : k = q := by omega
      subst hkq
      go_wp2_with fail
      go_ret
      exact ⟨A2, c2, rfl, by unfold exactE; have := HS3.out; have hm := HM.out; rw [show k - ps.length = k - m1 by omega]; exact this, HB1.out⟩


/-- the places below k at which p vanishes -/
def rootsAt (xs ls : List E2) (k : Nat) : List Nat := (List.range k).filter fun i => ezero (evE xs (cfE ls i))
theorem rootsAt_yes {xs ls : List E2} {k : Nat} (h : ezero (evE xs (cfE ls k)) = true) : rootsAt xs ls (k + 1) = rootsAt xs ls k ++ [k] := by
  unfold rootsAt
  rw [List.range_succ, List.filter_append]
  simp [h]
theorem rootsAt_no {xs ls : List E2} {k : Nat} (h : ezero (evE xs (cfE ls k)) = false) : rootsAt xs ls (k + 1) = rootsAt xs ls k := by
  unfold rootsAt
  rw [List.range_succ, List.filter_append]
  simp [h]
theorem rootsAt_length (xs ls : List E2) (k : Nat) : (rootsAt xs ls k).length ≤ k := by
  unfold rootsAt
  have := List.length_filter_le (fun i => ezero (evE xs (cfE ls i))) (List.range k)
  simpa using this


end Go.Proofs.Ytombcjdhjcmhhaa
