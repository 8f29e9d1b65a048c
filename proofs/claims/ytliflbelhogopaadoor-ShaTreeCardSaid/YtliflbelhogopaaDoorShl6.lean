/- The walk of ShaTree. -/
import Derived.Test.YtliflbelhogopaaDoorDig
namespace Go.Proofs.YtliflbelhogopaaDoor
set_option maxRecDepth 8000
open Go.RowKit
attribute [local simp] z32_ne z32_run
attribute [-simp] Tryd.zeroValue26 Tryd.isAgg26 Tryd.sizeOf26
section
open Go.ChangeShapes Go.WideShapes Go.ChangeAt Go.Joins
theorem cellsS4 : Tryd.prog.cellsOf 45 = 4 := by kernel_rfl
theorem open_bytes4 {H : Type} {enc : TypeId × Value → H} {W : World} {base : Nat} {sp : Nat → Bool} {b1 : Nat} {hd : Bool} {v : Value} {d : DataW H} {p : List MemPlace} (hv : Value.okWide Tryd.prog W .any base 45 v) (h : DataW.Trod enc Tryd.prog W b1 sp hd 45 v d p) :
    ∃ (A : Nat → Option Addr) (n c : Nat → Nat) (bs : Nat → List Nat), v = .agg #[.slice (A 0) (n 0) (c 0), .slice (A 1) (n 1) (c 1), .slice (A 2) (n 2) (c 2), .slice (A 3) (n 3) (c 3)] ∧ ∀ i, i < 4 → Sb W (A i) (n i) (c i) (bs i) := by
  obtain ⟨cs, rfl, hsz, _⟩ : ∃ cs, v = .agg cs ∧ cs.size = Tryd.prog.cellsOf 45 ∧ Row.okWide Tryd.prog W .any base 45 cs := by
    simpa [Value.okWide, Tryd.underlying45] using hv
  rw [cellsS4] at hsz
  obtain ⟨l⟩ := cs
  have hsz' : l.length = 4 := by simpa using hsz
  clear hsz
  match l, hsz' with
  | [c0, c1, c2, c3], _ =>
    obtain ⟨fuel, hf⟩ := h
    obtain ⟨xs, m, _, _, _, hn, hel⟩ := DataW.trod_array Tryd.underlying45 hf
    rw [cellsS1] at hel
    match xs, hn with
    | [y0, y1, y2, y3], _ =>
      have g0 : DataW.trod enc Tryd.prog W b1 sp hd m 22 [c0] = some y0 := by simpa [Value.cells] using hel 0 (by omega)
      have g1 : DataW.trod enc Tryd.prog W b1 sp hd m 22 [c1] = some y1 := by simpa [Value.cells] using hel 1 (by omega)
      have g2 : DataW.trod enc Tryd.prog W b1 sp hd m 22 [c2] = some y2 := by simpa [Value.cells] using hel 2 (by omega)
      have g3 : DataW.trod enc Tryd.prog W b1 sp hd m 22 [c3] = some y3 := by simpa [Value.cells] using hel 3 (by omega)
      obtain ⟨A0, n0, k0, b0, e0, h0⟩ := bytes_of_trod (d := y0.1) (p := y0.2) g0
      obtain ⟨A1, n1, k1, b1', e1, h1⟩ := bytes_of_trod (d := y1.1) (p := y1.2) g1
      obtain ⟨A2, n2, k2, b2, e2, h2⟩ := bytes_of_trod (d := y2.1) (p := y2.2) g2
      obtain ⟨A3, n3, k3, b3, e3, h3⟩ := bytes_of_trod (d := y3.1) (p := y3.2) g3
      injection e0 with e0
      injection e1 with e1
      injection e2 with e2
      injection e3 with e3
      subst e0 e1 e2 e3
      refine ⟨fun i => match i with | 0 => A0 | 1 => A1 | 2 => A2 | _ => A3, fun i => match i with | 0 => n0 | 1 => n1 | 2 => n2 | _ => n3, fun i => match i with | 0 => k0 | 1 => k1 | 2 => k2 | _ => k3, fun i => match i with | 0 => b0 | 1 => b1' | 2 => b2 | _ => b3, rfl, fun i hi => ?_⟩
      match i, hi with
      | 0, _ => exact h0
      | 1, _ => exact h1
      | 2, _ => exact h2
      | 3, _ => exact h3
end
theorem four_at (A : Nat → Option Addr) (n c : Nat → Nat) (j : Nat) (hj : j < 4) : (#[Value.slice (A 0) (n 0) (c 0), .slice (A 1) (n 1) (c 1), .slice (A 2) (n 2) (c 2), .slice (A 3) (n 3) (c 3)] : Array Value)[j]? = some (.slice (A j) (n j) (c j)) := by
  match j, hj with
  | 0, _ => rfl
  | 1, _ => rfl
  | 2, _ => rfl
  | 3, _ => rfl
/-- the leaves' digests -/
def leavesN (bs : Nat → List Nat) (k : Nat) : List (List Nat) := (List.range k).map fun i => shaN (0 :: (bs i).take 60)
theorem leavesN_succ (bs : Nat → List Nat) (k : Nat) : leavesN bs (k + 1) = leavesN bs k ++ [shaN (0 :: (bs k).take 60)] := by
  unfold leavesN
  rw [List.range_succ, List.map_append]
  rfl
theorem min60 (n : Nat) (l : List Nat) (h : n = l.length) : ∃ m : Nat, (if (60 : Int) < (n : Int) then (60 : Int) else (n : Int)) = (m : Int) ∧ m ≤ n ∧ m ≤ 60 ∧ l.take m = l.take 60 := by
  obtain ⟨m, h1, h2, h3⟩ := min400 n 60
  refine ⟨m, h1, h2, h3, ?_⟩
  by_cases hh : n ≤ 60
  · have : m = n := by
      rw [if_neg (by omega)] at h1
      omega
    rw [List.take_of_length_le (by omega), List.take_of_length_le (by omega)]
  · have : m = 60 := by
      rw [if_pos (by omega)] at h1
      omega
    rw [this]
/-- two slices of the call's own stay apart -/
def Apart (u v : Value) : Prop := ∀ k, u.ownBlock = some k → v.ownBlock ≠ some k
theorem Apart.symm {u v : Value} (h : Apart u v) : Apart v u := fun k hk e => h k e hk
theorem OwD.other {w w' : World} {base : Nat} {u v : Value} {n : Nat} {Ds : List (List Nat)} (h : OwD w base v n Ds) (hg : w.grownBy w' u.ownBlock) (ha : Apart u v) : OwD w' base v n Ds :=
  ⟨World.ownsRow.kept h.1 hg (by
    cases hv : v.ownBlock with
    | none => exact .inl rfl
    | some k => exact .inr fun e => ha k e.symm hv), h.2⟩
theorem Apart.grow {w : World} {base : Nat} {u u' v : Value} {n : Nat} {Ds : List (List Nat)} (ha : Apart u v) (hw : ∀ k, u'.ownBlock = some k → u.ownBlock = some k ∨ w.heap.size ≤ k) (h : OwD w base v n Ds) : Apart u' v := fun k hk e => by
  rcases hw k hk with h1 | h1
  · exact ha k h1 e
  · have := (World.ownsRow.lt h.1 k e).2
    omega
set_option maxHeartbeats 4000000 in
theorem shaTree_any (A : Nat → Option Addr) (n c : Nat → Nat) (bs : Nat → List Nat) (w : World) (h : ∀ i, i < 4 → Sb w (A i) (n i) (c i) (bs i)) (hG : Gl w) :
    Calls Tryd.prog 8 #[.agg #[.slice (A 0) (n 0) (c 0), .slice (A 1) (n 1) (c 1), .slice (A 2) (n 2) (c 2), .slice (A 3) (n 3) (c 3)]] w fun e w' => e = .returned (.bool true) ∧ Below w.heap.size w w' := by
  have HS := Lib.hid h
  have HG := Lib.hid hG
  clear h hG
  go_enter Tryd.func8, Tryd.ntmps8
  go_wp2_with fail
  refine calls_named1 (fun W hB g0 hz => ?_)
  refine (sanity7_any W (HG.out.keep hB)).mono ?_
  rintro e W1 ⟨rfl, hb⟩
  have HB1 := Lib.hid (hB.trans (hb.mono hB.size))
  have g1 := heap_keep g0 hb
  have k0 : ∀ j, j < 4 → W1.cell? ⟨w.heap.size, j, none⟩ = some (.slice (A j) (n j) (c j)) := fun j hj => cells_at g1 j (four_at A n c j hj)
  have hg0 : w.heap.size < W1.heap.size := (Array.getElem?_eq_some_iff.1 g1).1
  have HC := Lib.hid k0
  clear hB hb g0 g1 hz k0
  go_wp2_with fail
  simp only [Tryd.sizeOf26, Result.andThen]
  rw [Oper.upon_value]
  go_wp2_with fail
  simp only [Tryd.sizeOf26, Result.andThen]
  rw [Oper.upon_value]
  go_upto_region 3 with fail
  refine wp_named2 (fun W2 hb2 q0 q1 hl2 => ?_)
  have HN2 : Hid (OwD W2 W1.heap.size (.slice (some ⟨W1.heap.size, 0, none⟩) 0 0) 0 []) := Lib.hid (OwD.nil1 q0 (Nat.le_refl _))
  have HP2 : Hid (OwD W2 W1.heap.size (.slice (some ⟨W1.heap.size + 1, 0, none⟩) 0 0) 0 []) := Lib.hid (OwD.nil1 q1 (by omega))
  have HA2 : Hid (Apart (.slice (some ⟨W1.heap.size, 0, none⟩) 0 0) (.slice (some ⟨W1.heap.size + 1, 0, none⟩) 0 0)) := Lib.hid (fun k e e2 => by
    simp [Value.ownBlock] at e e2
    omega)
  have HB2 := Lib.hid hb2
  clear hb2 q0 q1 hl2
  go_wp2_with fail
  go_loopw [4, 5, 6] (fun v1 v2 s wr => ∃ j : Nat, j ≤ 4 ∧ s = .int .i64 j ∧ OwD wr W1.heap.size v1 j (leavesN bs j) ∧ OwD wr W1.heap.size v2 j (leavesN bs j) ∧ Apart v1 v2 ∧ Below W1.heap.size W1 wr) (fun _ _ s _ => 4 - (intOf s).toNat)
  case atStart => exact ⟨0, by omega, rfl, HN2.out, HP2.out, HA2.out, HB2.out⟩
  case round =>
    clear HN2 HP2 HA2 HB2
    obtain ⟨j, hj, rfl, hn, hp, ha, hb⟩ := hrel
    have HN := Lib.hid hn
    have HP := Lib.hid hp
    have HA := Lib.hid ha
    have HB := Lib.hid hb
    clear hn hp ha hb
    have hk0 : (0 : Int) ≤ (j : Int) := by omega
    by_cases hlt : j < 4
    · have hk1 : (j : Int) < 4 := by omega
      have hs := HS.out j hlt
      obtain ⟨m, hm, hmn, hm6, hmt⟩ := min60 (n j) (bs j) hs.len
      have hcap := hs.cap
      have htop := hs.top
      have HSj := Lib.hid (show Sb w (A j) m (c j) ((bs j).take 60) from hmt ▸ hs.take hmn)
      have HCj := Lib.hid ((HB.out.cell (show w.heap.size < W1.heap.size from hg0)).trans (HC.out j hlt))
      clear hs hmt
      have l0 := LaterB.cell (B := wr.heap.size) HCj.out (show w.heap.size < wr.heap.size by have := HB.out.size; omega)
      have HLS := Lib.hid (leavesN_succ bs j)
      obtain ⟨R, hR⟩ : ∃ R, shaN (0 :: (bs j).take 60) = R := ⟨_, rfl⟩
      have hRl : R.length = 32 := by rw [← hR]; exact shaN_length _
      rw [hR] at HLS
      have HR := Lib.hid hR
      clear hR HCj
      generalize (bs j).take 60 = bt at *
      go_upto_region 6 with fail
      refine wp_heldB wr.heap.size (by kernel_rfl) (lexOK_of (by kernel_rfl) (by kernel_rfl)) (chainOK_of (by kernel_rfl)) (fun W0 hbW hSW => ?_)
      have HSS := Lib.hid hSW
      have HN0 := Lib.hid (HN.out.keep hbW)
      have HP0 := Lib.hid (HP.out.keep hbW)
      have HB0 := Lib.hid (bel_step HB.out hbW)
      clear hbW hSW HN HP HB
      refine wpHeld_seg 10 HSS.out (by kernel_rfl) ?_
      simp only [List.take_succ_cons, List.take_zero, List.drop_succ_cons, List.drop_zero]
      iterate 10 (go_big_quiet_step (fail))
      refine wpQuiet_nil (wpHeld_nil ?_)
      clear l0 HSS
      go_wp2_with fail
      refine (leaf_any (A j) m (c j) bt W0 (HSj.out.keep (bel_step HB1.out HB0.out)) (by omega) (HG.out.keep (bel_step HB1.out HB0.out)) R HR.out).mono ?_
      rintro e V1 ⟨rfl, hb⟩
      have HN1 := Lib.hid (HN0.out.keep hb)
      have HP1 := Lib.hid (HP0.out.keep hb)
      have HBV1 := Lib.hid (bel_step HB0.out hb)
      clear hb HN0 HP0 HB0
      go_wp2_with fail
      have hfo := fold32 hRl
      simp only [Tryd.sizeOf26, Result.andThen, celB_length, hRl, hfo, not_true_eq_false, Nat.lt_irrefl, false_or, or_self, Nat.reduceLT, if_false, (show ((32 : Nat) = 0) = False from by simp)]
      show Oper.upon _ _ _ _ _ (Result.ok (Next.value (.slice (some ⟨V1.heap.size, 0, none⟩) 1 1)) (V1.alloc (.cells (celB R).toArray 26)))
      rw [Oper.upon_value]
      clear hfo
      have hb2 : Below V1.heap.size V1 (V1.alloc (.cells (celB R).toArray 26)) := (Below.refl _ _).alloc (Nat.le_refl _) _
      have HRow := Lib.hid (show RowB (V1.alloc (.cells (celB R).toArray 26)) 26 V1.heap.size R from heap_new V1 _)
      have HN2 := Lib.hid (HN1.out.keep hb2)
      have HP2 := Lib.hid (HP1.out.keep hb2)
      have HBV2 := Lib.hid (bel_step HBV1.out hb2)
      have hgz := HBV1.out.size
      clear hb2 HN1 HP1 HBV1
      generalize V1.alloc (.cells (celB R).toArray 26) = V2 at *
      generalize V1.heap.size = q2 at *
      go_wp2_with (at_builtin; refine wpList_appendD rfl (.tmp 28) (.tmp 31) rfl W1.heap.size _ j _ rfl HN2.out q2 1 R rfl HRow.out hRl (by omega) HBV2.out.size ?_; intro v3 V3 ho3 hg3 hw3; have HN3 := Lib.hid ho3; have HP3 := Lib.hid (HP2.out.other hg3 HA.out); have HA3 := Lib.hid (HA.out.grow hw3 HP2.out); have HBV3 := Lib.hid (HBV2.out.trans (HN2.out.below hg3 HBV2.out.size)); clear ho3 hg3 hw3 HN2 HP2 HA HBV2 HRow)
      refine calls_named1 (fun V4 hb g0 hz => ?_)
      have HN4 := Lib.hid (HN3.out.keep hb)
      have HP4 := Lib.hid (HP3.out.keep hb)
      have HBV4 := Lib.hid (bel_step HBV3.out hb)
      have HO := Lib.hid ((show RowB V4 5 V3.heap.size [0] from g0).all (n := 1) (c := 1) (by decide) rfl (Nat.le_refl _) (by omega))
      clear hb g0 hz HN3 HP3 HBV3
      generalize V3.heap.size = q4 at *
      refine (rjoin_any (some ⟨q4, 0, none⟩) 1 1 [0] (A j) m (c j) bt V4 HO.out (HSj.out.keep (bel_step HB1.out HBV4.out)) (by omega)).mono ?_
      rintro e V5 ⟨C5, f5, rfl, hs, hb⟩
      have HN5 := Lib.hid (HN4.out.keep hb)
      have HP5 := Lib.hid (HP4.out.keep hb)
      have HBV5 := Lib.hid (bel_step HBV4.out hb)
      have HJ := Lib.hid hs
      clear hb hs HN4 HP4 HBV4 HO
      go_wp2_with fail
      refine (sum_any C5 (1 + m) f5 _ V5 HJ.out (by omega) (HG.out.keep (bel_step HB1.out HBV5.out)) R HR.out).mono ?_
      rintro e V6 ⟨rfl, hb⟩
      have HN6 := Lib.hid (HN5.out.keep hb)
      have HP6 := Lib.hid (HP5.out.keep hb)
      have HBV6 := Lib.hid (bel_step HBV5.out hb)
      clear hb HN5 HP5 HBV5 HJ
      go_wp2_with fail
      have hfo := fold32 hRl
      simp only [Tryd.sizeOf26, Result.andThen, celB_length, hRl, hfo, not_true_eq_false, Nat.lt_irrefl, false_or, or_self, Nat.reduceLT, if_false, (show ((32 : Nat) = 0) = False from by simp)]
      show Oper.upon _ _ _ _ _ (Result.ok (Next.value (.slice (some ⟨V6.heap.size, 0, none⟩) 1 1)) (V6.alloc (.cells (celB R).toArray 26)))
      rw [Oper.upon_value]
      clear hfo
      have hb2 : Below V6.heap.size V6 (V6.alloc (.cells (celB R).toArray 26)) := (Below.refl _ _).alloc (Nat.le_refl _) _
      have HRow := Lib.hid (show RowB (V6.alloc (.cells (celB R).toArray 26)) 26 V6.heap.size R from heap_new V6 _)
      have HN7 := Lib.hid (HN6.out.keep hb2)
      have HP7 := Lib.hid (HP6.out.keep hb2)
      have HBV7 := Lib.hid (bel_step HBV6.out hb2)
      clear hb2 HN6 HP6 HBV6
      generalize V6.alloc (.cells (celB R).toArray 26) = V7 at *
      generalize V6.heap.size = q7 at *
      go_wp2_with (at_builtin; refine wpList_appendD rfl (.tmp 33) (.tmp 38) rfl W1.heap.size _ j _ rfl HP7.out q7 1 R rfl HRow.out hRl (by omega) HBV7.out.size ?_; intro v8 V8 ho3 hg3 hw3; have HP8 := Lib.hid ho3; have HN8 := Lib.hid (HN7.out.other hg3 HA3.out.symm); have HA8 := (HA3.out.symm.grow hw3 HN7.out).symm; have HBV8 := Lib.hid (HBV7.out.trans (HP7.out.below hg3 HBV7.out.size)); clear ho3 hg3 hw3 HN7 HP7 HA3 HBV7 HRow)
      go_roundw
      case rel => exact ⟨j + 1, hlt, by go_num, by rw [HLS.out]; exact HN8.out, by rw [HLS.out]; exact HP8.out, HA8, HBV8.out⟩
      case measure => simp [intOf]; omega
    · obtain rfl : j = 4 := by omega
      obtain ⟨ga, ca, rfl, hca, hta⟩ := HN.out.form (by omega)
      obtain ⟨gb, cb, rfl, hcb, htb⟩ := HP.out.form (by omega)
      obtain ⟨D0, hD0⟩ : ∃ D, shaN (0 :: (bs 0).take 60) = D := ⟨_, rfl⟩
      have hl0 : D0.length = 32 := by rw [← hD0]; exact shaN_length _
      have hq0 : ∀ z ∈ D0, z < 256 := by rw [← hD0]; exact shaN_lt _
      obtain ⟨D1, hD1⟩ : ∃ D, shaN (0 :: (bs 1).take 60) = D := ⟨_, rfl⟩
      have hl1 : D1.length = 32 := by rw [← hD1]; exact shaN_length _
      have hq1 : ∀ z ∈ D1, z < 256 := by rw [← hD1]; exact shaN_lt _
      obtain ⟨D2, hD2⟩ : ∃ D, shaN (0 :: (bs 2).take 60) = D := ⟨_, rfl⟩
      have hl2 : D2.length = 32 := by rw [← hD2]; exact shaN_length _
      have hq2 : ∀ z ∈ D2, z < 256 := by rw [← hD2]; exact shaN_lt _
      obtain ⟨D3, hD3⟩ : ∃ D, shaN (0 :: (bs 3).take 60) = D := ⟨_, rfl⟩
      have hl3 : D3.length = 32 := by rw [← hD3]; exact shaN_length _
      have hq3 : ∀ z ∈ D3, z < 256 := by rw [← hD3]; exact shaN_lt _
      have hL : leavesN bs 4 = [D0, D1, D2, D3] := by rw [← hD0, ← hD1, ← hD2, ← hD3]; rfl
      have hn := HN.out
      have hp := HP.out
      rw [hL] at hn hp
      clear HN HP HA hL hD0 hD1 hD2 hD3 hk0 hlt hj
      have HL0 := Lib.hid hl0
      have HQ0 := Lib.hid hq0
      have HN0 : Hid (wr.rangeAt ga (0) (celB D0)) := Lib.hid (hn.range (i := 0) rfl)
      have HP0 : Hid (wr.rangeAt gb (0) (celB D0)) := Lib.hid (hp.range (i := 0) rfl)
      have HL1 := Lib.hid hl1
      have HQ1 := Lib.hid hq1
      have HN1 : Hid (wr.rangeAt ga (32) (celB D1)) := Lib.hid (hn.range (i := 1) rfl)
      have HP1 : Hid (wr.rangeAt gb (32) (celB D1)) := Lib.hid (hp.range (i := 1) rfl)
      have HL2 := Lib.hid hl2
      have HQ2 := Lib.hid hq2
      have HN2 : Hid (wr.rangeAt ga (64) (celB D2)) := Lib.hid (hn.range (i := 2) rfl)
      have HP2 : Hid (wr.rangeAt gb (64) (celB D2)) := Lib.hid (hp.range (i := 2) rfl)
      have HL3 := Lib.hid hl3
      have HQ3 := Lib.hid hq3
      have HN3 : Hid (wr.rangeAt ga (96) (celB D3)) := Lib.hid (hn.range (i := 3) rfl)
      have HP3 : Hid (wr.rangeAt gb (96) (celB D3)) := Lib.hid (hp.range (i := 3) rfl)
      clear hn hp hl0 hl1 hl2 hl3 hq0 hq1 hq2 hq3
      obtain ⟨L, hL⟩ : ∃ R, shaN (1 :: (D0 ++ D1)) = R := ⟨_, rfl⟩
      have hLl : L.length = 32 := by rw [← hL]; exact shaN_length _
      have hLb : ∀ z ∈ L, z < 256 := by rw [← hL]; exact shaN_lt _
      obtain ⟨M, hM⟩ : ∃ R, shaN (1 :: (D2 ++ D3)) = R := ⟨_, rfl⟩
      have hMl : M.length = 32 := by rw [← hM]; exact shaN_length _
      have hMb : ∀ z ∈ M, z < 256 := by rw [← hM]; exact shaN_lt _
      obtain ⟨T, hT⟩ : ∃ R, shaN (1 :: (L ++ M)) = R := ⟨_, rfl⟩
      have heq := run_eqD_same T (by rw [← hT]; exact shaN_length _) (by rw [← hT]; exact shaN_lt _)
      have HL := Lib.hid hL
      have HM := Lib.hid hM
      have HT := Lib.hid hT
      have HLL := Lib.hid hLl
      have HLB := Lib.hid hLb
      have HML := Lib.hid hMl
      have HMB := Lib.hid hMb
      clear hL hM hT hLl hLb hMl hMb
      have HBw := Lib.hid (bel_step HB1.out HB.out)
      clear HB HC HS HB1
      go_upto_region 9 with fail
      refine wp_decl (l2 := [_, _]) (l3 := [_, _]) (zs := [.cells z32 26, .cells z32 26]) 14 (by kernel_rfl) (lexOK_of (by kernel_rfl) (by kernel_rfl)) rfl (Nat.le_of_ble_eq_true rfl) (by simp) (by kernel_rfl) (by kernel_rfl) rfl
        (all_cons rfl (all_cons rfl all_nil)) (mk_same 26 _ run_allocD (all_cons rfl (all_cons rfl all_nil)) (all_cons rfl (all_cons rfl all_nil))) ?_
      simp only [List.take_succ_cons, List.take_zero]
      have hC1 : ∀ X : Later wr, Calls Tryd.prog 17 #[.agg (celB D0).toArray, .agg (celB D1).toArray] X.at fun e w' => e = .returned (.agg (celB L).toArray) ∧ Below X.at.heap.size X.at w' := fun X => pair_any D0 D1 X.at HL0.out HL1.out HQ0.out HQ1.out (HG.out.keep (bel_step HBw.out X.below)) L HL.out
      have hC2 : ∀ X : Later wr, Calls Tryd.prog 17 #[.agg (celB D2).toArray, .agg (celB D3).toArray] X.at fun e w' => e = .returned (.agg (celB M).toArray) ∧ Below X.at.heap.size X.at w' := fun X => pair_any D2 D3 X.at HL2.out HL3.out HQ2.out HQ3.out (HG.out.keep (bel_step HBw.out X.below)) M HM.out
      refine wpCalm_step (fun K hK => ?_)
      go_simp
      refine hK _ ?_
      clear hK K
      refine wpCalm_val _ (by kernel_rfl) (fun X => exec_idxD X.at ga 4 ca 0 (by omega) rfl rfl rfl) ?_
      simp only [ptr, Act.put, List.setIfInBounds_toArray, List.set_cons_zero, List.set_cons_succ]
      refine wpCalm_val _ (by kernel_rfl) (fun X => exec_loadM ga 0 HL0.out (rangeAt_keep HN0.out X.below) rfl rfl) ?_
      simp only [ptr, Act.put, List.setIfInBounds_toArray, List.set_cons_zero, List.set_cons_succ]
      refine wpCalm_step (fun K hK => ?_)
      go_simp
      refine hK _ ?_
      clear hK K
      refine wpCalm_val _ (by kernel_rfl) (fun X => exec_idxD X.at ga 4 ca 1 (by omega) rfl rfl rfl) ?_
      simp only [ptr, Act.put, List.setIfInBounds_toArray, List.set_cons_zero, List.set_cons_succ]
      refine wpCalm_val _ (by kernel_rfl) (fun X => exec_loadM ga 32 HL1.out (rangeAt_keep HN1.out X.below) rfl rfl) ?_
      simp only [ptr, Act.put, List.setIfInBounds_toArray, List.set_cons_zero, List.set_cons_succ]
      refine wpCalm_step (fun K hK => ?_)
      go_simp
      apply Exists.intro
      refine ⟨fun _ => ?_, hK _ ?_⟩
      · go_at_call 17
        with_reducible exact hC1 _
      clear hK K
      refine wpCalm_step (fun K hK => ?_)
      go_simp
      refine hK _ ?_
      clear hK K
      refine wpCalm_val _ (by kernel_rfl) (fun X => exec_idxD X.at ga 4 ca 2 (by omega) rfl rfl rfl) ?_
      simp only [ptr, Act.put, List.setIfInBounds_toArray, List.set_cons_zero, List.set_cons_succ]
      refine wpCalm_val _ (by kernel_rfl) (fun X => exec_loadM ga 64 HL2.out (rangeAt_keep HN2.out X.below) rfl rfl) ?_
      simp only [ptr, Act.put, List.setIfInBounds_toArray, List.set_cons_zero, List.set_cons_succ]
      refine wpCalm_step (fun K hK => ?_)
      go_simp
      refine hK _ ?_
      clear hK K
      refine wpCalm_val _ (by kernel_rfl) (fun X => exec_idxD X.at ga 4 ca 3 (by omega) rfl rfl rfl) ?_
      simp only [ptr, Act.put, List.setIfInBounds_toArray, List.set_cons_zero, List.set_cons_succ]
      refine wpCalm_val _ (by kernel_rfl) (fun X => exec_loadM ga 96 HL3.out (rangeAt_keep HN3.out X.below) rfl rfl) ?_
      simp only [ptr, Act.put, List.setIfInBounds_toArray, List.set_cons_zero, List.set_cons_succ]
      refine wpCalm_step (fun K hK => ?_)
      go_simp
      apply Exists.intro
      refine ⟨fun _ => ?_, hK _ ?_⟩
      · go_at_call 17
        with_reducible exact hC2 _
      clear hK K
      refine wpCalm_nil ?_
      refine fun b1 b2 X hX => ?_
      have p1 := hX.get 14 b1 _ rfl rfl
      have p2 := hX.get 15 b2 _ rfl rfl
      have n12 := hX.ne 14 15 b1 b2 (by omega) rfl rfl
      have hb := hX.below
      have R1 := Lib.hid (show RowB X 26 b1 (List.replicate 32 0) from p1.1)
      have R2 := Lib.hid (show RowB X 26 b2 (List.replicate 32 0) from p2.1)
      have hg1 : wr.heap.size ≤ b1 := p1.2
      have hg2 : wr.heap.size ≤ b2 := p2.2
      have HB5 := Lib.hid hb
      clear p1 p2 hb hX hC1 hC2 HN0 HN1 HN2 HN3
      simp only [ptr, Act.put, List.setIfInBounds_toArray, List.set_cons_zero, List.set_cons_succ]
      refine wpList_skip0 rfl (X.setRow b1 (celB L).toArray) (exec_storeD (x := .tmp 8) (y := .tmp 46) HLL.out List.length_replicate R1.out rfl rfl rfl) ?_
      have R12 := Lib.hid (R1.out.row L)
      have R22 := Lib.hid (R2.out.farRow (Ne.symm n12) (celB L).toArray)
      have HB6 := Lib.hid (bel_setRow HB5.out hg1 (celB L).toArray)
      clear R1 R2 HB5
      generalize X.setRow b1 (celB L).toArray = X2 at *
      simp only [ptr, Act.put, List.setIfInBounds_toArray, List.set_cons_zero, List.set_cons_succ]
      refine wpList_skip0 rfl (X2.setRow b2 (celB M).toArray) (exec_storeD (x := .tmp 9) (y := .tmp 53) HML.out List.length_replicate R22.out rfl rfl rfl) ?_
      have HR1 := Lib.hid (R12.out.farRow n12 (celB M).toArray)
      have HR2 := Lib.hid (R22.out.row M)
      have HB7 := Lib.hid (bel_setRow HB6.out hg2 (celB M).toArray)
      clear R12 R22 HB6
      generalize X2.setRow b2 (celB M).toArray = U1 at *
      refine wpList_nil ?_
      simp only [Act.put, List.setIfInBounds_toArray, List.set_cons_zero, List.set_cons_succ]
      have HBu := Lib.hid (bel_step HBw.out HB7.out)
      have HU0 := Lib.hid (rangeAt_keep HP0.out HB7.out)
      have HU1 := Lib.hid (rangeAt_keep HP1.out HB7.out)
      have HU2 := Lib.hid (rangeAt_keep HP2.out HB7.out)
      have HU3 := Lib.hid (rangeAt_keep HP3.out HB7.out)
      clear HB7 HBw HP0 HP1 HP2 HP3
      go_upto_region 10 with fail
      refine wp_floatP [1, 2, 3, 4, 5, 6, 7, 8, 9, 0, 10, 11, 12, 13] (l' := [_, _, _, _, _, _, _, _, _, _, _, _, _, _]) (by kernel_rfl) (lexOK_of (by kernel_rfl) (by kernel_rfl)) (ordOK_of (by kernel_rfl) (by kernel_rfl)) rfl rfl ?_
      simp only [List.getElem_toArray, List.getElem_cons_succ, List.getElem_cons_zero]
      intro Z0 hbW hSW
      have HBc0 := Lib.hid (bel_step HBu.out hbW)
      have HSc0 := Lib.hid hSW
      clear hbW hSW
      refine wpF_seg 3 (by kernel_rfl) ?_
      simp only [List.take_succ_cons, List.take_zero, List.drop_succ_cons, List.drop_zero]
      iterate 1 (go_big_quiet_step (fail))
      refine wpQuiet_val (by kernel_rfl) _ (fun v _ => exec_idxD v gb 4 cb 0 (by omega) rfl rfl rfl) ?_
      simp only [ptr, Act.put, List.setIfInBounds_toArray, List.set_cons_zero, List.set_cons_succ]
      refine wpQuiet_val (by kernel_rfl) _ (fun v hv => by obtain ⟨X, rfl⟩ := hv; exact exec_loadM gb 0 HL0.out (rangeAt_keep HU0.out X.below) rfl rfl) ?_
      simp only [ptr, Act.put, List.setIfInBounds_toArray, List.set_cons_zero, List.set_cons_succ]
      refine wpQuiet_nil ?_
      refine wpF_call 27 Tryd.func27 (by kernel_rfl) (by kernel_rfl) _ _ #[.agg (celB D0).toArray] rfl (by kernel_rfl) (by kernel_rfl) HSc0.out (fun V hV => ?_)
      have HBd := Lib.hid (bel_step HBc0.out hV)
      have HSd := Lib.hid (HSc0.out.ext hV)
      clear hV HBc0 HSc0 
      refine (rbytes_any D0 V HL0.out HQ0.out).mono ?_
      rintro e Z1 ⟨E1, e1, rfl, hs, hb⟩
      have HBc1 := Lib.hid (bel_step HBd.out hb)
      have HSc1 := Lib.hid (HSd.out.ext hb)
      have HX1c1 := Lib.hid hs
      refine ⟨_, rfl, hb, ?_⟩
      clear hb hs HBd HSd 
      simp only [ptr, Act.put, List.setIfInBounds_toArray, List.set_cons_zero, List.set_cons_succ]
      refine wpF_seg 3 (by kernel_rfl) ?_
      simp only [List.take_succ_cons, List.take_zero, List.drop_succ_cons, List.drop_zero]
      iterate 1 (go_big_quiet_step (fail))
      refine wpQuiet_val (by kernel_rfl) _ (fun v _ => exec_idxD v gb 4 cb 1 (by omega) rfl rfl rfl) ?_
      simp only [ptr, Act.put, List.setIfInBounds_toArray, List.set_cons_zero, List.set_cons_succ]
      refine wpQuiet_val (by kernel_rfl) _ (fun v hv => by obtain ⟨X, rfl⟩ := hv; exact exec_loadM gb 32 HL1.out (rangeAt_keep HU1.out X.below) rfl rfl) ?_
      simp only [ptr, Act.put, List.setIfInBounds_toArray, List.set_cons_zero, List.set_cons_succ]
      refine wpQuiet_nil ?_
      refine wpF_call 27 Tryd.func27 (by kernel_rfl) (by kernel_rfl) _ _ #[.agg (celB D1).toArray] rfl (by kernel_rfl) (by kernel_rfl) HSc1.out (fun V hV => ?_)
      have HBd := Lib.hid (bel_step HBc1.out hV)
      have HSd := Lib.hid (HSc1.out.ext hV)
      have HX1d := Lib.hid (HX1c1.out.keep hV)
      clear hV HBc1 HSc1 HX1c1
      refine (rbytes_any D1 V HL1.out HQ1.out).mono ?_
      rintro e Z2 ⟨E2, e2, rfl, hs, hb⟩
      have HBc2 := Lib.hid (bel_step HBd.out hb)
      have HSc2 := Lib.hid (HSd.out.ext hb)
      have HX1c2 := Lib.hid (HX1d.out.keep hb)
      have HX2c2 := Lib.hid hs
      refine ⟨_, rfl, hb, ?_⟩
      clear hb hs HBd HSd HX1d
      simp only [ptr, Act.put, List.setIfInBounds_toArray, List.set_cons_zero, List.set_cons_succ]
      refine wpF_call 26 Tryd.func26 (by kernel_rfl) (by kernel_rfl) _ _ #[.slice E1 32 e1, .slice E2 32 e2] rfl (by kernel_rfl) (by kernel_rfl) HSc2.out (fun V hV => ?_)
      have HBd := Lib.hid (bel_step HBc2.out hV)
      have HSd := Lib.hid (HSc2.out.ext hV)
      have HX1d := Lib.hid (HX1c2.out.keep hV)
      have HX2d := Lib.hid (HX2c2.out.keep hV)
      clear hV HBc2 HSc2 HX1c2 HX2c2
      refine (rjoin_any E1 32 e1 D0 E2 32 e2 D1 V HX1d.out HX2d.out (by omega)).mono ?_
      rintro e Z3 ⟨E3, e3, rfl, hs, hb⟩
      have HBc3 := Lib.hid (bel_step HBd.out hb)
      have HSc3 := Lib.hid (HSd.out.ext hb)
      have HX3c3 := Lib.hid hs
      refine ⟨_, rfl, hb, ?_⟩
      clear hb hs HBd HSd HX1d HX2d
      simp only [ptr, Act.put, List.setIfInBounds_toArray, List.set_cons_zero, List.set_cons_succ]
      refine wpF_make (.cells #[.int .u8 ((1 : Nat) : Int)] 5, fun b => .slice (some ⟨b, 0, none⟩) 1 1) (by kernel_rfl) (by kernel_rfl) (by kernel_rfl) (fun V => run_buildB1 1 rfl rfl V) (fun bq Z4 hV hc hbz => ?_)
      have HBc4 := Lib.hid (bel_step HBc3.out hV)
      have HSc4 := Lib.hid (HSc3.out.ext hV)
      have Hbqc4 := Lib.hid ((show RowB Z4 5 bq [1] from hc).all (n := 1) (c := 1) (by decide) rfl (Nat.le_refl _) (by omega))
      have HX3c4 := Lib.hid (HX3c3.out.keep hV)
      clear hV hc HBc3 HSc3 HX3c3
      simp only [ptr, Act.put, List.setIfInBounds_toArray, List.set_cons_zero, List.set_cons_succ]
      clear hbz
      refine wpF_call 26 Tryd.func26 (by kernel_rfl) (by kernel_rfl) _ _ #[.slice (some ⟨bq, 0, none⟩) 1 1, .slice E3 64 e3] rfl (by kernel_rfl) (by kernel_rfl) HSc4.out (fun V hV => ?_)
      have HBd := Lib.hid (bel_step HBc4.out hV)
      have HSd := Lib.hid (HSc4.out.ext hV)
      have HX3d := Lib.hid (HX3c4.out.keep hV)
      have Hbqd := Lib.hid (Hbqc4.out.keep hV)
      clear hV HBc4 HSc4 HX3c4 Hbqc4
      refine (rjoin_any (some ⟨bq, 0, none⟩) 1 1 [1] E3 64 e3 (D0 ++ D1) V Hbqd.out HX3d.out (by omega)).mono ?_
      rintro e Z5 ⟨E4, e4, rfl, hs, hb⟩
      have HBc5 := Lib.hid (bel_step HBd.out hb)
      have HSc5 := Lib.hid (HSd.out.ext hb)
      have HX4c5 := Lib.hid hs
      refine ⟨_, rfl, hb, ?_⟩
      clear hb hs HBd HSd HX3d Hbqd
      simp only [ptr, Act.put, List.setIfInBounds_toArray, List.set_cons_zero, List.set_cons_succ]
      refine wpF_call 13 Tryd.func13 (by kernel_rfl) (by kernel_rfl) _ _ #[.slice E4 65 e4] rfl (by kernel_rfl) (by kernel_rfl) HSc5.out (fun V hV => ?_)
      have HBd := Lib.hid (bel_step HBc5.out hV)
      have HSd := Lib.hid (HSc5.out.ext hV)
      have HX4d := Lib.hid (HX4c5.out.keep hV)
      clear hV HBc5 HSc5 HX4c5
      refine (sum_any E4 65 e4 _ V HX4d.out (by omega) (HG.out.keep HBd.out) L HL.out).mono ?_
      rintro e Z6 ⟨rfl, hb⟩
      have HBc6 := Lib.hid (bel_step HBd.out hb)
      have HSc6 := Lib.hid (HSd.out.ext hb)
      refine ⟨_, rfl, hb, ?_⟩
      clear hb HBd HSd HX4d
      simp only [ptr, Act.put, List.setIfInBounds_toArray, List.set_cons_zero, List.set_cons_succ]
      refine wpF_make (.cells z32 26, fun b => ptr b) (by kernel_rfl) (by kernel_rfl) (by kernel_rfl) (fun V => run_allocD _ _ V rfl) (fun ba Z7 hV hc hbz => ?_)
      have HBc7 := Lib.hid (bel_step HBc6.out hV)
      have HSc7 := Lib.hid (HSc6.out.ext hV)
      have Hbac7 := Lib.hid ((show RowB Z7 26 ba (List.replicate 32 0) from hc))
      clear hV hc HBc6 HSc6 
      simp only [ptr, Act.put, List.setIfInBounds_toArray, List.set_cons_zero, List.set_cons_succ]
      refine wpF_last (fun V => V.setRow ba (celB L).toArray) (by kernel_rfl) (by kernel_rfl) (by kernel_rfl) (fun V hV => exec_storeD (x := .tmp 10) (y := .tmp 65) HLL.out List.length_replicate (Hbac7.out.keep hV) rfl rfl rfl) (fun V hV => ⟨⟨_, bel_setRow (HSc7.out.ext hV).below hbz _⟩, rfl⟩) (fun V hV XA hX => ?_)
      have hU : Below U1.heap.size U1 XA := (bel_setRow (HSc7.out.ext hV).below hbz _).trans (hX.mono (bel_setRow (HSc7.out.ext hV).below hbz (celB L).toArray).size)
      have HRba := Lib.hid (((Hbac7.out.keep hV).row L).keep hX)
      have HVB := Lib.hid (bel_step HBu.out hU)
      have HR1HV := Lib.hid (HR1.out.keep hU)
      have HR2HV := Lib.hid (HR2.out.keep hU)
      have HV0 := Lib.hid (rangeAt_keep HU0.out hU)
      have HV1 := Lib.hid (rangeAt_keep HU1.out hU)
      have HV2 := Lib.hid (rangeAt_keep HU2.out hU)
      have HV3 := Lib.hid (rangeAt_keep HU3.out hU)
      clear hV hX hU hbz HBc7 HSc7 Hbac7 HBu HR1 HR2 HU0 HU1 HU2 HU3
      simp only [ptr, Act.put, List.setIfInBounds_toArray, List.set_cons_zero, List.set_cons_succ]
      go_upto_region 11 with fail
      refine wp_floatP [1, 2, 3, 4, 5, 6, 7, 8, 9, 0, 10, 11, 12, 13] (l' := [_, _, _, _, _, _, _, _, _, _, _, _, _, _]) (by kernel_rfl) (lexOK_of (by kernel_rfl) (by kernel_rfl)) (ordOK_of (by kernel_rfl) (by kernel_rfl)) rfl rfl ?_
      simp only [List.getElem_toArray, List.getElem_cons_succ, List.getElem_cons_zero]
      intro Z0 hbW hSW
      have HBc0 := Lib.hid (bel_step HVB.out hbW)
      have HSc0 := Lib.hid hSW
      clear hbW hSW
      refine wpF_seg 3 (by kernel_rfl) ?_
      simp only [List.take_succ_cons, List.take_zero, List.drop_succ_cons, List.drop_zero]
      iterate 1 (go_big_quiet_step (fail))
      refine wpQuiet_val (by kernel_rfl) _ (fun v _ => exec_idxD v gb 4 cb 2 (by omega) rfl rfl rfl) ?_
      simp only [ptr, Act.put, List.setIfInBounds_toArray, List.set_cons_zero, List.set_cons_succ]
      refine wpQuiet_val (by kernel_rfl) _ (fun v hv => by obtain ⟨X, rfl⟩ := hv; exact exec_loadM gb 64 HL2.out (rangeAt_keep HV2.out X.below) rfl rfl) ?_
      simp only [ptr, Act.put, List.setIfInBounds_toArray, List.set_cons_zero, List.set_cons_succ]
      refine wpQuiet_nil ?_
      refine wpF_call 27 Tryd.func27 (by kernel_rfl) (by kernel_rfl) _ _ #[.agg (celB D2).toArray] rfl (by kernel_rfl) (by kernel_rfl) HSc0.out (fun V hV => ?_)
      have HBd := Lib.hid (bel_step HBc0.out hV)
      have HSd := Lib.hid (HSc0.out.ext hV)
      clear hV HBc0 HSc0 
      refine (rbytes_any D2 V HL2.out HQ2.out).mono ?_
      rintro e Z1 ⟨E1, e1, rfl, hs, hb⟩
      have HBc1 := Lib.hid (bel_step HBd.out hb)
      have HSc1 := Lib.hid (HSd.out.ext hb)
      have HX1c1 := Lib.hid hs
      refine ⟨_, rfl, hb, ?_⟩
      clear hb hs HBd HSd 
      simp only [ptr, Act.put, List.setIfInBounds_toArray, List.set_cons_zero, List.set_cons_succ]
      refine wpF_seg 3 (by kernel_rfl) ?_
      simp only [List.take_succ_cons, List.take_zero, List.drop_succ_cons, List.drop_zero]
      iterate 1 (go_big_quiet_step (fail))
      refine wpQuiet_val (by kernel_rfl) _ (fun v _ => exec_idxD v gb 4 cb 3 (by omega) rfl rfl rfl) ?_
      simp only [ptr, Act.put, List.setIfInBounds_toArray, List.set_cons_zero, List.set_cons_succ]
      refine wpQuiet_val (by kernel_rfl) _ (fun v hv => by obtain ⟨X, rfl⟩ := hv; exact exec_loadM gb 96 HL3.out (rangeAt_keep HV3.out X.below) rfl rfl) ?_
      simp only [ptr, Act.put, List.setIfInBounds_toArray, List.set_cons_zero, List.set_cons_succ]
      refine wpQuiet_nil ?_
      refine wpF_call 27 Tryd.func27 (by kernel_rfl) (by kernel_rfl) _ _ #[.agg (celB D3).toArray] rfl (by kernel_rfl) (by kernel_rfl) HSc1.out (fun V hV => ?_)
      have HBd := Lib.hid (bel_step HBc1.out hV)
      have HSd := Lib.hid (HSc1.out.ext hV)
      have HX1d := Lib.hid (HX1c1.out.keep hV)
      clear hV HBc1 HSc1 HX1c1
      refine (rbytes_any D3 V HL3.out HQ3.out).mono ?_
      rintro e Z2 ⟨E2, e2, rfl, hs, hb⟩
      have HBc2 := Lib.hid (bel_step HBd.out hb)
      have HSc2 := Lib.hid (HSd.out.ext hb)
      have HX1c2 := Lib.hid (HX1d.out.keep hb)
      have HX2c2 := Lib.hid hs
      refine ⟨_, rfl, hb, ?_⟩
      clear hb hs HBd HSd HX1d
      simp only [ptr, Act.put, List.setIfInBounds_toArray, List.set_cons_zero, List.set_cons_succ]
      refine wpF_call 26 Tryd.func26 (by kernel_rfl) (by kernel_rfl) _ _ #[.slice E1 32 e1, .slice E2 32 e2] rfl (by kernel_rfl) (by kernel_rfl) HSc2.out (fun V hV => ?_)
      have HBd := Lib.hid (bel_step HBc2.out hV)
      have HSd := Lib.hid (HSc2.out.ext hV)
      have HX1d := Lib.hid (HX1c2.out.keep hV)
      have HX2d := Lib.hid (HX2c2.out.keep hV)
      clear hV HBc2 HSc2 HX1c2 HX2c2
      refine (rjoin_any E1 32 e1 D2 E2 32 e2 D3 V HX1d.out HX2d.out (by omega)).mono ?_
      rintro e Z3 ⟨E3, e3, rfl, hs, hb⟩
      have HBc3 := Lib.hid (bel_step HBd.out hb)
      have HSc3 := Lib.hid (HSd.out.ext hb)
      have HX3c3 := Lib.hid hs
      refine ⟨_, rfl, hb, ?_⟩
      clear hb hs HBd HSd HX1d HX2d
      simp only [ptr, Act.put, List.setIfInBounds_toArray, List.set_cons_zero, List.set_cons_succ]
      refine wpF_make (.cells #[.int .u8 ((1 : Nat) : Int)] 5, fun b => .slice (some ⟨b, 0, none⟩) 1 1) (by kernel_rfl) (by kernel_rfl) (by kernel_rfl) (fun V => run_buildB1 1 rfl rfl V) (fun bq Z4 hV hc hbz => ?_)
      have HBc4 := Lib.hid (bel_step HBc3.out hV)
      have HSc4 := Lib.hid (HSc3.out.ext hV)
      have Hbqc4 := Lib.hid ((show RowB Z4 5 bq [1] from hc).all (n := 1) (c := 1) (by decide) rfl (Nat.le_refl _) (by omega))
      have HX3c4 := Lib.hid (HX3c3.out.keep hV)
      clear hV hc HBc3 HSc3 HX3c3
      simp only [ptr, Act.put, List.setIfInBounds_toArray, List.set_cons_zero, List.set_cons_succ]
      clear hbz
      refine wpF_call 26 Tryd.func26 (by kernel_rfl) (by kernel_rfl) _ _ #[.slice (some ⟨bq, 0, none⟩) 1 1, .slice E3 64 e3] rfl (by kernel_rfl) (by kernel_rfl) HSc4.out (fun V hV => ?_)
      have HBd := Lib.hid (bel_step HBc4.out hV)
      have HSd := Lib.hid (HSc4.out.ext hV)
      have HX3d := Lib.hid (HX3c4.out.keep hV)
      have Hbqd := Lib.hid (Hbqc4.out.keep hV)
      clear hV HBc4 HSc4 HX3c4 Hbqc4
      refine (rjoin_any (some ⟨bq, 0, none⟩) 1 1 [1] E3 64 e3 (D2 ++ D3) V Hbqd.out HX3d.out (by omega)).mono ?_
      rintro e Z5 ⟨E4, e4, rfl, hs, hb⟩
      have HBc5 := Lib.hid (bel_step HBd.out hb)
      have HSc5 := Lib.hid (HSd.out.ext hb)
      have HX4c5 := Lib.hid hs
      refine ⟨_, rfl, hb, ?_⟩
      clear hb hs HBd HSd HX3d Hbqd
      simp only [ptr, Act.put, List.setIfInBounds_toArray, List.set_cons_zero, List.set_cons_succ]
      refine wpF_call 13 Tryd.func13 (by kernel_rfl) (by kernel_rfl) _ _ #[.slice E4 65 e4] rfl (by kernel_rfl) (by kernel_rfl) HSc5.out (fun V hV => ?_)
      have HBd := Lib.hid (bel_step HBc5.out hV)
      have HSd := Lib.hid (HSc5.out.ext hV)
      have HX4d := Lib.hid (HX4c5.out.keep hV)
      clear hV HBc5 HSc5 HX4c5
      refine (sum_any E4 65 e4 _ V HX4d.out (by omega) (HG.out.keep HBd.out) M HM.out).mono ?_
      rintro e Z6 ⟨rfl, hb⟩
      have HBc6 := Lib.hid (bel_step HBd.out hb)
      have HSc6 := Lib.hid (HSd.out.ext hb)
      refine ⟨_, rfl, hb, ?_⟩
      clear hb HBd HSd HX4d
      simp only [ptr, Act.put, List.setIfInBounds_toArray, List.set_cons_zero, List.set_cons_succ]
      refine wpF_make (.cells z32 26, fun b => ptr b) (by kernel_rfl) (by kernel_rfl) (by kernel_rfl) (fun V => run_allocD _ _ V rfl) (fun bc Z7 hV hc hbz => ?_)
      have HBc7 := Lib.hid (bel_step HBc6.out hV)
      have HSc7 := Lib.hid (HSc6.out.ext hV)
      have Hbcc7 := Lib.hid ((show RowB Z7 26 bc (List.replicate 32 0) from hc))
      clear hV hc HBc6 HSc6 
      simp only [ptr, Act.put, List.setIfInBounds_toArray, List.set_cons_zero, List.set_cons_succ]
      refine wpF_last (fun V => V.setRow bc (celB M).toArray) (by kernel_rfl) (by kernel_rfl) (by kernel_rfl) (fun V hV => exec_storeD (x := .tmp 11) (y := .tmp 77) HML.out List.length_replicate (Hbcc7.out.keep hV) rfl rfl rfl) (fun V hV => ⟨⟨_, bel_setRow (HSc7.out.ext hV).below hbz _⟩, rfl⟩) (fun V hV XB hX => ?_)
      have hU : Below XA.heap.size XA XB := (bel_setRow (HSc7.out.ext hV).below hbz _).trans (hX.mono (bel_setRow (HSc7.out.ext hV).below hbz (celB M).toArray).size)
      have HRbc := Lib.hid (((Hbcc7.out.keep hV).row M).keep hX)
      have HWB := Lib.hid (bel_step HVB.out hU)
      have HR1HVHW := Lib.hid (HR1HV.out.keep hU)
      have HR2HVHW := Lib.hid (HR2HV.out.keep hU)
      have HRbaHW := Lib.hid (HRba.out.keep hU)
      have HW0 := Lib.hid (rangeAt_keep HV0.out hU)
      have HW1 := Lib.hid (rangeAt_keep HV1.out hU)
      have HW2 := Lib.hid (rangeAt_keep HV2.out hU)
      have HW3 := Lib.hid (rangeAt_keep HV3.out hU)
      clear hV hX hU hbz HBc7 HSc7 Hbcc7 HVB HR1HV HR2HV HRba HV0 HV1 HV2 HV3
      simp only [ptr, Act.put, List.setIfInBounds_toArray, List.set_cons_zero, List.set_cons_succ]
      go_upto_region 12 with fail
      refine wp_floatP [0, 1, 2, 4, 5, 6, 7, 8, 3, 9, 10, 11, 12, 13, 14, 15] (l' := [_, _, _, _, _, _, _, _, _, _, _, _, _, _, _, _]) (by kernel_rfl) (lexOK_of (by kernel_rfl) (by kernel_rfl)) (ordOK_of (by kernel_rfl) (by kernel_rfl)) rfl rfl ?_
      simp only [List.getElem_toArray, List.getElem_cons_succ, List.getElem_cons_zero]
      intro Z0 hbW hSW
      have HBc0 := Lib.hid (bel_step HWB.out hbW)
      have HSc0 := Lib.hid hSW
      clear hbW hSW
      refine wpF_seg 2 (by kernel_rfl) ?_
      simp only [List.take_succ_cons, List.take_zero, List.drop_succ_cons, List.drop_zero]
      refine wpQuiet_val (by kernel_rfl) _ (fun v hv => by obtain ⟨X, rfl⟩ := hv; exact exec_loadD HLL.out (HR1HVHW.out.keep X.below) rfl rfl) ?_
      simp only [ptr, Act.put, List.setIfInBounds_toArray, List.set_cons_zero, List.set_cons_succ]
      refine wpQuiet_val (by kernel_rfl) _ (fun v hv => by obtain ⟨X, rfl⟩ := hv; exact exec_loadD HML.out (HR2HVHW.out.keep X.below) rfl rfl) ?_
      simp only [ptr, Act.put, List.setIfInBounds_toArray, List.set_cons_zero, List.set_cons_succ]
      refine wpQuiet_nil ?_
      refine wpF_call 17 Tryd.func17 (by kernel_rfl) (by kernel_rfl) _ _ #[.agg (celB L).toArray, .agg (celB M).toArray] rfl (by kernel_rfl) (by kernel_rfl) HSc0.out (fun V hV => ?_)
      have HBd := Lib.hid (bel_step HBc0.out hV)
      have HSd := Lib.hid (HSc0.out.ext hV)
      clear hV HBc0 HSc0 
      refine (pair_any L M V HLL.out HML.out HLB.out HMB.out (HG.out.keep HBd.out) T HT.out).mono ?_
      rintro e Z1 ⟨rfl, hb⟩
      have HBc1 := Lib.hid (bel_step HBd.out hb)
      have HSc1 := Lib.hid (HSd.out.ext hb)
      refine ⟨_, rfl, hb, ?_⟩
      clear hb HBd HSd 
      simp only [ptr, Act.put, List.setIfInBounds_toArray, List.set_cons_zero, List.set_cons_succ]
      refine wpF_seg 1 (by kernel_rfl) ?_
      simp only [List.take_succ_cons, List.take_zero, List.drop_succ_cons, List.drop_zero]
      refine wpQuiet_val (by kernel_rfl) _ (fun v hv => by obtain ⟨X, rfl⟩ := hv; exact exec_loadD HLL.out (HRbaHW.out.keep X.below) rfl rfl) ?_
      simp only [ptr, Act.put, List.setIfInBounds_toArray, List.set_cons_zero, List.set_cons_succ]
      refine wpQuiet_nil ?_
      refine wpF_call 27 Tryd.func27 (by kernel_rfl) (by kernel_rfl) _ _ #[.agg (celB L).toArray] rfl (by kernel_rfl) (by kernel_rfl) HSc1.out (fun V hV => ?_)
      have HBd := Lib.hid (bel_step HBc1.out hV)
      have HSd := Lib.hid (HSc1.out.ext hV)
      clear hV HBc1 HSc1 
      refine (rbytes_any L V HLL.out HLB.out).mono ?_
      rintro e Z2 ⟨E1, e1, rfl, hs, hb⟩
      have HBc2 := Lib.hid (bel_step HBd.out hb)
      have HSc2 := Lib.hid (HSd.out.ext hb)
      have HX1c2 := Lib.hid hs
      refine ⟨_, rfl, hb, ?_⟩
      clear hb hs HBd HSd 
      simp only [ptr, Act.put, List.setIfInBounds_toArray, List.set_cons_zero, List.set_cons_succ]
      refine wpF_seg 1 (by kernel_rfl) ?_
      simp only [List.take_succ_cons, List.take_zero, List.drop_succ_cons, List.drop_zero]
      refine wpQuiet_val (by kernel_rfl) _ (fun v hv => by obtain ⟨X, rfl⟩ := hv; exact exec_loadD HML.out (HRbc.out.keep X.below) rfl rfl) ?_
      simp only [ptr, Act.put, List.setIfInBounds_toArray, List.set_cons_zero, List.set_cons_succ]
      refine wpQuiet_nil ?_
      refine wpF_call 27 Tryd.func27 (by kernel_rfl) (by kernel_rfl) _ _ #[.agg (celB M).toArray] rfl (by kernel_rfl) (by kernel_rfl) HSc2.out (fun V hV => ?_)
      have HBd := Lib.hid (bel_step HBc2.out hV)
      have HSd := Lib.hid (HSc2.out.ext hV)
      have HX1d := Lib.hid (HX1c2.out.keep hV)
      clear hV HBc2 HSc2 HX1c2
      refine (rbytes_any M V HML.out HMB.out).mono ?_
      rintro e Z3 ⟨E2, e2, rfl, hs, hb⟩
      have HBc3 := Lib.hid (bel_step HBd.out hb)
      have HSc3 := Lib.hid (HSd.out.ext hb)
      have HX1c3 := Lib.hid (HX1d.out.keep hb)
      have HX2c3 := Lib.hid hs
      refine ⟨_, rfl, hb, ?_⟩
      clear hb hs HBd HSd HX1d
      simp only [ptr, Act.put, List.setIfInBounds_toArray, List.set_cons_zero, List.set_cons_succ]
      refine wpF_call 26 Tryd.func26 (by kernel_rfl) (by kernel_rfl) _ _ #[.slice E1 32 e1, .slice E2 32 e2] rfl (by kernel_rfl) (by kernel_rfl) HSc3.out (fun V hV => ?_)
      have HBd := Lib.hid (bel_step HBc3.out hV)
      have HSd := Lib.hid (HSc3.out.ext hV)
      have HX1d := Lib.hid (HX1c3.out.keep hV)
      have HX2d := Lib.hid (HX2c3.out.keep hV)
      clear hV HBc3 HSc3 HX1c3 HX2c3
      refine (rjoin_any E1 32 e1 L E2 32 e2 M V HX1d.out HX2d.out (by omega)).mono ?_
      rintro e Z4 ⟨E3, e3, rfl, hs, hb⟩
      have HBc4 := Lib.hid (bel_step HBd.out hb)
      have HSc4 := Lib.hid (HSd.out.ext hb)
      have HX3c4 := Lib.hid hs
      refine ⟨_, rfl, hb, ?_⟩
      clear hb hs HBd HSd HX1d HX2d
      simp only [ptr, Act.put, List.setIfInBounds_toArray, List.set_cons_zero, List.set_cons_succ]
      refine wpF_make (.cells #[.int .u8 ((1 : Nat) : Int)] 5, fun b => .slice (some ⟨b, 0, none⟩) 1 1) (by kernel_rfl) (by kernel_rfl) (by kernel_rfl) (fun V => run_buildB1 1 rfl rfl V) (fun bq Z5 hV hc hbz => ?_)
      have HBc5 := Lib.hid (bel_step HBc4.out hV)
      have HSc5 := Lib.hid (HSc4.out.ext hV)
      have Hbqc5 := Lib.hid ((show RowB Z5 5 bq [1] from hc).all (n := 1) (c := 1) (by decide) rfl (Nat.le_refl _) (by omega))
      have HX3c5 := Lib.hid (HX3c4.out.keep hV)
      clear hV hc HBc4 HSc4 HX3c4
      simp only [ptr, Act.put, List.setIfInBounds_toArray, List.set_cons_zero, List.set_cons_succ]
      clear hbz
      refine wpF_call 26 Tryd.func26 (by kernel_rfl) (by kernel_rfl) _ _ #[.slice (some ⟨bq, 0, none⟩) 1 1, .slice E3 64 e3] rfl (by kernel_rfl) (by kernel_rfl) HSc5.out (fun V hV => ?_)
      have HBd := Lib.hid (bel_step HBc5.out hV)
      have HSd := Lib.hid (HSc5.out.ext hV)
      have HX3d := Lib.hid (HX3c5.out.keep hV)
      have Hbqd := Lib.hid (Hbqc5.out.keep hV)
      clear hV HBc5 HSc5 HX3c5 Hbqc5
      refine (rjoin_any (some ⟨bq, 0, none⟩) 1 1 [1] E3 64 e3 (L ++ M) V Hbqd.out HX3d.out (by omega)).mono ?_
      rintro e Z6 ⟨E4, e4, rfl, hs, hb⟩
      have HBc6 := Lib.hid (bel_step HBd.out hb)
      have HSc6 := Lib.hid (HSd.out.ext hb)
      have HX4c6 := Lib.hid hs
      refine ⟨_, rfl, hb, ?_⟩
      clear hb hs HBd HSd HX3d Hbqd
      simp only [ptr, Act.put, List.setIfInBounds_toArray, List.set_cons_zero, List.set_cons_succ]
      refine wpF_call 13 Tryd.func13 (by kernel_rfl) (by kernel_rfl) _ _ #[.slice E4 65 e4] rfl (by kernel_rfl) (by kernel_rfl) HSc6.out (fun V hV => ?_)
      have HBd := Lib.hid (bel_step HBc6.out hV)
      have HSd := Lib.hid (HSc6.out.ext hV)
      have HX4d := Lib.hid (HX4c6.out.keep hV)
      clear hV HBc6 HSc6 HX4c6
      refine (sum_any E4 65 e4 _ V HX4d.out (by omega) (HG.out.keep HBd.out) T HT.out).mono ?_
      rintro e Z7 ⟨rfl, hb⟩
      have HBc7 := Lib.hid (bel_step HBd.out hb)
      have HSc7 := Lib.hid (HSd.out.ext hb)
      refine ⟨_, rfl, hb, ?_⟩
      clear hb HBd HSd HX4d
      simp only [ptr, Act.put, List.setIfInBounds_toArray, List.set_cons_zero, List.set_cons_succ]
      refine wpF_seg 5 (by kernel_rfl) ?_
      simp only [List.take_succ_cons, List.take_zero, List.drop_succ_cons, List.drop_zero]
      iterate 5 (go_big_quiet_step (fail))
      refine wpQuiet_nil ?_
      refine wpF_nil (fun Y hY => ?_)
      go_wp2_with fail
      go_ret
      exact ⟨rfl, bel_step HBc7.out hY⟩
end Go.Proofs.YtliflbelhogopaaDoor
