/- The compression of a block. -/
import Derived.Test.YtliflbelhogopaaDoorSha3
namespace Go.Proofs.YtliflbelhogopaaDoor
set_option maxRecDepth 8000
open Go.RowKit
/-- the table of the round constants lies in the program's second variable -/
def KT (w : World) : Prop := ∀ i, i < 64 → w.cell? ⟨1, i, none⟩ = some (.int .u32 (kN.getD i 0 : Nat))
theorem KT.keep {w w' : World} (h : KT w) (hb : Below w.heap.size w w') : KT w' := fun i hi => cell_keep (h i hi) hb
theorem chL_length (s : Ch) : (chL s).length = 8 := rfl
theorem not32 (e : Nat) (he : e < 4294967296) : bits .xor .u32 IntKind.u32.max (e : Int) = ((4294967295 - e : Nat) : Int) := by
  show IntKind.u32.wrap ((BitVec.ofInt 32 (4294967295 : Int) ^^^ BitVec.ofInt 32 (e : Int)).toNat : Int) = _
  rw [show BitVec.ofInt 32 (4294967295 : Int) = BitVec.allOnes 32 from by decide, BitVec.allOnes_xor, BitVec.toNat_not, toN 32 e (by omega), IntKind.wrap_u32]
  omega
theorem three_val {x y z : Nat} (hx : x < 4294967296) (hy : y < 4294967296) (hz : z < 4294967296) : bits .xor .u32 (bits .xor .u32 (x : Int) (y : Int)) (z : Int) = ((x ^^^ y ^^^ z : Nat) : Int) := by
  rw [xor32 _ _ hx hy, xor32 _ _ (xor_lt hx hy) hz]
theorem ch_val {e f g : Nat} (he : e < 4294967296) (hf : f < 4294967296) (hg : g < 4294967296) :
    bits .xor .u32 (bits .and .u32 (e : Int) (f : Int)) (bits .and .u32 (bits .xor .u32 IntKind.u32.max (e : Int)) (g : Int)) = ((chN e f g : Nat) : Int) := by
  rw [not32 e he, and32 _ _ he hf, and32 _ _ (by omega) hg, xor32 _ _ (and_lt hf) (and_lt hg)]
  rfl
theorem maj_val {a b c : Nat} (ha : a < 4294967296) (hb : b < 4294967296) (hc : c < 4294967296) :
    bits .xor .u32 (bits .xor .u32 (bits .and .u32 (a : Int) (b : Int)) (bits .and .u32 (a : Int) (c : Int))) (bits .and .u32 (b : Int) (c : Int)) = ((majN a b c : Nat) : Int) := by
  rw [and32 _ _ ha hb, and32 _ _ ha hc, and32 _ _ hb hc, three_val (and_lt hb) (and_lt hc) (and_lt hc)]
  rfl
theorem add_val (x y : Nat) : ((x : Int) + y) % 4294967296 = (((x + y) % 4294967296 : Nat) : Int) := by omega
def z64 : Array Value := (celW (List.replicate 64 0)).toArray
theorem z64_size : z64.size = 64 := by unfold z64; rw [List.size_toArray, celW_length]; simp
theorem z64_ne : z64 ≠ #[] := fun e => by have h := z64_size; rw [e] at h; simp at h
theorem z64_run (w : World) : Sem.run Tryd.prog (zeroValue 53) w = .ok (.agg z64) w := Tryd.zeroValue53 w
theorem RowW.z64 (w : World) (t : Nat) : RowW (w.alloc (.cells z64 t)) t w.heap.size (List.replicate 64 0) := RowW.new w t _
attribute [local simp] z64_ne z64_run
attribute [-simp] Tryd.zeroValue53 Tryd.isAgg53 Tryd.sizeOf53
set_option maxHeartbeats 1000000 in
theorem comp_any (s : Ch) (ad : Addr) (bt : Nat → Nat) (cp : Nat) (w : World) (hs : s.Ok) (hK : KT w) (hB : Blk w ad bt) (hcp : 64 ≤ cp) (hcm : cp ≤ 9223372036854775807) :
    Calls Tryd.prog 38 #[.agg (celW (chL s)).toArray, .slice (some ad) 64 cp] w fun e w' => e = .returned (.agg (celW (chL (compN s bt))).toArray) ∧ Below w.heap.size w w' := by
  have HK := Lib.hid hK
  have HB0 := Lib.hid hB
  clear hB hK
  go_enter Tryd.func38, Tryd.ntmps38
  go_wp2_with fail
  refine calls_named2 (fun w1 hb1 g0 g1 hlt1 => ?_)
  have hr0 : RowW w1 58 w.heap.size (chL s) := g0
  have hr1 : RowW w1 58 (w.heap.size + 1) [0, 0, 0, 0, 0, 0, 0, 0] := g1
  clear g0 g1 hlt1
  have HR0 := Lib.hid hr0
  have HR1 := Lib.hid hr1
  have HB := Lib.hid hb1
  clear hr0 hr1 hb1
  with_reducible refine (sched_any ad bt cp w1 (HB0.out.keep HB.out) hcp hcm).mono ?_
  rintro e W1 ⟨rfl, hb⟩
  have HRA := Lib.hid (HR0.out.keep hb)
  have HRB := Lib.hid (HR1.out.keep hb)
  have HBA := Lib.hid (bel_step HB.out hb)
  clear hb HR0 HR1 HB
  generalize hcs : (celW (schedN bt)).toArray = cs
  have hcz : cs.size = 64 := by rw [← hcs, List.size_toArray, celW_length, schedN_length]
  have hsc := run_storeCells_new (P := Tryd.prog) W1 53 z64 cs (by rw [hcz]; kernel_rfl) (by rw [hcz, z64_size]) (by rw [← hcs]; exact celW_one)
  go_wp2_with fail
  simp only [Tryd.sizeOf53, Result.andThen, ↓reduceIte, hsc]
  rw [Oper.upon_skip]
  clear hsc
  go_wp2_with fail
  refine wp_named1 (fun w2 hb2 g0 hlt2 => ?_)
  have hrw : RowW w2 53 W1.heap.size (schedN bt) := by unfold RowW; rw [g0, ← hcs]
  clear hcs hcz g0
  have hr0 := HRA.out.keep hb2
  have hr1 := HRB.out.keep hb2
  have hbb := bel_step HBA.out hb2
  have hg : w.heap.size + 2 ≤ W1.heap.size := HRB.out.lt
  clear HRA HRB HBA hb2 hlt2
  generalize W1.heap.size = gw at *
  have HR0 := Lib.hid hr0
  have HR1 := Lib.hid hr1
  have HRW := Lib.hid hrw
  have HB := Lib.hid hbb
  clear hr0 hr1 hrw hbb
  have c0 := HR0.out.at_ (i := 0) (x := s.a) rfl
  have c1 := HR0.out.at_ (i := 1) (x := s.b) rfl
  have c2 := HR0.out.at_ (i := 2) (x := s.c) rfl
  have c3 := HR0.out.at_ (i := 3) (x := s.d) rfl
  go_quiet (fail)
  have hb1 : Below w2.heap.size w2 (w2.drewN nq) := bel_drewN _ _ _
  have HB1 := Lib.hid hb1
  clear c0 c1 c2 c3 hb1
  generalize w2.drewN nq = w3 at *
  go_wp2_with fail
  have c4 := cell_keep (HR0.out.at_ (i := 4) (x := s.e) rfl) HB1.out
  have c5 := cell_keep (HR0.out.at_ (i := 5) (x := s.f) rfl) HB1.out
  have c6 := cell_keep (HR0.out.at_ (i := 6) (x := s.g) rfl) HB1.out
  have c7 := cell_keep (HR0.out.at_ (i := 7) (x := s.h) rfl) HB1.out
  go_quiet (fail)
  have hb1 : Below w3.heap.size w3 (w3.drewN nq) := bel_drewN _ _ _
  have HB2 := Lib.hid (bel_step HB1.out hb1)
  clear c4 c5 c6 c7 hb1
  generalize w3.drewN nq = w4 at *
  have H0 := Lib.hid (HR0.out.keep HB2.out)
  have H1 := Lib.hid (HR1.out.keep HB2.out)
  have HW := Lib.hid (HRW.out.keep HB2.out)
  have HBW := Lib.hid (bel_step HB.out HB2.out)
  clear HR0 HR1 HRW HB HB1 HB2
  have HWB := Lib.hid (schedN_lt bt HB0.out.byte)
  have HWL := Lib.hid (schedN_length bt)
  have HKW := Lib.hid (HK.out.keep HBW.out)
  have HC := Lib.hid (show compN s bt = addCh s (rndN (schedN bt) s 64) from rfl)
  clear HB0 HK
  generalize schedN bt = ws at *
  go_wp2_with fail
  go_loopw [6, 7, 8, 9, 10, 11, 12, 13, 37] (fun va vb vc vd ve vf vg vh s0 wr => ∃ (i : Nat) (S : Ch), i ≤ 64 ∧ s0 = .int .i64 i ∧ S = rndN ws s i ∧ va = .int .u32 S.a ∧ vb = .int .u32 S.b ∧ vc = .int .u32 S.c ∧ vd = .int .u32 S.d ∧ ve = .int .u32 S.e ∧ vf = .int .u32 S.f ∧ vg = .int .u32 S.g ∧ vh = .int .u32 S.h ∧ Below w4.heap.size w4 wr) (fun _ _ _ _ _ _ _ _ s0 _ => 64 - (intOf s0).toNat)
  case atStart => exact ⟨0, s, by omega, rfl, rfl, rfl, rfl, rfl, rfl, rfl, rfl, rfl, rfl, Below.refl _ _⟩
  case round =>
    obtain ⟨i, S, hi, rfl, hS, rfl, rfl, rfl, rfl, rfl, rfl, rfl, rfl, hb⟩ := hrel
    have hok : S.Ok := by rw [hS]; exact rndN_ok ws hs i
    have HS := Lib.hid hS
    have HB := Lib.hid hb
    clear hS hb
    by_cases hlt : i < 64
    · have hk1 : (i : Int) < 64 := by omega
      have hk0 : (0 : Int) ≤ (i : Int) := by omega
      obtain ⟨a, b, c, d, e, f, g, hh⟩ := S
      obtain ⟨la, lb, lc, ld, le, lf, lg, lh⟩ := hok
      dsimp only at la lb lc ld le lf lg lh
      have LA := Lib.hid la
      have LB := Lib.hid lb
      have LC := Lib.hid lc
      have LD := Lib.hid ld
      have LE := Lib.hid le
      have LF := Lib.hid lf
      have LG := Lib.hid lg
      have LH := Lib.hid lh
      clear la lb lc ld le lf lg lh
      have lk := Later.cell (cell_keep (HKW.out i hlt) HB.out)
      have lw := Later.cell (cell_keep (HW.out.at_ (x := ws.getD i 0) (by rw [List.getD_eq_getElem?_getD, List.getElem?_eq_getElem (by rw [HWL.out]; exact hlt)]; rfl)) HB.out)
      generalize hk : kN.getD i 0 = k at lk
      generalize hx : ws.getD i 0 = x at lw
      have HKX := Lib.hid (And.intro hk hx)
      clear hk hx
      dsimp only
      go_wp2_with fail
      refine wp_later_lex (by kernel_rfl) (lexOK_of (by kernel_rfl) (by kernel_rfl)) ?_
      repeat (go_big_quiet_step (first | (go_at_call 43; with_reducible exact Calls.later (rotate_6 e _ LE.out)) | (go_at_call 43; with_reducible exact Calls.later (rotate_11 e _ LE.out)) | (go_at_call 43; with_reducible exact Calls.later (rotate_25 e _ LE.out))))
      refine wpQuiet_nil ?_
      intro X
      clear lk lw
      have HB2 := Lib.hid (bel_step HB.out X.below)
      generalize X.at = w5 at *
      go_wp2_with fail
      with_reducible refine (rotate_2 a w5 LA.out).mono ?_
      rintro e1 W6 ⟨rfl, hb⟩
      have HB3 := Lib.hid (bel_step HB2.out hb)
      clear hb
      go_wp2_with fail
      with_reducible refine (rotate_13 a W6 LA.out).mono ?_
      rintro e1 W7 ⟨rfl, hb⟩
      have HB4 := Lib.hid (bel_step HB3.out hb)
      clear hb
      go_wp2_with fail
      with_reducible refine (rotate_22 a W7 LA.out).mono ?_
      rintro e1 W8 ⟨rfl, hb⟩
      have HB5 := Lib.hid (bel_step HB4.out hb)
      clear hb
      go_wp2_with fail
      go_roundw
      case rel =>
        have q1 := three_val (rotN_lt (n := 6) LE.out) (rotN_lt (n := 11) LE.out) (rotN_lt (n := 25) LE.out)
        have q2 := ch_val LE.out LF.out LG.out
        have q3 := three_val (rotN_lt (n := 2) LA.out) (rotN_lt (n := 13) LA.out) (rotN_lt (n := 22) LA.out)
        have q4 := maj_val LA.out LB.out LC.out
        rw [q1, q2, q3, q4]
        refine ⟨i + 1, roundN ⟨a, b, c, d, e, f, g, hh⟩ k x, by omega, by go_num, ?_, ?_, rfl, rfl, rfl, ?_, rfl, rfl, rfl, HB5.out⟩
        · rw [rndN, ← HS.out, HKX.out.1, HKX.out.2]
        · show _ = Value.int .u32 ((((hh + Sg1 e + chN e f g + k + x) % 4294967296 + (Sg0 a + majN a b c) % 4294967296) % 4294967296 : Nat) : Int)
          refine congrArg (Value.int .u32) ?_
          unfold Sg1 Sg0
          omega
        · show _ = Value.int .u32 (((d + (hh + Sg1 e + chN e f g + k + x) % 4294967296) % 4294967296 : Nat) : Int)
          refine congrArg (Value.int .u32) ?_
          unfold Sg1
          omega
      case measure => simp [intOf]; omega
    · have hkn : i = 64 := by omega
      subst hkn
      have c0 := cell_keep (H0.out.at_ (i := 0) (x := s.a) rfl) HB.out
      have c1 := cell_keep (H0.out.at_ (i := 1) (x := s.b) rfl) HB.out
      have c2 := cell_keep (H0.out.at_ (i := 2) (x := s.c) rfl) HB.out
      have c3 := cell_keep (H0.out.at_ (i := 3) (x := s.d) rfl) HB.out
      have c4 := cell_keep (H0.out.at_ (i := 4) (x := s.e) rfl) HB.out
      have c5 := cell_keep (H0.out.at_ (i := 5) (x := s.f) rfl) HB.out
      have c6 := cell_keep (H0.out.at_ (i := 6) (x := s.g) rfl) HB.out
      have c7 := cell_keep (H0.out.at_ (i := 7) (x := s.h) rfl) HB.out
      have hr1 := H1.out.keep HB.out
      have d0 := hr1.at_ (i := 0) (x := 0) rfl
      have d1 := hr1.at_ (i := 1) (x := 0) rfl
      have d2 := hr1.at_ (i := 2) (x := 0) rfl
      have d3 := hr1.at_ (i := 3) (x := 0) rfl
      have d4 := hr1.at_ (i := 4) (x := 0) rfl
      have d5 := hr1.at_ (i := 5) (x := 0) rfl
      have d6 := hr1.at_ (i := 6) (x := 0) rfl
      have d7 := hr1.at_ (i := 7) (x := 0) rfl
      have f0 := hr1.free 0
      have f1 := hr1.free 1
      have f2 := hr1.free 2
      have f3 := hr1.free 3
      have f4 := hr1.free 4
      have f5 := hr1.free 5
      have f6 := hr1.free 6
      have f7 := hr1.free 7
      have HR := Lib.hid hr1
      clear hr1
      go_wp2_with fail
      refine bodyPost_ret (v := .agg (celW (chL (compN s bt))).toArray) ?_ rfl ⟨rfl, ?_⟩
      · have hf := ((((((((HR.out.put 0 _ _ (add_val s.a S.a)).put 1 _ _ (add_val s.b S.b)).put 2 _ _ (add_val s.c S.c)).put 3 _ _ (add_val s.d S.d)).put 4 _ _ (add_val s.e S.e)).put 5 _ _ (add_val s.f S.f)).put 6 _ _ (add_val s.g S.g)).put 7 _ _ (add_val s.h S.h))
        rw [HC.out, ← HS.out]
        exact results_cell_row rfl _ _ (w.heap.size + 1) 58 _ (0, 0) _ rfl hf Tryd.underlying58 rfl (by kernel_rfl)
      · have hb := bel_step HBW.out HB.out
        exact (((((((hb.setCell (by simp) _).setCell (by simp) _).setCell (by simp) _).setCell (by simp) _).setCell (by simp) _).setCell (by simp) _).setCell (by simp) _).setCell (by simp) _
end Go.Proofs.YtliflbelhogopaaDoor
