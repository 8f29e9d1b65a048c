/- Several texts in one: Sha4, Sha5, Sha6, Sha7, Shb, Shc, Shd. -/
import Derived.Test.YtcaoajeplinopaaDoorH01
import Derived.Laws.Shifts
import Derived.Laws.MakeOwn
import Derived.Laws.AppendOwn
import Derived.Laws.OwnMore
import Derived.Laws.AppendOwnNone
import Derived.ArgAppend
import Derived.OwnWalk
import Derived.Deep.Cut
import Derived.Deep.RegionWith
namespace Go.Proofs.YtcaoajeplinopaaDoor
set_option linter.unusedVariables false
set_option linter.unusedSimpArgs false
set_option maxRecDepth 8000
open Go.RowKit
/-- the table of the round constants lies in the program's second variable -/
def KT (w : World) : Prop := ∀ i, i < 64 → w.cell? ⟨1, i, none⟩ = some (.int .u32 (kN.getD i 0 : Nat))
theorem KT.keep {w w' : World} (h : KT w) (hb : Below w.heap.size w w') : KT w' := fun i hi => cell_keep (h i hi) hb
theorem chL_length (s : Ch) : (chL s).length = 8 := rfl
theorem not32 (e : Nat) (he : e < 4294967296) : bits .xor .u32 IntKind.u32.max (e : Int) = ((4294967295 - e : Nat) : Int) := by
  show IntKind.u32.wrap ((BitVec.ofInt 32 (4294967295 : Int) ^^^ BitVec.ofInt 32 (e : Int)).toNat : Int) = _
  rw [show BitVec.ofInt 32 (4294967295 : Int) = BitVec.allOnes 32 from by decide, BitVec.allOnes_xor, BitVec.toNat_not, toN 32 e (by omega), IntKind.wrap_u32]
  omega
theorem three_val {x y z : Nat} (hx : x < 4294967296) (hy : y < 4294967296) (hz : z < 4294967296) : bits .xor .u32 (bits .xor .u32 (x : Int) (y : Int)) (z : Int) = ((x ^^^ y ^^^ z : Nat) : Int) := by
  rw [xor32 _ _ hx hy, xor32 _ _ (xor_lt hx hy) hz]
theorem ch_val {e f g : Nat} (he : e < 4294967296) (hf : f < 4294967296) (hg : g < 4294967296) :
    bits .xor .u32 (bits .and .u32 (e : Int) (f : Int)) (bits .and .u32 (bits .xor .u32 IntKind.u32.max (e : Int)) (g : Int)) = ((chN e f g : Nat) : Int) := by
  rw [not32 e he, and32 _ _ he hf, and32 _ _ (by omega) hg, xor32 _ _ (and_lt hf) (and_lt hg)]
  rfl
theorem maj_val {a b c : Nat} (ha : a < 4294967296) (hb : b < 4294967296) (hc : c < 4294967296) :
    bits .xor .u32 (bits .xor .u32 (bits .and .u32 (a : Int) (b : Int)) (bits .and .u32 (a : Int) (c : Int))) (bits .and .u32 (b : Int) (c : Int)) = ((majN a b c : Nat) : Int) := by
  rw [and32 _ _ ha hb, and32 _ _ ha hc, and32 _ _ hb hc, three_val (and_lt hb) (and_lt hc) (and_lt hc)]
  rfl
theorem add_val (x y : Nat) : ((x : Int) + y) % 4294967296 = (((x + y) % 4294967296 : Nat) : Int) := by omega
def z64 : Array Value := (celW (List.replicate 64 0)).toArray
theorem z64_size : z64.size = 64 := by unfold z64; rw [List.size_toArray, celW_length]; simp
theorem z64_ne : z64 ≠ #[] := fun e => by have h := z64_size; rw [e] at h; simp at h
theorem z64_run (w : World) : Sem.run Tryd.prog (zeroValue 94) w = .ok (.agg z64) w := Tryd.zeroValue94 w
theorem RowW.z64 (w : World) (t : Nat) : RowW (w.alloc (.cells z64 t)) t w.heap.size (List.replicate 64 0) := RowW.new w t _
attribute [local simp] z64_ne z64_run
attribute [-simp] Tryd.zeroValue94 Tryd.isAgg94 Tryd.sizeOf94
set_option maxHeartbeats 1000000 in
theorem comp_any (s : Ch) (ad : Addr) (bt : Nat → Nat) (cp : Nat) (w : World) (hs : s.Ok) (hK : KT w) (hB : Blk w ad bt) (hcp : 64 ≤ cp) (hcm : cp ≤ 9223372036854775807) :
    Calls Tryd.prog 67 #[.agg (celW (chL s)).toArray, .slice (some ad) 64 cp] w fun e w' => e = .returned (.agg (celW (chL (compN s bt))).toArray) ∧ Below w.heap.size w w' := by
  have HK := Lib.hid hK
  have HB0 := Lib.hid hB
  clear hB hK
  go_enter Tryd.func67, Tryd.ntmps67
  go_wp2_with fail
  refine calls_named2 (fun w1 hb1 g0 g1 hlt1 => ?_)
  have hr0 : RowW w1 98 w.heap.size (chL s) := g0
  have hr1 : RowW w1 98 (w.heap.size + 1) [0, 0, 0, 0, 0, 0, 0, 0] := g1
  clear g0 g1 hlt1
  have HR0 := Lib.hid hr0
  have HR1 := Lib.hid hr1
  have HB := Lib.hid hb1
  clear hr0 hr1 hb1
  with_reducible refine (sched_any ad bt cp w1 (HB0.out.keep HB.out) hcp hcm).mono ?_
  rintro e W1 ⟨rfl, hb⟩
  have HRA := Lib.hid (HR0.out.keep hb)
  have HRB := Lib.hid (HR1.out.keep hb)
  have HBA := Lib.hid (bel_step HB.out hb)
  clear hb HR0 HR1 HB
  generalize hcs : (celW (schedN bt)).toArray = cs
  have hcz : cs.size = 64 := by rw [← hcs, List.size_toArray, celW_length, schedN_length]
  have hsc := run_storeCells_new (P := Tryd.prog) W1 94 z64 cs (by rw [hcz]; kernel_rfl) (by rw [hcz, z64_size]) (by rw [← hcs]; exact celW_one)
  go_wp2_with fail
  simp only [Tryd.sizeOf94, Result.andThen, ↓reduceIte, hsc]
  rw [Oper.upon_skip]
  clear hsc
  go_wp2_with fail
  refine wp_named1 (fun w2 hb2 g0 hlt2 => ?_)
  have hrw : RowW w2 94 W1.heap.size (schedN bt) := by unfold RowW; rw [g0, ← hcs]
  clear hcs hcz g0
  have hr0 := HRA.out.keep hb2
  have hr1 := HRB.out.keep hb2
  have hbb := bel_step HBA.out hb2
  have hg : w.heap.size + 2 ≤ W1.heap.size := HRB.out.lt
  clear HRA HRB HBA hb2 hlt2
  generalize W1.heap.size = gw at *
  have HR0 := Lib.hid hr0
  have HR1 := Lib.hid hr1
  have HRW := Lib.hid hrw
  have HB := Lib.hid hbb
  clear hr0 hr1 hrw hbb
  have c0 := HR0.out.at_ (i := 0) (x := s.a) rfl
  have c1 := HR0.out.at_ (i := 1) (x := s.b) rfl
  have c2 := HR0.out.at_ (i := 2) (x := s.c) rfl
  have c3 := HR0.out.at_ (i := 3) (x := s.d) rfl
  go_quiet (fail)
  have hb1 : Below w2.heap.size w2 (w2.drewN nq) := bel_drewN _ _ _
  have HB1 := Lib.hid hb1
  clear c0 c1 c2 c3 hb1
  generalize w2.drewN nq = w3 at *
  go_wp2_with fail
  have c4 := cell_keep (HR0.out.at_ (i := 4) (x := s.e) rfl) HB1.out
  have c5 := cell_keep (HR0.out.at_ (i := 5) (x := s.f) rfl) HB1.out
  have c6 := cell_keep (HR0.out.at_ (i := 6) (x := s.g) rfl) HB1.out
  have c7 := cell_keep (HR0.out.at_ (i := 7) (x := s.h) rfl) HB1.out
  go_quiet (fail)
  have hb1 : Below w3.heap.size w3 (w3.drewN nq) := bel_drewN _ _ _
  have HB2 := Lib.hid (bel_step HB1.out hb1)
  clear c4 c5 c6 c7 hb1
  generalize w3.drewN nq = w4 at *
  have H0 := Lib.hid (HR0.out.keep HB2.out)
  have H1 := Lib.hid (HR1.out.keep HB2.out)
  have HW := Lib.hid (HRW.out.keep HB2.out)
  have HBW := Lib.hid (bel_step HB.out HB2.out)
  clear HR0 HR1 HRW HB HB1 HB2
  have HWB := Lib.hid (schedN_lt bt HB0.out.byte)
  have HWL := Lib.hid (schedN_length bt)
  have HKW := Lib.hid (HK.out.keep HBW.out)
  have HC := Lib.hid (show compN s bt = addCh s (rndN (schedN bt) s 64) from rfl)
  clear HB0 HK
  generalize schedN bt = ws at *
  go_wp2_with fail
  go_loopw [6, 7, 8, 9, 10, 11, 12, 13, 37] (fun va vb vc vd ve vf vg vh s0 wr => ∃ (i : Nat) (S : Ch), i ≤ 64 ∧ s0 = .int .i64 i ∧ S = rndN ws s i ∧ va = .int .u32 S.a ∧ vb = .int .u32 S.b ∧ vc = .int .u32 S.c ∧ vd = .int .u32 S.d ∧ ve = .int .u32 S.e ∧ vf = .int .u32 S.f ∧ vg = .int .u32 S.g ∧ vh = .int .u32 S.h ∧ Below w4.heap.size w4 wr) (fun _ _ _ _ _ _ _ _ s0 _ => 64 - (intOf s0).toNat)
  case atStart => exact ⟨0, s, by omega, rfl, rfl, rfl, rfl, rfl, rfl, rfl, rfl, rfl, rfl, Below.refl _ _⟩
  case round =>
    obtain ⟨i, S, hi, rfl, hS, rfl, rfl, rfl, rfl, rfl, rfl, rfl, rfl, hb⟩ := hrel
    have hok : S.Ok := by rw [hS]; exact rndN_ok ws hs i
    have HS := Lib.hid hS
    have HB := Lib.hid hb
    clear hS hb
    by_cases hlt : i < 64
    · have hk1 : (i : Int) < 64 := by omega
      have hk0 : (0 : Int) ≤ (i : Int) := by omega
      obtain ⟨a, b, c, d, e, f, g, hh⟩ := S
      obtain ⟨la, lb, lc, ld, le, lf, lg, lh⟩ := hok
      dsimp only at la lb lc ld le lf lg lh
      have LA := Lib.hid la
      have LB := Lib.hid lb
      have LC := Lib.hid lc
      have LD := Lib.hid ld
      have LE := Lib.hid le
      have LF := Lib.hid lf
      have LG := Lib.hid lg
      have LH := Lib.hid lh
      clear la lb lc ld le lf lg lh
      have lk := Later.cell (cell_keep (HKW.out i hlt) HB.out)
      have lw := Later.cell (cell_keep (HW.out.at_ (x := ws.getD i 0) (by rw [List.getD_eq_getElem?_getD, List.getElem?_eq_getElem (by rw [HWL.out]; exact hlt)]; rfl)) HB.out)
      generalize hk : kN.getD i 0 = k at lk
      generalize hx : ws.getD i 0 = x at lw
      have HKX := Lib.hid (And.intro hk hx)
      clear hk hx
      dsimp only
      go_wp2_with fail
      refine wp_later_lex (by kernel_rfl) (lexOK_of (by kernel_rfl) (by kernel_rfl)) ?_
      repeat (go_big_quiet_step (first | (go_at_call 72; with_reducible exact Calls.later (rotate_6 e _ LE.out)) | (go_at_call 72; with_reducible exact Calls.later (rotate_11 e _ LE.out)) | (go_at_call 72; with_reducible exact Calls.later (rotate_25 e _ LE.out))))
      refine wpQuiet_nil ?_
      intro X
      clear lk lw
      have HB2 := Lib.hid (bel_step HB.out X.below)
      generalize X.at = w5 at *
      go_wp2_with fail
      with_reducible refine (rotate_2 a w5 LA.out).mono ?_
      rintro e1 W6 ⟨rfl, hb⟩
      have HB3 := Lib.hid (bel_step HB2.out hb)
      clear hb
      go_wp2_with fail
      with_reducible refine (rotate_13 a W6 LA.out).mono ?_
      rintro e1 W7 ⟨rfl, hb⟩
      have HB4 := Lib.hid (bel_step HB3.out hb)
      clear hb
      go_wp2_with fail
      with_reducible refine (rotate_22 a W7 LA.out).mono ?_
      rintro e1 W8 ⟨rfl, hb⟩
      have HB5 := Lib.hid (bel_step HB4.out hb)
      clear hb
      go_wp2_with fail
      go_roundw
      case rel =>
        have q1 := three_val (rotN_lt (n := 6) LE.out) (rotN_lt (n := 11) LE.out) (rotN_lt (n := 25) LE.out)
        have q2 := ch_val LE.out LF.out LG.out
        have q3 := three_val (rotN_lt (n := 2) LA.out) (rotN_lt (n := 13) LA.out) (rotN_lt (n := 22) LA.out)
        have q4 := maj_val LA.out LB.out LC.out
        rw [q1, q2, q3, q4]
        refine ⟨i + 1, roundN ⟨a, b, c, d, e, f, g, hh⟩ k x, by omega, by go_num, ?_, ?_, rfl, rfl, rfl, ?_, rfl, rfl, rfl, HB5.out⟩
        · rw [rndN, ← HS.out, HKX.out.1, HKX.out.2]
        · show _ = Value.int .u32 ((((hh + Sg1 e + chN e f g + k + x) % 4294967296 + (Sg0 a + majN a b c) % 4294967296) % 4294967296 : Nat) : Int)
          refine congrArg (Value.int .u32) ?_
          unfold Sg1 Sg0
          omega
        · show _ = Value.int .u32 (((d + (hh + Sg1 e + chN e f g + k + x) % 4294967296) % 4294967296 : Nat) : Int)
          refine congrArg (Value.int .u32) ?_
          unfold Sg1
          omega
      case measure => simp [intOf]; omega
    · have hkn : i = 64 := by omega
      subst hkn
      have c0 := cell_keep (H0.out.at_ (i := 0) (x := s.a) rfl) HB.out
      have c1 := cell_keep (H0.out.at_ (i := 1) (x := s.b) rfl) HB.out
      have c2 := cell_keep (H0.out.at_ (i := 2) (x := s.c) rfl) HB.out
      have c3 := cell_keep (H0.out.at_ (i := 3) (x := s.d) rfl) HB.out
      have c4 := cell_keep (H0.out.at_ (i := 4) (x := s.e) rfl) HB.out
      have c5 := cell_keep (H0.out.at_ (i := 5) (x := s.f) rfl) HB.out
      have c6 := cell_keep (H0.out.at_ (i := 6) (x := s.g) rfl) HB.out
      have c7 := cell_keep (H0.out.at_ (i := 7) (x := s.h) rfl) HB.out
      have hr1 := H1.out.keep HB.out
      have d0 := hr1.at_ (i := 0) (x := 0) rfl
      have d1 := hr1.at_ (i := 1) (x := 0) rfl
      have d2 := hr1.at_ (i := 2) (x := 0) rfl
      have d3 := hr1.at_ (i := 3) (x := 0) rfl
      have d4 := hr1.at_ (i := 4) (x := 0) rfl
      have d5 := hr1.at_ (i := 5) (x := 0) rfl
      have d6 := hr1.at_ (i := 6) (x := 0) rfl
      have d7 := hr1.at_ (i := 7) (x := 0) rfl
      have f0 := hr1.free 0
      have f1 := hr1.free 1
      have f2 := hr1.free 2
      have f3 := hr1.free 3
      have f4 := hr1.free 4
      have f5 := hr1.free 5
      have f6 := hr1.free 6
      have f7 := hr1.free 7
      have HR := Lib.hid hr1
      clear hr1
      go_wp2_with fail
      refine bodyPost_ret (v := .agg (celW (chL (compN s bt))).toArray) ?_ rfl ⟨rfl, ?_⟩
      · have hf := ((((((((HR.out.put 0 _ _ (add_val s.a S.a)).put 1 _ _ (add_val s.b S.b)).put 2 _ _ (add_val s.c S.c)).put 3 _ _ (add_val s.d S.d)).put 4 _ _ (add_val s.e S.e)).put 5 _ _ (add_val s.f S.f)).put 6 _ _ (add_val s.g S.g)).put 7 _ _ (add_val s.h S.h))
        rw [HC.out, ← HS.out]
        exact results_cell_row rfl _ _ (w.heap.size + 1) 98 _ (0, 0) _ rfl hf Tryd.underlying98 rfl (by kernel_rfl)
      · have hb := bel_step HBW.out HB.out
        exact (((((((hb.setCell (by simp) _).setCell (by simp) _).setCell (by simp) _).setCell (by simp) _).setCell (by simp) _).setCell (by simp) _).setCell (by simp) _).setCell (by simp) _
end Go.Proofs.YtcaoajeplinopaaDoor

namespace Go.Proofs.YtcaoajeplinopaaDoor
set_option linter.unusedVariables false
set_option linter.unusedSimpArgs false
set_option maxRecDepth 8000
open Go.RowKit
def celB (ws : List Nat) : List Value := ws.map fun x : Nat => .int .u8 (x : Int)
theorem celB_length (ws : List Nat) : (celB ws).length = ws.length := by unfold celB; simp
theorem celB_get {ws : List Nat} {i x : Nat} (h : ws[i]? = some x) : (celB ws)[i]? = some (.int .u8 (x : Int)) := by unfold celB; simp [h]
theorem celB_one {ws : List Nat} : (celB ws).toArray.all (·.oneCell') = true := by
  rw [List.all_toArray, List.all_eq_true]
  intro u hu
  unfold celB at hu
  obtain ⟨x, _, rfl⟩ := List.mem_map.1 hu
  rfl
/-- block g, of type t, holds just the bytes ws -/
def RowB (w : World) (t g : Nat) (ws : List Nat) : Prop := w.heap[g]? = some (.cells (celB ws).toArray t (0, 0))
section
variable {w w' : World} {t g : Nat} {ws : List Nat}
theorem RowB.lt (h : RowB w t g ws) : g < w.heap.size := (Array.getElem?_eq_some_iff.1 h).1
theorem RowB.keep (h : RowB w t g ws) (hb : Below w.heap.size w w') : RowB w' t g ws := (hb.block g h.lt).trans h
theorem RowB.same (h : RowB w t g ws) (e : w'.heap[g]? = w.heap[g]?) : RowB w' t g ws := e.trans h
theorem RowB.at_ {i x : Nat} (h : RowB w t g ws) (hx : ws[i]? = some x) : w.cell? ⟨g, i, none⟩ = some (.int .u8 (x : Int)) := by
  unfold RowB at h
  simpa [World.cell?, h] using celB_get hx
theorem RowB.free (h : RowB w t g ws) (k : Nat) : w.frozen? ⟨g, k, none⟩ = false := by
  unfold RowB at h
  simp [World.frozen?, h]
theorem RowB.set (h : RowB w t g ws) (i x : Nat) : RowB (w.setCell ⟨g, i, none⟩ (.int .u8 (x : Int))) t g (ws.set i x) := by
  have h1 := heap_setCell_at (i := i) h (.int .u8 (x : Int))
  unfold RowB
  rw [h1]
  unfold celB
  rw [List.map_set]
  simp
theorem RowB.far (h : RowB w t g ws) {a : Addr} (x : Value) (e : g ≠ a.block) : RowB (w.setCell a x) t g ws := (Below.heap_setCell w a x g e).trans h
theorem RowB.new (w : World) (t : Nat) (ws : List Nat) : RowB (w.alloc (.cells (celB ws).toArray t)) t w.heap.size ws := heap_alloc_last w _
theorem RowB.new1 (w : World) (t : Nat) (ws : List Nat) (e : w.heap.size = g) : RowB (w.alloc (.cells (celB ws).toArray t)) t g ws := e ▸ RowB.new w t ws
theorem RowB.alloc (h : RowB w t g ws) (o : Obj) : RowB (w.alloc o) t g ws := (Below.heap_alloc w o g h.lt).trans h
end
theorem run_loadB {P : Program} {w : World} {t g : Nat} {ws : List Nat} (h : RowB w t g ws) (n : Nat) (hl : ws.length = n) :
    (loadCellsFrom ⟨g, 0, none⟩ 0 n #[]).run P w = .ok (celB ws).toArray w := by
  subst hl
  have := run_loadCells_list (P := P) w ⟨g, 0, none⟩ (celB ws) (fun j v hv => by
    have hadd : (⟨g, 0, none⟩ : Addr).add j = ⟨g, j, none⟩ := by unfold Addr.add; split <;> simp_all
    rw [hadd, cell_of_row _ _ j _ t (0, 0) h]
    simpa using hv)
  rw [celB_length] at this
  simpa [loadCells] using this
theorem run_storeB {P : Program} {w : World} {t g : Nat} {old ws : List Nat} (h : RowB w t g old) (hl : old.length = ws.length) :
    (storeCells ⟨g, 0, none⟩ (celB ws) 0).run P w = .ok () (w.setRow g (celB ws).toArray) := by
  have := run_storeCells_from (P := P) g t (celB ws) 0 (celB old).toArray w h (by simp [celB_length]; omega) (fun v hv => (Array.all_eq_true_iff_forall_mem.1 (celB_one (ws := ws))) v (by simpa using hv))
  simpa using this
theorem RowB.row {w : World} {t g : Nat} {old : List Nat} (h : RowB w t g old) (ws : List Nat) : RowB (w.setRow g (celB ws).toArray) t g ws := by
  unfold RowB at *
  simp [World.setRow, Array.getElem?_modify, h]
theorem RowB.farRow {w : World} {t g k : Nat} {ws : List Nat} (h : RowB w t g ws) (e : g ≠ k) (cs : Array Value) : RowB (w.setRow k cs) t g ws := by
  unfold RowB at *
  simp [World.setRow, Array.getElem?_modify, h, Ne.symm e]
theorem RowB.put {w : World} {t g : Nat} {ws : List Nat} (h : RowB w t g ws) (i : Nat) (v : Int) (x : Nat) (e : v = (x : Int)) : RowB (w.setCell ⟨g, i, none⟩ (.int .u8 v)) t g (ws.set i x) := by
  rw [e]; exact h.set i x

theorem set_midB {l : List Nat} {n N : Nat} (x : Nat) (hl : l.length = n) (hn : n < N) :
    (l ++ List.replicate (N - n) 0).set n x = (l ++ [x]) ++ List.replicate (N - (n + 1)) 0 := set_mid x hl hn
/-- the first n bytes of a digest -/
def digN (s : Ch) (n : Nat) : List Nat := (List.range n).map fun i => (chL s).getD (i / 4) 0 / 2 ^ (24 - i % 4 * 8) % 256
theorem digN_length (s : Ch) (n : Nat) : (digN s n).length = n := by unfold digN; simp
theorem digN_succ (s : Ch) (n : Nat) : digN s (n + 1) = digN s n ++ [(chL s).getD (n / 4) 0 / 2 ^ (24 - n % 4 * 8) % 256] := by
  unfold digN; rw [List.range_succ]; simp
theorem chL_lt {s : Ch} (h : s.Ok) : ∀ x ∈ chL s, x < 4294967296 := by
  obtain ⟨h1, h2, h3, h4, h5, h6, h7, h8⟩ := h
  intro x hx
  simp only [chL, List.mem_cons, List.not_mem_nil, or_false] at hx
  rcases hx with rfl | rfl | rfl | rfl | rfl | rfl | rfl | rfl <;> assumption
attribute [-simp] Tryd.isAgg30 Tryd.sizeOf30
set_option maxHeartbeats 1000000 in
theorem digest_any (s : Ch) (w : World) (hs : s.Ok) :
    Calls Tryd.prog 68 #[.agg (celW (chL s)).toArray] w fun e w' => e = .returned (.agg (celB (digN s 32)).toArray) ∧ Below w.heap.size w w' := by
  go_enter Tryd.func68, Tryd.ntmps68
  go_wp2_with fail
  refine wp_named3 (fun w1 hb1 g0 g1 g2 hlt1 => ?_)
  have HR0 := Lib.hid (show RowW w1 98 w.heap.size (chL s) from g0)
  have hr1 : RowB w1 30 (w.heap.size + 1) (List.replicate 32 0) := g1
  have hr2 : RowB w1 30 (w.heap.size + 1 + 1) (List.replicate 32 0) := g2
  have HR1 := Lib.hid hr1
  have HR2 := Lib.hid hr2
  have HB1 := Lib.hid hb1
  clear g0 g1 g2 hlt1 hr1 hr2 hb1
  have HL := Lib.hid (chL_lt hs)
  go_loopw [5] (fun s0 wr => ∃ i : Nat, i ≤ 32 ∧ s0 = .int .i64 i ∧ RowW wr 98 w.heap.size (chL s) ∧ RowB wr 30 (w.heap.size + 1) (List.replicate 32 0) ∧ RowB wr 30 (w.heap.size + 1 + 1) (digN s i ++ List.replicate (32 - i) 0) ∧ Below w.heap.size w wr) (fun s0 _ => 32 - (intOf s0).toNat)
  case atStart => exact ⟨0, by omega, rfl, HR0.out, HR1.out, HR2.out, HB1.out⟩
  case round =>
    clear HR0 HR1 HR2 HB1
    obtain ⟨i, hi, rfl, hr0, hr1, hr2, hb⟩ := hrel
    have HR0 := Lib.hid hr0
    have HR1 := Lib.hid hr1
    have HR2 := Lib.hid hr2
    have HB := Lib.hid hb
    clear hr0 hr1 hr2 hb
    by_cases hlt : i < 32
    · have hk1 : (i : Int) < 32 := by omega
      have hk0 : (0 : Int) ≤ (i : Int) := by omega
      have c0 := HR0.out.at_ (i := i / 4) (x := (chL s).getD (i / 4) 0) (by rw [List.getD_eq_getElem?_getD, List.getElem?_eq_getElem (by rw [chL_length]; omega)]; rfl)
      have hx := getD_lt HL.out (i / 4)
      have hdg := digN_succ s i
      generalize (chL s).getD (i / 4) 0 = x at *
      have HDG := Lib.hid hdg
      have HX := Lib.hid hx
      clear hdg hx
      have b0 := HR2.out.at_ (i := i) (x := 0) (get_zero (digN_length s i) hlt)
      have b1 := HR2.out.free i
      have e0 : (0 : Int) ≤ (i : Int) / 4 := by omega
      have e1 : (i : Int) / 4 < 8 := by omega
      have e2 : ((i : Int) / 4).toNat = i / 4 := by omega
      have e3 : (0 : Int) ≤ 24 - (i : Int) % 4 * 8 := by omega
      have e4 : (24 - (i : Int) % 4 * 8).toNat = 24 - i % 4 * 8 := by omega
      have e5 : min (24 - i % 4 * 8) 32 = 24 - i % 4 * 8 := by omega
      go_wp2_with fail
      go_roundw
      case rel =>
        refine ⟨i + 1, by omega, by go_num, HR0.out.far _ (by simp; omega), HR1.out.far _ (by simp), ?_, HB.out.setCell (by simp; omega) _⟩
        rw [HDG.out, ← set_midB _ (digN_length s i) (by omega)]
        refine HR2.out.put i _ _ ?_
        rw [Int.natCast_emod, Int.natCast_ediv, Int.natCast_pow]
        rfl
      case measure => simp [intOf]; omega
    · have hkn : i = 32 := by omega
      subst hkn
      have hld := run_loadB (P := Tryd.prog) HR2.out 32 (by simp [digN_length])
      have hsz : (celB (digN s 32)).length = 32 := by rw [celB_length, digN_length]
      have hsc := run_storeB (P := Tryd.prog) (ws := digN s 32) HR1.out (by simp [digN_length])
      go_wp2_with fail
      simp only [Tryd.isAgg30, Tryd.sizeOf30, Result.andThen, ↓reduceIte, hld]
      rw [Oper.upon_value]
      go_wp2_with fail
      simp only [Tryd.sizeOf30, Result.andThen, ↓reduceIte, hsc]
      rw [Oper.upon_skip]
      go_wp2_with fail
      refine bodyPost_ret (v := .agg (celB (digN s 32)).toArray) ?_ rfl ⟨rfl, bel_setRow HB.out (by omega) _⟩
      exact results_cell_row rfl _ _ (w.heap.size + 1) 30 _ (0, 0) _ rfl (HR1.out.row (digN s 32)) Tryd.underlying30 rfl (by rw [show (celB (digN s 32)).toArray.size = 32 by simp [hsz]]; kernel_rfl)
end Go.Proofs.YtcaoajeplinopaaDoor

namespace Go.Proofs.YtcaoajeplinopaaDoor
set_option linter.unusedVariables false
set_option linter.unusedSimpArgs false
set_option maxRecDepth 8000
open Go.RowKit
/-- the first n words of the schedule -/
def schI (b : Nat → Nat) : Nat → List Nat
  | 0 => []
  | n + 1 => schI b n ++ [if n < 16 then wordN (b (4 * n)) (b (4 * n + 1)) (b (4 * n + 2)) (b (4 * n + 3)) else nextW (schI b n)]
theorem schI_length (b : Nat → Nat) (n : Nat) : (schI b n).length = n := by
  induction n with
  | zero => rfl
  | succ n ih => rw [schI]; simp [ih]
theorem schI_head (b : Nat → Nat) (n : Nat) (hn : n ≤ 16) : schI b n = headW b n := by
  induction n with
  | zero => rfl
  | succ n ih => rw [schI, headW_succ, ih (by omega), if_pos (by omega)]
theorem schI_more (b : Nat → Nat) (k : Nat) : schI b (16 + k) = moreW k (headW b 16) := by
  induction k with
  | zero => exact schI_head b 16 (by omega)
  | succ k ih => rw [show 16 + (k + 1) = (16 + k) + 1 by omega, schI, moreW_succ, ih, if_neg (by omega)]
theorem schI_all (b : Nat → Nat) : schI b 64 = schedN b := schI_more b 48
theorem schI_lt (b : Nat → Nat) (hb : ∀ i, b i < 256) (n : Nat) : ∀ x ∈ schI b n, x < 4294967296 := by
  by_cases h : n ≤ 16
  · rw [schI_head b n h]; exact headW_lt b hb n
  · rw [show n = 16 + (n - 16) by omega, schI_more]; exact moreW_lt _ _ (headW_lt b hb 16)
attribute [local simp] z64_ne z64_run
attribute [-simp] Tryd.zeroValue94 Tryd.isAgg94 Tryd.sizeOf94
set_option maxHeartbeats 1000000 in
theorem rsched_any (ad : Addr) (bt : Nat → Nat) (cp : Nat) (w : World) (hB : Blk w ad bt) (_hcp : 64 ≤ cp) (_hcm : cp ≤ 9223372036854775807) :
    Calls Tryd.prog 62 #[.slice (some ad) 64 cp] w fun e w' => e = .returned (.agg (celW (schedN bt)).toArray) ∧ Below w.heap.size w w' := by
  have HB0 := Lib.hid hB
  clear hB
  go_enter Tryd.func62, Tryd.ntmps62
  go_wp2_with fail
  have hsc := run_storeCells_new (P := Tryd.prog) (w.alloc (.cells z64 94)) 94 z64 z64 (by rw [z64_size]; kernel_rfl) rfl celW_one
  rw [alloc_sz] at hsc
  simp only [Tryd.sizeOf94, Result.andThen, ↓reduceIte, hsc, z64_size]
  rw [Oper.upon_skip]
  clear hsc
  go_wp2_with fail
  refine wp_named2 (fun w1 hb1 g0 g1 hlt1 => ?_)
  have hr0 : RowW w1 94 w.heap.size (List.replicate 64 0) := g0
  have hr1 : RowW w1 94 (w.heap.size + 1) (List.replicate 64 0) := g1
  have HR0 := Lib.hid hr0
  have HR1 := Lib.hid hr1
  have HB1 := Lib.hid hb1
  clear g0 g1 hlt1 hr0 hr1 hb1
  go_loopw [4] (fun s0 wr => ∃ i : Nat, i ≤ 64 ∧ s0 = .int .i64 i ∧ RowW wr 94 w.heap.size (List.replicate 64 0) ∧ RowW wr 94 (w.heap.size + 1) (schI bt i ++ List.replicate (64 - i) 0) ∧ Below w.heap.size w wr) (fun s0 _ => 64 - (intOf s0).toNat)
  case atStart => exact ⟨0, by omega, rfl, HR0.out, HR1.out, HB1.out⟩
  case round =>
    clear HR0 HR1 HB1
    obtain ⟨i, hi, rfl, hr0, hr1, hb⟩ := hrel
    have HL := Lib.hid (schI_length bt i)
    have HW := Lib.hid (schI_lt bt HB0.out.byte i)
    have HR0 := Lib.hid hr0
    have HR1 := Lib.hid hr1
    have HB := Lib.hid hb
    clear hr0 hr1 hb
    by_cases hlt : i < 16
    · have hk1 : (i : Int) < 64 := by omega
      have hk2 : (i : Int) < 16 := by omega
      have hk0 : (0 : Int) ≤ (i : Int) := by omega
      have hBr := HB0.out.keep HB.out
      have v0 := hBr.byte (4 * i)
      have v1 := hBr.byte (4 * i + 1)
      have v2 := hBr.byte (4 * i + 2)
      have v3 := hBr.byte (4 * i + 3)
      have e0 := hBr.cell (4 * i) (by omega)
      have e1 := hBr.cell (4 * i + 1) (by omega)
      have e2 := hBr.cell (4 * i + 2) (by omega)
      have e3 := hBr.cell (4 * i + 3) (by omega)
      have hx : schI bt (i + 1) = schI bt i ++ [wordN (bt (4 * i)) (bt (4 * i + 1)) (bt (4 * i + 2)) (bt (4 * i + 3))] := by rw [schI, if_pos hlt]
      generalize hb0 : bt (4 * i) = b0 at *
      generalize hb1 : bt (4 * i + 1) = b1 at *
      generalize hb2 : bt (4 * i + 2) = b2 at *
      generalize hb3 : bt (4 * i + 3) = b3 at *
      have HX := Lib.hid hx
      clear hx hBr hb0 hb1 hb2 hb3
      go_wp2_with fail
      have kv0 : IntKind.u32.wrap (b0 : Int) = (b0 : Int) := by rw [IntKind.wrap_u32]; omega
      have kv1 : IntKind.u32.wrap (b1 : Int) = (b1 : Int) := by rw [IntKind.wrap_u32]; omega
      have kv2 : IntKind.u32.wrap (b2 : Int) = (b2 : Int) := by rw [IntKind.wrap_u32]; omega
      have kv3 : IntKind.u32.wrap (b3 : Int) = (b3 : Int) := by rw [IntKind.wrap_u32]; omega
      simp [Addr.add] at e1 e2 e3
      have c0 : ({ wr with drawn := wr.drawn + 1 } : World).cell? _ = _ := e0
      have c1 : ({ wr with drawn := wr.drawn + 1 } : World).cell? _ = _ := e1
      have c2 : ({ wr with drawn := wr.drawn + 1 } : World).cell? _ = _ := e2
      have c3 : ({ wr with drawn := wr.drawn + 1 } : World).cell? _ = _ := e3
      have k0 : ((4 : Int) * (i : Int)).toNat = 4 * i := by omega
      have k1 : ((4 : Int) * (i : Int) + 1).toNat = 4 * i + 1 := by omega
      have k2 : ((4 : Int) * (i : Int) + 2).toNat = 4 * i + 2 := by omega
      have k3 : ((4 : Int) * (i : Int) + 3).toNat = 4 * i + 3 := by omega
      have kw0 : IntKind.i64.wrap ((4 : Int) * (i : Int)) = (4 : Int) * (i : Int) := by rw [IntKind.wrap_i64]; omega
      have kn0 : (0 : Int) ≤ (4 : Int) * (i : Int) := by omega
      have km0 : (4 : Int) * (i : Int) < 64 := by omega
      have kw1 : IntKind.i64.wrap ((4 : Int) * (i : Int) + 1) = (4 : Int) * (i : Int) + 1 := by rw [IntKind.wrap_i64]; omega
      have kn1 : (0 : Int) ≤ (4 : Int) * (i : Int) + 1 := by omega
      have km1 : (4 : Int) * (i : Int) + 1 < 64 := by omega
      have kw2 : IntKind.i64.wrap ((4 : Int) * (i : Int) + 2) = (4 : Int) * (i : Int) + 2 := by rw [IntKind.wrap_i64]; omega
      have kn2 : (0 : Int) ≤ (4 : Int) * (i : Int) + 2 := by omega
      have km2 : (4 : Int) * (i : Int) + 2 < 64 := by omega
      have kw3 : IntKind.i64.wrap ((4 : Int) * (i : Int) + 3) = (4 : Int) * (i : Int) + 3 := by rw [IntKind.wrap_i64]; omega
      have kn3 : (0 : Int) ≤ (4 : Int) * (i : Int) + 3 := by omega
      have km3 : (4 : Int) * (i : Int) + 3 < 64 := by omega
      refine wp_region_still_tail 35 (by kernel_rfl) (by kernel_rfl) ?_
      simp only [List.take_succ_cons, List.take_zero, List.drop_succ_cons, List.drop_zero]
      repeat still_step
      refine wpStill_nil ?_
      clear c0 c1 c2 c3 e0 e1 e2 e3 kv0 kv1 kv2 kv3 kw0 kw1 kw2 kw3 kn0 kn1 kn2 kn3 km0 km1 km2 km3
      have d3 : wr.drew.cell? ⟨w.heap.size + 1, i, none⟩ = _ := HR1.out.at_ (get_zero HL.out (by omega))
      have d4 : wr.drew.frozen? ⟨w.heap.size + 1, i, none⟩ = _ := HR1.out.free i
      have HR4 := Lib.hid (show RowW wr.drew 94 w.heap.size (List.replicate 64 0) from HR0.out)
      have HR5 := Lib.hid (show RowW wr.drew 94 (w.heap.size + 1) (schI bt i ++ List.replicate (64 - i) 0) from HR1.out)
      have HB7 := Lib.hid (show Below w.heap.size w wr.drew from HB.out.drew)
      clear HR0 HR1 HB
      change wpList _ _ _ _ _ wr.drew
      generalize wr.drew = w5 at *
      go_wp2_with fail
      go_roundw
      case rel =>
        refine ⟨i + 1, by omega, by go_num, HR4.out.far _ (by simp), ?_, HB7.out.setCell (by simp) _⟩
        rw [HX.out, ← set_mid _ HL.out (by omega)]
        refine HR5.out.put i _ _ ?_
        unfold wordN
        omega
      case measure => simp [intOf]; omega
    · by_cases h64 : i < 64
      · obtain ⟨j, rfl⟩ : ∃ j, i = j + 16 := ⟨i - 16, by omega⟩
        have hx : schI bt (j + 16 + 1) = schI bt (j + 16) ++ [nextW (schI bt (j + 16))] := by rw [schI, if_neg hlt]
        generalize schI bt (j + 16) = ws at *
        have HX := Lib.hid hx
        clear hx
        have hk1 : (j : Int) < 48 := by omega
        have hk0 : (0 : Int) ≤ (j : Int) := by omega
        have hcast : ((j + 16 : Nat) : Int) = (j : Int) + 16 := by omega
        have c16 := HR1.out.at_ (get_mid (m := 64 - (j + 16)) (show j < ws.length by rw [HL.out]; omega))
        have c15 := HR1.out.at_ (get_mid (m := 64 - (j + 16)) (show j + 1 < ws.length by rw [HL.out]; omega))
        have c7 := HR1.out.at_ (get_mid (m := 64 - (j + 16)) (show j + 9 < ws.length by rw [HL.out]; omega))
        have c2 := HR1.out.at_ (get_mid (m := 64 - (j + 16)) (show j + 14 < ws.length by rw [HL.out]; omega))
        have l15 := getD_lt HW.out (j + 1)
        have l2 := getD_lt HW.out (j + 14)
        generalize h16 : ws.getD j 0 = x16 at *
        generalize h15 : ws.getD (j + 1) 0 = x15 at *
        generalize h7 : ws.getD (j + 9) 0 = x7 at *
        generalize h2 : ws.getD (j + 14) 0 = x2 at *
        have HN := Lib.hid (nextW_at HL.out h16 h15 h7 h2)
        clear h16 h15 h7 h2
        have C16 := Lib.hid c16
        have C7 := Lib.hid c7
        have L15 := Lib.hid l15
        have L2 := Lib.hid l2
        clear c16 c7 l15 l2
        rw [hcast]
        clear hcast
        go_wp2_with fail
        go_quiet (fail)
        have hb1 : Below wr.heap.size wr (wr.drewN nq) := bel_drewN _ _ _
        have HB1 := Lib.hid hb1
        clear hb1 c15 c2
        generalize wr.drewN nq = w2 at *
        go_wp2_with fail
        have c1 := Later.cell (cell_keep C16.out HB1.out)
        have c3 := Later.cell (cell_keep C7.out HB1.out)
        have hw16 : IntKind.i64.wrap (j : Int) = (j : Int) := by rw [IntKind.wrap_i64]; omega
        have hw7 : IntKind.i64.wrap ((j : Int) + 16 - 7) = (j : Int) + 9 := by rw [IntKind.wrap_i64]; omega
        have k1 : (j : Int) < 64 := by omega
        have k2 : (j : Int) + 9 < 64 := by omega
        have k3 : (j : Int) + 16 < 64 := by omega
        have k4 : (0 : Int) ≤ (j : Int) + 9 := by omega
        have k5 : (0 : Int) ≤ (j : Int) + 16 := by omega
        have k6 : ((j : Int) + 9).toNat = j + 9 := by omega
        have k7 : ((j : Int) + 16).toNat = j + 16 := by omega
        refine wp_later_tail 29 (by kernel_rfl) (by kernel_rfl) ?_
        simp only [List.take_succ_cons, List.take_zero, List.drop_succ_cons, List.drop_zero]
        repeat (go_big_quiet_step (first | (go_at_call 64; with_reducible exact Calls.later (rrotate_7 x15 _ L15.out)) | (go_at_call 64; with_reducible exact Calls.later (rrotate_18 x15 _ L15.out)) | (go_at_call 64; with_reducible exact Calls.later (rrotate_17 x2 _ L2.out)) | (go_at_call 64; with_reducible exact Calls.later (rrotate_19 x2 _ L2.out))))
        refine wpQuiet_nil ?_
        intro X
        clear c1 c3 hw16 hw7
        have HB5 := Lib.hid (bel_step HB1.out X.below)
        generalize X.at = w5 at *
        have HR4 := Lib.hid (HR0.out.keep HB5.out)
        have HR5 := Lib.hid (HR1.out.keep HB5.out)
        have HB7 := Lib.hid (bel_step HB.out HB5.out)
        have d3 := HR5.out.at_ (get_zero HL.out (show j + 16 < 64 by omega))
        have d4 := HR5.out.free (j + 16)
        clear HR0 HR1 HB HB1 HB5 C16 C7
        go_wp2_with fail
        go_roundw
        case rel =>
          refine ⟨j + 16 + 1, by omega, by go_num, HR4.out.far _ (by simp), ?_, HB7.out.setCell (by simp) _⟩
          rw [HX.out, ← set_mid _ HL.out (by omega)]
          refine HR5.out.put (j + 16) _ _ ?_
          rw [HN.out]
          have q1 := sg0_val L15.out
          have q2 := sg1_val L2.out
          rw [q1, q2]
          have := sg0_lt L15.out
          have := sg1_lt L2.out
          omega
        case measure => simp [intOf]; omega
      · obtain rfl : i = 64 := by omega
        have hlc := run_loadW (P := Tryd.prog) HR1.out 64 (by simp [HL.out])
        have hsz : (celW (schI bt 64)).length = 64 := by rw [celW_length, HL.out]
        have hsc := run_storeW (P := Tryd.prog) (ws := schI bt 64) HR0.out (by simp [HL.out])
        have HA := Lib.hid (schI_all bt)
        generalize schI bt 64 = ws at *
        go_wp2_with fail
        simp only [Tryd.isAgg94, Tryd.sizeOf94, Result.andThen, ↓reduceIte, hlc]
        rw [Oper.upon_value]
        go_wp2_with fail
        simp only [Tryd.sizeOf94, Result.andThen, ↓reduceIte, hsc]
        rw [Oper.upon_skip]
        go_wp2_with fail
        refine bodyPost_ret (v := .agg (celW ws).toArray) ?_ rfl ⟨by rw [HA.out], bel_setRow HB.out (Nat.le_refl _) _⟩
        exact results_cell_row rfl _ _ w.heap.size 94 _ (0, 0) _ rfl (HR0.out.row ws) Tryd.underlying94 rfl (by rw [show (celW ws).toArray.size = 64 by simp [hsz]]; kernel_rfl)
end Go.Proofs.YtcaoajeplinopaaDoor

namespace Go.Proofs.YtcaoajeplinopaaDoor
set_option linter.unusedVariables false
set_option linter.unusedSimpArgs false
set_option maxRecDepth 8000
open Go.RowKit
def z32 : Array Value := (celB (List.replicate 32 0)).toArray
theorem z32_size : z32.size = 32 := by unfold z32; rw [List.size_toArray, celB_length]; simp
theorem z32_ne : z32 ≠ #[] := fun e => by have h := z32_size; rw [e] at h; simp at h
theorem z32_run (w : World) : Sem.run Tryd.prog (zeroValue 30) w = .ok (.agg z32) w := Tryd.zeroValue30 w
/-- the majority of three bits, by 'or' and by 'xor' -/
theorem maj_or (a b c : Nat) : a &&& b ||| a &&& c ||| b &&& c = majN a b c := by
  unfold majN
  apply Nat.eq_of_testBit_eq
  intro i
  simp only [Nat.testBit_or, Nat.testBit_and, Nat.testBit_xor]
  cases a.testBit i <;> cases b.testBit i <;> cases c.testBit i <;> rfl
theorem maj_val_or {a b c : Nat} (ha : a < 4294967296) (hb : b < 4294967296) (hc : c < 4294967296) :
    bits .or .u32 (bits .or .u32 (bits .and .u32 (a : Int) (b : Int)) (bits .and .u32 (a : Int) (c : Int))) (bits .and .u32 (b : Int) (c : Int)) = ((majN a b c : Nat) : Int) := by
  rw [and32 _ _ ha hb, and32 _ _ ha hc, and32 _ _ hb hc, or32 _ _ (and_lt hb) (and_lt hc), or32 _ _ (or_lt (and_lt hb) (and_lt hc)) (and_lt hc), maj_or]
theorem chs_val {e f g : Nat} (he : e < 4294967296) (hf : f < 4294967296) (hg : g < 4294967296) :
    bits .xor .u32 (bits .and .u32 (e : Int) (f : Int)) (bits .and .u32 (4294967295 - (e : Int)) (g : Int)) = ((chN e f g : Nat) : Int) := by
  rw [show (4294967295 : Int) - (e : Int) = ((4294967295 - e : Nat) : Int) by omega, and32 _ _ he hf, and32 _ _ (by omega) hg, xor32 _ _ (and_lt hf) (and_lt hg)]
  rfl
attribute [local simp] z32_ne z32_run
attribute [-simp] Tryd.zeroValue30 Tryd.isAgg30 Tryd.sizeOf30
set_option maxHeartbeats 1000000 in
theorem rdigest_any (s : Ch) (w : World) (hs : s.Ok) :
    Calls Tryd.prog 57 #[.agg (celW (chL s)).toArray] w fun e w' => e = .returned (.agg (celB (digN s 32)).toArray) ∧ Below w.heap.size w w' := by
  go_enter Tryd.func57, Tryd.ntmps57
  go_wp2_with fail
  have hsc := run_storeCells_new (P := Tryd.prog) ((w.alloc (.cells (celW (chL s)).toArray 83)).alloc (.cells z32 30)) 30 z32 z32 (by rw [z32_size]; kernel_rfl) rfl celB_one
  rw [alloc_sz, alloc_sz] at hsc
  simp only [Tryd.sizeOf30, Result.andThen, ↓reduceIte, hsc, z32_size]
  rw [Oper.upon_skip]
  clear hsc
  go_wp2_with fail
  refine wp_named3 (fun w1 hb1 g0 g1 g2 hlt1 => ?_)
  have HR0 := Lib.hid (show RowW w1 83 w.heap.size (chL s) from g0)
  have hr1 : RowB w1 30 (w.heap.size + 1) (List.replicate 32 0) := g1
  have hr2 : RowB w1 30 (w.heap.size + 1 + 1) (List.replicate 32 0) := g2
  have HR1 := Lib.hid hr1
  have HR2 := Lib.hid hr2
  have HB1 := Lib.hid hb1
  clear g0 g1 g2 hlt1 hr1 hr2 hb1
  have HL := Lib.hid (chL_lt hs)
  go_loopw [4] (fun s0 wr => ∃ i : Nat, i ≤ 32 ∧ s0 = .int .i64 i ∧ RowW wr 83 w.heap.size (chL s) ∧ RowB wr 30 (w.heap.size + 1) (List.replicate 32 0) ∧ RowB wr 30 (w.heap.size + 1 + 1) (digN s i ++ List.replicate (32 - i) 0) ∧ Below w.heap.size w wr) (fun s0 _ => 32 - (intOf s0).toNat)
  case atStart => exact ⟨0, by omega, rfl, HR0.out, HR1.out, HR2.out, HB1.out⟩
  case round =>
    clear HR0 HR1 HR2 HB1
    obtain ⟨i, hi, rfl, hr0, hr1, hr2, hb⟩ := hrel
    have HR0 := Lib.hid hr0
    have HR1 := Lib.hid hr1
    have HR2 := Lib.hid hr2
    have HB := Lib.hid hb
    clear hr0 hr1 hr2 hb
    by_cases hlt : i < 32
    · have hk1 : (i : Int) < 32 := by omega
      have hk0 : (0 : Int) ≤ (i : Int) := by omega
      have c0 := HR0.out.at_ (i := i / 4) (x := (chL s).getD (i / 4) 0) (by rw [List.getD_eq_getElem?_getD, List.getElem?_eq_getElem (by rw [chL_length]; omega)]; rfl)
      have hx := getD_lt HL.out (i / 4)
      have hdg := digN_succ s i
      generalize (chL s).getD (i / 4) 0 = x at *
      have HDG := Lib.hid hdg
      have HX := Lib.hid hx
      clear hdg hx
      have b0 := HR2.out.at_ (i := i) (x := 0) (get_zero (digN_length s i) hlt)
      have b1 := HR2.out.free i
      have e0 : (0 : Int) ≤ (i : Int) / 4 := by omega
      have e1 : (i : Int) / 4 < 8 := by omega
      have e2 : ((i : Int) / 4).toNat = i / 4 := by omega
      have e3 : (0 : Int) ≤ 24 - (i : Int) % 4 * 8 := by omega
      have e4 : (24 - (i : Int) % 4 * 8).toNat = 24 - i % 4 * 8 := by omega
      have e5 : min (24 - i % 4 * 8) 32 = 24 - i % 4 * 8 := by omega
      go_wp2_with fail
      go_roundw
      case rel =>
        refine ⟨i + 1, by omega, by go_num, HR0.out.far _ (by simp; omega), HR1.out.far _ (by simp), ?_, HB.out.setCell (by simp; omega) _⟩
        rw [HDG.out, ← set_midB _ (digN_length s i) (by omega)]
        refine HR2.out.put i _ _ ?_
        rw [Int.natCast_emod, Int.natCast_ediv, Int.natCast_pow, Nat.mul_comm 8]
        rfl
      case measure => simp [intOf]; omega
    · have hkn : i = 32 := by omega
      subst hkn
      have hld := run_loadB (P := Tryd.prog) HR2.out 32 (by simp [digN_length])
      have hsz : (celB (digN s 32)).length = 32 := by rw [celB_length, digN_length]
      have hsc := run_storeB (P := Tryd.prog) (ws := digN s 32) HR1.out (by simp [digN_length])
      go_wp2_with fail
      simp only [Tryd.isAgg30, Tryd.sizeOf30, Result.andThen, ↓reduceIte, hld]
      rw [Oper.upon_value]
      go_wp2_with fail
      simp only [Tryd.sizeOf30, Result.andThen, ↓reduceIte, hsc]
      rw [Oper.upon_skip]
      go_wp2_with fail
      refine bodyPost_ret (v := .agg (celB (digN s 32)).toArray) ?_ rfl ⟨rfl, bel_setRow HB.out (by omega) _⟩
      exact results_cell_row rfl _ _ (w.heap.size + 1) 30 _ (0, 0) _ rfl (HR1.out.row (digN s 32)) Tryd.underlying30 rfl (by rw [show (celB (digN s 32)).toArray.size = 32 by simp [hsz]]; kernel_rfl)
end Go.Proofs.YtcaoajeplinopaaDoor

namespace Go.Proofs.YtcaoajeplinopaaDoor
set_option linter.unusedVariables false
set_option linter.unusedSimpArgs false
set_option maxRecDepth 8000
open Go.RowKit

theorem ad_base (g k : Nat) : (⟨g, 0, none⟩ : Addr).add k = ⟨g, k, none⟩ := by rw [Addr.add_lit, Nat.zero_add]
/-- a slice value that reads as the bytes bs -/
structure Sb (w : World) (A : Option Addr) (n c : Nat) (bs : List Nat) : Prop where
  len : n = bs.length
  cap : n ≤ c
  top : c ≤ 9223372036854775807
  nil : A = none → c = 0
  byte : ∀ x ∈ bs, x < 256
  cells : ∀ (i z : Nat), bs[i]? = some z → ∃ ad, A = some ad ∧ w.cell? (ad.add i) = some (.int .u8 (z : Int))
section
variable {w w' : World} {A : Option Addr} {n c : Nat} {bs : List Nat}
theorem Sb.keep (h : Sb w A n c bs) (hb : Below w.heap.size w w') : Sb w' A n c bs :=
  ⟨h.len, h.cap, h.top, h.nil, h.byte, fun i z hz => by obtain ⟨ad, e, hc⟩ := h.cells i z hz; exact ⟨ad, e, cell_keep hc hb⟩⟩
theorem Sb.drew (h : Sb w A n c bs) : Sb w.drew A n c bs := h.keep (Below.refl _ _).drew
theorem Sb.get {i : Nat} (h : Sb w A n c bs) (hi : i < n) : bs[i]? = some (bs.getD i 0) := by
  rw [List.getD_eq_getElem?_getD, List.getElem?_eq_getElem (by have := h.len; omega)]; rfl
theorem Sb.at_ {ad : Addr} (h : Sb w (some ad) n c bs) {i : Nat} (hi : i < n) : w.cell? (ad.add i) = some (.int .u8 (bs.getD i 0 : Nat)) := by
  obtain ⟨ad', e, hc⟩ := h.cells i _ (h.get hi)
  injection e with e
  subst e
  exact hc
theorem Sb.some_ (h : Sb w A n c bs) (hn : 0 < n) : ∃ ad, A = some ad := by
  obtain ⟨ad, e, _⟩ := h.cells 0 _ (h.get hn)
  exact ⟨ad, e⟩
theorem Sb.nil_ (w : World) : Sb w none 0 0 [] := ⟨rfl, Nat.le_refl _, Nat.zero_le _, fun _ => rfl, (fun _ h => by cases h), fun i z hz => by simp at hz⟩
theorem Sb.cut {k d : Nat} (h : Sb w A n c bs) (hk : k ≤ n) (hd : k ≤ d) (hc : d ≤ c) (h0 : A = none → d = 0) : Sb w A k d (bs.take k) := by
  refine ⟨by have := h.len; simp; omega, hd, by have := h.top; omega, h0, fun x hx => h.byte x (List.mem_of_mem_take hx), fun i z hz => h.cells i z ?_⟩
  have hl := (List.getElem?_eq_some_iff.1 hz).1
  rw [List.getElem?_take_of_lt (by simp at hl; omega)] at hz
  exact hz
theorem Sb.take {k : Nat} (h : Sb w A n c bs) (hk : k ≤ n) : Sb w A k c (bs.take k) := h.cut hk (by have := h.cap; omega) (Nat.le_refl _) h.nil
theorem Sb.drop {k : Nat} {ad : Addr} (h : Sb w (some ad) n c bs) (hk : k ≤ n) : Sb w (some (if c = k then ad else ad.add k)) (n - k) (c - k) (bs.drop k) := by
  have hl := h.len
  have hcp := h.cap
  refine ⟨by simp; omega, by omega, by have := h.top; omega, (fun e => by cases e), fun x hx => h.byte x (List.mem_of_mem_drop hx), fun i z hz => ⟨_, rfl, ?_⟩⟩
  have hi := (List.getElem?_eq_some_iff.1 hz).1
  simp at hi
  rw [if_neg (by omega), ad_add]
  rw [List.getElem?_drop] at hz
  obtain ⟨ad', e, hc⟩ := h.cells _ _ hz
  injection e with e
  subst e
  exact hc
theorem Sb.cast {cs : List Nat} (h : Sb w A n c bs) (e : bs = cs) : Sb w A n c cs := e ▸ h
theorem getD_byte {l : List Nat} (h : ∀ x ∈ l, x < 256) (i : Nat) : l.getD i 0 < 256 := by
  rw [List.getD_eq_getElem?_getD]
  cases hx : l[i]? with
  | none => decide
  | some x => exact h x (List.mem_of_getElem? hx)
end
theorem celB_append (xs ys : List Nat) : celB (xs ++ ys) = celB xs ++ celB ys := by unfold celB; simp
theorem celB_one' {xs : List Nat} {u : Value} (h : u ∈ celB xs) : u.oneCell' = true := by
  unfold celB at h
  rw [List.mem_map] at h
  obtain ⟨x, _, rfl⟩ := h
  rfl
theorem RowB.sub {w : World} {t g : Nat} {bs : List Nat} (h : RowB w t g bs) (hbt : ∀ x ∈ bs, x < 256) {o n c : Nat} (hn : o + n ≤ bs.length) (hc : n ≤ c) (ht : c ≤ 9223372036854775807) : Sb w (some ⟨g, o, none⟩) n c ((bs.drop o).take n) := by
  refine ⟨by simp; omega, hc, ht, (fun e => by cases e), fun x hx => hbt x (List.mem_of_mem_drop (List.mem_of_mem_take hx)), fun i z hz => ⟨_, rfl, ?_⟩⟩
  have hi := (List.getElem?_eq_some_iff.1 hz).1
  rw [List.getElem?_take_of_lt (by simp at hi; omega), List.getElem?_drop] at hz
  rw [Addr.add_lit]
  exact h.at_ hz
theorem RowB.sl {w : World} {t g : Nat} {bs : List Nat} (h : RowB w t g bs) (hbt : ∀ x ∈ bs, x < 256) {n c : Nat} (hn : n ≤ bs.length) (hc : n ≤ c) (ht : c ≤ 9223372036854775807) : Sb w (some ⟨g, 0, none⟩) n c (bs.take n) := by
  have := h.sub hbt (o := 0) (n := n) (by omega) hc ht
  rwa [List.drop_zero] at this
theorem RowB.all {w : World} {t g : Nat} {bs : List Nat} (h : RowB w t g bs) (hbt : ∀ x ∈ bs, x < 256) {n c : Nat} (hn : n = bs.length) (hc : n ≤ c) (ht : c ≤ 9223372036854775807) : Sb w (some ⟨g, 0, none⟩) n c bs := by
  have := h.sl hbt (n := n) (c := c) (by omega) hc ht
  rwa [hn, List.take_length, ← hn] at this

theorem u8_info : (Tryd.prog.info? 5).map (fun i => (i.zero, i.size, i.bytes)) = some (some (.int .u8 0), 1, 1) := by kernel_rfl
theorem celB_zero (n : Nat) : (madeCells #[Value.int .u8 0] (n * 1)) = (celB (List.replicate n 0)).toArray := by
  apply Array.ext
  · rw [size_madeCells, List.size_toArray, celB_length, List.length_replicate, Nat.mul_one]
  · intro i h1 h2
    rw [size_madeCells, Nat.mul_one] at h1
    simp [madeCells, celB, Nat.mod_one]
theorem run_makeB (n m : Nat) (hn : n ≤ m) (hm : m ≤ 140737488353000) (w : World) : (Instr.makeSlice 22 (.int .i64 (n : Int)) (.int .i64 (m : Int))).run Tryd.prog w = .ok (.slice (some ⟨w.heap.size, 0, none⟩) n m) (w.alloc (.cells (celB (List.replicate m 0)).toArray 5)) := by
  obtain ⟨i, hi, hz, hs, hb⟩ := info_parts u8_info
  have h1 : (i.bytes : Int) * (m : Int) ≤ 281474976710656 := by
    rw [hb]
    omega
  have hr := run_make (P := Tryd.prog) w 22 5 i (.int .u8 0) Tryd.underlying22 hi hz .i64 .i64 (n : Int) (m : Int) (by omega) (by omega) h1 (by omega)
  simp only [Int.toNat_natCast] at hr
  rw [hr, hs, ← celB_zero]
  rfl

/-- a slice of the call's own that holds bs -/
def OwB (w : World) (base : Nat) (v : Value) (n : Nat) (bs : List Nat) : Prop := w.ownsRow base 5 1 v n (celB bs) ∧ ∀ x ∈ bs, x < 256
section
variable {w w' : World} {base : Nat} {v : Value} {n : Nat} {bs : List Nat}
theorem OwB.keep (h : OwB w base v n bs) (hb : Below w.heap.size w w') : OwB w' base v n bs := by
  refine ⟨⟨h.1.1, ?_⟩, h.2⟩
  rcases h.1.2 with hn | ⟨g, cap, cur, rfl, hbs, hgg, rest⟩
  · exact .inl hn
  · exact .inr ⟨g, cap, cur, rfl, hbs, heap_keep hgg hb, rest⟩
theorem OwB.len (h : OwB w base v n bs) : n = bs.length := by
  have := h.1.1
  rw [celB_length] at this
  omega
theorem OwB.sl (h : OwB w base v n bs) : ∃ A c, v = .slice A n c ∧ Sb w A n c bs := by
  have hn := h.len
  rcases h.1.2 with ⟨rfl, rfl⟩ | ⟨g, cap, cur, rfl, hb, hg, hc, hm, hs, ht⟩
  · refine ⟨none, 0, rfl, ?_⟩
    have : bs = [] := List.eq_nil_of_length_eq_zero hn.symm
    subst this
    exact Sb.nil_ _
  · unfold maxLen at hm
    refine ⟨_, cap, rfl, hn, hc, by omega, (fun e => by cases e), h.2, fun i x hx => ⟨_, rfl, ?_⟩⟩
    have hl := (List.getElem?_eq_some_iff.1 hx).1
    have hu := celB_get hx
    rw [← ht, List.getElem?_take_of_lt (by omega)] at hu
    rw [ad_base]
    simpa [World.cell?, hg] using hu
theorem OwB.sl' {A : Option Addr} {c : Nat} (h : OwB w base (.slice A n c) n bs) : Sb w A n c bs := by
  obtain ⟨A1, c1, e, hs⟩ := h.sl
  injection e with e1 e2 e3
  subst e1
  subst e3
  exact hs
theorem OwB.made (w : World) (base : Nat) (hb : base ≤ w.heap.size) : OwB (w.alloc (.cells #[] 5)) base (.slice (some ⟨w.heap.size, 0, none⟩) 0 0) 0 [] := ⟨World.ownsRow_made w #[] 0 hb (Nat.zero_le _) rfl, fun _ h => by cases h⟩
theorem OwB.below (h : OwB w base v n bs) (hg : w.grownBy w' v.ownBlock) (hbase : base ≤ w.heap.size) : Below base w w' :=
  ⟨hg.os, hg.tape, hg.output, hg.size, fun k hk => hg.block k (by omega) (fun e => by have := (World.ownsRow.lt h.1 k e.symm).1; omega)⟩
end
/-- append(s, y), y in a block of its own -/
theorem wpList_appendB {ops : Array Oper} {rest : List Oper} {o : Oper} {a : Act} {Q : Exit → Act → World → Prop} {w : World} (hgd : o.guard = none) (s x : Operand)
    (ho : o.op = .call { callee := .builtin .append, args := #[s, x], argTypes := #[22, 22] }) (base : Nat) (v : Value) (n : Nat) (bs : List Nat) (hs : a.eval s = v) (hown : OwB w base v n bs)
    (g c : Nat) (y : Nat) (hx : a.eval x = .slice (some ⟨g, 0, none⟩) 1 c) (hy : One w g 5 (.int .u8 (y : Int))) (hy2 : y < 256) (hn : n ≤ 140737488353000) (hbase : base ≤ w.heap.size)
    (h : ∀ v' w', OwB w' base v' (n + 1) (bs ++ [y]) → Below base w w' → wpList Tryd.prog ops Q rest (a.put o.dst v') w') : wpList Tryd.prog ops Q (o :: rest) a w := by
  obtain ⟨i, hi, hz, hs2, hb⟩ := info_parts u8_info
  refine wpList_append_own w hgd s x 22 ho base 5 i (.int .u8 0) 1 1 Tryd.underlying22 hi hz hs2 hb rfl (by omega) v n (celB bs) hs hown.1 ⟨g, 0, none⟩ 1 c [.int .u8 (y : Int)] hx rfl ?_ ?_ ?_ ?_ hbase ?_
  · intro j u hj
    rw [ad_base]
    match j, hj with
    | 0, hj => injection hj with hj; subst hj; exact hy.c
    | j + 1, hj => simp at hj
  · intro u hu
    simp at hu
    subst hu
    rfl
  · unfold maxLen; omega
  · omega
  · intro v' w' hown' hg _
    refine h v' w' ⟨?_, fun z hz => ?_⟩ (OwB.below hown hg hbase)
    · rw [celB_append]
      exact hown'
    · rcases List.mem_append.1 hz with hz | hz
      · exact hown.2 z hz
      · rw [List.mem_singleton.1 hz]; exact hy2
theorem celB_src {w : World} {ad : Addr} {m c : Nat} {ys : List Nat} (hy : Sb w (some ad) m c ys) : ∀ j u, (celB ys)[j]? = some u → w.cell? (ad.add j) = some u := by
  intro j u hj
  have hl := (List.getElem?_eq_some_iff.1 hj).1
  rw [celB_length] at hl
  have h0 := hy.at_ (show j < m by rw [hy.len]; exact hl)
  rw [celB_get (hy.get (show j < m by rw [hy.len]; exact hl))] at hj
  injection hj with hj
  subst hj
  exact h0
/-- append(s, t...), t a slice with an address -/
theorem wpList_appendBs {ops : Array Oper} {rest : List Oper} {o : Oper} {a : Act} {Q : Exit → Act → World → Prop} {w : World} (hgd : o.guard = none) (s x : Operand)
    (ho : o.op = .call { callee := .builtin .append, args := #[s, x], argTypes := #[22, 22] }) (base : Nat) (v : Value) (n : Nat) (bs : List Nat) (hs : a.eval s = v) (hown : OwB w base v n bs)
    (ad : Addr) (m c : Nat) (ys : List Nat) (hx : a.eval x = .slice (some ad) m c) (hy : Sb w (some ad) m c ys) (hn : n + m ≤ 140737488353000) (hbase : base ≤ w.heap.size)
    (h : ∀ v' w', OwB w' base v' (n + m) (bs ++ ys) → Below base w w' → wpList Tryd.prog ops Q rest (a.put o.dst v') w') : wpList Tryd.prog ops Q (o :: rest) a w := by
  obtain ⟨i, hi, hz, hs2, hb⟩ := info_parts u8_info
  refine wpList_append_own w hgd s x 22 ho base 5 i (.int .u8 0) 1 1 Tryd.underlying22 hi hz hs2 hb rfl (by omega) v n (celB bs) hs hown.1 ad m c (celB ys) hx (by rw [celB_length, ← hy.len, Nat.mul_one]) (celB_src hy) (fun u hu => celB_one' hu) ?_ ?_ hbase ?_
  · unfold maxLen; omega
  · omega
  · intro v' w' hown' hg _
    refine h v' w' ⟨?_, fun z hz => ?_⟩ (OwB.below hown hg hbase)
    · rw [celB_append]
      exact hown'
    · rcases List.mem_append.1 hz with hz | hz
      · exact hown.2 z hz
      · exact hy.byte z hz
end Go.Proofs.YtcaoajeplinopaaDoor

namespace Go.Proofs.YtcaoajeplinopaaDoor
set_option linter.unusedVariables false
set_option linter.unusedSimpArgs false
set_option maxRecDepth 8000
open Go.RowKit

def zerosN (n : Nat) : Nat := 63 - (n + 8) % 64
def lenF (n i : Nat) : Nat := 8 * n / 2 ^ (56 - 8 * i) % 256
/-- the first k bytes of the length -/
def lenB (n k : Nat) : List Nat := (List.range k).map (lenF n)
def padN (n : Nat) : List Nat := 128 :: (List.replicate (zerosN n) 0 ++ lenB n 8)
def msgN (m : List Nat) : List Nat := m ++ padN m.length
theorem lenB_length (n k : Nat) : (lenB n k).length = k := by unfold lenB; simp
theorem lenB_succ (n k : Nat) : lenB n (k + 1) = lenB n k ++ [lenF n k] := by unfold lenB; rw [List.range_succ]; simp
theorem lenF_lt (n i : Nat) : lenF n i < 256 := Nat.mod_lt _ (by decide)
theorem lenB_lt (n k : Nat) : ∀ x ∈ lenB n k, x < 256 := by
  intro x hx
  unfold lenB at hx
  obtain ⟨i, _, rfl⟩ := List.mem_map.1 hx
  exact lenF_lt n i
theorem lenB_drop (n i : Nat) (h : i < 8) : (lenB n 8).drop (8 - (i + 1)) = lenF n (7 - i) :: (lenB n 8).drop (8 - i) := by
  have e : 8 - (i + 1) < (lenB n 8).length := by rw [lenB_length]; omega
  rw [List.drop_eq_getElem_cons e, show 8 - (i + 1) + 1 = 8 - i by omega]
  congr 1
  unfold lenB
  simp
theorem padN_length (n : Nat) : (padN n).length = zerosN n + 9 := by unfold padN; simp [lenB_length]
theorem padN_lt (n : Nat) : ∀ x ∈ padN n, x < 256 := by
  intro x hx
  unfold padN at hx
  rcases List.mem_cons.1 hx with rfl | hx
  · decide
  · rcases List.mem_append.1 hx with hx | hx
    · rw [(List.mem_replicate.1 hx).2]; decide
    · exact lenB_lt n 8 x hx
theorem zerosN_le (n : Nat) : zerosN n ≤ 63 := Nat.sub_le _ _
/-- the number of blocks -/
def nblk (n : Nat) : Nat := (n + 8) / 64 + 1
theorem total_len (n : Nat) : n + (zerosN n + 9) = 64 * nblk n := by unfold zerosN nblk; omega
theorem msgN_length (m : List Nat) : (msgN m).length = 64 * nblk m.length := by unfold msgN; rw [List.length_append, padN_length, total_len]
theorem msgN_lt {m : List Nat} (h : ∀ x ∈ m, x < 256) : ∀ x ∈ msgN m, x < 256 := by
  intro x hx
  rcases List.mem_append.1 hx with hx | hx
  · exact h x hx
  · exact padN_lt _ x hx
/-- the bytes of block i of a message -/
def blkF (p : List Nat) (i : Nat) : Nat → Nat := fun j => p.getD (64 * i + j) 0
/-- the chain after i blocks, from s on -/
def stN (s : Ch) (p : List Nat) : Nat → Ch
  | 0 => s
  | i + 1 => compN (stN s p i) (blkF p i)
theorem stN_ok {s : Ch} (h : s.Ok) (p : List Nat) (i : Nat) : (stN s p i).Ok := by
  cases i with
  | zero => exact h
  | succ i => exact compN_ok _ _
/-- the digest of a message -/
def shaN (m : List Nat) : List Nat := digN (stN ch0 (msgN m) (nblk m.length)) 32
theorem shaN_length (m : List Nat) : (shaN m).length = 32 := digN_length _ _
theorem digN_lt (s : Ch) (n : Nat) : ∀ x ∈ digN s n, x < 256 := by
  intro x hx
  unfold digN at hx
  obtain ⟨i, _, rfl⟩ := List.mem_map.1 hx
  exact Nat.mod_lt _ (by decide)
theorem shaN_lt (m : List Nat) : ∀ x ∈ shaN m, x < 256 := digN_lt _ _
theorem blkF_lt {p : List Nat} (h : ∀ x ∈ p, x < 256) (i j : Nat) : blkF p i j < 256 := getD_byte h _
theorem set_end {a x k : Nat} {D : List Nat} : (a :: (List.replicate (k + 1) 0 ++ D)).set (k + 1) x = a :: (List.replicate k 0 ++ x :: D) := by
  rw [List.set_cons_succ]
  congr 1
  rw [List.replicate_succ']
  simp
theorem get_end {a k : Nat} {D : List Nat} : (a :: (List.replicate (k + 1) 0 ++ D))[k + 1]? = some 0 := by
  rw [List.getElem?_cons_succ, List.getElem?_append_left (by simp)]
  simp
end Go.Proofs.YtcaoajeplinopaaDoor

namespace Go.Proofs.YtcaoajeplinopaaDoor
set_option linter.unusedVariables false
set_option linter.unusedSimpArgs false
set_option maxRecDepth 8000
open Go.RowKit
set_option maxHeartbeats 1000000 in
theorem padding_any (n : Nat) (w : World) (hn : n ≤ 140737488353000) :
    Calls Tryd.prog 70 #[.int .u64 (n : Int)] w fun e w' => e = .returned (.slice (some ⟨w.heap.size, 0, none⟩) (zerosN n + 9) (zerosN n + 9)) ∧ RowB w' 5 w.heap.size (padN n) ∧ Below w.heap.size w w' := by
  go_enter Tryd.func70, Tryd.ntmps70
  have hz9 := zerosN_le n
  have hzE : (63 : Int) - ((n : Int) + 8) % 64 = ((zerosN n : Nat) : Int) := by unfold zerosN; omega
  have hP : Hid (padN n = 128 :: (List.replicate (zerosN n) 0 ++ lenB n 8)) := Lib.hid rfl
  go_upto_region 2 with fail
  clear hzE
  generalize hzz : zerosN n = z at *
  have HZ := Lib.hid hzz
  clear hzz
  obtain ⟨L, hL⟩ : ∃ L : Nat, L = z + 9 := ⟨_, rfl⟩
  have hmk := run_makeB L L (Nat.le_refl _) (by omega)
  have hz : (1 : Int) + (z : Int) + 8 = (L : Int) := by omega
  have HL := Lib.hid hL
  have hL0 : (0 : Int) < (L : Int) := by omega
  have hL1 : L ≤ 80 := by omega
  clear hL
  go_upto_region 3 with fail
  clear hmk hz
  have HR := Lib.hid (RowB.new w 5 (List.replicate L 0))
  have HB := Lib.hid ((Below.refl w.heap.size w).alloc (Nat.le_refl _) (.cells (celB (List.replicate L 0)).toArray 5))
  generalize w.alloc (.cells (celB (List.replicate L 0)).toArray 5) = w1 at *
  have c0 := HR.out.at_ (i := 0) (x := 0) (by rw [List.getElem?_replicate, HL.out]; simp)
  have f0 := HR.out.free 0
  go_upto_region 5 with fail
  clear c0 f0
  have HR1 : Hid (RowB (w1.setCell ⟨w.heap.size, 0, none⟩ (.int .u8 128)) 5 w.heap.size (128 :: (List.replicate (z + (8 - 0)) 0 ++ (lenB n 8).drop (8 - 0)))) := Lib.hid (by
    have h := HR.out.put 0 128 128 rfl
    rw [List.drop_of_length_le (by rw [lenB_length]; exact Nat.le_refl _), List.append_nil]
    rwa [HL.out, List.replicate_succ, List.set_cons_zero] at h)
  have HB1 : Hid (Below w.heap.size w (w1.setCell ⟨w.heap.size, 0, none⟩ (.int .u8 128))) := Lib.hid (HB.out.setCell (Nat.le_refl _) _)
  clear HR HB
  generalize w1.setCell ⟨w.heap.size, 0, none⟩ (.int .u8 128) = w2 at *
  go_wp2_with fail
  go_loopw [20] (fun s wr => ∃ k : Nat, k ≤ 8 ∧ s = .int .i64 k ∧ RowB wr 5 w.heap.size (128 :: (List.replicate (z + (8 - k)) 0 ++ (lenB n 8).drop (8 - k))) ∧ Below w.heap.size w wr) (fun s _ => 8 - (intOf s).toNat)
  case atStart => exact ⟨0, by omega, rfl, HR1.out, HB1.out⟩
  case round =>
    clear HR1 HB1
    obtain ⟨k, hk, rfl, hr, hb⟩ := hrel
    have HR := Lib.hid hr
    have HB := Lib.hid hb
    clear hr hb
    by_cases hlt : k < 8
    · have hk1 : (k : Int) < 8 := by omega
      have hk0 : (0 : Int) ≤ (k : Int) := by omega
      have e1 : (L : Int) - 1 - (k : Int) = ((z + (7 - k) + 1 : Nat) : Int) := by have := HL.out; omega
      have e2 : ((8 : Int) * (k : Int)).toNat = 8 * k := by omega
      have e3 : min (8 * k) 64 = 8 * k := by omega
      have e4 : ((z + (7 - k) + 1 : Nat) : Int) < (L : Int) := by have := HL.out; omega
      have e5 : (0 : Int) ≤ ((z + (7 - k) + 1 : Nat) : Int) := by have := HL.out; omega
      have hr := HR.out
      rw [show z + (8 - k) = z + (7 - k) + 1 by omega] at hr
      have c0 := hr.at_ get_end
      have f0 := hr.free (z + (7 - k) + 1)
      have HR1 := Lib.hid hr
      clear hr HR
      generalize hix : z + (7 - k) + 1 = ix at *
      go_wp2_with fail
      go_roundw
      case rel =>
        refine ⟨k + 1, by omega, by go_num, ?_, HB.out.setCell (by simp) _⟩
        rw [lenB_drop n k hlt]
        subst hix
        have hv : Value.int .u8 (8 * (n : Int) / 2 ^ (8 * k) % 256) = Value.int .u8 ((lenF n (7 - k) : Nat) : Int) := by
          unfold lenF
          rw [show 56 - 8 * (7 - k) = 8 * k by omega]
          rfl
        rw [hv]
        have h := HR1.out.put (z + (7 - k) + 1) _ (lenF n (7 - k)) rfl
        rw [set_end] at h
        rwa [show z + (8 - (k + 1)) = z + (7 - k) by omega]
      case measure => simp [intOf]; omega
    · have hkn : k = 8 := by omega
      subst hkn
      go_wp2_with fail
      go_ret
      refine ⟨?_, ?_, HB.out⟩
      · rw [HZ.out, ← HL.out]; rfl
      · have h := HR.out
        rw [hP.out]
        simpa using h
end Go.Proofs.YtcaoajeplinopaaDoor

