/- Contracts of Inv, Root and their references: inverses by Euclid's algorithm over four captured variables, roots as powers of 7; every integer argument of Root, every field element of Inv. -/
import Derived.Test.YtombcjdhjcmhhaaFieldB
import Derived.WalkMore
import Derived.Deep.LoopGhost
import Derived.OneCell
import Derived.Deep.RegionWith
import Derived.RegionTactic
import Derived.BigRegion
import Derived.StillTailTactics
namespace Go.Proofs.Ytombcjdhjcmhhaa
set_option maxRecDepth 8000
open Go.RowKit Gold

/-- the four captured variables of Inv, a block each: last, rest, lastFactor, factor -/
structure Four (B : Nat) (l r g f : Int) (w : World) : Prop where
  l : w.heap[B]? = some (.cells #[.int .u64 l] 41 (0, 0))
  r : w.heap[B + 1]? = some (.cells #[.int .u64 r] 41 (0, 0))
  g : w.heap[B + 1 + 1]? = some (.cells #[.int .u64 g] 41 (0, 0))
  f : w.heap[B + 1 + 1 + 1]? = some (.cells #[.int .u64 f] 41 (0, 0))

theorem Four.setL {B : Nat} {l r g f : Int} {w : World} (h : Four B l r g f w) (v : Int) : Four B v r g f (w.setCell ⟨B, 0, none⟩ (.int .u64 v)) :=
  ⟨one_setCell h.l, (Below.heap_setCell _ _ _ _ (by simp <;> omega)).trans h.r, (Below.heap_setCell _ _ _ _ (by simp <;> omega)).trans h.g, (Below.heap_setCell _ _ _ _ (by simp <;> omega)).trans h.f⟩
theorem Four.setR {B : Nat} {l r g f : Int} {w : World} (h : Four B l r g f w) (v : Int) : Four B l v g f (w.setCell ⟨B + 1, 0, none⟩ (.int .u64 v)) :=
  ⟨(Below.heap_setCell _ _ _ _ (by simp <;> omega)).trans h.l, one_setCell h.r, (Below.heap_setCell _ _ _ _ (by simp <;> omega)).trans h.g, (Below.heap_setCell _ _ _ _ (by simp <;> omega)).trans h.f⟩
theorem Four.setG {B : Nat} {l r g f : Int} {w : World} (h : Four B l r g f w) (v : Int) : Four B l r v f (w.setCell ⟨B + 1 + 1, 0, none⟩ (.int .u64 v)) :=
  ⟨(Below.heap_setCell _ _ _ _ (by simp <;> omega)).trans h.l, (Below.heap_setCell _ _ _ _ (by simp <;> omega)).trans h.r, one_setCell h.g, (Below.heap_setCell _ _ _ _ (by simp <;> omega)).trans h.f⟩
theorem Four.setF {B : Nat} {l r g f : Int} {w : World} (h : Four B l r g f w) (v : Int) : Four B l r g v (w.setCell ⟨B + 1 + 1 + 1, 0, none⟩ (.int .u64 v)) :=
  ⟨(Below.heap_setCell _ _ _ _ (by simp <;> omega)).trans h.l, (Below.heap_setCell _ _ _ _ (by simp <;> omega)).trans h.r, (Below.heap_setCell _ _ _ _ (by simp <;> omega)).trans h.g, one_setCell h.f⟩
theorem Four.drew {B : Nat} {l r g f : Int} {w : World} (h : Four B l r g f w) : Four B l r g f w.drew := ⟨h.l, h.r, h.g, h.f⟩
theorem Four.cl {B : Nat} {l r g f : Int} {w : World} (h : Four B l r g f w) : w.cell? ⟨B, 0, none⟩ = some (.int .u64 l) := cell_of_one h.l
theorem Four.cr {B : Nat} {l r g f : Int} {w : World} (h : Four B l r g f w) : w.cell? ⟨B + 1, 0, none⟩ = some (.int .u64 r) := cell_of_one h.r
theorem Four.cg {B : Nat} {l r g f : Int} {w : World} (h : Four B l r g f w) : w.cell? ⟨B + 1 + 1, 0, none⟩ = some (.int .u64 g) := cell_of_one h.g
theorem Four.cf {B : Nat} {l r g f : Int} {w : World} (h : Four B l r g f w) : w.cell? ⟨B + 1 + 1 + 1, 0, none⟩ = some (.int .u64 f) := cell_of_one h.f
theorem Four.fl {B : Nat} {l r g f : Int} {w : World} (h : Four B l r g f w) : w.frozen? ⟨B, 0, none⟩ = false := free_of_one h.l
theorem Four.fr {B : Nat} {l r g f : Int} {w : World} (h : Four B l r g f w) : w.frozen? ⟨B + 1, 0, none⟩ = false := free_of_one h.r
theorem Four.fg {B : Nat} {l r g f : Int} {w : World} (h : Four B l r g f w) : w.frozen? ⟨B + 1 + 1, 0, none⟩ = false := free_of_one h.g
theorem Four.ff {B : Nat} {l r g f : Int} {w : World} (h : Four B l r g f w) : w.frozen? ⟨B + 1 + 1 + 1, 0, none⟩ = false := free_of_one h.f

theorem below_set1 {B : Nat} {a w : World} (h : Below B a w) (u : Value) : Below B a (w.setCell ⟨B + 1, 0, none⟩ u) := h.setCell (p := ⟨B + 1, 0, none⟩) (Nat.le_add_right B 1) u
theorem below_set2 {B : Nat} {a w : World} (h : Below B a w) (u : Value) : Below B a (w.setCell ⟨B + 1 + 1, 0, none⟩ u) := h.setCell (p := ⟨B + 1 + 1, 0, none⟩) (Nat.le_add_right B 2) u
theorem below_set3 {B : Nat} {a w : World} (h : Below B a w) (u : Value) : Below B a (w.setCell ⟨B + 1 + 1 + 1, 0, none⟩ u) := h.setCell (p := ⟨B + 1 + 1 + 1, 0, none⟩) (Nat.le_add_right B 3) u
theorem below_set0 {B : Nat} {a w : World} (h : Below B a w) (u : Value) : Below B a (w.setCell ⟨B, 0, none⟩ u) := h.setCell (p := ⟨B, 0, none⟩) (Nat.le_refl B) u

set_option maxHeartbeats 400000 in
theorem divide_any (B : Nat) (l r g f : Int) (w : World) (h : Four B l r g f w) (hl : U64 l) (hr : U64 r) (hr2 : 2 ≤ r) (hg : El g) (hf : El f) :
    Calls Try.prog 113 #[.pointer (some ⟨B, 0, none⟩), .pointer (some ⟨B + 1, 0, none⟩), .pointer (some ⟨B + 1 + 1 + 1, 0, none⟩), .pointer (some ⟨B + 1 + 1, 0, none⟩)] w fun e w' =>
      e = .returned (.tuple #[]) ∧ Four B r (l - l / r * r) f (fsub g (fmul (l / r) f)) w' ∧ Below B w w' := by
  have H := Lib.hid h
  have cl := h.cl
  have cr := h.cr
  have cg := h.cg
  have cf := h.cf
  have fl := h.fl
  have fr := h.fr
  have fg := h.fg
  have ff := h.ff
  clear h
  have hU := hf.u64
  unfold U64 at hl hr
  have hq : U64 (l / r) := ⟨Int.ediv_nonneg hl.1 hr.1, Int.lt_of_le_of_lt (Int.ediv_le_self _ hl.1) hl.2⟩
  have hm0 : 0 ≤ l / r * r := Int.mul_nonneg hq.1 hr.1
  have hm1 : l / r * r ≤ l := Int.ediv_mul_le _ (by omega)
  go_enter Try.func113, Try.ntmps113
  go_wp2_with fail
  go_region
  go_wp2_with fail
  have hF : Four B r (l - l / r * r) g f (((w.setCell ⟨B, 0, none⟩ (.int .u64 r)).setCell ⟨B + 1, 0, none⟩ (.int .u64 (l - l / r * r))).drew) := ((H.out.setL _).setR _).drew
  have hB : Below B w (((w.setCell ⟨B, 0, none⟩ (.int .u64 r)).setCell ⟨B + 1, 0, none⟩ (.int .u64 (l - l / r * r))).drew) := (below_set1 (below_set0 (Below.refl _ _) _) _).drew
  generalize (((w.setCell ⟨B, 0, none⟩ (.int .u64 r)).setCell ⟨B + 1, 0, none⟩ (.int .u64 (l - l / r * r))).drew) = W at *
  clear cl cr cg cf fl fr fg ff H
  refine wp_region_still_tail 6 (by kernel_rfl) (by kernel_rfl) ?_
  simp only [List.take_succ_cons, List.take_zero, List.drop_succ_cons, List.drop_zero]
  have H := Lib.hid hF
  have HB := Lib.hid hB
  have cg := hF.cg
  have cf := hF.cf
  have fg := hF.fg
  have ff := hF.ff
  clear hF hB
  still_step
  still_step
  still_step
  still_step
  still_call (mul_any _ _ _ hq hU)
  still_call (sub_any _ _ _ hg (El_fmul _ _))
  refine wpStill_nil ?_
  go_wp2
  go_end0
  exact ⟨rfl, ((H.out.setG _).setF _).drew, (below_set3 (below_set2 HB.out _) _).drew⟩


theorem shifted (k : Nat) : U64 (18446744069414584320 / 2 ^ k) := by
  have hp : (0 : Int) < 2 ^ k := Int.pow_pos (by decide)
  refine ⟨Int.ediv_nonneg (by decide) (by omega), Int.lt_of_le_of_lt (Int.ediv_le_self _ (by decide)) (by decide)⟩

/-- the order less one, halved j times -/
def halved (j : Nat) : Int := 18446744069414584320 / 2 ^ j
theorem halved_u64 (j : Nat) : U64 (halved j) := shifted j
theorem halved_range (j : Nat) : 0 ≤ halved j ∧ halved j < 18446744073709551616 := shifted j
theorem halved_succ (j : Nat) : halved (j + 1) = halved j / 2 := by
  unfold halved
  rw [Int.pow_succ, Int.ediv_ediv_of_nonneg (Int.le_of_lt (Int.pow_pos (by decide)))]

/-- the world in which the four variables have been made -/
theorem four_made (w : World) (l r g f : Int) :
    Four w.heap.size l r g f ((((w.alloc (Obj.cells #[.int .u64 l] 41)).alloc (Obj.cells #[.int .u64 r] 41)).alloc (Obj.cells #[.int .u64 g] 41)).alloc (Obj.cells #[.int .u64 f] 41)) := by
  refine ⟨?_, ?_, ?_, ?_⟩
  · exact (Below.heap_alloc _ _ _ (by simp <;> omega)).trans ((Below.heap_alloc _ _ _ (by simp <;> omega)).trans ((Below.heap_alloc _ _ _ (by simp)).trans (heap_alloc_new _ _)))
  · exact (Below.heap_alloc _ _ _ (by simp <;> omega)).trans ((Below.heap_alloc _ _ _ (by simp)).trans (by simpa using heap_alloc_new (w.alloc (Obj.cells #[.int .u64 l] 41)) (Obj.cells #[.int .u64 r] 41)))
  · exact (Below.heap_alloc _ _ _ (by simp)).trans (by simpa using heap_alloc_new ((w.alloc (Obj.cells #[.int .u64 l] 41)).alloc (Obj.cells #[.int .u64 r] 41)) (Obj.cells #[.int .u64 g] 41))
  · simpa using heap_alloc_new (((w.alloc (Obj.cells #[.int .u64 l] 41)).alloc (Obj.cells #[.int .u64 r] 41)).alloc (Obj.cells #[.int .u64 g] 41)) (Obj.cells #[.int .u64 f] 41)
theorem below_made (w : World) (a b c d : Obj) : Below w.heap.size w ((((w.alloc a).alloc b).alloc c).alloc d) :=
  ((((Below.refl _ _).alloc (Nat.le_refl _) _).alloc (by simp) _).alloc (by simp; omega) _).alloc (by simp; omega) _

set_option maxHeartbeats 400000 in
theorem inv_zero (w : World) :
    Calls Try.prog 109 #[.int .u64 0] w fun e w' => e = .returned (.tuple #[.int .u64 0, .int .i64 3]) ∧ Below w.heap.size w w' := by
  go_enter Try.func109, Try.ntmps109
  go_wp2_with fail
  go_step3
  go_wp2_with fail
  go_step3
  go_wp2_with fail
  go_loopg [2, 3] 0 (fun _ s2 s3 wr => wr.cell? ⟨w.heap.size + 1, 0, none⟩ = some (.int .u64 0) ∧ Below w.heap.size w wr)
  case atStart => exact ⟨(four_made w _ _ _ _).cr, below_made w _ _ _ _⟩
  case round =>
    obtain ⟨hc, hb⟩ := hrel
    go_wp2_with fail
    rw [Exit.noGoto_ret]
    go_ret2
    exact ⟨rfl, hb⟩

set_option maxHeartbeats 400000 in
theorem inv_any (a : Int) (w : World) (ha : El a) (h0 : a ≠ 0) :
    Calls Try.prog 109 #[.int .u64 a] w fun e w' => e = .returned (.tuple #[.int .u64 (finv a), .int .i64 0]) ∧ Below w.heap.size w w' := by
  have hE := Lib.hid (Euc.start ha h0)
  have H0 := Lib.hid h0
  have HA := Lib.hid ha
  clear h0 ha
  go_enter Try.func109, Try.ntmps109
  go_wp2_with fail
  go_step3
  go_wp2_with fail
  go_step3
  go_wp2_with fail
  go_loopg [2, 3] a.toNat (fun k s2 s3 wr => ∃ l r g f : Int, Hid (Euc a l r g f) ∧ Hid (r.toNat = k) ∧ Hid (Four w.heap.size l r g f wr) ∧ Below w.heap.size w wr)
  case atStart => exact ⟨_, a, 0, 1, hE, Lib.hid rfl, Lib.hid (four_made w _ _ _ _), below_made w _ _ _ _⟩
  case round =>
    obtain ⟨l, r, g, f, he, hk, hF, hB⟩ := hrel
    have cr := hF.out.cr
    have hr0 : 0 ≤ r := he.out.2.1
    by_cases h0 : r = 0
    · exact absurd he.out (fun h => (h0 ▸ h).not_zero)
    · have e0 : (r == 0) = false := by simpa using h0
      have HR0 := Lib.hid h0
      clear h0
      by_cases h1 : r = 1
      · subst h1
        have cf := hF.out.cf
        have ef := Lib.hid (Euc.finv HA.out H0.out he.out)
        go_wp2_with fail
        rw [Exit.noGoto_ret]
        go_ret2
        refine ⟨?_, hB⟩
        rw [ef.out]
        rfl
      · have e1 : (r == 1) = false := by simpa using h1
        have hr2 : 2 ≤ r := by have := HR0.out; omega
        have hl : U64 l := by have := he.out; unfold Euc at this; unfold U64; omega
        have hru : U64 r := by have := he.out; unfold Euc at this; unfold U64; omega
        have hg : El g := he.out.2.2.2.2.1
        have hf : El f := he.out.2.2.2.2.2.1
        clear h1
        go_wp2_with (go_at_call 113; refine (divide_any _ _ _ _ _ _ hF.out hl hru hr2 hg hf).mono ?_; rintro e w' ⟨rfl, hF', hB'⟩)
        go_roundg ((l - l / r * r).toNat)
        case measure =>
          have h1 := hk.out
          have h2 := (Euc.step he.out hr2).2.2.1
          have h3 := (Euc.step he.out hr2).2.1
          clear hE H0 HA he hk hF hB cr e0 HR0 e1 hl hru hg hf hF' hB'
          omega
        case rel => exact ⟨r, l - l / r * r, f, _, Lib.hid (Euc.step he.out hr2), Lib.hid rfl, Lib.hid hF', hB.trans hB'⟩





set_option maxHeartbeats 400000 in
theorem rinv_zero (w : World) :
    Calls Try.prog 90 #[.int .u64 0] w fun e w' => e = .returned (.tuple #[.int .u64 0, .int .i64 3]) ∧ w' = w := by
  go_enter Try.func90, Try.ntmps90
  go_wp2_with fail
  go_ret2
  exact ⟨rfl, rfl⟩

set_option maxHeartbeats 400000 in
theorem rinv_any (a : Int) (w : World) (ha : El a) (h : ¬ a = 0) :
    Calls Try.prog 90 #[.int .u64 a] w fun e w' => e = .returned (.tuple #[.int .u64 (finv a), .int .i64 0]) ∧ w' = w := by
  go_enter Try.func90, Try.ntmps90
  go_wp2_with (go_at_call 98; refine (rpow_any _ _ _ ha (by unfold U64; omega)).mono ?_; rintro e w' ⟨rfl, rfl⟩)
  go_ret2
  exact ⟨rfl, rfl⟩

end Go.Proofs.Ytombcjdhjcmhhaa

