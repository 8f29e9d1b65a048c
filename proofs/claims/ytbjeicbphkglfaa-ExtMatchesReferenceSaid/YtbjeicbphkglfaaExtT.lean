/- Contracts of package ext, its powers: a loop over an iterator of bits; no conditions but that words are words. -/
import Derived.Test.YtbjeicbphkglfaaExtB
import Derived.RangeFuncNested
import Derived.RangeFuncBound
import Derived.RangeFuncCalls
import Derived.RangeFuncLeaves
import Derived.RangeFuncBox
import Derived.Shelf.Abstract
import Derived.Shelf.RegionOpen
import Derived.OwnWalkIn
import Derived.TacticsInMore
import Derived.LoopNIn
import Derived.LoopIn
import Derived.Laws.EntriesVeiled
namespace Go.Proofs.Ytbjeicbphkglfaa
open Go.RowKit Gold
open Go.Shelf
attribute [local go_sem] Oper.semAt_some

/-- the number of a list of bits, the most significant one first -/
def bval : List Bool → Nat := List.foldl (fun v b => 2 * v + b.toNat) 0
theorem bval_snoc (pre : List Bool) (b : Bool) : bval (pre ++ [b]) = 2 * bval pre + b.toNat := by simp [bval]
/-- what a round of the loop over bits keeps: the word whose bits they are -/
def KeepsCell (B : Nat) (W W' : World) : Prop := ∀ v, W.cell? ⟨B, 0, none⟩ = some v → W'.cell? ⟨B, 0, none⟩ = some v
theorem keepsCell_t {B : Nat} {X Y Z : World} (h : KeepsCell B X Y) (k : KeepsCell B Y Z) : KeepsCell B X Z := fun v e => k v (h v e)
theorem keepsCell_b {B : Nat} {w : World} (W : World) (l : Nat) (o o' : Obj) (_ : w.heap.size ≤ l) (h : W.heap[l]? = some o) (hc : o.isCells = false) (_ : o.isWalk = false) : KeepsCell B W (W.putObj l o') :=
  fun _ e => cell_kept e (grownBy_putObj' W l o') (fun r k => by cases k; exact ⟨o, h, hc⟩)
theorem below_keepsOthers {W W1 : World} (hb : Below W.heap.size W W1) : KeepsOthers W W1 := ⟨hb.size, fun _ _ hk _ => heap_keep hk hb⟩
theorem two_own {β : Type} (b : Nat) (t : TypeId) (f g : β → Value) : Own (fun s W => Two W b t (f s) (g s)) := fun _ _ _ _ hs hg hr => (grownBy_keeps_cells hg hr hs rfl).trans hs
theorem one_own {β : Type} (b : Nat) (t : TypeId) (f : β → Value) : Own (fun s W => One W b t (f s)) := fun _ _ _ _ hs hg hr => (grownBy_keeps_cells hg hr hs rfl).trans hs
theorem own_and {β : Type} {I J : β → World → Prop} (h : Own I) (k : Own J) : Own (fun s W => I s W ∧ J s W) := fun s X Y row hs hg hr => ⟨h s X Y row hs.1 hg hr, k s X Y row hs.2 hg hr⟩

set_option maxHeartbeats 400000 in
theorem ext_bits (n : Int) (w : World) : Calls Try.prog 54 #[.int .u64 n] w fun e w' => e = .returned (.func (.func 66) #[] #[.pointer (some ⟨w.heap.size, 0, none⟩)]) ∧ w' = w.alloc (.cells #[.int .u64 n] 22) := by
  go_enter Try.func54, Try.ntmps54
  go_wp2
  go_ret
  exact ⟨rfl, rfl⟩

set_option maxRecDepth 100000 in
set_option maxHeartbeats 2000000 in
theorem bits_stops (B n : Nat) (hn : n < 18446744073709551616) (w : World) (hB : w.cell? ⟨B, 0, none⟩ = some (.int .u64 n)) :
    SeqStopsK Fence.wide 2 Try.prog 66 #[.pointer (some ⟨B, 0, none⟩)] (fun b : Bool => #[.bool b]) (KeepsCell B) (fun xs => bval xs = n) (fun _ => True) 64 w := fun l J Jx W hW _ _ hY h0 => by
  have hc := cell_keep hB hW
  refine callsIn_of_wp Try.func66 rfl trivial ?_ rfl
  simp only [Try.ntmps66, List.size_toArray, List.length_cons, List.length_nil, Nat.reduceAdd, Nat.reduceSub, Array.replicate_succ, Array.replicate_zero, List.push_toArray, List.append_toArray, List.nil_append, List.cons_append]
  gi_wp2
  have hs : n / 2 ^ 64 = 0 := Nat.div_eq_of_lt hn
  have HS := Lib.hid hs
  have HC := Lib.hid hc
  have HJ := Lib.hid h0
  clear hs hc h0 hB hW
  gi_loopw [3] (fun s3 wr => ∃ (k : Nat) (pre : List Bool), k ≤ 64 ∧ s3 = .int .i64 ((k : Int) - 1) ∧ bval pre = n / 2 ^ k ∧ pre.length + k ≤ 64 ∧ J pre wr ∧ wr.cell? ⟨B, 0, none⟩ = some (.int .u64 n)) (fun s3 _ => (intOf s3 + 1).toNat)
  case atStart => exact ⟨64, [], by omega, by go_num, by rw [HS.out]; rfl, by simp, HJ.out, HC.out⟩
  case round =>
    clear HS HC HJ
    obtain ⟨k, pre, hk, rfl, hv, hl, hJ, hc⟩ := hrel
    have HV := Lib.hid hv
    clear hv
    cases k with
    | zero =>
      gi_wp2
      go_end0
      exact ⟨⟨_, rfl⟩, .inl ⟨pre, by rw [HV.out, Nat.pow_zero, Nat.div_one], hJ⟩⟩
    | succ j =>
      have hq1 : n / 2 ^ (j + 1) = n / 2 ^ j / 2 := by rw [Nat.pow_succ, Nat.div_div_eq_div_mul]
      have hq2 : ((n : Int) / 2 ^ j) = ((n / 2 ^ j : Nat) : Int) := by rw [Int.natCast_ediv, Int.natCast_pow]; rfl
      have hqn : n / 2 ^ j ≤ n := Nat.div_le_self _ _
      rw [hq1] at HV
      clear hq1
      generalize hq : n / 2 ^ j = q at *
      have Hq := Lib.hid hq
      clear hq
      have eb := and_one_u64 (q : Int) (by omega) (by omega)
      by_cases h0 : q = 0
      · subst h0
        gi_wp2
        refine ⟨fun _ h => (by cases h), ?_⟩
        gi_wp2
        go_roundw
        case rel => exact ⟨j, pre, by omega, by go_num, by rw [HV.out, Hq.out], by omega, hJ, hc⟩
        case measure => simp [intOf]
      · have e0 : ((q : Int) != 0) = true := by rw [bne_iff_ne]; omega
        by_cases h1 : q % 2 = 1
        · have e1 : ((q : Int) % 2 == 1) = true := by simp; omega
          have H1 := Lib.hid h1
          clear h0 h1
          obtain ⟨fn, tmps, assign, body, hy, hR⟩ := hY pre true wr hJ (by omega)
          gi_wp2
          refine hR.mono ?_
          rintro e W3 (⟨rfl, hJ3, hk3⟩ | ⟨rfl, hJx3⟩)
          · have hc3 := hk3 _ hc
            gi_wp2
            go_roundw
            case rel => exact ⟨j, pre ++ [true], by omega, by go_num, by rw [bval_snoc, HV.out, Hq.out]; have := H1.out; simp; omega, by simp; omega, hJ3, hc3⟩
            case measure => simp [intOf]
          · gi_wp2
            refine bodyPost_ret (results_none rfl _ _ _) rfl ?_
            exact ⟨⟨_, rfl⟩, .inr ⟨pre ++ [true], trivial, hJx3⟩⟩
        · have e1 : ((q : Int) % 2 == 1) = false := by simp; omega
          have H1 := Lib.hid h1
          clear h0 h1
          obtain ⟨fn, tmps, assign, body, hy, hR⟩ := hY pre false wr hJ (by omega)
          gi_wp2
          refine hR.mono ?_
          rintro e W3 (⟨rfl, hJ3, hk3⟩ | ⟨rfl, hJx3⟩)
          · have hc3 := hk3 _ hc
            gi_wp2
            go_roundw
            case rel => exact ⟨j, pre ++ [false], by omega, by go_num, by rw [bval_snoc, HV.out, Hq.out]; have := H1.out; simp; omega, by simp; omega, hJ3, hc3⟩
            case measure => simp [intOf]
          · gi_wp2
            refine bodyPost_ret (results_none rfl _ _ _) rfl ?_
            exact ⟨⟨_, rfl⟩, .inr ⟨pre ++ [false], trivial, hJx3⟩⟩

theorem wpIn_named5 {F : Fence} {m : Nat} {P : Program} {c : Code} {Q : Exit → Act → World → Prop} {a : Act} {w : World} {o0 o1 o2 o3 o4 : Obj}
    (h : ∀ W, Below w.heap.size w W → W.heap[w.heap.size + 1]? = some o1 → W.heap[w.heap.size + 1 + 1]? = some o2 → W.heap[w.heap.size + 1 + 1 + 1]? = some o3 → W.heap[w.heap.size + 1 + 1 + 1 + 1]? = some o4 → c.wpIn F m P Q a W) :
    c.wpIn F m P Q a (((((w.alloc o0).alloc o1).alloc o2).alloc o3).alloc o4) :=
  h _ ((((((Below.refl _ _).alloc (Nat.le_refl _) _).alloc (by simp) _).alloc (by simp; omega) _).alloc (by simp; omega) _).alloc (by simp; omega) _)
    (heap_old _ (heap_old _ (heap_old _ (by simpa using heap_new (w.alloc o0) o1)))) (heap_old _ (heap_old _ (by simpa using heap_new ((w.alloc o0).alloc o1) o2))) (heap_old _ (by simpa using heap_new (((w.alloc o0).alloc o1).alloc o2) o3)) (by simpa using heap_new ((((w.alloc o0).alloc o1).alloc o2).alloc o3) o4)

theorem pow_bit0 (x : E2) (pre : List Bool) : E2.pow x (bval (pre ++ [false])) = E2.pow x (bval pre) * E2.pow x (bval pre) := by
  rw [bval_snoc, ← E2.pow_add]
  congr 1
  show 2 * bval pre + 0 = _
  omega
theorem pow_bit1 (x : E2) (pre : List Bool) : E2.pow x (bval (pre ++ [true])) = x * (E2.pow x (bval pre) * E2.pow x (bval pre)) := by
  rw [bval_snoc, ← E2.pow_add, E2.mul_comm, ← E2.pow_succ]
  congr 1
  show 2 * bval pre + 1 = _
  omega

/-- what the cells of Pow hold when the bits pre have come -/
def PowI (x : E2) (w : World) (pre : List Bool) (W : World) : Prop :=
  (Two W (w.heap.size + 1 + 1 + 1) 52 (.int .u64 (vF (E2.pow x (bval pre)).A)) (.int .u64 (vF (E2.pow x (bval pre)).B)) ∧ One W (w.heap.size + 1 + 1) 54 (.func (.func 51) #[.agg #[.int .u64 (vF x.A), .int .u64 (vF x.B)]] #[]) ∧ Two W (w.heap.size + 1) 24 (.int .u64 0) (.int .u64 0)) ∧ Below w.heap.size w W
theorem PowI.own (x : E2) (w : World) (B : Nat) (hB : w.heap.size ≤ B) : OwnFrom B (PowI x w) :=
  OwnFrom.and (Own.from (own_and (two_own _ _ _ _) (own_and (one_own _ _ _) (two_own _ _ _ _))) _) (ownFrom_below (Nat.le_refl _) hB)

set_option maxRecDepth 100000 in
set_option maxHeartbeats 4000000 in
theorem extPow_nat (x : E2) (n : Nat) (w : World) (hn : n < 18446744073709551616) : Calls Try.prog 29 #[.agg #[.int .u64 (vF x.A), .int .u64 (vF x.B)], .int .u64 n] w fun e w' => e = .returned (.agg #[.int .u64 (vF (E2.pow x n).A), .int .u64 (vF (E2.pow x n).B)]) ∧ Below w.heap.size w w' := by
  refine (callsIn_wide (n := 3)).1 ?_
  refine callsIn_of_wp_marks Try.func29 rfl trivial ?_ rfl
  simp only [Try.ntmps29, List.size_toArray, List.length_cons, List.length_nil, Nat.reduceAdd, Nat.reduceSub, Array.replicate_succ, Array.replicate_zero, List.push_toArray, List.append_toArray, List.nil_append, List.cons_append]
  gi_wp2_with (refine ⟨trivial, ?_⟩; gi_at_call 54; refine (callsIn_wide.2 (ext_bits _ _)).mono ?_; rintro e w' ⟨rfl, rfl⟩)
  refine wpIn_named5 (fun W hB g1 g2 g3 g4 => ?_)
  have HN := Lib.hid hn
  clear hn
  refine wpIn_rangeFunc_ownF rfl (by omega) (gf := 66) (lb := #[.pointer (some ⟨w.heap.size + 1 + 1 + 1 + 1, 0, none⟩)]) rfl trivial (enters_of Try.func66 (by kernel_rfl) rfl) (bits_stops _ n HN.out W (One.c g4)) keepsCell_t keepsCell_b (Below.refl _ _) (fun _ => rfl)
    (PowI x w) (fun _ _ _ => False) (PowI.own x w _ hB.size) (fun _ _ _ _ _ hs _ _ => hs) ⟨⟨g3, g2, g1⟩, hB⟩
    (fun b => { tmps := #[.agg #[.int .u64 (vF x.A), .int .u64 (vF x.B)], .int .u64 n, .pointer (some ⟨w.heap.size, 0, none⟩), undef, .pointer (some ⟨w.heap.size + 1, 0, none⟩), .pointer (some ⟨w.heap.size + 1 + 1, 0, none⟩), .pointer (some ⟨w.heap.size + 1 + 1 + 1, 0, none⟩), .bool b, .agg #[.int .u64 (vF x.A), .int .u64 (vF x.B)], .func (.func 51) #[.agg #[.int .u64 (vF x.A), .int .u64 (vF x.B)]] #[], .agg #[.int .u64 1, .int .u64 0], .int .u64 n, .func (.func 66) #[] #[.pointer (some ⟨w.heap.size + 1 + 1 + 1 + 1, 0, none⟩)], .bool b, undef, undef, undef, undef, undef, undef, undef, undef], defers := [] }) ?assign ?body ?done ?stop
  case assign =>
    intro l b W K hK
    gi_wp2
    exact hK
  case body =>
    clear g1 g2 g3 g4 hB HN
    rintro l pre b Wb ⟨⟨h0, h1, h2⟩, hB⟩ _
    have c30 := h0.c0
    have c31 := h0.c1
    have f30 := h0.f0
    have f31 := h0.f1
    have ct := h1.c
    have H0 := Lib.hid h0
    have H1 := Lib.hid h1
    have H2 := Lib.hid h2
    have HB := Lib.hid hB
    have HK := Lib.hid (KeepsOthers.refl Wb)
    have HP := Lib.hid (show KeepsCell (w.heap.size + 1 + 1 + 1 + 1) Wb Wb from fun q hq => hq)
    clear h0 h1 h2 hB
    cases b with
    | false =>
      gi_wp2_with (refine ⟨trivial, ?_⟩; gi_at_call 51; ((with_reducible refine (CallsIn.inRound l (callsIn_wide.2 (ext_times (E2.pow x (bval pre)) (E2.pow x (bval pre)) _))).mono ?_)); rintro e W1 ⟨rfl, hb⟩; replace f30 := free_after hb c30 f30; replace f31 := free_after hb c31 f31; replace c30 := cell_after hb c30; replace c31 := cell_after hb c31; replace ct := cell_after hb ct; replace H0 := Lib.hid (((H0.out.keep hb).set0 (.int .u64 (vF ((E2.pow x (bval pre)) * (E2.pow x (bval pre))).A))).set1 (.int .u64 (vF ((E2.pow x (bval pre)) * (E2.pow x (bval pre))).B))); replace H1 := Lib.hid (((H1.out.keep hb).far (a := ⟨w.heap.size + 1 + 1 + 1, 0, none⟩) (.int .u64 (vF ((E2.pow x (bval pre)) * (E2.pow x (bval pre))).A)) (by simp)).far (a := ⟨w.heap.size + 1 + 1 + 1, 1, none⟩) (.int .u64 (vF ((E2.pow x (bval pre)) * (E2.pow x (bval pre))).B)) (by simp)); replace H2 := Lib.hid (((H2.out.keep hb).far (a := ⟨w.heap.size + 1 + 1 + 1, 0, none⟩) (.int .u64 (vF ((E2.pow x (bval pre)) * (E2.pow x (bval pre))).A)) (by simp)).far (a := ⟨w.heap.size + 1 + 1 + 1, 1, none⟩) (.int .u64 (vF ((E2.pow x (bval pre)) * (E2.pow x (bval pre))).B)) (by simp)); replace HB := Lib.hid (((HB.out.trans (hb.mono HB.out.size)).setCell (p := ⟨w.heap.size + 1 + 1 + 1, 0, none⟩) (by simp; omega) (.int .u64 (vF ((E2.pow x (bval pre)) * (E2.pow x (bval pre))).A))).setCell (p := ⟨w.heap.size + 1 + 1 + 1, 1, none⟩) (by simp; omega) (.int .u64 (vF ((E2.pow x (bval pre)) * (E2.pow x (bval pre))).B))); replace HK := Lib.hid ((HK.out.trans (below_keepsOthers hb)).trans ((KeepsOthers.setCell _ ⟨w.heap.size + 1 + 1 + 1, 0, none⟩ (.int .u64 (vF ((E2.pow x (bval pre)) * (E2.pow x (bval pre))).A))).trans (KeepsOthers.setCell _ ⟨w.heap.size + 1 + 1 + 1, 1, none⟩ (.int .u64 (vF ((E2.pow x (bval pre)) * (E2.pow x (bval pre))).B))))); replace HP := Lib.hid (fun q hq => cell_far (p := ⟨w.heap.size + 1 + 1 + 1, 1, none⟩) (cell_far (p := ⟨w.heap.size + 1 + 1 + 1, 0, none⟩) (cell_keep (HP.out q hq) hb) (by simp) (.int .u64 (vF ((E2.pow x (bval pre)) * (E2.pow x (bval pre))).A))) (by simp) (.int .u64 (vF ((E2.pow x (bval pre)) * (E2.pow x (bval pre))).B))); clear hb)
      exact ⟨HK.out, HP.out, ⟨by rw [pow_bit0]; exact H0.out, H1.out, H2.out⟩, HB.out⟩
    | true =>
      gi_wp2_with (first
        | (refine ⟨trivial, ?_⟩; gi_at_call 51; ((with_reducible refine (CallsIn.inRound l (callsIn_wide.2 (ext_times (E2.pow x (bval pre)) (E2.pow x (bval pre)) _))).mono ?_)); rintro e W1 ⟨rfl, hb⟩; replace f30 := free_after hb c30 f30; replace f31 := free_after hb c31 f31; replace c30 := cell_after hb c30; replace c31 := cell_after hb c31; replace ct := cell_after hb ct; replace H0 := Lib.hid (((H0.out.keep hb).set0 (.int .u64 (vF ((E2.pow x (bval pre)) * (E2.pow x (bval pre))).A))).set1 (.int .u64 (vF ((E2.pow x (bval pre)) * (E2.pow x (bval pre))).B))); replace H1 := Lib.hid (((H1.out.keep hb).far (a := ⟨w.heap.size + 1 + 1 + 1, 0, none⟩) (.int .u64 (vF ((E2.pow x (bval pre)) * (E2.pow x (bval pre))).A)) (by simp)).far (a := ⟨w.heap.size + 1 + 1 + 1, 1, none⟩) (.int .u64 (vF ((E2.pow x (bval pre)) * (E2.pow x (bval pre))).B)) (by simp)); replace H2 := Lib.hid (((H2.out.keep hb).far (a := ⟨w.heap.size + 1 + 1 + 1, 0, none⟩) (.int .u64 (vF ((E2.pow x (bval pre)) * (E2.pow x (bval pre))).A)) (by simp)).far (a := ⟨w.heap.size + 1 + 1 + 1, 1, none⟩) (.int .u64 (vF ((E2.pow x (bval pre)) * (E2.pow x (bval pre))).B)) (by simp)); replace HB := Lib.hid (((HB.out.trans (hb.mono HB.out.size)).setCell (p := ⟨w.heap.size + 1 + 1 + 1, 0, none⟩) (by simp; omega) (.int .u64 (vF ((E2.pow x (bval pre)) * (E2.pow x (bval pre))).A))).setCell (p := ⟨w.heap.size + 1 + 1 + 1, 1, none⟩) (by simp; omega) (.int .u64 (vF ((E2.pow x (bval pre)) * (E2.pow x (bval pre))).B))); replace HK := Lib.hid ((HK.out.trans (below_keepsOthers hb)).trans ((KeepsOthers.setCell _ ⟨w.heap.size + 1 + 1 + 1, 0, none⟩ (.int .u64 (vF ((E2.pow x (bval pre)) * (E2.pow x (bval pre))).A))).trans (KeepsOthers.setCell _ ⟨w.heap.size + 1 + 1 + 1, 1, none⟩ (.int .u64 (vF ((E2.pow x (bval pre)) * (E2.pow x (bval pre))).B))))); replace HP := Lib.hid (fun q hq => cell_far (p := ⟨w.heap.size + 1 + 1 + 1, 1, none⟩) (cell_far (p := ⟨w.heap.size + 1 + 1 + 1, 0, none⟩) (cell_keep (HP.out q hq) hb) (by simp) (.int .u64 (vF ((E2.pow x (bval pre)) * (E2.pow x (bval pre))).A))) (by simp) (.int .u64 (vF ((E2.pow x (bval pre)) * (E2.pow x (bval pre))).B))); clear hb)
        | (refine ⟨trivial, ?_⟩; gi_at_call 51; ((with_reducible refine (CallsIn.inRound l (callsIn_wide.2 (ext_times x ((E2.pow x (bval pre)) * (E2.pow x (bval pre))) _))).mono ?_)); rintro e W1 ⟨rfl, hb⟩; replace f30 := free_after hb H0.out.c0 H0.out.f0; replace f31 := free_after hb H0.out.c1 H0.out.f1; replace c30 := cell_after hb H0.out.c0; replace c31 := cell_after hb H0.out.c1; replace H0 := Lib.hid (H0.out.keep hb); replace H1 := Lib.hid (H1.out.keep hb); replace H2 := Lib.hid (H2.out.keep hb); replace HB := Lib.hid (HB.out.trans (hb.mono HB.out.size)); replace HK := Lib.hid (HK.out.trans (below_keepsOthers hb)); replace HP := Lib.hid (fun q hq => cell_keep (HP.out q hq) hb); clear ct hb))
      exact ⟨HK.out.trans ((KeepsOthers.setCell _ _ _).trans (KeepsOthers.setCell _ _ _)), fun q hq => cell_far (cell_far (HP.out q hq) (by simp) _) (by simp) _,
        ⟨by rw [pow_bit1]; exact (H0.out.set0 _).set1 _, (H1.out.far _ (by simp)).far _ (by simp), (H2.out.far _ (by simp)).far _ (by simp)⟩, (HB.out.setCell (by simp; omega) _).setCell (by simp; omega) _⟩
  case done =>
    rintro D ys W2 hD hys ⟨⟨h0, h1, h2⟩, hB2⟩ hK
    rw [hys] at h0
    have c30 := h0.c0
    have c31 := h0.c1
    have c10 := h2.c0
    have c11 := h2.c1
    have f10 := h2.f0
    have f11 := h2.f1
    have H2 := Lib.hid h2
    have HK := Lib.hid hK
    have HB := Lib.hid hB2
    have HD := Lib.hid hD
    have HBW := Lib.hid hB
    clear g1 g2 g3 g4 hB HN h0 h1 h2 hK hB2 hD hys
    gi_wp2
    have k1 := (KeepsOthers.setCell W2 ⟨w.heap.size + 1, 0, none⟩ (.int .u64 (vF (E2.pow x n).A))).same D _ HK.out rfl
    have k2 := (KeepsOthers.setCell _ ⟨w.heap.size + 1, 1, none⟩ (.int .u64 (vF (E2.pow x n).B))).same D _ k1 rfl
    have T1 := (H2.out.set0 (.int .u64 (vF (E2.pow x n).A))).set1 (.int .u64 (vF (E2.pow x n).B))
    have T2 := (grownBy_keeps_cells (grownBy_putObj' _ D (.deferred none)) (fun r e => by cases e; exact ⟨_, k2, rfl⟩) T1 rfl).trans T1
    have r0 := Two.c0 T2
    have r1 := Two.c1 T2
    refine ⟨by simp, .inl ⟨_, _, rfl, run_takeDeferred k2, ?_⟩⟩
    refine ⟨.agg #[.int .u64 (vF (E2.pow x n).A), .int .u64 (vF (E2.pow x n).B)], by simp [results, Try.f29, go_sem, r0, r1], rfl, ?_⟩
    exact ((HB.out.setCell (by simp) _).setCell (by simp) _).trans (belowK_b (w := W) HBW.out.size _ D _ _ HD.out k2 rfl rfl)
  case stop =>
    rintro D c pre W _ _ h _
    exact h.elim

end Go.Proofs.Ytbjeicbphkglfaa
