/- Contract of package ntt, the transform: a loop over an iterator of lengths; no conditions but that the length is a power of two up to 2^16 and that the slice is no longer. -/
import Derived.Test.YtihneehceclffaaNpa
import Derived.RangeFuncNested
import Derived.RangeFuncBound
import Derived.RangeFuncCalls
import Derived.RangeFuncLeaves
import Derived.RangeFuncBox
import Derived.Shelf.Abstract
import Derived.Shelf.RegionOpen
import Derived.OwnWalkIn
import Derived.TacticsInMore
import Derived.LoopNIn
import Derived.LoopIn
import Derived.Laws.EntriesVeiled
import Derived.Sort.QuietIn
namespace Go.Proofs.Ytihneehceclffaa
open Go.RowKit Gold
open Go.Shelf
attribute [local go_sem] Oper.semAt_some

def KeepsC (B : Nat) (W W' : World) : Prop := ∀ v, W.cell? ⟨B, 0, none⟩ = some v → W'.cell? ⟨B, 0, none⟩ = some v
theorem keepsC_t {B : Nat} {X Y Z : World} (h : KeepsC B X Y) (k : KeepsC B Y Z) : KeepsC B X Z := fun v e => k v (h v e)
theorem keepsC_b {B : Nat} {w : World} (W : World) (l : Nat) (o o' : Obj) (_ : w.heap.size ≤ l) (h : W.heap[l]? = some o) (hc : o.isCells = false) (_ : o.isWalk = false) : KeepsC B W (W.putObj l o') :=
  fun _ e => cell_kept e (grownBy_putObj' W l o') (fun r k => by cases k; exact ⟨o, h, hc⟩)
theorem grown_drew (w : World) (n : Nat) (row : Option Nat) : w.grownBy (w.drewN n) row := ⟨rfl, rfl, rfl, Nat.le_refl _, fun _ _ _ => rfl⟩

set_option maxHeartbeats 400000 in
theorem lengths_any (n : Int) (w : World) : Calls Try.prog 41 #[.int .i64 n] w fun e w' => e = .returned (.func (.func 47) #[] #[.pointer (some ⟨w.heap.size, 0, none⟩)]) ∧ w' = w.alloc (.cells #[.int .i64 n] 3) := by
  go_enter Try.func41, Try.ntmps41
  go_wp2
  go_ret
  exact ⟨rfl, rfl⟩

def pwN (k : Nat) : Nat := 2 ^ k
theorem pwN_succ (k : Nat) : pwN (k + 1) = 2 ^ k + 2 ^ k := pow2_succ k

set_option maxRecDepth 100000 in
set_option maxHeartbeats 2000000 in
theorem lengths_stops (B N K : Nat) (hN : N = 2 ^ K) (hK : K ≤ 16) (w : World) (hB : w.cell? ⟨B, 0, none⟩ = some (.int .i64 (N : Int))) :
    SeqStopsK Fence.wide 2 Try.prog 47 #[.pointer (some ⟨B, 0, none⟩)] (fun i : Fin K => #[.int .i64 ((i.val : Int) + 1), .int .i64 ((pwN (i.val + 1) : Nat) : Int)]) (KeepsC B) (fun xs => xs.map (·.val) = List.range K) (fun _ => True) 64 w := fun l J Jx W hW hJ _ hY h0 => by
  have hc := cell_keep hB hW
  have hN1 : 1 ≤ N := by rw [hN]; exact Nat.two_pow_pos K
  have hN2 : N ≤ 65536 := by rw [hN]; exact pow2_le hK
  refine callsIn_of_wp Try.func47 rfl trivial ?_ rfl
  simp only [Try.ntmps47, List.size_toArray, List.length_cons, List.length_nil, Nat.reduceAdd, Nat.reduceSub, Array.replicate_succ, Array.replicate_zero, List.push_toArray, List.append_toArray, List.nil_append, List.cons_append]
  gi_wp2
  have HC := Lib.hid hc
  have HJ := Lib.hid h0
  have HN := Lib.hid hN
  clear hN hc h0 hB hW
  gi_loopw [3] (fun s3 wr => ∃ (j : Nat) (pre : List (Fin K)), j ≤ K ∧ s3 = .int .i64 ((j : Int) + 1) ∧ pre.map (·.val) = List.range j ∧ J pre wr ∧ wr.cell? ⟨B, 0, none⟩ = some (.int .i64 (N : Int))) (fun s3 _ => (K + 1 - (intOf s3).toNat))
  case atStart => exact ⟨0, [], Nat.zero_le _, rfl, rfl, HJ.out, HC.out⟩
  case round =>
    clear HC HJ
    obtain ⟨j, pre, hj, rfl, hpre, hJ1, hc⟩ := hrel
    have HPre := Lib.hid hpre
    clear hpre
    have hwp : wrap64 (2 ^ (j + 1)) = ((pwN (j + 1) : Nat) : Int) := wrap_pow2 (by omega)
    have hp2 : pwN (j + 1) = 2 ^ j + 2 ^ j := pwN_succ j
    by_cases he : j = K
    · have hgt : decide (pwN (j + 1) ≤ N) = false := decide_eq_false (by rw [HN.out, hp2, he]; have := Nat.two_pow_pos K; omega)
      have HE := Lib.hid he
      have hJ2 := fun n => hJ _ _ _ none hJ1 (grown_drew wr n none) (fun r e => by cases e)
      have HJ2 := Lib.hid hJ2
      clear he hJ1 hJ2 hp2
      gi_wp2
      gi_quiet (fail)
      gi_wp2
      go_end0
      exact ⟨⟨_, rfl⟩, .inl ⟨_, HPre.out.trans (congrArg List.range HE.out), HJ2.out _⟩⟩
    · have hle : decide (pwN (j + 1) ≤ N) = true := decide_eq_true (by
        rw [HN.out, hp2, ← pow2_succ]
        exact Nat.pow_le_pow_right (by omega) (by omega))
      have hjk : j < K := by omega
      have hJ2 := fun n => hJ _ _ _ none hJ1 (grown_drew wr n none) (fun r e => by cases e)
      have HY := Lib.hid fun n => hY pre ⟨j, hjk⟩ (wr.drewN n) (hJ2 n) (by have := congrArg List.length HPre.out; simp at this; omega)
      have hj2 : (0 : Int) ≤ (j : Int) := by omega
      have hj3 : (j : Int) ≤ 16 := by omega
      clear he hJ1 hJ2 hY hJ hp2
      gi_wp2
      gi_quiet (fail)
      obtain ⟨fn, tmps, assign, body, hy0, hR⟩ := HY.out nq
      have hy : (Instr.yield l #[Value.int .i64 ((j : Int) + 1), Value.int .i64 ((pwN (j + 1) : Nat) : Int)]).run Try.prog (wr.drewN nq) = .ok (.round l fn tmps assign body) (wr.drewN nq) := hy0
      have HRR := Lib.hid hR
      have HC := Lib.hid hc
      clear hR HY hy0
      gi_wp2
      refine HRR.out.mono ?_
      rintro e W3 (⟨rfl, hJ3, hk3⟩ | ⟨rfl, hJx3⟩)
      · have hc3 := hk3 _ HC.out
        have HJ3 := Lib.hid hJ3
        have HPre2 := Lib.hid (show (pre ++ [(⟨j, hjk⟩ : Fin K)]).map (fun i : Fin K => i.val) = List.range (j + 1) by rw [List.map_append, List.range_succ]; exact congrArg (· ++ [j]) HPre.out)
        clear hJ3 hk3 hwp hle
        gi_wp2
        go_roundw
        case rel => exact ⟨j + 1, _, by omega, by go_num, HPre2.out, HJ3.out, hc3⟩
        case measure => simp [intOf]; omega
      · gi_wp2
        refine bodyPost_ret (results_none rfl _ _ _) rfl ?_
        exact ⟨⟨_, rfl⟩, .inr ⟨pre ++ [⟨j, hjk⟩], trivial, hJx3⟩⟩

/-! ### The rounds -/
def stepF (f : Nat → F) (i : Nat) : Nat → F := layF f (2 ^ i) fun t : Nat => rootF (i + 1) ^ t
def runF {K : Nat} (A : Nat → F) (pre : List (Fin K)) : Nat → F := (pre.map (·.val)).foldl stepF (stF A K 0)
theorem runF_snoc {K : Nat} (A : Nat → F) (pre : List (Fin K)) (i : Fin K) : runF A (pre ++ [i]) = stepF (runF A pre) i.val := by unfold runF; rw [List.map_append, List.foldl_append]; rfl
theorem runF_range {K : Nat} (A : Nat → F) (hK : K ≤ 32) : ∀ j, j ≤ K → (List.range j).foldl stepF (stF A K 0) = stF A K j
  | 0, _ => rfl
  | j + 1, h => by
    rw [List.range_succ, List.foldl_append, runF_range A hK j (by omega)]
    exact funext fun p => layF_stF A (by omega) hK
theorem runF_all {K : Nat} (A : Nat → F) (hK : K ≤ 32) {xs : List (Fin K)} (h : xs.map (·.val) = List.range K) : runF A xs = stF A K K := by
  unfold runF
  rw [h]
  exact runF_range A hK K (Nat.le_refl _)
/-- a round under way: the first q blocks are done -/
def blkF (f : Nat → F) (h : Nat) (P : Nat → F) (q p : Nat) : F := if p < q * (h + h) then layF f h P p else f p
theorem blk_step {f : Nat → F} {h q N : Nat} {P : Nat → F} (h1 : 1 ≤ h) : tabF N (bfF (blkF f h P q) (q * (h + h)) h P h) = tabF N (blkF f h P (q + 1)) := by
  refine tabF_congr fun p _ => ?_
  have e : (q + 1) * (h + h) = q * (h + h) + (h + h) := by rw [Nat.add_mul, Nat.one_mul]
  obtain ⟨o, ho⟩ : ∃ o, o = q * (h + h) := ⟨_, rfl⟩
  have hm : ∀ r, r < h + h → (o + r) % (h + h) = r := by
    intro r hr
    rw [ho, Nat.add_comm, Nat.add_mul_mod_self_right, Nat.mod_eq_of_lt hr]
  unfold bfF blkF
  rw [e, ← ho]
  by_cases c1 : p < o
  · rw [if_neg (show ¬ (o ≤ p ∧ p < o + h) by omega), if_neg (show ¬ (o + h ≤ p ∧ p < o + h + h) by omega), if_pos c1, if_pos (show p < o + (h + h) by omega)]
  · by_cases c2 : p < o + h
    · obtain ⟨r, rfl⟩ : ∃ r, p = o + r := ⟨p - o, by omega⟩
      rw [if_pos (show o ≤ o + r ∧ o + r < o + h by omega), if_neg c1, if_neg (show ¬ o + r + h < o by omega), if_pos (show o + r < o + (h + h) by omega)]
      unfold layF
      rw [hm r (by omega), if_pos (by omega), show o + r - o = r by omega]
    · by_cases c3 : p < o + h + h
      · obtain ⟨r, rfl⟩ : ∃ r, p = o + h + r := ⟨p - (o + h), by omega⟩
        rw [if_neg (show ¬ (o ≤ o + h + r ∧ o + h + r < o + h) by omega), if_pos (show o + h ≤ o + h + r ∧ o + h + r < o + h + h by omega), if_neg (show ¬ o + h + r - h < o by omega), if_neg c1, if_pos (show o + h + r < o + (h + h) by omega)]
        unfold layF
        rw [show o + h + r = o + (h + r) by omega, hm (h + r) (by omega), if_neg (by omega), show o + (h + r) - (o + h) = r by omega, show h + r - h = r by omega]
      · rw [if_neg (show ¬ (o ≤ p ∧ p < o + h) by omega), if_neg (show ¬ (o + h ≤ p ∧ p < o + h + h) by omega), if_neg c1, if_neg (show ¬ p < o + (h + h) by omega)]
theorem blk_zero (f : Nat → F) (h : Nat) (P : Nat → F) (p : Nat) : blkF f h P 0 p = f p := if_neg (by omega)
theorem blk_last {f : Nat → F} {h q N : Nat} {P : Nat → F} (hN : q * (h + h) = N) : tabF N (blkF f h P q) = tabF N (layF f h P) := tabF_congr fun p hp => if_pos (by omega)
theorem blocks {N K i q : Nat} (hN : N = 2 ^ K) (hi : i < K) (hq : q * (2 ^ i + 2 ^ i) < N) : (q + 1) * (2 ^ i + 2 ^ i) ≤ N := by
  obtain ⟨m, hm⟩ : ∃ m, K = i + 1 + m := ⟨K - i - 1, by omega⟩
  have e : N = 2 ^ m * (2 ^ i + 2 ^ i) := by rw [hN, hm, Nat.pow_add, pow2_succ, Nat.mul_comm]
  rw [e] at hq ⊢
  exact Nat.mul_le_mul_right _ (Nat.lt_of_mul_lt_mul_right hq)

theorem wpIn_named {F : Fence} {m : Nat} {P : Program} {c : Code} {Q : Exit → Act → World → Prop} {a : Act} (K : World → Prop) {w : World} (hK : K w) (h : ∀ W, K W → c.wpIn F m P Q a W) : c.wpIn F m P Q a w := h w hK
theorem one_ownF {β : Type} (b : Nat) (t : TypeId) (f : β → Value) : Own (fun s W => One W b t (f s)) := fun _ _ _ _ hs hg hr => (grownBy_keeps_cells hg hr hs rfl).trans hs
theorem row_ownF {β : Type} (b : Nat) (f : β → List F) : Own (fun s W => RowF W b (f s)) := fun _ _ _ _ hs hg hr => (grownBy_keeps_cells hg hr hs rfl).trans hs
theorem and_ownF {β : Type} {I J : β → World → Prop} (h : Own I) (k : Own J) : Own (fun s W => I s W ∧ J s W) := fun s X Y row hs hg hr => ⟨h s X Y row hs.1 hg hr, k s X Y row hs.2 hg hr⟩
theorem keepsOthers_below {W W1 : World} (hb : Below W.heap.size W W1) : KeepsOthers W W1 := ⟨hb.size, fun _ _ hk _ => heap_keep hk hb⟩
theorem keepsOthers_grown {W W' : World} {g : Nat} {xs : List F} (hg : W.grownBy W' (some g)) (hr : RowF W g xs) : KeepsOthers W W' := ⟨hg.size, fun k o hk ho => (hg.block k (Array.getElem?_eq_some_iff.1 hk).1 (fun e => by injection e with e; subst e; unfold RowF at hr; rw [hr] at hk; injection hk with hk; subst hk; cases ho)).trans hk⟩
theorem butterflies_L (g o h L gp N : Nat) (f P : Nat → F) (w : World) (hL : L = h + h) (hr : RowF w g (tabF N f)) (hp : RowF w gp (tabF h P)) (hg : g ≠ gp) (h1 : 1 ≤ h) (ho : o + L ≤ N) (hN : N ≤ 65536) :
    Calls Try.prog 43 #[.slice (some ⟨g, o, none⟩) L L, .slice (some ⟨gp, 0, none⟩) h h] w fun e w' => (∃ v, e = .returned v) ∧ RowF w' g (tabF N (bfF f o h P h)) ∧ w.grownBy w' (some g) := by
  subst hL
  exact butterflies_any g o h gp N f P w hr hp hg h1 ho hN

/-- the inner loop: q blocks are done -/
def BlkI (f P : Nat → F) (H N g : Nat) (w : World) (v : Value) (wr : World) : Prop :=
  ∃ q O : Nat, O = q * (H + H) ∧ O ≤ N ∧ (O < N → v = .slice (some ⟨g, O, none⟩) (N - O) (N - O)) ∧ (O = N → ∃ A, v = .slice A 0 0) ∧ RowF wr g (tabF N (blkF f H P q)) ∧ w.grownBy wr (some g)
def lenV : Value → Nat
  | .slice _ k _ => k
  | _ => 0
/-- what memory holds after the rounds pre -/
def TrI {K : Nat} (xs : List F) (N : Nat) (w W1 : World) (pre : List (Fin K)) (W : World) : Prop :=
  (One W W1.heap.size 22 (.slice (some ⟨w.heap.size, 0, none⟩) N N) ∧ RowF W w.heap.size (tabF N (runF (cfF xs) pre))) ∧ Below w.heap.size w W
theorem TrI.own {K : Nat} (xs : List F) (N : Nat) (w W1 : World) (B : Nat) (hB : w.heap.size ≤ B) : OwnFrom B (TrI (K := K) xs N w W1) :=
  OwnFrom.and (Own.from (and_ownF (one_ownF _ _ _) (row_ownF _ _)) _) (ownFrom_below (Nat.le_refl _) hB)

set_option maxRecDepth 100000 in
set_option maxHeartbeats 4000000 in
theorem transform_any (A : Option Addr) (n c : Nat) (xs : List F) (N K : Nat) (w : World) (h : Sf w A n c xs) (hN : N = 2 ^ K) (hK : K ≤ 16) (hn : n ≤ N) :
    Calls Try.prog 33 #[.slice A n c, .int .i64 (N : Int)] w fun e w' => ∃ g, e = .returned (.slice (some ⟨g, 0, none⟩) N N) ∧ w.heap.size ≤ g ∧ RowF w' g (tabF N (fwdF (cfF xs) K)) ∧ Below w.heap.size w w' := by
  refine (callsIn_wide (n := 3)).1 ?_
  refine callsIn_of_wp_marks Try.func33 rfl trivial ?_ rfl
  have HN := Lib.hid hN
  have HS := Lib.hid h
  clear hN h
  simp only [Try.ntmps33, List.size_toArray, List.length_cons, List.length_nil, Nat.reduceAdd, Nat.reduceSub, Array.replicate_succ, Array.replicate_zero, List.push_toArray, List.append_toArray, List.nil_append, List.cons_append]
  gi_wp2_with (refine ⟨trivial, ?_⟩; gi_at_call 40; refine (callsIn_wide.2 (scatter_any A n c xs N K _ HS.out HN.out hK hn)).mono ?_; rintro e W1 ⟨rfl, hr, hb⟩; have HR := Lib.hid hr; have HB := Lib.hid hb; clear hr hb)
  refine ⟨trivial, ?_⟩
  refine (callsIn_wide.2 (lengths_any (N : Int) _)).mono ?_
  rintro e w' ⟨rfl, rfl⟩
  gi_wp2
  have hwW := HR.out.lt
  refine wpIn_named (fun W => Below W1.heap.size W1 W ∧ One W W1.heap.size 22 (.slice (some ⟨w.heap.size, 0, none⟩) N N) ∧ One W (W1.heap.size + 1) 3 (.int .i64 (N : Int))) ⟨((Below.refl _ _).alloc (Nat.le_refl _) _).alloc (by simp) _, (One.new _ _ _).alloc _, by have := One.new (W1.alloc (.cells #[.slice (some ⟨w.heap.size, 0, none⟩) N N] 22)) 3 (.int .i64 (N : Int)); simpa using this⟩ (fun W hW => ?_)
  obtain ⟨hBW, g5, gN⟩ := hW
  have HBW := Lib.hid (bel_step HB.out hBW)
  have HRW := Lib.hid (HR.out.keep hBW)
  clear hBW HR HB
  refine wpIn_rangeFunc_ownF rfl (by omega) (gf := 47) (lb := #[.pointer (some ⟨W1.heap.size + 1, 0, none⟩)]) rfl trivial (enters_of Try.func47 (by kernel_rfl) rfl) (lengths_stops _ N K HN.out hK W (One.c gN)) keepsC_t keepsC_b (Below.refl _ _) (fun _ => rfl)
    (TrI (K := K) xs N w W1) (fun _ _ _ => False) (TrI.own xs N w W1 _ HBW.out.size) (fun _ _ _ _ _ hs _ _ => hs) ⟨⟨g5, HRW.out⟩, HBW.out⟩
    (fun i => { tmps := #[.slice A n c, .int .i64 (N : Int), undef, undef, .slice none 0 0, .pointer (some ⟨W1.heap.size, 0, none⟩), .int .i64 ((i.val : Int) + 1), .int .i64 ((pwN (i.val + 1) : Nat) : Int), undef, undef, .slice A n c, .int .i64 (N : Int), .slice (some ⟨w.heap.size, 0, none⟩) N N, .int .i64 (N : Int), .func (.func 47) #[] #[.pointer (some ⟨W1.heap.size + 1, 0, none⟩)], .int .i64 ((i.val : Int) + 1), .int .i64 ((pwN (i.val + 1) : Nat) : Int), undef, undef, undef, undef, undef, undef, undef, undef, undef, undef, undef, undef, undef, undef, undef, undef], defers := [] }) ?assign ?body ?done ?stop
  case assign =>
    intro l b W K hK
    gi_wp2
    exact hK
  case body =>
    clear g5 gN HBW HRW
    rintro l pre i Wb ⟨⟨h5, hr⟩, hB⟩ _
    obtain ⟨f, hf⟩ : ∃ f, f = runF (cfF xs) pre := ⟨_, rfl⟩
    have HF := Lib.hid hf
    rw [← hf] at hr
    clear hf
    obtain ⟨H, hH⟩ : ∃ H, H = 2 ^ i.val := ⟨_, rfl⟩
    have hH1 : 1 ≤ H := by rw [hH]; exact Nat.two_pow_pos _
    have hi := i.isLt
    have hL : pwN (i.val + 1) = H + H := by rw [hH]; exact pwN_succ _
    have hN2 : N ≤ 65536 := by rw [HN.out]; exact pow2_le hK
    have hLN : H + H ≤ N := by
      have := blocks (q := 0) HN.out hi (by rw [Nat.zero_mul, HN.out]; exact Nat.two_pow_pos _)
      rw [← hH] at this
      omega
    generalize hLe : pwN (i.val + 1) = L at *
    have HH := Lib.hid hH
    have HL := Lib.hid hL
    have H5 := Lib.hid h5
    have HR := Lib.hid hr
    have HB := Lib.hid hB
    have hL1 : 1 ≤ L := by omega
    have hL2 : L ≤ N := by omega
    have c5 := h5.c
    clear hH hL h5 hr hB hLe hLN
    gi_wp2_with (refine ⟨trivial, ?_⟩; gi_at_call 42; refine (CallsIn.inRound l (callsIn_wide.2 (rootPowers_any i.val H _ HH.out (by omega)))).mono ?_; rintro e Wp ⟨rfl, hp, hb⟩; have HP := Lib.hid hp; have HBp := Lib.hid hb; replace c5 := cell_keep c5 hb; clear hp hb)
    have HRp := Lib.hid (HR.out.keep HBp.out)
    have H5p := Lib.hid (H5.out.keep HBp.out)
    have hgw : w.heap.size < Wb.heap.size := HR.out.lt
    gi_loopw [9] (fun v wr => BlkI f (fun t : Nat => rootF (i.val + 1) ^ t) H N w.heap.size Wp v wr) (fun v _ => lenV v)
    case atStart => exact ⟨0, 0, (Nat.zero_mul _).symm, Nat.zero_le _, fun _ => rfl, fun h => by omega, by rw [tabF_congr (g := f) fun p _ => blk_zero f H _ p]; exact HRp.out, World.grownBy.refl _ _⟩
    case round =>
      obtain ⟨q, O, hO, hON, hv1, hv2, hr, hg⟩ := hrel
      have HO := Lib.hid hO
      have HR1 := Lib.hid hr
      have HG := Lib.hid hg
      clear hO hr hg
      by_cases hlt : O < N
      · obtain rfl := hv1 hlt
        have hnext : O + L ≤ N := by
          have := blocks (q := q) HN.out hi (by rw [← HH.out, ← HO.out]; exact hlt)
          rw [← HH.out, Nat.add_mul, Nat.one_mul, ← HO.out, ← HL.out] at this
          exact this
        have HP1 := Lib.hid (HP.out.same (HG.out.block _ HP.out.lt (fun e => by injection e with e; omega)))
        have hd1 : 0 < N - O := by omega
        have hd2 : L ≤ N - O := by omega
        have hd3 : (L : Int) ≤ ((N - O : Nat) : Int) := by omega
        clear hv1 hv2
        by_cases hlast : N - O = L
        · gi_wp2_with (refine ⟨trivial, ?_⟩; gi_at_call 43; refine (CallsIn.inRound l (callsIn_wide.2 (butterflies_L w.heap.size O H L Wb.heap.size N (blkF f H (fun t : Nat => rootF (i.val + 1) ^ t) q) (fun t : Nat => rootF (i.val + 1) ^ t) _ HL.out HR1.out HP1.out (by omega) hH1 hnext hN2))).mono ?_; rintro e W2 ⟨⟨v, rfl⟩, hr2, hg2⟩; have HR2 := Lib.hid hr2; have HG2 := Lib.hid hg2; clear hr2 hg2)
          have hr3 := HR2.out
          have e3 := blk_step (f := f) (q := q) (N := N) (P := fun t : Nat => rootF (i.val + 1) ^ t) hH1
          rw [← HO.out] at e3
          rw [e3] at hr3
          have hO3 : O + L = (q + 1) * (H + H) := by rw [Nat.add_mul, Nat.one_mul, ← HO.out, HL.out]
          exact ⟨⟨q + 1, O + L, hO3, hnext, fun h => by omega, fun _ => ⟨_, rfl⟩, hr3, grown_trans HG.out HG2.out⟩, by show 0 < N - O; omega⟩
        · have hl2 : ¬ N - O = L := hlast
          have hl3 : ¬ L = N - O := fun h => hlast h.symm
          clear hlast
          gi_wp2_with (refine ⟨trivial, ?_⟩; gi_at_call 43; refine (CallsIn.inRound l (callsIn_wide.2 (butterflies_L w.heap.size O H L Wb.heap.size N (blkF f H (fun t : Nat => rootF (i.val + 1) ^ t) q) (fun t : Nat => rootF (i.val + 1) ^ t) _ HL.out HR1.out HP1.out (by omega) hH1 hnext hN2))).mono ?_; rintro e W2 ⟨⟨v, rfl⟩, hr2, hg2⟩; have HR2 := Lib.hid hr2; have HG2 := Lib.hid hg2; clear hr2 hg2)
          have hr3 := HR2.out
          have e3 := blk_step (f := f) (q := q) (N := N) (P := fun t : Nat => rootF (i.val + 1) ^ t) hH1
          rw [← HO.out] at e3
          rw [e3] at hr3
          have hO3 : O + L = (q + 1) * (H + H) := by rw [Nat.add_mul, Nat.one_mul, ← HO.out, HL.out]
          exact ⟨⟨q + 1, O + L, hO3, hnext, fun _ => by rw [Nat.sub_sub], fun h => by omega, hr3, grown_trans HG.out HG2.out⟩, by show N - O - L < N - O; omega⟩
      · obtain rfl : O = N := by omega
        obtain ⟨A9, rfl⟩ := hv2 rfl
        clear hv1 hv2
        gi_wp2
        have hne : ∀ k, W1.heap.size ≤ k → some k ≠ some w.heap.size := fun k hk e => by injection e with e; omega
        refine ⟨(keepsOthers_below HBp.out).trans (keepsOthers_grown HG.out HRp.out), fun v hv => ?_, ⟨(HG.out.block _ H5p.out.lt (hne _ (Nat.le_refl _))).trans H5p.out, ?_⟩, Below.grown (bel_step HB.out HBp.out) HG.out (by have := HB.out.size; have := HBp.out.size; omega) (fun k e => by injection e with e; omega)⟩
        · have h1 := cell_keep hv HBp.out
          exact (World.cell?_of_block (HG.out.block _ (World.block_lt_of_cell? _ _ h1) (hne _ (Nat.le_succ _)))).trans h1
        · have h1 := HR1.out
          rw [blk_last HO.out.symm] at h1
          rw [runF_snoc, ← HF.out]
          unfold stepF
          rw [← HH.out]
          exact h1
  case done =>
    rintro D ys W2 hD hys ⟨⟨h5, hr⟩, hB2⟩ hK2
    rw [runF_all _ (by omega) hys, tabF_congr (g := fwdF (cfF xs) K) (fun p hp => stF_last _ (by rw [← HN.out]; exact hp))] at hr
    have c5 := h5.c
    have HR := Lib.hid hr
    have HK := Lib.hid hK2
    have HB2 := Lib.hid hB2
    have HD := Lib.hid hD
    clear hr h5 hK2 hB2 hD hys g5 gN HRW
    gi_wp2
    refine ⟨by simp, .inl ⟨_, _, rfl, run_takeDeferred HK.out, ?_⟩⟩
    refine ⟨.slice (some ⟨w.heap.size, 0, none⟩) N N, by simp [results, Try.results33, go_sem], _, rfl, Nat.le_refl _, ?_⟩
    exact ⟨(grownBy_keeps_cells (grownBy_putObj' _ D (.deferred none)) (fun r e => by cases e; exact ⟨_, HK.out, rfl⟩) HR.out rfl).trans HR.out, HB2.out.trans (belowK_b (w := W) HBW.out.size _ D _ _ HD.out HK.out rfl rfl)⟩
  case stop =>
    rintro D c pre W _ _ h _
    exact h.elim

end Go.Proofs.Ytihneehceclffaa
