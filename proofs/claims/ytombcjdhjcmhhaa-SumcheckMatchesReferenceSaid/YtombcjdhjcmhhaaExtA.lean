/- Contracts of package ext, its linear functions: each returns the element of the extension field and only adds to memory; no conditions. -/
import Derived.Test.YtombcjdhjcmhhaaFieldF
import Derived.Test.YtombcjdhjcmhhaaEx
import Derived.Test.YtombcjdhjcmhhaaOrd
import Derived.Test.YtombcjdhjcmhhaaExtV
namespace Go.Proofs.Ytombcjdhjcmhhaa
set_option maxRecDepth 8000
open Go.RowKit Gold
set_option maxHeartbeats 400000 in
theorem extAdd_comp (x y : E2) (B : Nat) (w : World) (hf : w.cell? ⟨B, 0, none⟩ = some (.func (.func 65) #[] #[])) :
    Calls Try.prog 84 #[.agg #[.int .u64 (vF x.A), .int .u64 (vF x.B)], .agg #[.int .u64 (vF y.A), .int .u64 (vF y.B)], .pointer (some ⟨B, 0, none⟩)] w fun e w' => e = .returned (.agg #[.int .u64 (vF (x.A + y.A)), .int .u64 (vF (x.B + y.B))]) ∧ Below w.heap.size w w' := by
  go_enter Try.func84, Try.ntmps84
  go_wp2_with fail
  refine wp_named3 (fun W hB g0 g1 g2 hz => ?_)
  have lf := Later.cell (cell_keep hf hB)
  have HB := Lib.hid hB
  have c00 := Two.c0 g0; have c01 := Two.c1 g0; have c10 := Two.c0 g1; have c11 := Two.c1 g1; have c20 := Two.c0 g2; have c21 := Two.c1 g2; have f20 := Two.f0 g2; have f21 := Two.f1 g2
  clear hB g0 g1 g2
  have l00 := Later.cell c00; have l01 := Later.cell c01; have l10 := Later.cell c10; have l11 := Later.cell c11
  refine wp_later_tail 13 (by kernel_rfl) (by kernel_rfl) ?_
  simp only [List.take_succ_cons, List.take_zero, List.drop_succ_cons, List.drop_zero]
  repeat (go_big_quiet_step (((go_at_call 65; with_reducible exact Calls.later_same (addF _ _ _)))))
  refine wpQuiet_nil ?_
  intro X
  clear l00 l01 l10 l11
  have hb := X.below; replace f20 := free_after hb c20 f20; replace f21 := free_after hb c21 f21; replace c00 := cell_after hb c00; replace c01 := cell_after hb c01; replace c10 := cell_after hb c10; replace c11 := cell_after hb c11; replace c20 := cell_after hb c20; replace c21 := cell_after hb c21; replace HB := Lib.hid (HB.out.trans (hb.mono HB.out.size)); replace hz := Nat.lt_of_lt_of_le hz hb.size; clear hb
  go_wp2
  refine bodyPost_ret (v := .agg #[.int .u64 (vF (x.A + y.A)), .int .u64 (vF (x.B + y.B))]) (by simp [results, Try.results84, go_sem, c20, c21]) rfl ⟨ret_E2 (x := ⟨x.A + y.A, x.B + y.B⟩) rfl rfl, ?_⟩
  exact (HB.out.setCell (by simp; try omega) _).setCell (by simp; try omega) _

set_option maxHeartbeats 400000 in
theorem extSub_comp (x y : E2) (B : Nat) (w : World) (hf : w.cell? ⟨B, 0, none⟩ = some (.func (.func 79) #[] #[])) :
    Calls Try.prog 84 #[.agg #[.int .u64 (vF x.A), .int .u64 (vF x.B)], .agg #[.int .u64 (vF y.A), .int .u64 (vF y.B)], .pointer (some ⟨B, 0, none⟩)] w fun e w' => e = .returned (.agg #[.int .u64 (vF (x.A - y.A)), .int .u64 (vF (x.B - y.B))]) ∧ Below w.heap.size w w' := by
  go_enter Try.func84, Try.ntmps84
  go_wp2_with fail
  refine wp_named3 (fun W hB g0 g1 g2 hz => ?_)
  have lf := Later.cell (cell_keep hf hB)
  have HB := Lib.hid hB
  have c00 := Two.c0 g0; have c01 := Two.c1 g0; have c10 := Two.c0 g1; have c11 := Two.c1 g1; have c20 := Two.c0 g2; have c21 := Two.c1 g2; have f20 := Two.f0 g2; have f21 := Two.f1 g2
  clear hB g0 g1 g2
  have l00 := Later.cell c00; have l01 := Later.cell c01; have l10 := Later.cell c10; have l11 := Later.cell c11
  refine wp_later_tail 13 (by kernel_rfl) (by kernel_rfl) ?_
  simp only [List.take_succ_cons, List.take_zero, List.drop_succ_cons, List.drop_zero]
  repeat (go_big_quiet_step (((go_at_call 79; with_reducible exact Calls.later_same (subF _ _ _)))))
  refine wpQuiet_nil ?_
  intro X
  clear l00 l01 l10 l11
  have hb := X.below; replace f20 := free_after hb c20 f20; replace f21 := free_after hb c21 f21; replace c00 := cell_after hb c00; replace c01 := cell_after hb c01; replace c10 := cell_after hb c10; replace c11 := cell_after hb c11; replace c20 := cell_after hb c20; replace c21 := cell_after hb c21; replace HB := Lib.hid (HB.out.trans (hb.mono HB.out.size)); replace hz := Nat.lt_of_lt_of_le hz hb.size; clear hb
  go_wp2
  refine bodyPost_ret (v := .agg #[.int .u64 (vF (x.A - y.A)), .int .u64 (vF (x.B - y.B))]) (by simp [results, Try.results84, go_sem, c20, c21]) rfl ⟨ret_E2 (x := ⟨x.A - y.A, x.B - y.B⟩) rfl rfl, ?_⟩
  exact (HB.out.setCell (by simp; try omega) _).setCell (by simp; try omega) _

set_option maxHeartbeats 400000 in
theorem extMul_comp (x y : E2) (B : Nat) (w : World) (hf : w.cell? ⟨B, 0, none⟩ = some (.func (.func 94) #[] #[])) :
    Calls Try.prog 84 #[.agg #[.int .u64 (vF x.A), .int .u64 (vF x.B)], .agg #[.int .u64 (vF y.A), .int .u64 (vF y.B)], .pointer (some ⟨B, 0, none⟩)] w fun e w' => e = .returned (.agg #[.int .u64 (vF (x.A * y.A)), .int .u64 (vF (x.B * y.B))]) ∧ Below w.heap.size w w' := by
  go_enter Try.func84, Try.ntmps84
  go_wp2_with fail
  refine wp_named3 (fun W hB g0 g1 g2 hz => ?_)
  have lf := Later.cell (cell_keep hf hB)
  have HB := Lib.hid hB
  have c00 := Two.c0 g0; have c01 := Two.c1 g0; have c10 := Two.c0 g1; have c11 := Two.c1 g1; have c20 := Two.c0 g2; have c21 := Two.c1 g2; have f20 := Two.f0 g2; have f21 := Two.f1 g2
  clear hB g0 g1 g2
  have l00 := Later.cell c00; have l01 := Later.cell c01; have l10 := Later.cell c10; have l11 := Later.cell c11
  refine wp_later_tail 13 (by kernel_rfl) (by kernel_rfl) ?_
  simp only [List.take_succ_cons, List.take_zero, List.drop_succ_cons, List.drop_zero]
  repeat (go_big_quiet_step (((go_at_call 94; with_reducible exact Calls.later_same (mulF _ _ _)))))
  refine wpQuiet_nil ?_
  intro X
  clear l00 l01 l10 l11
  have hb := X.below; replace f20 := free_after hb c20 f20; replace f21 := free_after hb c21 f21; replace c00 := cell_after hb c00; replace c01 := cell_after hb c01; replace c10 := cell_after hb c10; replace c11 := cell_after hb c11; replace c20 := cell_after hb c20; replace c21 := cell_after hb c21; replace HB := Lib.hid (HB.out.trans (hb.mono HB.out.size)); replace hz := Nat.lt_of_lt_of_le hz hb.size; clear hb
  go_wp2
  refine bodyPost_ret (v := .agg #[.int .u64 (vF (x.A * y.A)), .int .u64 (vF (x.B * y.B))]) (by simp [results, Try.results84, go_sem, c20, c21]) rfl ⟨ret_E2 (x := ⟨x.A * y.A, x.B * y.B⟩) rfl rfl, ?_⟩
  exact (HB.out.setCell (by simp; try omega) _).setCell (by simp; try omega) _

set_option maxHeartbeats 400000 in
theorem ext_onComponents (f : FuncId) (w : World) :
    Calls Try.prog 64 #[.func (.func f) #[] #[]] w fun e w' => e = .returned (.func (.func 84) #[] #[.pointer (some ⟨w.heap.size, 0, none⟩)]) ∧ w' = w.alloc (.cells #[.func (.func f) #[] #[]] 84) := by
  go_enter Try.func64, Try.ntmps64
  go_wp2
  go_ret
  exact ⟨rfl, rfl⟩

set_option maxHeartbeats 400000 in
theorem extAdd_any (x y : E2) (w : World) :
    Calls Try.prog 47 #[.agg #[.int .u64 (vF x.A), .int .u64 (vF x.B)], .agg #[.int .u64 (vF y.A), .int .u64 (vF y.B)]] w fun e w' => e = .returned (.agg #[.int .u64 (vF (x + y).A), .int .u64 (vF (x + y).B)]) ∧ Below w.heap.size w w' := by
  go_enter Try.func47, Try.ntmps47
  go_wp2_with fail
  refine wp_named3 (fun W hB g0 g1 g2 hz => ?_)
  have HB := Lib.hid hB
  have c00 := Two.c0 g0; have c01 := Two.c1 g0; have c10 := Two.c0 g1; have c11 := Two.c1 g1; have c20 := Two.c0 g2; have c21 := Two.c1 g2; have f20 := Two.f0 g2; have f21 := Two.f1 g2
  clear hB g0 g1 g2
  go_region_held3 (fun w' => w'.cell? ⟨w.heap.size, 0, none⟩ = some (.int .u64 (vF x.A)) ∧ w'.cell? ⟨w.heap.size, 1, none⟩ = some (.int .u64 (vF x.B)) ∧ w'.cell? ⟨w.heap.size + 1, 0, none⟩ = some (.int .u64 (vF y.A)) ∧ w'.cell? ⟨w.heap.size + 1, 1, none⟩ = some (.int .u64 (vF y.B)) ∧ Below w.heap.size w w')
    (first
      | exact ⟨c00, c01, c10, c11, HB.out.drew⟩
      | (obtain ⟨h1, h2, h3, h4, h5⟩ : (World.cell? _ ⟨w.heap.size, 0, none⟩ = _ ∧ _ ∧ _ ∧ _ ∧ Below w.heap.size w _) := by assumption
         exact ⟨cell_keep h1 hb, cell_keep h2 hb, cell_keep h3 hb, cell_keep h4 hb, h5.trans (hb.mono h5.size)⟩)
      | (obtain ⟨h1, h2, h3, h4, h5⟩ : (World.cell? _ ⟨w.heap.size, 0, none⟩ = _ ∧ _ ∧ _ ∧ _ ∧ Below w.heap.size w _) := by assumption
         exact ⟨cell_alloc c00 _, cell_alloc c01 _, cell_alloc c10 _, cell_alloc c11 _, (HB.out.alloc HB.out.size _).drew⟩)
      | (obtain ⟨h1, h2, h3, h4, h5⟩ : (World.cell? _ ⟨w.heap.size, 0, none⟩ = _ ∧ _ ∧ _ ∧ _ ∧ Below w.heap.size w _) := by assumption
         refine ⟨cell_far (cell_far h1 ?_ _) ?_ _, cell_far (cell_far h2 ?_ _) ?_ _, cell_far (cell_far h3 ?_ _) ?_ _, cell_far (cell_far h4 ?_ _) ?_ _, (h5.setCell ?_ _).setCell ?_ _⟩ <;> (simp; try omega)))
    (first
      | (go_at_call 64; refine (ext_onComponents _ _).mono ?_; rintro e w' ⟨rfl, rfl⟩)
      | (go_at_call 84; refine (extAdd_comp x y _ _ (by simp)).mono ?_; rintro e w' ⟨rfl, hb⟩; have d20 := cell_after hb (cell_alloc c20 _); have d21 := cell_after hb (cell_alloc c21 _); have e20 := free_after hb (cell_alloc c20 _) (free_alloc c20 f20 _); have e21 := free_after hb (cell_alloc c21 _) (free_alloc c21 f21 _)))
  go_wp2
  obtain ⟨h1, h2, h3, h4, h5⟩ : (World.cell? _ ⟨w.heap.size, 0, none⟩ = _ ∧ _ ∧ _ ∧ _ ∧ Below w.heap.size w _) := by assumption
  exact bodyPost_ret (v := .agg #[.int .u64 (vF (x.A + y.A)), .int .u64 (vF (x.B + y.B))]) (by simp [results, Try.results47, go_sem, d20, d21]) rfl ⟨rfl, h5⟩

set_option maxHeartbeats 400000 in
theorem extSub_any (x y : E2) (w : World) :
    Calls Try.prog 60 #[.agg #[.int .u64 (vF x.A), .int .u64 (vF x.B)], .agg #[.int .u64 (vF y.A), .int .u64 (vF y.B)]] w fun e w' => e = .returned (.agg #[.int .u64 (vF (x - y).A), .int .u64 (vF (x - y).B)]) ∧ Below w.heap.size w w' := by
  go_enter Try.func60, Try.ntmps60
  go_wp2_with fail
  refine wp_named3 (fun W hB g0 g1 g2 hz => ?_)
  have HB := Lib.hid hB
  have c00 := Two.c0 g0; have c01 := Two.c1 g0; have c10 := Two.c0 g1; have c11 := Two.c1 g1; have c20 := Two.c0 g2; have c21 := Two.c1 g2; have f20 := Two.f0 g2; have f21 := Two.f1 g2
  clear hB g0 g1 g2
  go_region_held3 (fun w' => w'.cell? ⟨w.heap.size, 0, none⟩ = some (.int .u64 (vF x.A)) ∧ w'.cell? ⟨w.heap.size, 1, none⟩ = some (.int .u64 (vF x.B)) ∧ w'.cell? ⟨w.heap.size + 1, 0, none⟩ = some (.int .u64 (vF y.A)) ∧ w'.cell? ⟨w.heap.size + 1, 1, none⟩ = some (.int .u64 (vF y.B)) ∧ Below w.heap.size w w')
    (first
      | exact ⟨c00, c01, c10, c11, HB.out.drew⟩
      | (obtain ⟨h1, h2, h3, h4, h5⟩ : (World.cell? _ ⟨w.heap.size, 0, none⟩ = _ ∧ _ ∧ _ ∧ _ ∧ Below w.heap.size w _) := by assumption
         exact ⟨cell_keep h1 hb, cell_keep h2 hb, cell_keep h3 hb, cell_keep h4 hb, h5.trans (hb.mono h5.size)⟩)
      | (obtain ⟨h1, h2, h3, h4, h5⟩ : (World.cell? _ ⟨w.heap.size, 0, none⟩ = _ ∧ _ ∧ _ ∧ _ ∧ Below w.heap.size w _) := by assumption
         exact ⟨cell_alloc c00 _, cell_alloc c01 _, cell_alloc c10 _, cell_alloc c11 _, (HB.out.alloc HB.out.size _).drew⟩)
      | (obtain ⟨h1, h2, h3, h4, h5⟩ : (World.cell? _ ⟨w.heap.size, 0, none⟩ = _ ∧ _ ∧ _ ∧ _ ∧ Below w.heap.size w _) := by assumption
         refine ⟨cell_far (cell_far h1 ?_ _) ?_ _, cell_far (cell_far h2 ?_ _) ?_ _, cell_far (cell_far h3 ?_ _) ?_ _, cell_far (cell_far h4 ?_ _) ?_ _, (h5.setCell ?_ _).setCell ?_ _⟩ <;> (simp; try omega)))
    (first
      | (go_at_call 64; refine (ext_onComponents _ _).mono ?_; rintro e w' ⟨rfl, rfl⟩)
      | (go_at_call 84; refine (extSub_comp x y _ _ (by simp)).mono ?_; rintro e w' ⟨rfl, hb⟩; have d20 := cell_after hb (cell_alloc c20 _); have d21 := cell_after hb (cell_alloc c21 _); have e20 := free_after hb (cell_alloc c20 _) (free_alloc c20 f20 _); have e21 := free_after hb (cell_alloc c21 _) (free_alloc c21 f21 _)))
  go_wp2
  obtain ⟨h1, h2, h3, h4, h5⟩ : (World.cell? _ ⟨w.heap.size, 0, none⟩ = _ ∧ _ ∧ _ ∧ _ ∧ Below w.heap.size w _) := by assumption
  exact bodyPost_ret (v := .agg #[.int .u64 (vF (x.A - y.A)), .int .u64 (vF (x.B - y.B))]) (by simp [results, Try.results60, go_sem, d20, d21]) rfl ⟨rfl, h5⟩

set_option maxHeartbeats 400000 in
theorem extMulBase_any (x : E2) (a : F) (w : World) :
    Calls Try.prog 111 #[.agg #[.int .u64 (vF x.A), .int .u64 (vF x.B)], .int .u64 (vF a)] w fun e w' => e = .returned (.agg #[.int .u64 (vF (x * E2.ofF a).A), .int .u64 (vF (x * E2.ofF a).B)]) ∧ Below w.heap.size w w' := by
  go_enter Try.func111, Try.ntmps111
  go_wp2_with fail
  refine wp_named2 (fun W hB g0 g1 hz => ?_)
  have HB := Lib.hid hB
  have c00 := Two.c0 g0; have c01 := Two.c1 g0; have c10 := Two.c0 g1; have c11 := Two.c1 g1; have f10 := Two.f0 g1; have f11 := Two.f1 g1
  clear hB g0 g1
  go_region_held3 (fun w' => w'.cell? ⟨w.heap.size, 0, none⟩ = some (.int .u64 (vF x.A)) ∧ w'.cell? ⟨w.heap.size, 1, none⟩ = some (.int .u64 (vF x.B)) ∧ Below w.heap.size w w')
    (first
      | exact ⟨c00, c01, HB.out.drew⟩
      | (obtain ⟨h1, h2, h3⟩ : (World.cell? _ ⟨w.heap.size, 0, none⟩ = _ ∧ _ ∧ Below w.heap.size w _) := by assumption
         exact ⟨cell_keep h1 hb, cell_keep h2 hb, h3.trans (hb.mono h3.size)⟩)
      | (obtain ⟨h1, h2, h3⟩ : (World.cell? _ ⟨w.heap.size, 0, none⟩ = _ ∧ _ ∧ Below w.heap.size w _) := by assumption
         exact ⟨cell_alloc c00 _, cell_alloc c01 _, (HB.out.alloc HB.out.size _).drew⟩)
      | (obtain ⟨h1, h2, h3⟩ : (World.cell? _ ⟨w.heap.size, 0, none⟩ = _ ∧ _ ∧ Below w.heap.size w _) := by assumption
         refine ⟨cell_far (cell_far h1 ?_ _) ?_ _, cell_far (cell_far h2 ?_ _) ?_ _, (h3.setCell ?_ _).setCell ?_ _⟩ <;> (simp; try omega)))
    (first
      | (go_at_call 64; refine (ext_onComponents _ _).mono ?_; rintro e w' ⟨rfl, rfl⟩)
      | (go_at_call 84; refine (extMul_comp x ⟨a, a⟩ _ _ (by simp)).mono ?_; rintro e w' ⟨rfl, hb⟩; have d20 := cell_after hb (cell_alloc c10 _); have d21 := cell_after hb (cell_alloc c11 _); have e20 := free_after hb (cell_alloc c10 _) (free_alloc c10 f10 _); have e21 := free_after hb (cell_alloc c11 _) (free_alloc c11 f11 _)))
  go_wp2
  obtain ⟨h1, h2, h3⟩ : (World.cell? _ ⟨w.heap.size, 0, none⟩ = _ ∧ _ ∧ Below w.heap.size w _) := by assumption
  exact bodyPost_ret (v := .agg #[.int .u64 (vF (x.A * a)), .int .u64 (vF (x.B * a))]) (by simp [results, Try.results111, go_sem, d20, d21]) rfl ⟨ret_E2 (x := x * E2.ofF a) (mulBase_A x a) (mulBase_B x a), h3⟩

theorem extSub_zero (y : E2) (w : World) : Calls Try.prog 60 #[.agg #[.int .u64 0, .int .u64 0], .agg #[.int .u64 (vF y.A), .int .u64 (vF y.B)]] w fun e w' => e = .returned (.agg #[.int .u64 (vF (-y).A), .int .u64 (vF (-y).B)]) ∧ Below w.heap.size w w' := by
  have h := extSub_any E2.zero y w
  rw [show E2.zero - y = -y from E2.ext' (by show 0 - y.A = -y.A; grind) (by show 0 - y.B = -y.B; grind)] at h
  exact h

set_option maxHeartbeats 400000 in
theorem extNeg_any (x : E2) (w : World) :
    Calls Try.prog 104 #[.agg #[.int .u64 (vF x.A), .int .u64 (vF x.B)]] w fun e w' => e = .returned (.agg #[.int .u64 (vF (-x).A), .int .u64 (vF (-x).B)]) ∧ Below w.heap.size w w' := by
  go_enter Try.func104, Try.ntmps104
  go_wp2_with fail
  refine calls_named2 (fun W hB g0 g1 hz => ?_)
  have HB := Lib.hid hB
  have c00 := Two.c0 g0; have c01 := Two.c1 g0; have c10 := Two.c0 g1; have c11 := Two.c1 g1; have f10 := Two.f0 g1; have f11 := Two.f1 g1
  clear hB g0 g1
  go_wp2_with (first
    | (go_at_call 60; ((with_reducible refine (extSub_zero x _).mono ?_)); rintro e W1 ⟨rfl, hb⟩; replace f10 := free_after hb c10 f10; replace f11 := free_after hb c11 f11; replace c00 := cell_after hb c00; replace c01 := cell_after hb c01; replace c10 := cell_after hb c10; replace c11 := cell_after hb c11; replace HB := Lib.hid (HB.out.trans (hb.mono HB.out.size)); replace hz := Nat.lt_of_lt_of_le hz hb.size; clear hb))
  refine bodyPost_ret (v := .agg #[.int .u64 (vF ((-x).A)), .int .u64 (vF ((-x).B))]) (by simp [results, Try.results104, go_sem, c10, c11]) rfl ⟨ret_E2 (x := -x) rfl rfl, ?_⟩
  exact (HB.out.setCell (by simp; try omega) _).setCell (by simp; try omega) _

end Go.Proofs.Ytombcjdhjcmhhaa
