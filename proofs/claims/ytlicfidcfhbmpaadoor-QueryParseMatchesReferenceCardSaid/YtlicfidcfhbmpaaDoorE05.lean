/- Several texts in one: Ye. -/
import Derived.Test.YtlicfidcfhbmpaaDoorE04
set_option linter.unusedVariables false
set_option linter.unusedSimpArgs false
set_option linter.unusedSectionVars false
namespace Go.Proofs.YtlicfidcfhbmpaaDoor
set_option maxRecDepth 8000
open Go.RowKit Go.Proofs.YtlicfidcfhbmpaaDoor.K
attribute [local irreducible] wpList wpQuiet
set_option maxRecDepth 100000 in
set_option maxHeartbeats 16000000 in
theorem begins_yes (s : List UInt8) (hs4 : s.length ≤ 1000) (bs : Nat) (i : Nat) (hi : i ≤ s.length) (g : List UInt8) (hg4 : g.length ≤ 1000) (hb : Qu.bgN s i g = true) (w : World) (hS : w.heap[bs]? = some (.cells #[.string (sB s), .int .i64 (i : Int)] 66 (0, 0))) :
  Calls Tryd.prog 56 #[.pointer (some ⟨bs, 0, none⟩), .string (sB g)] w fun e w' => e = .returned (.bool true) ∧ w'.heap[bs]? = some (.cells #[.string (sB s), .int .i64 (((i + g.length : Nat)) : Int)] 66 (0, 0)) ∧ FarC bs bs w w' := by
 obtain ⟨V, hV0, hV⟩ := base_world w
 have B0 := zh hV
 have HVW := zh hV
 clear hV
 have HF := zh (FarH.refl bs bs w)
 obtain ⟨n, hn⟩ : ∃ n, s.length = n := ⟨_, rfl⟩
 have HN := zh hn
 rw [hn] at hs4 hi
 have Hpbs : Hid (w.heap[bs]? = some (.cells #[.string (sB s), .int .i64 (i : Int)] 66 (0, 0))) := zh (hS)
 have Gpbs : Hid (V.heap.size ≤ bs) := zh (by omega)
 have Lpbs : Hid (bs < w.heap.size) := zh (xp_lt Hpbs.out)
 clear hS hn
 go_enter Tryd.func56, Tryd.ntmps56
 go_upto_region 1 with fail
 obtain ⟨gl, hgl⟩ : ∃ gl, g.length = gl := ⟨_, rfl⟩
 have HGL := zh hgl
 rw [hgl] at hg4
 clear hgl
 have hb2 := hb
 unfold Qu.bgN at hb2
 rw [HGL.out, HN.out] at hb2
 simp only [Bool.and_eq_true, decide_eq_true_eq] at hb2
 obtain ⟨hb3, hb4⟩ := hb2
 clear hb
 have HB4 := zh hb4
 clear hb4
 have hci0 : ¬ (((n - i : Nat) : Int) < (gl : Int)) := by omega
 have hln := HN.out
 refine wp_later_lex (by kernel_rfl) (lexOK_of (by kernel_rfl) (by kernel_rfl)) ?_
 refine zv (.pointer (some ⟨bs, 0, none⟩)) (fun v hv => rfl) ?_
 simp only [Act.put, zA]
 refine zv (.pointer (some ⟨bs, 0, none⟩)) (fun v hv => (xo_nil _ rfl rfl)) ?_
 simp only [Act.put, zA]
 refine zv (.pointer (some ⟨bs, 0, none⟩)) (fun v hv => (xo_fld0 0 bs 0 (by kernel_rfl) rfl rfl)) ?_
 simp only [Act.put, zA]
 refine zv (.string (sB s)) (fun v hv => (xo_load1 ⟨bs, 0, none⟩ _ (cells_at (heap_keep Hpbs.out (later_bel hv)) 0 rfl) Tryd.underlying9 rfl rfl rfl)) ?_
 simp only [Act.put, zA]
 refine zv (.int .i64 (n : Int)) (fun v hv => (xs_lenN s n HN.out Tryd.underlying9 rfl rfl)) ?_
 simp only [Act.put, zA]
 refine zv (.pointer (some ⟨bs, 0, none⟩)) (fun v hv => rfl) ?_
 simp only [Act.put, zA]
 refine zv (.pointer (some ⟨bs, 0, none⟩)) (fun v hv => (xo_nil _ rfl rfl)) ?_
 simp only [Act.put, zA]
 refine zv (.pointer (some ⟨bs, 1, none⟩)) (fun v hv => (xo_fld0 1 bs 1 (by kernel_rfl) rfl rfl)) ?_
 simp only [Act.put, zA]
 refine zv (.int .i64 (i : Int)) (fun v hv => (xo_load1 ⟨bs, 1, none⟩ _ (cells_at (heap_keep Hpbs.out (later_bel hv)) 1 rfl) Tryd.underlying3 rfl rfl rfl)) ?_
 simp only [Act.put, zA]
 refine zv (.int .i64 ((n - i : Nat) : Int)) (fun v hv => (xo_subI (n : Int) (i : Int) ((n - i : Nat) : Int) (by omega) (by omega) (by omega) rfl rfl rfl)) ?_
 simp only [Act.put, zA]
 refine zv (.string (sB g)) (fun v hv => rfl) ?_
 simp only [Act.put, zA]
 refine zv (.int .i64 (gl : Int)) (fun v hv => (xs_lenN g gl HGL.out Tryd.underlying9 rfl rfl)) ?_
 simp only [Act.put, zA]
 refine zv (.bool false) (fun v hv => (xo_lssF .i64 ((n - i : Nat) : Int) (gl : Int) (by omega) rfl rfl rfl)) ?_
 simp only [Act.put, zA]
 refine zv (.bool false) (fun v hv => rfl) ?_
 simp only [Act.put, zA]
 refine zv (.pointer (some ⟨bs, 0, none⟩)) (fun v hv => rfl) ?_
 simp only [Act.put, zA]
 refine zv (.pointer (some ⟨bs, 0, none⟩)) (fun v hv => (xo_nil _ rfl rfl)) ?_
 simp only [Act.put, zA]
 refine zv (.pointer (some ⟨bs, 0, none⟩)) (fun v hv => (xo_fld0 0 bs 0 (by kernel_rfl) rfl rfl)) ?_
 simp only [Act.put, zA]
 refine zv (.string (sB s)) (fun v hv => (xo_load1 ⟨bs, 0, none⟩ _ (cells_at (heap_keep Hpbs.out (later_bel hv)) 0 rfl) Tryd.underlying9 rfl rfl rfl)) ?_
 simp only [Act.put, zA]
 refine zv (.pointer (some ⟨bs, 0, none⟩)) (fun v hv => rfl) ?_
 simp only [Act.put, zA]
 refine zv (.pointer (some ⟨bs, 0, none⟩)) (fun v hv => (xo_nil _ rfl rfl)) ?_
 simp only [Act.put, zA]
 refine zv (.pointer (some ⟨bs, 1, none⟩)) (fun v hv => (xo_fld0 1 bs 1 (by kernel_rfl) rfl rfl)) ?_
 simp only [Act.put, zA]
 refine zv (.int .i64 (i : Int)) (fun v hv => (xo_load1 ⟨bs, 1, none⟩ _ (cells_at (heap_keep Hpbs.out (later_bel hv)) 1 rfl) Tryd.underlying3 rfl rfl rfl)) ?_
 simp only [Act.put, zA]
 refine zv (.pointer (some ⟨bs, 0, none⟩)) (fun v hv => rfl) ?_
 simp only [Act.put, zA]
 refine zv (.pointer (some ⟨bs, 0, none⟩)) (fun v hv => (xo_nil _ rfl rfl)) ?_
 simp only [Act.put, zA]
 refine zv (.pointer (some ⟨bs, 1, none⟩)) (fun v hv => (xo_fld0 1 bs 1 (by kernel_rfl) rfl rfl)) ?_
 simp only [Act.put, zA]
 refine zv (.int .i64 (i : Int)) (fun v hv => (xo_load1 ⟨bs, 1, none⟩ _ (cells_at (heap_keep Hpbs.out (later_bel hv)) 1 rfl) Tryd.underlying3 rfl rfl rfl)) ?_
 simp only [Act.put, zA]
 refine zv (.string (sB g)) (fun v hv => rfl) ?_
 simp only [Act.put, zA]
 refine zv (.int .i64 (gl : Int)) (fun v hv => (xs_lenN g gl HGL.out Tryd.underlying9 rfl rfl)) ?_
 simp only [Act.put, zA]
 refine zv (.int .i64 ((i + gl : Nat) : Int)) (fun v hv => (xo_addI (i : Int) (gl : Int) ((i + gl : Nat) : Int) (by omega) (by omega) (by omega) rfl rfl rfl)) ?_
 simp only [Act.put, zA]
 refine zv (.string (sB ((s.take (i + gl)).drop i))) (fun v hv => (xs_cut s i (i + gl) (by omega) (by omega) Tryd.underlying9 rfl rfl rfl rfl)) ?_
 simp only [Act.put, zA]
 refine zv (.string (sB g)) (fun v hv => rfl) ?_
 simp only [Act.put, zA]
 refine zv (.bool false) (fun v hv => (xs_neF ((s.take (i + gl)).drop i) g HB4.out Tryd.underlying9 rfl rfl rfl)) ?_
 simp only [Act.put, zA]
 refine zv (.bool false) (fun v hv => rfl) ?_
 simp only [Act.put, zA]
 refine wpQuiet_nil ?_
 intro X1_1
 have hb := X1_1.below
 generalize X1_1.at = V2 at *
 have B1 := zh hb
 clear hb
 clear hln
 go_upto_region 3 with fail
 refine wp_region_lit ?_
 refine zr (.pointer (some ⟨bs, 0, none⟩)) V2 rfl ?_
 simp only [Act.put, zA]
 refine zr (.pointer (some ⟨bs, 0, none⟩)) V2 (xo_nil _ rfl rfl) ?_
 simp only [Act.put, zA]
 refine zr (.pointer (some ⟨bs, 1, none⟩)) V2 (xo_fld0 1 bs 1 (by kernel_rfl) rfl rfl) ?_
 simp only [Act.put, zA]
 refine zr (.int .i64 (i : Int)) V2 (xo_load1 ⟨bs, 1, none⟩ _ (cells_at (heap_keep Hpbs.out B1.out) 1 rfl) Tryd.underlying3 rfl rfl rfl) ?_
 simp only [Act.put, zA]
 refine zr (.string (sB g)) V2 rfl ?_
 simp only [Act.put, zA]
 refine zr (.int .i64 (gl : Int)) V2 (xs_lenN g gl HGL.out Tryd.underlying9 rfl rfl) ?_
 simp only [Act.put, zA]
 refine zr (.int .i64 ((i + gl : Nat) : Int)) V2 (xo_addI (i : Int) (gl : Int) ((i + gl : Nat) : Int) (by omega) (by omega) (by omega) rfl rfl rfl) ?_
 simp only [Act.put, zA]
 refine zr (.pointer (some ⟨bs, 0, none⟩)) V2 (xo_nil _ rfl rfl) ?_
 simp only [Act.put, zA]
 refine zr (.pointer (some ⟨bs, 1, none⟩)) V2 (xo_fld0 1 bs 1 (by kernel_rfl) rfl rfl) ?_
 simp only [Act.put, zA]
 refine wpList_store1 bs 1 #[.string (sB s), .int .i64 (i : Int)] (.int .i64 ((i + gl : Nat) : Int)) 66 (by kernel_rfl) (heap_keep Hpbs.out B1.out) (xo_store1 bs 1 #[.string (sB s), .int .i64 (i : Int)] _ (.int .i64 ((i + gl : Nat) : Int)) (heap_keep Hpbs.out B1.out) rfl (by kernel_rfl) rfl rfl rfl rfl) ?_
 intro X2_2 h1 hfar hbel hsz
 have YHF : FarH bs bs w X2_2 := FarH.store (HF.out.keep B1.out) (.inl rfl) hsz hfar
 have C0_2 := zb B0 B1
 have hbr := hbel _ _ Gpbs.out C0_2.out
 clear B0
 have B0 := zh hbr
 clear hbr
 clear HF
 have HF := zh YHF
 clear YHF
 clear Hpbs
 have Hpbs : Hid (X2_2.heap[bs]? = some (.cells #[.string (sB s), .int .i64 ((i + gl : Nat) : Int)] 66 (0, 0))) := zh (h1)
 have HszX2_2 := zh hsz
 clear h1 hfar hbel hsz
 simp only [ptr, Act.put, zA]
 refine wpList_nil ?_
 go_upto_region 4 with fail
 refine wp_region_lit ?_
 refine zr (.bool true) X2_2 rfl ?_
 simp only [Act.put, zA]
 refine wpList_nil ?_
 have hsf := Hpbs.out
 rw [← HGL.out] at hsf
 have hff := farc_mk HF.out HVW.out B0.out
 go_wp2_with fail
 go_ret
 exact ⟨rfl, hsf, hff⟩
set_option maxRecDepth 100000 in
set_option maxHeartbeats 16000000 in
theorem begins_no (s : List UInt8) (hs4 : s.length ≤ 1000) (bs : Nat) (i : Nat) (hi : i ≤ s.length) (g : List UInt8) (hg4 : g.length ≤ 1000) (hb : Qu.bgN s i g = false) (w : World) (hS : w.heap[bs]? = some (.cells #[.string (sB s), .int .i64 (i : Int)] 66 (0, 0))) :
  Calls Tryd.prog 56 #[.pointer (some ⟨bs, 0, none⟩), .string (sB g)] w fun e w' => e = .returned (.bool false) ∧ w'.heap[bs]? = some (.cells #[.string (sB s), .int .i64 (i : Int)] 66 (0, 0)) ∧ FarC bs bs w w' := by
 obtain ⟨V, hV0, hV⟩ := base_world w
 have B0 := zh hV
 have HVW := zh hV
 clear hV
 have HF := zh (FarH.refl bs bs w)
 obtain ⟨n, hn⟩ : ∃ n, s.length = n := ⟨_, rfl⟩
 have HN := zh hn
 rw [hn] at hs4 hi
 have Hpbs : Hid (w.heap[bs]? = some (.cells #[.string (sB s), .int .i64 (i : Int)] 66 (0, 0))) := zh (hS)
 have Gpbs : Hid (V.heap.size ≤ bs) := zh (by omega)
 have Lpbs : Hid (bs < w.heap.size) := zh (xp_lt Hpbs.out)
 clear hS hn
 go_enter Tryd.func56, Tryd.ntmps56
 go_upto_region 1 with fail
 obtain ⟨gl, hgl⟩ : ∃ gl, g.length = gl := ⟨_, rfl⟩
 have HGL := zh hgl
 rw [hgl] at hg4
 clear hgl
 have hb2 := hb
 unfold Qu.bgN at hb2
 rw [HGL.out, HN.out] at hb2
 clear hb
 by_cases hlt : n - i < gl
 ·have hci0 : (((n - i : Nat) : Int) < (gl : Int)) := by omega
  refine wp_later_lex (by kernel_rfl) (lexOK_of (by kernel_rfl) (by kernel_rfl)) ?_
  refine zv (.pointer (some ⟨bs, 0, none⟩)) (fun v hv => rfl) ?_
  simp only [Act.put, zA]
  refine zv (.pointer (some ⟨bs, 0, none⟩)) (fun v hv => (xo_nil _ rfl rfl)) ?_
  simp only [Act.put, zA]
  refine zv (.pointer (some ⟨bs, 0, none⟩)) (fun v hv => (xo_fld0 0 bs 0 (by kernel_rfl) rfl rfl)) ?_
  simp only [Act.put, zA]
  refine zv (.string (sB s)) (fun v hv => (xo_load1 ⟨bs, 0, none⟩ _ (cells_at (heap_keep Hpbs.out (later_bel hv)) 0 rfl) Tryd.underlying9 rfl rfl rfl)) ?_
  simp only [Act.put, zA]
  refine zv (.int .i64 (n : Int)) (fun v hv => (xs_lenN s n HN.out Tryd.underlying9 rfl rfl)) ?_
  simp only [Act.put, zA]
  refine zv (.pointer (some ⟨bs, 0, none⟩)) (fun v hv => rfl) ?_
  simp only [Act.put, zA]
  refine zv (.pointer (some ⟨bs, 0, none⟩)) (fun v hv => (xo_nil _ rfl rfl)) ?_
  simp only [Act.put, zA]
  refine zv (.pointer (some ⟨bs, 1, none⟩)) (fun v hv => (xo_fld0 1 bs 1 (by kernel_rfl) rfl rfl)) ?_
  simp only [Act.put, zA]
  refine zv (.int .i64 (i : Int)) (fun v hv => (xo_load1 ⟨bs, 1, none⟩ _ (cells_at (heap_keep Hpbs.out (later_bel hv)) 1 rfl) Tryd.underlying3 rfl rfl rfl)) ?_
  simp only [Act.put, zA]
  refine zv (.int .i64 ((n - i : Nat) : Int)) (fun v hv => (xo_subI (n : Int) (i : Int) ((n - i : Nat) : Int) (by omega) (by omega) (by omega) rfl rfl rfl)) ?_
  simp only [Act.put, zA]
  refine zv (.string (sB g)) (fun v hv => rfl) ?_
  simp only [Act.put, zA]
  refine zv (.int .i64 (gl : Int)) (fun v hv => (xs_lenN g gl HGL.out Tryd.underlying9 rfl rfl)) ?_
  simp only [Act.put, zA]
  refine zv (.bool true) (fun v hv => (xo_lssT .i64 ((n - i : Nat) : Int) (gl : Int) (by omega) rfl rfl rfl)) ?_
  simp only [Act.put, zA]
  refine zv (.bool true) (fun v hv => rfl) ?_
  simp only [Act.put, zA]
  refine BigFrame.wpQuiet_skip (by kernel_rfl) ?_
  try simp only [Act.put, zA]
  refine BigFrame.wpQuiet_skip (by kernel_rfl) ?_
  try simp only [Act.put, zA]
  refine BigFrame.wpQuiet_skip (by kernel_rfl) ?_
  try simp only [Act.put, zA]
  refine BigFrame.wpQuiet_skip (by kernel_rfl) ?_
  try simp only [Act.put, zA]
  refine BigFrame.wpQuiet_skip (by kernel_rfl) ?_
  try simp only [Act.put, zA]
  refine BigFrame.wpQuiet_skip (by kernel_rfl) ?_
  try simp only [Act.put, zA]
  refine BigFrame.wpQuiet_skip (by kernel_rfl) ?_
  try simp only [Act.put, zA]
  refine BigFrame.wpQuiet_skip (by kernel_rfl) ?_
  try simp only [Act.put, zA]
  refine BigFrame.wpQuiet_skip (by kernel_rfl) ?_
  try simp only [Act.put, zA]
  refine BigFrame.wpQuiet_skip (by kernel_rfl) ?_
  try simp only [Act.put, zA]
  refine BigFrame.wpQuiet_skip (by kernel_rfl) ?_
  try simp only [Act.put, zA]
  refine BigFrame.wpQuiet_skip (by kernel_rfl) ?_
  try simp only [Act.put, zA]
  refine BigFrame.wpQuiet_skip (by kernel_rfl) ?_
  try simp only [Act.put, zA]
  refine BigFrame.wpQuiet_skip (by kernel_rfl) ?_
  try simp only [Act.put, zA]
  refine BigFrame.wpQuiet_skip (by kernel_rfl) ?_
  try simp only [Act.put, zA]
  refine BigFrame.wpQuiet_skip (by kernel_rfl) ?_
  try simp only [Act.put, zA]
  refine BigFrame.wpQuiet_skip (by kernel_rfl) ?_
  try simp only [Act.put, zA]
  refine BigFrame.wpQuiet_skip (by kernel_rfl) ?_
  try simp only [Act.put, zA]
  refine zv (.bool true) (fun v hv => rfl) ?_
  simp only [Act.put, zA]
  refine wpQuiet_nil ?_
  intro X1_1
  have hb := X1_1.below
  generalize X1_1.at = V2 at *
  have B1 := zh hb
  clear hb
  go_upto_region 2 with fail
  refine wp_region_lit ?_
  refine zr (.bool false) V2 rfl ?_
  simp only [Act.put, zA]
  refine wpList_nil ?_
  have hsf := (heap_keep Hpbs.out B1.out)
  have C0_2 := zb B0 B1
  have hff := farc_mk (HF.out.keep B1.out) HVW.out C0_2.out
  go_wp2_with fail
  go_ret
  exact ⟨rfl, hsf, hff⟩
 ·have hb4 : ¬ (s.take (i + gl)).drop i = g := by
   intro e
   rw [e] at hb2
   simp at hb2
   omega
  have HB4 := zh hb4
  clear hb4 hb2
  have hci0 : ¬ (((n - i : Nat) : Int) < (gl : Int)) := by omega
  have hln := HN.out
  refine wp_later_lex (by kernel_rfl) (lexOK_of (by kernel_rfl) (by kernel_rfl)) ?_
  refine zv (.pointer (some ⟨bs, 0, none⟩)) (fun v hv => rfl) ?_
  simp only [Act.put, zA]
  refine zv (.pointer (some ⟨bs, 0, none⟩)) (fun v hv => (xo_nil _ rfl rfl)) ?_
  simp only [Act.put, zA]
  refine zv (.pointer (some ⟨bs, 0, none⟩)) (fun v hv => (xo_fld0 0 bs 0 (by kernel_rfl) rfl rfl)) ?_
  simp only [Act.put, zA]
  refine zv (.string (sB s)) (fun v hv => (xo_load1 ⟨bs, 0, none⟩ _ (cells_at (heap_keep Hpbs.out (later_bel hv)) 0 rfl) Tryd.underlying9 rfl rfl rfl)) ?_
  simp only [Act.put, zA]
  refine zv (.int .i64 (n : Int)) (fun v hv => (xs_lenN s n HN.out Tryd.underlying9 rfl rfl)) ?_
  simp only [Act.put, zA]
  refine zv (.pointer (some ⟨bs, 0, none⟩)) (fun v hv => rfl) ?_
  simp only [Act.put, zA]
  refine zv (.pointer (some ⟨bs, 0, none⟩)) (fun v hv => (xo_nil _ rfl rfl)) ?_
  simp only [Act.put, zA]
  refine zv (.pointer (some ⟨bs, 1, none⟩)) (fun v hv => (xo_fld0 1 bs 1 (by kernel_rfl) rfl rfl)) ?_
  simp only [Act.put, zA]
  refine zv (.int .i64 (i : Int)) (fun v hv => (xo_load1 ⟨bs, 1, none⟩ _ (cells_at (heap_keep Hpbs.out (later_bel hv)) 1 rfl) Tryd.underlying3 rfl rfl rfl)) ?_
  simp only [Act.put, zA]
  refine zv (.int .i64 ((n - i : Nat) : Int)) (fun v hv => (xo_subI (n : Int) (i : Int) ((n - i : Nat) : Int) (by omega) (by omega) (by omega) rfl rfl rfl)) ?_
  simp only [Act.put, zA]
  refine zv (.string (sB g)) (fun v hv => rfl) ?_
  simp only [Act.put, zA]
  refine zv (.int .i64 (gl : Int)) (fun v hv => (xs_lenN g gl HGL.out Tryd.underlying9 rfl rfl)) ?_
  simp only [Act.put, zA]
  refine zv (.bool false) (fun v hv => (xo_lssF .i64 ((n - i : Nat) : Int) (gl : Int) (by omega) rfl rfl rfl)) ?_
  simp only [Act.put, zA]
  refine zv (.bool false) (fun v hv => rfl) ?_
  simp only [Act.put, zA]
  refine zv (.pointer (some ⟨bs, 0, none⟩)) (fun v hv => rfl) ?_
  simp only [Act.put, zA]
  refine zv (.pointer (some ⟨bs, 0, none⟩)) (fun v hv => (xo_nil _ rfl rfl)) ?_
  simp only [Act.put, zA]
  refine zv (.pointer (some ⟨bs, 0, none⟩)) (fun v hv => (xo_fld0 0 bs 0 (by kernel_rfl) rfl rfl)) ?_
  simp only [Act.put, zA]
  refine zv (.string (sB s)) (fun v hv => (xo_load1 ⟨bs, 0, none⟩ _ (cells_at (heap_keep Hpbs.out (later_bel hv)) 0 rfl) Tryd.underlying9 rfl rfl rfl)) ?_
  simp only [Act.put, zA]
  refine zv (.pointer (some ⟨bs, 0, none⟩)) (fun v hv => rfl) ?_
  simp only [Act.put, zA]
  refine zv (.pointer (some ⟨bs, 0, none⟩)) (fun v hv => (xo_nil _ rfl rfl)) ?_
  simp only [Act.put, zA]
  refine zv (.pointer (some ⟨bs, 1, none⟩)) (fun v hv => (xo_fld0 1 bs 1 (by kernel_rfl) rfl rfl)) ?_
  simp only [Act.put, zA]
  refine zv (.int .i64 (i : Int)) (fun v hv => (xo_load1 ⟨bs, 1, none⟩ _ (cells_at (heap_keep Hpbs.out (later_bel hv)) 1 rfl) Tryd.underlying3 rfl rfl rfl)) ?_
  simp only [Act.put, zA]
  refine zv (.pointer (some ⟨bs, 0, none⟩)) (fun v hv => rfl) ?_
  simp only [Act.put, zA]
  refine zv (.pointer (some ⟨bs, 0, none⟩)) (fun v hv => (xo_nil _ rfl rfl)) ?_
  simp only [Act.put, zA]
  refine zv (.pointer (some ⟨bs, 1, none⟩)) (fun v hv => (xo_fld0 1 bs 1 (by kernel_rfl) rfl rfl)) ?_
  simp only [Act.put, zA]
  refine zv (.int .i64 (i : Int)) (fun v hv => (xo_load1 ⟨bs, 1, none⟩ _ (cells_at (heap_keep Hpbs.out (later_bel hv)) 1 rfl) Tryd.underlying3 rfl rfl rfl)) ?_
  simp only [Act.put, zA]
  refine zv (.string (sB g)) (fun v hv => rfl) ?_
  simp only [Act.put, zA]
  refine zv (.int .i64 (gl : Int)) (fun v hv => (xs_lenN g gl HGL.out Tryd.underlying9 rfl rfl)) ?_
  simp only [Act.put, zA]
  refine zv (.int .i64 ((i + gl : Nat) : Int)) (fun v hv => (xo_addI (i : Int) (gl : Int) ((i + gl : Nat) : Int) (by omega) (by omega) (by omega) rfl rfl rfl)) ?_
  simp only [Act.put, zA]
  refine zv (.string (sB ((s.take (i + gl)).drop i))) (fun v hv => (xs_cut s i (i + gl) (by omega) (by omega) Tryd.underlying9 rfl rfl rfl rfl)) ?_
  simp only [Act.put, zA]
  refine zv (.string (sB g)) (fun v hv => rfl) ?_
  simp only [Act.put, zA]
  refine zv (.bool true) (fun v hv => (xs_neT ((s.take (i + gl)).drop i) g HB4.out Tryd.underlying9 rfl rfl rfl)) ?_
  simp only [Act.put, zA]
  refine zv (.bool true) (fun v hv => rfl) ?_
  simp only [Act.put, zA]
  refine wpQuiet_nil ?_
  intro X1_1
  have hb := X1_1.below
  generalize X1_1.at = V2 at *
  have B1 := zh hb
  clear hb
  clear hln
  go_upto_region 2 with fail
  refine wp_region_lit ?_
  refine zr (.bool false) V2 rfl ?_
  simp only [Act.put, zA]
  refine wpList_nil ?_
  have hsf := (heap_keep Hpbs.out B1.out)
  have C0_2 := zb B0 B1
  have hff := farc_mk (HF.out.keep B1.out) HVW.out C0_2.out
  go_wp2_with fail
  go_ret
  exact ⟨rfl, hsf, hff⟩
set_option maxRecDepth 100000 in
set_option maxHeartbeats 16000000 in
theorem next_any (s : List UInt8) (hs4 : s.length ≤ 1000) (bs : Nat) (i : Nat) (hi : i ≤ s.length) (w : World) (hS : w.heap[bs]? = some (.cells #[.string (sB s), .int .i64 (i : Int)] 66 (0, 0))) :
  Calls Tryd.prog 41 #[.pointer (some ⟨bs, 0, none⟩)] w fun e w' => e = .returned (.tuple #[.agg #[.int .i64 ((Qu.nxt s i).tok.cls : Int), .string (sB (Qu.nxt s i).tok.tx)], .int .i64 ((Qu.nxt s i).off : Int)]) ∧ w'.heap[bs]? = some (.cells #[.string (sB s), .int .i64 ((Qu.nxt s i).pos : Int)] 66 (0, 0)) ∧ FarC bs bs w w' := by
 obtain ⟨V, hV0, hV⟩ := base_world w
 have B0 := zh hV
 have HVW := zh hV
 clear hV
 have HF := zh (FarH.refl bs bs w)
 obtain ⟨n, hn⟩ : ∃ n, s.length = n := ⟨_, rfl⟩
 have HN := zh hn
 have HS4 := zh hs4
 have HI := zh hi
 rw [hn] at hs4 hi
 have Hpbs : Hid (w.heap[bs]? = some (.cells #[.string (sB s), .int .i64 (i : Int)] 66 (0, 0))) := zh (hS)
 have Gpbs : Hid (V.heap.size ≤ bs) := zh (by omega)
 have Lpbs : Hid (bs < w.heap.size) := zh (xp_lt Hpbs.out)
 clear hS hn
 go_enter Tryd.func41, Tryd.ntmps41
 go_upto_region 1 with fail
 refine wp_named1 (fun V2 hb g0 hlt => ?_)
 have B1 := zh hb
 have Fx0 : Hid (V2.heap[w.heap.size]? = some (.cells #[.int .i64 0, .string ByteArray.empty] 70 (0, 0))) := zh (g0)
 have Gb0 : Hid (w.heap.size ≤ w.heap.size) := zh (by omega)
 have Lx0 : Hid (w.heap.size < V2.heap.size) := zh (xp_lt Fx0.out)
 have Nxbs0 : Hid (bs ≠ w.heap.size) := zh (by have := Lpbs.out; omega)
 clear hb g0 hlt
 refine wp_region_lit ?_
 refine zr (.pointer (some ⟨bs, 0, none⟩)) V2 rfl ?_
 simp only [Act.put, zA]
 refine wpList_call (by kernel_rfl) 52 Tryd.func52 (by kernel_rfl) (by kernel_rfl) _ _ #[.pointer (some ⟨bs, 0, none⟩), .func (.func 53) #[] #[]] rfl (by kernel_rfl) ?_
 refine (skip_space s HS4.out bs i HI.out V2 (heap_keep Hpbs.out B1.out)).mono ?_
 rintro e W2_0 ⟨rfl, hsc, hfc⟩
 have YFx0 : W2_0.heap[w.heap.size]? = some (.cells #[.int .i64 0, .string ByteArray.empty] 70 (0, 0)) := hfc.far _ _ (Ne.symm Nxbs0.out) (Ne.symm Nxbs0.out) Fx0.out
 have YHF : FarH bs bs w W2_0 := FarH.farC (HF.out.keep B1.out) hfc
 have C0_2 := zb B0 B1
 have hb := farc_bel hV0 C0_2.out hfc
 have hbr := hb
 clear B0
 have B0 := zh hbr
 clear hbr
 clear hb
 clear Fx0
 have Fx0 : Hid (W2_0.heap[w.heap.size]? = some (.cells #[.int .i64 0, .string ByteArray.empty] 70 (0, 0))) := zh YFx0
 clear YFx0
 clear HF
 have HF : Hid (FarH bs bs w W2_0) := zh YHF
 clear YHF
 have Gv1 : Hid (V.heap.size ≤ w.heap.size) := zh (by omega)
 have Lt2 : Hid (w.heap.size < W2_0.heap.size) := zh (xp_lt Fx0.out)
 clear Hpbs
 have Hpbs : Hid (W2_0.heap[bs]? = some (.cells #[.string (sB s), .int .i64 ((Qu.runE Qu.isSp s i : Nat) : Int)] 66 (0, 0))) := zh (hsc)
 clear hfc 
 refine ⟨_, rfl, ?_⟩
 simp only [Act.put, zA]
 refine wpList_nil ?_
 obtain ⟨j, hj⟩ : ∃ j, Qu.runE Qu.isSp s i = j := ⟨_, rfl⟩
 have HJ := zh hj
 have hjn : j ≤ n := by rw [← hj, ← HN.out]; exact Qu.runE_le HI.out
 rw [hj] at Hpbs ⊢
 clear hj
 go_upto_region 2 with fail
 refine wp_region_lit ?_
 refine zr (.pointer (some ⟨bs, 0, none⟩)) W2_0 rfl ?_
 simp only [Act.put, zA]
 refine zr (.pointer (some ⟨bs, 0, none⟩)) W2_0 (xo_nil _ rfl rfl) ?_
 simp only [Act.put, zA]
 refine zr (.pointer (some ⟨bs, 1, none⟩)) W2_0 (xo_fld0 1 bs 1 (by kernel_rfl) rfl rfl) ?_
 simp only [Act.put, zA]
 refine zr (.int .i64 (j : Int)) W2_0 (xo_load1 ⟨bs, 1, none⟩ _ (cells_at Hpbs.out 1 rfl) Tryd.underlying3 rfl rfl rfl) ?_
 simp only [Act.put, zA]
 refine zr (.int .i64 (j : Int)) W2_0 rfl ?_
 simp only [Act.put, zA]
 refine wpList_nil ?_
 by_cases hjn1 : j = n
 ·have hci3 : ((j : Int) = (n : Int)) := by omega
  go_upto_region 3 with fail
  refine wp_region_lit ?_
  refine zr (.int .i64 (j : Int)) W2_0 rfl ?_
  simp only [Act.put, zA]
  refine zr (.pointer (some ⟨bs, 0, none⟩)) W2_0 rfl ?_
  simp only [Act.put, zA]
  refine zr (.pointer (some ⟨bs, 0, none⟩)) W2_0 (xo_nil _ rfl rfl) ?_
  simp only [Act.put, zA]
  refine zr (.pointer (some ⟨bs, 0, none⟩)) W2_0 (xo_fld0 0 bs 0 (by kernel_rfl) rfl rfl) ?_
  simp only [Act.put, zA]
  refine zr (.string (sB s)) W2_0 (xo_load1 ⟨bs, 0, none⟩ _ (cells_at Hpbs.out 0 rfl) Tryd.underlying9 rfl rfl rfl) ?_
  simp only [Act.put, zA]
  refine zr (.int .i64 (n : Int)) W2_0 (xs_lenN s n HN.out Tryd.underlying9 rfl rfl) ?_
  simp only [Act.put, zA]
  refine zr (.bool true) W2_0 (xo_eqlT .i64 (j : Int) (n : Int) (by omega) rfl rfl rfl) ?_
  simp only [Act.put, zA]
  refine zr (.bool true) W2_0 rfl ?_
  simp only [Act.put, zA]
  refine wpList_nil ?_
  have hx : Qu.nxt s i = ⟨⟨0, []⟩, j, j⟩ := Qu.nxt_end HJ.out (List.getElem?_eq_none (by rw [HN.out]; omega))
  go_upto_region 4 with fail
  refine wp_region_lit ?_
  refine zr (.agg #[.int .i64 0, .string ByteArray.empty]) W2_0 (by unfold execOp; go_simp <;> rfl) ?_
  simp only [Act.put, zA]
  refine zr (.int .i64 (j : Int)) W2_0 rfl ?_
  simp only [Act.put, zA]
  refine wpList_storeW w.heap.size #[.int .i64 0, .string ByteArray.empty] #[.int .i64 0, .string ByteArray.empty] 70 (by kernel_rfl) Fx0.out (xo_storeW w.heap.size #[.int .i64 0, .string ByteArray.empty] #[.int .i64 0, .string ByteArray.empty] Fx0.out (by kernel_rfl) rfl (by simp [Value.oneCell']) rfl rfl rfl) ?_
  intro X1_4 h1 hfar hbel hsz
  have YHF : FarH bs bs w X1_4 := FarH.store HF.out (.inr (.inr Gb0.out)) hsz hfar
  have YHpbs : X1_4.heap[bs]? = some (.cells #[.string (sB s), .int .i64 (j : Int)] 66 (0, 0)) := hfar _ _ Nxbs0.out Hpbs.out
  have hbr := hbel _ _ Gv1.out B0.out
  clear B0
  have B0 := zh hbr
  clear hbr
  clear Hpbs
  have Hpbs : Hid (X1_4.heap[bs]? = some (.cells #[.string (sB s), .int .i64 (j : Int)] 66 (0, 0))) := zh YHpbs
  clear YHpbs
  clear HF
  have HF := zh YHF
  clear YHF
  clear Fx0
  have Fx0 : Hid (X1_4.heap[w.heap.size]? = some (.cells #[.int .i64 0, .string ByteArray.empty] 70 (0, 0))) := zh (h1)
  have HszX1_4 := zh hsz
  clear h1 hfar hbel hsz
  simp only [ptr, Act.put, zA]
  refine zr (.int .i64 (j : Int)) X1_4 rfl ?_
  simp only [Act.put, zA]
  refine wpList_nil ?_
  have hsf := Hpbs.out
  have hff := farc_mk HF.out HVW.out B0.out
  go_wp2_with fail
  refine bodyPost_ret (v := .tuple #[.agg #[.int .i64 0, .string ByteArray.empty], .int .i64 (j : Int)]) ?_ rfl ⟨by rw [hx] <;> rfl, by rw [hx]; exact hsf, hff⟩
  exact results_row_tmp rfl _ _ w.heap.size 70 _ (0, 0) _ _ rfl rfl Fx0.out Tryd.underlying70 rfl (by kernel_rfl)
 ·have hci3 : ¬ ((j : Int) = (n : Int)) := by omega
  go_upto_region 3 with fail
  refine wp_region_lit ?_
  refine zr (.int .i64 (j : Int)) W2_0 rfl ?_
  simp only [Act.put, zA]
  refine zr (.pointer (some ⟨bs, 0, none⟩)) W2_0 rfl ?_
  simp only [Act.put, zA]
  refine zr (.pointer (some ⟨bs, 0, none⟩)) W2_0 (xo_nil _ rfl rfl) ?_
  simp only [Act.put, zA]
  refine zr (.pointer (some ⟨bs, 0, none⟩)) W2_0 (xo_fld0 0 bs 0 (by kernel_rfl) rfl rfl) ?_
  simp only [Act.put, zA]
  refine zr (.string (sB s)) W2_0 (xo_load1 ⟨bs, 0, none⟩ _ (cells_at Hpbs.out 0 rfl) Tryd.underlying9 rfl rfl rfl) ?_
  simp only [Act.put, zA]
  refine zr (.int .i64 (n : Int)) W2_0 (xs_lenN s n HN.out Tryd.underlying9 rfl rfl) ?_
  simp only [Act.put, zA]
  refine zr (.bool false) W2_0 (xo_eqlF .i64 (j : Int) (n : Int) (by omega) rfl rfl rfl) ?_
  simp only [Act.put, zA]
  refine zr (.bool false) W2_0 rfl ?_
  simp only [Act.put, zA]
  refine wpList_nil ?_
  obtain ⟨b, hb⟩ : ∃ b, s[j]? = some b := ⟨_, List.getElem?_eq_getElem (by rw [HN.out]; omega)⟩
  have HEb := zh hb
  clear hb
  have hjl : j ≤ s.length := by rw [HN.out]; exact hjn
  have HJL := zh hjl
  clear hjl
  cases hletter : Qu.isLt b with
  | true =>
   go_upto_region 5 with fail
   refine wp_region_lit ?_
   refine zr (.pointer (some ⟨bs, 0, none⟩)) W2_0 rfl ?_
   simp only [Act.put, zA]
   refine zr (.pointer (some ⟨bs, 0, none⟩)) W2_0 (xo_nil _ rfl rfl) ?_
   simp only [Act.put, zA]
   refine zr (.pointer (some ⟨bs, 0, none⟩)) W2_0 (xo_fld0 0 bs 0 (by kernel_rfl) rfl rfl) ?_
   simp only [Act.put, zA]
   refine zr (.string (sB s)) W2_0 (xo_load1 ⟨bs, 0, none⟩ _ (cells_at Hpbs.out 0 rfl) Tryd.underlying9 rfl rfl rfl) ?_
   simp only [Act.put, zA]
   refine zr (.int .i64 (j : Int)) W2_0 rfl ?_
   simp only [Act.put, zA]
   refine zr (.int .u8 ((b.toNat : Nat) : Int)) W2_0 (xs_idx s j b HEb.out Tryd.underlying9 rfl rfl rfl) ?_
   simp only [Act.put, zA]
   refine wpList_call (by kernel_rfl) 54 Tryd.func54 (by kernel_rfl) (by kernel_rfl) _ _ #[.int .u8 ((b.toNat : Nat) : Int)] rfl (by kernel_rfl) ?_
   refine (letter_as b true hletter W2_0).mono ?_
   rintro e W1 ⟨rfl, hw1⟩
   rw [hw1]
   clear hw1 W1
   refine ⟨_, rfl, ?_⟩
   simp only [Act.put, zA]
   refine zr (.bool true) W2_0 rfl ?_
   simp only [Act.put, zA]
   refine wpList_nil ?_
   go_upto_region 6 with fail
   refine wp_region_lit ?_
   refine zr (.pointer (some ⟨bs, 0, none⟩)) W2_0 rfl ?_
   simp only [Act.put, zA]
   refine wpList_call (by kernel_rfl) 52 Tryd.func52 (by kernel_rfl) (by kernel_rfl) _ _ #[.pointer (some ⟨bs, 0, none⟩), .func (.func 54) #[] #[]] rfl (by kernel_rfl) ?_
   refine (skip_letter s HS4.out bs j HJL.out W2_0 Hpbs.out).mono ?_
   rintro e W1_4 ⟨rfl, hsc, hfc⟩
   have YFx0 : W1_4.heap[w.heap.size]? = some (.cells #[.int .i64 0, .string ByteArray.empty] 70 (0, 0)) := hfc.far _ _ (Ne.symm Nxbs0.out) (Ne.symm Nxbs0.out) Fx0.out
   have YHF : FarH bs bs w W1_4 := FarH.farC HF.out hfc
   have hb := farc_bel hV0 B0.out hfc
   have hbr := hb
   clear B0
   have B0 := zh hbr
   clear hbr
   clear hb
   clear Fx0
   have Fx0 : Hid (W1_4.heap[w.heap.size]? = some (.cells #[.int .i64 0, .string ByteArray.empty] 70 (0, 0))) := zh YFx0
   clear YFx0
   clear HF
   have HF : Hid (FarH bs bs w W1_4) := zh YHF
   clear YHF
   have Gv5 : Hid (V.heap.size ≤ w.heap.size) := zh (by omega)
   have Lt6 : Hid (w.heap.size < W1_4.heap.size) := zh (xp_lt Fx0.out)
   clear Hpbs
   have Hpbs : Hid (W1_4.heap[bs]? = some (.cells #[.string (sB s), .int .i64 ((Qu.runE Qu.isLt s j : Nat) : Int)] 66 (0, 0))) := zh (hsc)
   clear hfc 
   refine ⟨_, rfl, ?_⟩
   simp only [Act.put, zA]
   refine zr (.agg #[.int .i64 2, .string (sB ((s.take (Qu.runE Qu.isLt s j)).drop j))]) W1_4 (by unfold execOp; go_simp <;> rfl) ?_
   simp only [Act.put, zA]
   refine zr (.int .i64 (j : Int)) W1_4 rfl ?_
   simp only [Act.put, zA]
   refine wpList_storeW w.heap.size #[.int .i64 0, .string ByteArray.empty] #[.int .i64 2, .string (sB ((s.take (Qu.runE Qu.isLt s j)).drop j))] 70 (by kernel_rfl) Fx0.out (xo_storeW w.heap.size #[.int .i64 0, .string ByteArray.empty] #[.int .i64 2, .string (sB ((s.take (Qu.runE Qu.isLt s j)).drop j))] Fx0.out (by kernel_rfl) rfl (by simp [Value.oneCell']) rfl rfl rfl) ?_
   intro X1_7 h1 hfar hbel hsz
   have YHF : FarH bs bs w X1_7 := FarH.store HF.out (.inr (.inr Gb0.out)) hsz hfar
   have YHpbs : X1_7.heap[bs]? = some (.cells #[.string (sB s), .int .i64 ((Qu.runE Qu.isLt s j : Nat) : Int)] 66 (0, 0)) := hfar _ _ Nxbs0.out Hpbs.out
   have hbr := hbel _ _ Gv5.out B0.out
   clear B0
   have B0 := zh hbr
   clear hbr
   clear Hpbs
   have Hpbs : Hid (X1_7.heap[bs]? = some (.cells #[.string (sB s), .int .i64 ((Qu.runE Qu.isLt s j : Nat) : Int)] 66 (0, 0))) := zh YHpbs
   clear YHpbs
   clear HF
   have HF := zh YHF
   clear YHF
   clear Fx0
   have Fx0 : Hid (X1_7.heap[w.heap.size]? = some (.cells #[.int .i64 2, .string (sB ((s.take (Qu.runE Qu.isLt s j)).drop j))] 70 (0, 0))) := zh (h1)
   have HszX1_7 := zh hsz
   clear h1 hfar hbel hsz
   simp only [ptr, Act.put, zA]
   refine zr (.int .i64 (j : Int)) X1_7 rfl ?_
   simp only [Act.put, zA]
   refine wpList_nil ?_
   have hx : Qu.nxt s i = ⟨⟨2, (s.take (Qu.runE Qu.isLt s j)).drop j⟩, j, Qu.runE Qu.isLt s j⟩ := Qu.nxt_word HJ.out HEb.out hletter
   have hsf := Hpbs.out
   have hff := farc_mk HF.out HVW.out B0.out
   go_wp2_with fail
   refine bodyPost_ret (v := .tuple #[.agg #[.int .i64 2, .string (sB ((s.take (Qu.runE Qu.isLt s j)).drop j))], .int .i64 (j : Int)]) ?_ rfl ⟨by rw [hx] <;> rfl, by rw [hx]; exact hsf, hff⟩
   exact results_row_tmp rfl _ _ w.heap.size 70 _ (0, 0) _ _ rfl rfl Fx0.out Tryd.underlying70 rfl (by kernel_rfl)
  | false =>
   go_upto_region 5 with fail
   refine wp_region_lit ?_
   refine zr (.pointer (some ⟨bs, 0, none⟩)) W2_0 rfl ?_
   simp only [Act.put, zA]
   refine zr (.pointer (some ⟨bs, 0, none⟩)) W2_0 (xo_nil _ rfl rfl) ?_
   simp only [Act.put, zA]
   refine zr (.pointer (some ⟨bs, 0, none⟩)) W2_0 (xo_fld0 0 bs 0 (by kernel_rfl) rfl rfl) ?_
   simp only [Act.put, zA]
   refine zr (.string (sB s)) W2_0 (xo_load1 ⟨bs, 0, none⟩ _ (cells_at Hpbs.out 0 rfl) Tryd.underlying9 rfl rfl rfl) ?_
   simp only [Act.put, zA]
   refine zr (.int .i64 (j : Int)) W2_0 rfl ?_
   simp only [Act.put, zA]
   refine zr (.int .u8 ((b.toNat : Nat) : Int)) W2_0 (xs_idx s j b HEb.out Tryd.underlying9 rfl rfl rfl) ?_
   simp only [Act.put, zA]
   refine wpList_call (by kernel_rfl) 54 Tryd.func54 (by kernel_rfl) (by kernel_rfl) _ _ #[.int .u8 ((b.toNat : Nat) : Int)] rfl (by kernel_rfl) ?_
   refine (letter_as b false hletter W2_0).mono ?_
   rintro e W1 ⟨rfl, hw1⟩
   rw [hw1]
   clear hw1 W1
   refine ⟨_, rfl, ?_⟩
   simp only [Act.put, zA]
   refine zr (.bool false) W2_0 rfl ?_
   simp only [Act.put, zA]
   refine wpList_nil ?_
   cases hdigit : Qu.isDg b with
   | true =>
    go_upto_region 7 with fail
    refine wp_region_lit ?_
    refine zr (.pointer (some ⟨bs, 0, none⟩)) W2_0 rfl ?_
    simp only [Act.put, zA]
    refine zr (.pointer (some ⟨bs, 0, none⟩)) W2_0 (xo_nil _ rfl rfl) ?_
    simp only [Act.put, zA]
    refine zr (.pointer (some ⟨bs, 0, none⟩)) W2_0 (xo_fld0 0 bs 0 (by kernel_rfl) rfl rfl) ?_
    simp only [Act.put, zA]
    refine zr (.string (sB s)) W2_0 (xo_load1 ⟨bs, 0, none⟩ _ (cells_at Hpbs.out 0 rfl) Tryd.underlying9 rfl rfl rfl) ?_
    simp only [Act.put, zA]
    refine zr (.int .i64 (j : Int)) W2_0 rfl ?_
    simp only [Act.put, zA]
    refine zr (.int .u8 ((b.toNat : Nat) : Int)) W2_0 (xs_idx s j b HEb.out Tryd.underlying9 rfl rfl rfl) ?_
    simp only [Act.put, zA]
    refine wpList_call (by kernel_rfl) 55 Tryd.func55 (by kernel_rfl) (by kernel_rfl) _ _ #[.int .u8 ((b.toNat : Nat) : Int)] rfl (by kernel_rfl) ?_
    refine (digit_as b true hdigit W2_0).mono ?_
    rintro e W1 ⟨rfl, hw1⟩
    rw [hw1]
    clear hw1 W1
    refine ⟨_, rfl, ?_⟩
    simp only [Act.put, zA]
    refine zr (.bool true) W2_0 rfl ?_
    simp only [Act.put, zA]
    refine wpList_nil ?_
    go_upto_region 8 with fail
    refine wp_region_lit ?_
    refine zr (.pointer (some ⟨bs, 0, none⟩)) W2_0 rfl ?_
    simp only [Act.put, zA]
    refine wpList_call (by kernel_rfl) 52 Tryd.func52 (by kernel_rfl) (by kernel_rfl) _ _ #[.pointer (some ⟨bs, 0, none⟩), .func (.func 55) #[] #[]] rfl (by kernel_rfl) ?_
    refine (skip_digit s HS4.out bs j HJL.out W2_0 Hpbs.out).mono ?_
    rintro e W1_4 ⟨rfl, hsc, hfc⟩
    have YFx0 : W1_4.heap[w.heap.size]? = some (.cells #[.int .i64 0, .string ByteArray.empty] 70 (0, 0)) := hfc.far _ _ (Ne.symm Nxbs0.out) (Ne.symm Nxbs0.out) Fx0.out
    have YHF : FarH bs bs w W1_4 := FarH.farC HF.out hfc
    have hb := farc_bel hV0 B0.out hfc
    have hbr := hb
    clear B0
    have B0 := zh hbr
    clear hbr
    clear hb
    clear Fx0
    have Fx0 : Hid (W1_4.heap[w.heap.size]? = some (.cells #[.int .i64 0, .string ByteArray.empty] 70 (0, 0))) := zh YFx0
    clear YFx0
    clear HF
    have HF : Hid (FarH bs bs w W1_4) := zh YHF
    clear YHF
    have Gv5 : Hid (V.heap.size ≤ w.heap.size) := zh (by omega)
    have Lt6 : Hid (w.heap.size < W1_4.heap.size) := zh (xp_lt Fx0.out)
    clear Hpbs
    have Hpbs : Hid (W1_4.heap[bs]? = some (.cells #[.string (sB s), .int .i64 ((Qu.runE Qu.isDg s j : Nat) : Int)] 66 (0, 0))) := zh (hsc)
    clear hfc 
    refine ⟨_, rfl, ?_⟩
    simp only [Act.put, zA]
    refine zr (.agg #[.int .i64 3, .string (sB ((s.take (Qu.runE Qu.isDg s j)).drop j))]) W1_4 (by unfold execOp; go_simp <;> rfl) ?_
    simp only [Act.put, zA]
    refine zr (.int .i64 (j : Int)) W1_4 rfl ?_
    simp only [Act.put, zA]
    refine wpList_storeW w.heap.size #[.int .i64 0, .string ByteArray.empty] #[.int .i64 3, .string (sB ((s.take (Qu.runE Qu.isDg s j)).drop j))] 70 (by kernel_rfl) Fx0.out (xo_storeW w.heap.size #[.int .i64 0, .string ByteArray.empty] #[.int .i64 3, .string (sB ((s.take (Qu.runE Qu.isDg s j)).drop j))] Fx0.out (by kernel_rfl) rfl (by simp [Value.oneCell']) rfl rfl rfl) ?_
    intro X1_7 h1 hfar hbel hsz
    have YHF : FarH bs bs w X1_7 := FarH.store HF.out (.inr (.inr Gb0.out)) hsz hfar
    have YHpbs : X1_7.heap[bs]? = some (.cells #[.string (sB s), .int .i64 ((Qu.runE Qu.isDg s j : Nat) : Int)] 66 (0, 0)) := hfar _ _ Nxbs0.out Hpbs.out
    have hbr := hbel _ _ Gv5.out B0.out
    clear B0
    have B0 := zh hbr
    clear hbr
    clear Hpbs
    have Hpbs : Hid (X1_7.heap[bs]? = some (.cells #[.string (sB s), .int .i64 ((Qu.runE Qu.isDg s j : Nat) : Int)] 66 (0, 0))) := zh YHpbs
    clear YHpbs
    clear HF
    have HF := zh YHF
    clear YHF
    clear Fx0
    have Fx0 : Hid (X1_7.heap[w.heap.size]? = some (.cells #[.int .i64 3, .string (sB ((s.take (Qu.runE Qu.isDg s j)).drop j))] 70 (0, 0))) := zh (h1)
    have HszX1_7 := zh hsz
    clear h1 hfar hbel hsz
    simp only [ptr, Act.put, zA]
    refine zr (.int .i64 (j : Int)) X1_7 rfl ?_
    simp only [Act.put, zA]
    refine wpList_nil ?_
    have hx : Qu.nxt s i = ⟨⟨3, (s.take (Qu.runE Qu.isDg s j)).drop j⟩, j, Qu.runE Qu.isDg s j⟩ := Qu.nxt_num HJ.out HEb.out hletter hdigit
    have hsf := Hpbs.out
    have hff := farc_mk HF.out HVW.out B0.out
    go_wp2_with fail
    refine bodyPost_ret (v := .tuple #[.agg #[.int .i64 3, .string (sB ((s.take (Qu.runE Qu.isDg s j)).drop j))], .int .i64 (j : Int)]) ?_ rfl ⟨by rw [hx] <;> rfl, by rw [hx]; exact hsf, hff⟩
    exact results_row_tmp rfl _ _ w.heap.size 70 _ (0, 0) _ _ rfl rfl Fx0.out Tryd.underlying70 rfl (by kernel_rfl)
   | false =>
    go_upto_region 7 with fail
    refine wp_region_lit ?_
    refine zr (.pointer (some ⟨bs, 0, none⟩)) W2_0 rfl ?_
    simp only [Act.put, zA]
    refine zr (.pointer (some ⟨bs, 0, none⟩)) W2_0 (xo_nil _ rfl rfl) ?_
    simp only [Act.put, zA]
    refine zr (.pointer (some ⟨bs, 0, none⟩)) W2_0 (xo_fld0 0 bs 0 (by kernel_rfl) rfl rfl) ?_
    simp only [Act.put, zA]
    refine zr (.string (sB s)) W2_0 (xo_load1 ⟨bs, 0, none⟩ _ (cells_at Hpbs.out 0 rfl) Tryd.underlying9 rfl rfl rfl) ?_
    simp only [Act.put, zA]
    refine zr (.int .i64 (j : Int)) W2_0 rfl ?_
    simp only [Act.put, zA]
    refine zr (.int .u8 ((b.toNat : Nat) : Int)) W2_0 (xs_idx s j b HEb.out Tryd.underlying9 rfl rfl rfl) ?_
    simp only [Act.put, zA]
    refine wpList_call (by kernel_rfl) 55 Tryd.func55 (by kernel_rfl) (by kernel_rfl) _ _ #[.int .u8 ((b.toNat : Nat) : Int)] rfl (by kernel_rfl) ?_
    refine (digit_as b false hdigit W2_0).mono ?_
    rintro e W1 ⟨rfl, hw1⟩
    rw [hw1]
    clear hw1 W1
    refine ⟨_, rfl, ?_⟩
    simp only [Act.put, zA]
    refine zr (.bool false) W2_0 rfl ?_
    simp only [Act.put, zA]
    refine wpList_nil ?_
    cases hd : Qu.bgN s j [46, 46] with
    | true =>
     go_upto_region 9 with fail
     refine wp_region_lit ?_
     refine zr (.pointer (some ⟨bs, 0, none⟩)) W2_0 rfl ?_
     simp only [Act.put, zA]
     refine wpList_call (by kernel_rfl) 56 Tryd.func56 (by kernel_rfl) (by kernel_rfl) _ _ #[.pointer (some ⟨bs, 0, none⟩), .string (sB ([46, 46]))] rfl (by kernel_rfl) ?_
     refine (begins_yes s HS4.out bs j HJL.out [46, 46] (by decide) hd W2_0 Hpbs.out).mono ?_
     rintro e W1_4 ⟨rfl, hsc, hfc⟩
     have YFx0 : W1_4.heap[w.heap.size]? = some (.cells #[.int .i64 0, .string ByteArray.empty] 70 (0, 0)) := hfc.far _ _ (Ne.symm Nxbs0.out) (Ne.symm Nxbs0.out) Fx0.out
     have YHF : FarH bs bs w W1_4 := FarH.farC HF.out hfc
     have hb := farc_bel hV0 B0.out hfc
     have hbr := hb
     clear B0
     have B0 := zh hbr
     clear hbr
     clear hb
     clear Fx0
     have Fx0 : Hid (W1_4.heap[w.heap.size]? = some (.cells #[.int .i64 0, .string ByteArray.empty] 70 (0, 0))) := zh YFx0
     clear YFx0
     clear HF
     have HF : Hid (FarH bs bs w W1_4) := zh YHF
     clear YHF
     have Gv5 : Hid (V.heap.size ≤ w.heap.size) := zh (by omega)
     have Lt6 : Hid (w.heap.size < W1_4.heap.size) := zh (xp_lt Fx0.out)
     clear Hpbs
     have Hpbs : Hid (W1_4.heap[bs]? = some (.cells #[.string (sB s), .int .i64 ((j + 2 : Nat) : Int)] 66 (0, 0))) := zh (hsc)
     clear hfc 
     refine ⟨_, rfl, ?_⟩
     simp only [Act.put, zA]
     refine zr (.bool true) W1_4 rfl ?_
     simp only [Act.put, zA]
     refine wpList_nil ?_
     go_upto_region 10 with fail
     refine wp_region_lit ?_
     refine zr (.agg #[.int .i64 4, .string ByteArray.empty]) W1_4 (by unfold execOp; go_simp <;> rfl) ?_
     simp only [Act.put, zA]
     refine zr (.int .i64 (j : Int)) W1_4 rfl ?_
     simp only [Act.put, zA]
     refine wpList_storeW w.heap.size #[.int .i64 0, .string ByteArray.empty] #[.int .i64 4, .string ByteArray.empty] 70 (by kernel_rfl) Fx0.out (xo_storeW w.heap.size #[.int .i64 0, .string ByteArray.empty] #[.int .i64 4, .string ByteArray.empty] Fx0.out (by kernel_rfl) rfl (by simp [Value.oneCell']) rfl rfl rfl) ?_
     intro X1_7 h1 hfar hbel hsz
     have YHF : FarH bs bs w X1_7 := FarH.store HF.out (.inr (.inr Gb0.out)) hsz hfar
     have YHpbs : X1_7.heap[bs]? = some (.cells #[.string (sB s), .int .i64 ((j + 2 : Nat) : Int)] 66 (0, 0)) := hfar _ _ Nxbs0.out Hpbs.out
     have hbr := hbel _ _ Gv5.out B0.out
     clear B0
     have B0 := zh hbr
     clear hbr
     clear Hpbs
     have Hpbs : Hid (X1_7.heap[bs]? = some (.cells #[.string (sB s), .int .i64 ((j + 2 : Nat) : Int)] 66 (0, 0))) := zh YHpbs
     clear YHpbs
     clear HF
     have HF := zh YHF
     clear YHF
     clear Fx0
     have Fx0 : Hid (X1_7.heap[w.heap.size]? = some (.cells #[.int .i64 4, .string ByteArray.empty] 70 (0, 0))) := zh (h1)
     have HszX1_7 := zh hsz
     clear h1 hfar hbel hsz
     simp only [ptr, Act.put, zA]
     refine zr (.int .i64 (j : Int)) X1_7 rfl ?_
     simp only [Act.put, zA]
     refine wpList_nil ?_
     have hx : Qu.nxt s i = ⟨⟨4, []⟩, j, j + 2⟩ := Qu.nxt_dots HJ.out HEb.out hletter hdigit hd
     have hsf := Hpbs.out
     have hff := farc_mk HF.out HVW.out B0.out
     go_wp2_with fail
     refine bodyPost_ret (v := .tuple #[.agg #[.int .i64 4, .string ByteArray.empty], .int .i64 (j : Int)]) ?_ rfl ⟨by rw [hx] <;> rfl, by rw [hx]; exact hsf, hff⟩
     exact results_row_tmp rfl _ _ w.heap.size 70 _ (0, 0) _ _ rfl rfl Fx0.out Tryd.underlying70 rfl (by kernel_rfl)
    | false =>
     go_upto_region 9 with fail
     refine wp_region_lit ?_
     refine zr (.pointer (some ⟨bs, 0, none⟩)) W2_0 rfl ?_
     simp only [Act.put, zA]
     refine wpList_call (by kernel_rfl) 56 Tryd.func56 (by kernel_rfl) (by kernel_rfl) _ _ #[.pointer (some ⟨bs, 0, none⟩), .string (sB ([46, 46]))] rfl (by kernel_rfl) ?_
     refine (begins_no s HS4.out bs j HJL.out [46, 46] (by decide) hd W2_0 Hpbs.out).mono ?_
     rintro e W1_4 ⟨rfl, hsc, hfc⟩
     have YFx0 : W1_4.heap[w.heap.size]? = some (.cells #[.int .i64 0, .string ByteArray.empty] 70 (0, 0)) := hfc.far _ _ (Ne.symm Nxbs0.out) (Ne.symm Nxbs0.out) Fx0.out
     have YHF : FarH bs bs w W1_4 := FarH.farC HF.out hfc
     have hb := farc_bel hV0 B0.out hfc
     have hbr := hb
     clear B0
     have B0 := zh hbr
     clear hbr
     clear hb
     clear Fx0
     have Fx0 : Hid (W1_4.heap[w.heap.size]? = some (.cells #[.int .i64 0, .string ByteArray.empty] 70 (0, 0))) := zh YFx0
     clear YFx0
     clear HF
     have HF : Hid (FarH bs bs w W1_4) := zh YHF
     clear YHF
     have Gv5 : Hid (V.heap.size ≤ w.heap.size) := zh (by omega)
     have Lt6 : Hid (w.heap.size < W1_4.heap.size) := zh (xp_lt Fx0.out)
     clear Hpbs
     have Hpbs : Hid (W1_4.heap[bs]? = some (.cells #[.string (sB s), .int .i64 (j : Int)] 66 (0, 0))) := zh (hsc)
     clear hfc 
     refine ⟨_, rfl, ?_⟩
     simp only [Act.put, zA]
     refine zr (.bool false) W1_4 rfl ?_
     simp only [Act.put, zA]
     refine wpList_nil ?_
     cases he : Qu.bgN s j [61] with
     | true =>
      go_upto_region 11 with fail
      refine wp_region_lit ?_
      refine zr (.pointer (some ⟨bs, 0, none⟩)) W1_4 rfl ?_
      simp only [Act.put, zA]
      refine wpList_call (by kernel_rfl) 56 Tryd.func56 (by kernel_rfl) (by kernel_rfl) _ _ #[.pointer (some ⟨bs, 0, none⟩), .string (sB ([61]))] rfl (by kernel_rfl) ?_
      refine (begins_yes s HS4.out bs j HJL.out [61] (by decide) he W1_4 Hpbs.out).mono ?_
      rintro e W1_7 ⟨rfl, hsc, hfc⟩
      have YFx0 : W1_7.heap[w.heap.size]? = some (.cells #[.int .i64 0, .string ByteArray.empty] 70 (0, 0)) := hfc.far _ _ (Ne.symm Nxbs0.out) (Ne.symm Nxbs0.out) Fx0.out
      have YHF : FarH bs bs w W1_7 := FarH.farC HF.out hfc
      have hb := farc_bel hV0 B0.out hfc
      have hbr := hb
      clear B0
      have B0 := zh hbr
      clear hbr
      clear hb
      clear Fx0
      have Fx0 : Hid (W1_7.heap[w.heap.size]? = some (.cells #[.int .i64 0, .string ByteArray.empty] 70 (0, 0))) := zh YFx0
      clear YFx0
      clear HF
      have HF : Hid (FarH bs bs w W1_7) := zh YHF
      clear YHF
      have Gv8 : Hid (V.heap.size ≤ w.heap.size) := zh (by omega)
      have Lt9 : Hid (w.heap.size < W1_7.heap.size) := zh (xp_lt Fx0.out)
      clear Hpbs
      have Hpbs : Hid (W1_7.heap[bs]? = some (.cells #[.string (sB s), .int .i64 ((j + 1 : Nat) : Int)] 66 (0, 0))) := zh (hsc)
      clear hfc 
      refine ⟨_, rfl, ?_⟩
      simp only [Act.put, zA]
      refine zr (.bool true) W1_7 rfl ?_
      simp only [Act.put, zA]
      refine wpList_nil ?_
      go_upto_region 12 with fail
      refine wp_region_lit ?_
      refine zr (.agg #[.int .i64 5, .string ByteArray.empty]) W1_7 (by unfold execOp; go_simp <;> rfl) ?_
      simp only [Act.put, zA]
      refine zr (.int .i64 (j : Int)) W1_7 rfl ?_
      simp only [Act.put, zA]
      refine wpList_storeW w.heap.size #[.int .i64 0, .string ByteArray.empty] #[.int .i64 5, .string ByteArray.empty] 70 (by kernel_rfl) Fx0.out (xo_storeW w.heap.size #[.int .i64 0, .string ByteArray.empty] #[.int .i64 5, .string ByteArray.empty] Fx0.out (by kernel_rfl) rfl (by simp [Value.oneCell']) rfl rfl rfl) ?_
      intro X1_10 h1 hfar hbel hsz
      have YHF : FarH bs bs w X1_10 := FarH.store HF.out (.inr (.inr Gb0.out)) hsz hfar
      have YHpbs : X1_10.heap[bs]? = some (.cells #[.string (sB s), .int .i64 ((j + 1 : Nat) : Int)] 66 (0, 0)) := hfar _ _ Nxbs0.out Hpbs.out
      have hbr := hbel _ _ Gv8.out B0.out
      clear B0
      have B0 := zh hbr
      clear hbr
      clear Hpbs
      have Hpbs : Hid (X1_10.heap[bs]? = some (.cells #[.string (sB s), .int .i64 ((j + 1 : Nat) : Int)] 66 (0, 0))) := zh YHpbs
      clear YHpbs
      clear HF
      have HF := zh YHF
      clear YHF
      clear Fx0
      have Fx0 : Hid (X1_10.heap[w.heap.size]? = some (.cells #[.int .i64 5, .string ByteArray.empty] 70 (0, 0))) := zh (h1)
      have HszX1_10 := zh hsz
      clear h1 hfar hbel hsz
      simp only [ptr, Act.put, zA]
      refine zr (.int .i64 (j : Int)) X1_10 rfl ?_
      simp only [Act.put, zA]
      refine wpList_nil ?_
      have hx : Qu.nxt s i = ⟨⟨5, []⟩, j, j + 1⟩ := Qu.nxt_eq HJ.out HEb.out hletter hdigit hd he
      have hsf := Hpbs.out
      have hff := farc_mk HF.out HVW.out B0.out
      go_wp2_with fail
      refine bodyPost_ret (v := .tuple #[.agg #[.int .i64 5, .string ByteArray.empty], .int .i64 (j : Int)]) ?_ rfl ⟨by rw [hx] <;> rfl, by rw [hx]; exact hsf, hff⟩
      exact results_row_tmp rfl _ _ w.heap.size 70 _ (0, 0) _ _ rfl rfl Fx0.out Tryd.underlying70 rfl (by kernel_rfl)
     | false =>
      go_upto_region 11 with fail
      refine wp_region_lit ?_
      refine zr (.pointer (some ⟨bs, 0, none⟩)) W1_4 rfl ?_
      simp only [Act.put, zA]
      refine wpList_call (by kernel_rfl) 56 Tryd.func56 (by kernel_rfl) (by kernel_rfl) _ _ #[.pointer (some ⟨bs, 0, none⟩), .string (sB ([61]))] rfl (by kernel_rfl) ?_
      refine (begins_no s HS4.out bs j HJL.out [61] (by decide) he W1_4 Hpbs.out).mono ?_
      rintro e W1_7 ⟨rfl, hsc, hfc⟩
      have YFx0 : W1_7.heap[w.heap.size]? = some (.cells #[.int .i64 0, .string ByteArray.empty] 70 (0, 0)) := hfc.far _ _ (Ne.symm Nxbs0.out) (Ne.symm Nxbs0.out) Fx0.out
      have YHF : FarH bs bs w W1_7 := FarH.farC HF.out hfc
      have hb := farc_bel hV0 B0.out hfc
      have hbr := hb
      clear B0
      have B0 := zh hbr
      clear hbr
      clear hb
      clear Fx0
      have Fx0 : Hid (W1_7.heap[w.heap.size]? = some (.cells #[.int .i64 0, .string ByteArray.empty] 70 (0, 0))) := zh YFx0
      clear YFx0
      clear HF
      have HF : Hid (FarH bs bs w W1_7) := zh YHF
      clear YHF
      have Gv8 : Hid (V.heap.size ≤ w.heap.size) := zh (by omega)
      have Lt9 : Hid (w.heap.size < W1_7.heap.size) := zh (xp_lt Fx0.out)
      clear Hpbs
      have Hpbs : Hid (W1_7.heap[bs]? = some (.cells #[.string (sB s), .int .i64 (j : Int)] 66 (0, 0))) := zh (hsc)
      clear hfc 
      refine ⟨_, rfl, ?_⟩
      simp only [Act.put, zA]
      refine zr (.bool false) W1_7 rfl ?_
      simp only [Act.put, zA]
      refine wpList_nil ?_
      go_upto_region 13 with fail
      refine wp_region_lit ?_
      refine zr (.agg #[.int .i64 1, .string ByteArray.empty]) W1_7 (by unfold execOp; go_simp <;> rfl) ?_
      simp only [Act.put, zA]
      refine zr (.int .i64 (j : Int)) W1_7 rfl ?_
      simp only [Act.put, zA]
      refine wpList_storeW w.heap.size #[.int .i64 0, .string ByteArray.empty] #[.int .i64 1, .string ByteArray.empty] 70 (by kernel_rfl) Fx0.out (xo_storeW w.heap.size #[.int .i64 0, .string ByteArray.empty] #[.int .i64 1, .string ByteArray.empty] Fx0.out (by kernel_rfl) rfl (by simp [Value.oneCell']) rfl rfl rfl) ?_
      intro X1_10 h1 hfar hbel hsz
      have YHF : FarH bs bs w X1_10 := FarH.store HF.out (.inr (.inr Gb0.out)) hsz hfar
      have YHpbs : X1_10.heap[bs]? = some (.cells #[.string (sB s), .int .i64 (j : Int)] 66 (0, 0)) := hfar _ _ Nxbs0.out Hpbs.out
      have hbr := hbel _ _ Gv8.out B0.out
      clear B0
      have B0 := zh hbr
      clear hbr
      clear Hpbs
      have Hpbs : Hid (X1_10.heap[bs]? = some (.cells #[.string (sB s), .int .i64 (j : Int)] 66 (0, 0))) := zh YHpbs
      clear YHpbs
      clear HF
      have HF := zh YHF
      clear YHF
      clear Fx0
      have Fx0 : Hid (X1_10.heap[w.heap.size]? = some (.cells #[.int .i64 1, .string ByteArray.empty] 70 (0, 0))) := zh (h1)
      have HszX1_10 := zh hsz
      clear h1 hfar hbel hsz
      simp only [ptr, Act.put, zA]
      refine zr (.int .i64 (j : Int)) X1_10 rfl ?_
      simp only [Act.put, zA]
      refine wpList_nil ?_
      have hx : Qu.nxt s i = ⟨⟨1, []⟩, j, j⟩ := Qu.nxt_bad HJ.out HEb.out hletter hdigit hd he
      have hsf := Hpbs.out
      have hff := farc_mk HF.out HVW.out B0.out
      go_wp2_with fail
      refine bodyPost_ret (v := .tuple #[.agg #[.int .i64 1, .string ByteArray.empty], .int .i64 (j : Int)]) ?_ rfl ⟨by rw [hx] <;> rfl, by rw [hx]; exact hsf, hff⟩
      exact results_row_tmp rfl _ _ w.heap.size 70 _ (0, 0) _ _ rfl rfl Fx0.out Tryd.underlying70 rfl (by kernel_rfl)
end Go.Proofs.YtlicfidcfhbmpaaDoor

