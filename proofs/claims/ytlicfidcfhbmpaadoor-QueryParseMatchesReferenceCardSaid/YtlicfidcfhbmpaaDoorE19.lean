/- Several texts in one: Yu, Yw, Yx, Yay. -/
import Derived.Test.YtlicfidcfhbmpaaDoorE18
import Derived.Test.YtlicfidcfhbmpaaDoorE14
import Derived.Test.YtlicfidcfhbmpaaDoorE06
import Derived.Test.YtlicfidcfhbmpaaDoorE16
set_option linter.unusedVariables false
set_option linter.unusedSimpArgs false
set_option linter.unusedSectionVars false
namespace Go.Proofs.YtlicfidcfhbmpaaDoor
set_option maxRecDepth 8000
open Go.RowKit Go.Proofs.YtlicfidcfhbmpaaDoor.K
attribute [local irreducible] wpList wpQuiet
set_option maxRecDepth 100000 in
set_option maxHeartbeats 8000000 in
theorem max_as (c m : Nat) (hc : c < 4) (hm : Qu.maxN c = m) (w : World) : Calls Tryd.prog 24 #[.int .i64 (c : Int)] w fun e w' => e = .returned (.int .i64 (m : Int)) ∧ w' = w := by
 go_enter Tryd.func24, Tryd.ntmps24
 go_upto_region 1 with fail
 have h4 : c = 0 ∨ c = 1 ∨ c = 2 ∨ c = 3 := by omega
 rcases h4 with rfl | rfl | rfl | rfl
 ·refine wp_region_lit ?_
  refine zr (.int .i64 0) w rfl ?_
  simp only [Act.put, zA]
  refine zr (.bool true) w (xo_eqlT .i64 0 0 (by omega) rfl rfl rfl) ?_
  simp only [Act.put, zA]
  refine zr (.bool true) w rfl ?_
  simp only [Act.put, zA]
  refine zl ?_
  try simp only [Act.put, zA]
  refine zl ?_
  try simp only [Act.put, zA]
  refine zr (.bool true) w rfl ?_
  simp only [Act.put, zA]
  refine wpList_nil ?_
  go_upto_region 2 with fail
  refine wp_region_lit ?_
  refine zr (.int .i64 15) w rfl ?_
  simp only [Act.put, zA]
  refine wpList_nil ?_
  go_wp2_with fail
  go_ret
  exact ⟨by rw [← hm]; rfl, rfl⟩
 ·refine wp_region_lit ?_
  refine zr (.int .i64 1) w rfl ?_
  simp only [Act.put, zA]
  refine zr (.bool false) w (xo_eqlF .i64 1 0 (by omega) rfl rfl rfl) ?_
  simp only [Act.put, zA]
  refine zr (.bool false) w rfl ?_
  simp only [Act.put, zA]
  refine zr (.int .i64 1) w rfl ?_
  simp only [Act.put, zA]
  refine zr (.bool false) w (xo_eqlF .i64 1 2 (by omega) rfl rfl rfl) ?_
  simp only [Act.put, zA]
  refine zr (.bool false) w rfl ?_
  simp only [Act.put, zA]
  refine wpList_nil ?_
  go_upto_region 3 with fail
  refine wp_region_lit ?_
  refine zr (.int .i64 255) w rfl ?_
  simp only [Act.put, zA]
  refine wpList_nil ?_
  go_wp2_with fail
  go_ret
  exact ⟨by rw [← hm]; rfl, rfl⟩
 ·refine wp_region_lit ?_
  refine zr (.int .i64 2) w rfl ?_
  simp only [Act.put, zA]
  refine zr (.bool false) w (xo_eqlF .i64 2 0 (by omega) rfl rfl rfl) ?_
  simp only [Act.put, zA]
  refine zr (.bool false) w rfl ?_
  simp only [Act.put, zA]
  refine zr (.int .i64 2) w rfl ?_
  simp only [Act.put, zA]
  refine zr (.bool true) w (xo_eqlT .i64 2 2 (by omega) rfl rfl rfl) ?_
  simp only [Act.put, zA]
  refine zr (.bool true) w rfl ?_
  simp only [Act.put, zA]
  refine wpList_nil ?_
  go_upto_region 2 with fail
  refine wp_region_lit ?_
  refine zr (.int .i64 15) w rfl ?_
  simp only [Act.put, zA]
  refine wpList_nil ?_
  go_wp2_with fail
  go_ret
  exact ⟨by rw [← hm]; rfl, rfl⟩
 ·refine wp_region_lit ?_
  refine zr (.int .i64 3) w rfl ?_
  simp only [Act.put, zA]
  refine zr (.bool false) w (xo_eqlF .i64 3 0 (by omega) rfl rfl rfl) ?_
  simp only [Act.put, zA]
  refine zr (.bool false) w rfl ?_
  simp only [Act.put, zA]
  refine zr (.int .i64 3) w rfl ?_
  simp only [Act.put, zA]
  refine zr (.bool false) w (xo_eqlF .i64 3 2 (by omega) rfl rfl rfl) ?_
  simp only [Act.put, zA]
  refine zr (.bool false) w rfl ?_
  simp only [Act.put, zA]
  refine wpList_nil ?_
  go_upto_region 3 with fail
  refine wp_region_lit ?_
  refine zr (.int .i64 255) w rfl ?_
  simp only [Act.put, zA]
  refine wpList_nil ?_
  go_wp2_with fail
  go_ret
  exact ⟨by rw [← hm]; rfl, rfl⟩
end Go.Proofs.YtlicfidcfhbmpaaDoor

namespace Go.Proofs.YtlicfidcfhbmpaaDoor
set_option maxRecDepth 8000
def eqA (c v z : Nat) : List UInt8 := [99, 111, 117, 110, 116, 32, 119, 104, 101, 114, 101, 32] ++ Qu.nameN c ++ [32, 61, 32] ++ (List.replicate z 48 ++ Qu.decN v)
def eqB (c v z : Nat) : List UInt8 := [99, 111, 117, 110, 116, 32, 119, 104, 101, 114, 101, 32] ++ Qu.nameN c ++ [32, 105, 110, 32] ++ Qu.decN v ++ [46, 46] ++ (List.replicate z 48 ++ Qu.decN v)
def eqQ (c v : Nat) : Qu.Qy × Nat × Nat := (⟨1, 0, 0, [[⟨c, v, v⟩]]⟩, 0, 0)
def EqOk (c v z : Nat) : Prop := Qu.parseN (eqA c v z) = eqQ c v ∧ Qu.parseN (eqB c v z) = eqQ c v
instance (c v z : Nat) : Decidable (EqOk c v z) := inferInstanceAs (Decidable (_ ∧ _))
end Go.Proofs.YtlicfidcfhbmpaaDoor

namespace Go.Proofs.YtlicfidcfhbmpaaDoor
set_option maxRecDepth 8000
open Go.RowKit Go.Proofs.YtlicfidcfhbmpaaDoor.K
attribute [local irreducible] wpList wpQuiet
def stC (l : List UInt8) : List Value := [.string (sB l)]
instance : Enc stC 1 := ⟨fun _ => rfl, fun x u hu => by
 simp only [stC, List.mem_cons, List.not_mem_nil, or_false] at hu
 subst hu
 rfl, by decide⟩
end Go.Proofs.YtlicfidcfhbmpaaDoor

namespace Go.Proofs.YtlicfidcfhbmpaaDoor
set_option maxRecDepth 8000
open Go.RowKit Go.Proofs.YtlicfidcfhbmpaaDoor.K
attribute [local irreducible] wpList wpQuiet
theorem numR_snoc (l : List UInt8) (b : UInt8) : Qu.numR (l ++ [b]) = min (Qu.numR l * 10 + (b - 48).toNat) 1000000 := by
 unfold Qu.numR
 rw [List.foldl_append]
 rfl
theorem numR_take {l : List UInt8} {i : Nat} {b : UInt8} (h : l[i]? = some b) : Qu.numR (l.take (i + 1)) = min (Qu.numR (l.take i) * 10 + (b - 48).toNat) 1000000 := by
 rw [List.take_add_one, h]
 exact numR_snoc _ _
theorem numT_le (s : List UInt8) (lo hi : Nat) (x : Qu.X) : (Qu.numT s lo hi x).1 ≤ 1000000 := by
 unfold Qu.numT
 split
 ·exact numR_le _
 ·exact Nat.zero_le _
theorem tryT_lt {s : List UInt8} {f : Nat → List UInt8} {x : Qu.X} : ∀ {n i j : Nat}, (Qu.tryT s f x i n).1 = some j → i ≤ j ∧ j < i + n
 | 0, _, _, h => by cases h
 | n + 1, i, j, h => by
  unfold Qu.tryT at h
  split at h
  ·injection h with h
   omega
  ·have := tryT_lt h
   omega
theorem colT_lt (s : List UInt8) (x : Qu.X) : (Qu.colT s x).1 < 4 := by
 unfold Qu.colT
 cases h : (Qu.tryT s Qu.nameN x 0 4).1 with
 | none => show 0 < 4; omega
 | some j => have := tryT_lt h; show j < 4; omega
set_option maxRecDepth 100000 in
set_option maxHeartbeats 32000000 in
theorem rnumber_as (s : List UInt8) (bp : Nat) (x : Qu.X) (A : Option Addr) (n c : Nat) (ts : List Qu.RT) (w : World) (hP : PR w bp s x A n c ts) (lo hi : Nat) (hlo : lo ≤ 1000000) (hhi : hi ≤ 65536) (hs4 : s.length ≤ 1000) :
  Calls Tryd.prog 48 #[.pointer (some ⟨bp, 0, none⟩), .int .i64 (lo : Int), .int .i64 (hi : Int)] w fun e w' => e = .returned (.int .i64 ((Qu.numT s lo hi x).1 : Int)) ∧ PX w' bp s (Qu.numT s lo hi x).2 ∧ FarC bp bp w w' := by
 obtain ⟨V, hV0, hV⟩ := base_world w
 have B0 := zh hV
 have HVW := zh hV
 clear hV
 have HF := zh (FarH.refl bp bp w)
 have HTS := zh hP.tt
 have HCH := zh hP.ch
 have HTK := zh hP.tk
 have HOK := zh hP.ok
 have hln := hP.tt.sg.len
 have hcp := hP.tt.sg.cap
 have htp := hP.tt.sg.top
 have hps := hP.ch.pos
 have Hpbp : Hid (w.heap[bp]? = some (.cells #[.slice A n c, .int .i64 (x.o : Int), .int .i64 (x.e : Int)] 79 (0, 0))) := zh (hP.row)
 have Gpbp : Hid (V.heap.size ≤ bp) := zh (by omega)
 have Lpbp : Hid (bp < w.heap.size) := zh (xp_lt Hpbp.out)
 have hbp0 := xp_lt hP.row
 clear hP
 go_enter Tryd.func48, Tryd.ntmps48
 go_upto_region 0 with fail
 refine wp_region_lit ?_
 refine zr (.int .i64 0) w rfl ?_
 simp only [Act.put, zA]
 refine wpList_nil ?_
 by_cases h3 : x.st.tok.cls = 3
 ·obtain ⟨l, hl⟩ : ∃ l, x.st.tok.tx = l := ⟨_, rfl⟩
  have htk : Qu.tokR x.st = ⟨2, l, x.st.off⟩ := by
     unfold Qu.tokR Qu.kdR Qu.txR
     rw [h3, hl]
     rfl
  have HE0 : Hid (ts[0]? = some (Qu.RT.mk 2 l x.st.off)) := zh (by rw [← htk]; exact HCH.out.head)
  have HTX := zh hl
  clear hl htk
  obtain ⟨ll, hll⟩ : ∃ ll, l.length = ll := ⟨_, rfl⟩
  have HLL := zh hll
  clear hll
  obtain ⟨a, ha⟩ : ∃ a, Qu.numR l = a := ⟨_, rfl⟩
  have HA := zh ha
  clear ha
  have la : a ≤ 1000000 := by rw [← HA.out]; exact numR_le _
  have hll : ll ≤ 1000000 := by rw [← HLL.out, ← HTX.out]; have := HOK.out.2.2; omega
  have hnt : ¬ Ter x.st := fun q => by rcases q with q | q <;> omega
  have HNT := zh hnt
  have H3 := zh h3
  clear hnt h3
  go_upto_region 1 with fail
  refine wp_region_lit ?_
  refine zr (.pointer (some ⟨bp, 0, none⟩)) w rfl ?_
  simp only [Act.put, zA]
  refine zr (.pointer (some ⟨bp, 0, none⟩)) w (xo_nil _ rfl rfl) ?_
  simp only [Act.put, zA]
  refine zr (.pointer (some ⟨bp, 0, none⟩)) w (xo_fld0 0 bp 0 (by kernel_rfl) rfl rfl) ?_
  simp only [Act.put, zA]
  refine zr (.slice A n c) w (xo_load1 ⟨bp, 0, none⟩ _ (cells_at Hpbp.out 0 rfl) Tryd.underlying76 rfl rfl rfl) ?_
  simp only [Act.put, zA]
  refine zr (.pointer (some (gad A (0 * 3)))) w (xg_idx .i64 HTS.out.sg HE0.out Tryd.underlying76 (by kernel_rfl) rfl rfl rfl) ?_
  simp only [Act.put, zA]
  refine zr (.pointer (some (gad A ((0 * 3) + 0)))) w (xg_fld 0 HTS.out.sg HE0.out (by kernel_rfl) rfl rfl) ?_
  simp only [Act.put, zA]
  refine zr (.int .i64 2) w (xg_load1 (E := tkR) (i := 0) (j := 0) HTS.out.sg HE0.out rfl rfl Tryd.underlying3 rfl rfl rfl) ?_
  simp only [Act.put, zA]
  refine zr (.bool false) w (xo_neqF .i64 2 2 (by omega) rfl rfl rfl) ?_
  simp only [Act.put, zA]
  refine wpList_nil ?_
  go_upto_region 4 with fail
  refine wp_later_lex (by kernel_rfl) (lexOK_of (by kernel_rfl) (by kernel_rfl)) ?_
  refine zv (.pointer (some ⟨bp, 0, none⟩)) (fun v hv => rfl) ?_
  simp only [Act.put, zA]
  refine zv (.pointer (some ⟨bp, 0, none⟩)) (fun v hv => (xo_nil _ rfl rfl)) ?_
  simp only [Act.put, zA]
  refine zv (.pointer (some ⟨bp, 0, none⟩)) (fun v hv => (xo_fld0 0 bp 0 (by kernel_rfl) rfl rfl)) ?_
  simp only [Act.put, zA]
  refine zv (.slice A n c) (fun v hv => (xo_load1 ⟨bp, 0, none⟩ _ (cells_at (heap_keep Hpbp.out (later_bel hv)) 0 rfl) Tryd.underlying76 rfl rfl rfl)) ?_
  simp only [Act.put, zA]
  refine zv (.pointer (some (gad A (0 * 3)))) (fun v hv => (xg_idx .i64 (HTS.out.keep (later_bel hv)).sg HE0.out Tryd.underlying76 (by kernel_rfl) rfl rfl rfl)) ?_
  simp only [Act.put, zA]
  refine zv (.pointer (some (gad A ((0 * 3) + 1)))) (fun v hv => (xg_fld 1 (HTS.out.keep (later_bel hv)).sg HE0.out (by kernel_rfl) rfl rfl)) ?_
  simp only [Act.put, zA]
  refine zv (.string (sB l)) (fun v hv => (xg_load1 (E := tkR) (i := 0) (j := 1) (HTS.out.keep (later_bel hv)).sg HE0.out rfl rfl Tryd.underlying9 rfl rfl rfl)) ?_
  simp only [Act.put, zA]
  refine zv (.int .i64 0) (fun v hv => rfl) ?_
  simp only [Act.put, zA]
  refine zv (.string (sB l)) (fun v hv => rfl) ?_
  simp only [Act.put, zA]
  refine wpQuiet_nil ?_
  intro X1_0
  have hb := X1_0.below
  generalize X1_0.at = V2 at *
  have B1 := zh hb
  clear hb
  go_upto_region 5 with fail
  refine wp_region_lit ?_
  refine zr (.int .i64 0) V2 rfl ?_
  simp only [Act.put, zA]
  refine wpList_nil ?_
  go_wp2_with fail
  go_loopw [9, 7] (fun p v wr => ∃ i : Nat, i ≤ ll ∧ p = .int .i64 (i : Int) ∧ v = .int .i64 ((Qu.numR (l.take i) : Nat) : Int) ∧ V2 = wr) (fun p _ _ => ll - (intOf p).toNat)
  case atStart => exact ⟨0, Nat.zero_le _, rfl, rfl, rfl⟩
  case round =>
   obtain ⟨i, hil, rfl, rfl, hw⟩ := hrel
   subst hw
   obtain ⟨m, hm⟩ : ∃ m, Qu.numR (l.take i) = m := ⟨_, rfl⟩
   have lm : m ≤ 1000000 := by rw [← hm]; exact numR_le _
   rw [hm]
   have HM := zh hm
   clear hm
   by_cases hlt : i < ll
   ·have hci1 : ((i : Int) < (ll : Int)) := by omega
    go_upto_region 6 with fail
    refine wp_region_lit ?_
    refine zr (.int .i64 (i : Int)) V2 rfl ?_
    simp only [Act.put, zA]
    refine zr (.string (sB l)) V2 rfl ?_
    simp only [Act.put, zA]
    refine zr (.int .i64 (ll : Int)) V2 (xs_lenN l ll HLL.out Tryd.underlying9 rfl rfl) ?_
    simp only [Act.put, zA]
    refine zr (.bool true) V2 (xo_lssT .i64 (i : Int) (ll : Int) (by omega) rfl rfl rfl) ?_
    simp only [Act.put, zA]
    refine wpList_nil ?_
    obtain ⟨b, hb⟩ : ∃ b, l[i]? = some b := ⟨_, List.getElem?_eq_getElem (by rw [HLL.out]; exact hlt)⟩
    have HEb := zh hb
    clear hb
    obtain ⟨d, hd⟩ : ∃ d, (b - 48).toNat = d := ⟨_, rfl⟩
    have hd2 : d < 256 := by rw [← hd]; exact UInt8.toNat_lt _
    have HD := zh hd
    clear hd
    go_upto_region 8 with fail
    refine wp_region_lit ?_
    refine zr (.int .i64 (m : Int)) V2 rfl ?_
    simp only [Act.put, zA]
    refine zr (.int .i64 ((m * 10 : Nat) : Int)) V2 (xo_mulI (m : Int) 10 ((m * 10 : Nat) : Int) (by omega) (by omega) (by omega) rfl rfl rfl) ?_
    simp only [Act.put, zA]
    refine zr (.string (sB l)) V2 rfl ?_
    simp only [Act.put, zA]
    refine zr (.int .i64 (i : Int)) V2 rfl ?_
    simp only [Act.put, zA]
    refine zr (.int .u8 ((b.toNat : Nat) : Int)) V2 (xs_idx l i b HEb.out Tryd.underlying9 rfl rfl rfl) ?_
    simp only [Act.put, zA]
    refine zr (.int .u8 (d : Int)) V2 (xo_sub .u8 (b.toNat : Int) 48 (d : Int) (by rw [IntKind.wrap_u8, ← HD.out, UInt8.toNat_sub]; show ((b.toNat : Int) - 48) % 256 = (((2 ^ 8 - 48 + b.toNat) % 2 ^ 8 : Nat) : Int); omega) rfl rfl rfl) ?_
    simp only [Act.put, zA]
    refine zr (.int .i64 (d : Int)) V2 (xo_cvt .u8 .i64 (d : Int) (d : Int) (by rw [IntKind.wrap_i64]; omega) Tryd.underlying3 Tryd.underlying5 rfl rfl) ?_
    simp only [Act.put, zA]
    refine zr (.int .i64 (((m * 10) + d : Nat) : Int)) V2 (xo_addI ((m * 10 : Nat) : Int) (d : Int) (((m * 10) + d : Nat) : Int) (by omega) (by omega) (by omega) rfl rfl rfl) ?_
    simp only [Act.put, zA]
    refine zr (.int .i64 ((min ((m * 10) + d) 1000000 : Nat) : Int)) V2 (xo_min .i64 (((m * 10) + d : Nat) : Int) 1000000 ((min ((m * 10) + d) 1000000 : Nat) : Int) (by split <;> omega) rfl rfl rfl) ?_
    simp only [Act.put, zA]
    refine zr (.int .i64 ((min ((m * 10) + d) 1000000 : Nat) : Int)) V2 rfl ?_
    simp only [Act.put, zA]
    refine wpList_nil ?_
    go_upto_region 7 with fail
    refine wp_region_lit ?_
    refine zr (.int .i64 (i : Int)) V2 rfl ?_
    simp only [Act.put, zA]
    refine zr (.int .i64 ((i + 1 : Nat) : Int)) V2 (xo_addI (i : Int) 1 ((i + 1 : Nat) : Int) (by omega) (by omega) (by omega) rfl rfl rfl) ?_
    simp only [Act.put, zA]
    refine zr (.int .i64 ((i + 1 : Nat) : Int)) V2 rfl ?_
    simp only [Act.put, zA]
    refine wpList_nil ?_
    go_wp2_with fail
    go_roundw
    case rel => exact ⟨i + 1, by omega, by go_num, by rw [numR_take HEb.out, HM.out, HD.out], by first | trivial | rfl⟩
    case measure => simp [intOf]; omega
   ·have hci1 : ¬ ((i : Int) < (ll : Int)) := by omega
    go_upto_region 6 with fail
    refine wp_region_lit ?_
    refine zr (.int .i64 (i : Int)) V2 rfl ?_
    simp only [Act.put, zA]
    refine zr (.string (sB l)) V2 rfl ?_
    simp only [Act.put, zA]
    refine zr (.int .i64 (ll : Int)) V2 (xs_lenN l ll HLL.out Tryd.underlying9 rfl rfl) ?_
    simp only [Act.put, zA]
    refine zr (.bool false) V2 (xo_lssF .i64 (i : Int) (ll : Int) (by omega) rfl rfl rfl) ?_
    simp only [Act.put, zA]
    refine wpList_nil ?_
    have ema : m = a := by rw [← HM.out, ← HA.out, List.take_of_length_le (by have := HLL.out; omega)]
    subst ema
    by_cases hr : m < lo ∨ hi < m
    ·by_cases hml : m < lo
     ·have hci2 : ((m : Int) < (lo : Int)) := by omega
      go_upto_region 9 with fail
      refine wp_region_lit ?_
      refine zr (.int .i64 (m : Int)) V2 rfl ?_
      simp only [Act.put, zA]
      refine zr (.int .i64 (lo : Int)) V2 rfl ?_
      simp only [Act.put, zA]
      refine zr (.bool true) V2 (xo_lssT .i64 (m : Int) (lo : Int) (by omega) rfl rfl rfl) ?_
      simp only [Act.put, zA]
      refine zr (.bool true) V2 rfl ?_
      simp only [Act.put, zA]
      refine zl ?_
      try simp only [Act.put, zA]
      refine zl ?_
      try simp only [Act.put, zA]
      refine zl ?_
      try simp only [Act.put, zA]
      refine zr (.bool true) V2 rfl ?_
      simp only [Act.put, zA]
      refine wpList_nil ?_
      go_upto_region 10 with fail
      refine wp_region_lit ?_
      refine zr (.pointer (some ⟨bp, 0, none⟩)) V2 rfl ?_
      simp only [Act.put, zA]
      refine wpList_call (by kernel_rfl) 63 Tryd.func63 (by kernel_rfl) (by kernel_rfl) _ _ #[.pointer (some ⟨bp, 0, none⟩), .int .i64 1] rfl (by kernel_rfl) ?_
      refine (fail_as s bp x A n c ts V2 ⟨(heap_keep Hpbp.out B1.out), (HTS.out.keep B1.out), HCH.out, HTK.out, HOK.out⟩ 1).mono ?_
      rintro e W2_3 ⟨rfl, ⟨A_0, n_0, c_0, t_0, hpr⟩, hfc⟩
      have YHF : FarH bp bp w W2_3 := FarH.farC (HF.out.keep B1.out) hfc
      have C0_2 := zb B0 B1
      have hb := farc_bel hV0 C0_2.out hfc
      have hbr := hb
      clear B0
      have B0 := zh hbr
      clear hbr
      clear hb
      clear HF
      have HF : Hid (FarH bp bp w W2_3) := zh YHF
      clear YHF
      have hln_0 := hpr.tt.sg.len
      have hcp_0 := hpr.tt.sg.cap
      have htp_0 := hpr.tt.sg.top
      have hps_0 := hpr.ch.pos
      try clear HTS
      have HTS := zh hpr.tt 
      try clear HCH
      have HCH := zh hpr.ch 
      try clear HTK
      have HTK := zh hpr.tk 
      try clear HOK
      have HOK := zh hpr.ok 
      clear Hpbp
      have Hpbp : Hid (W2_3.heap[bp]? = some (.cells #[.slice A_0 n_0 c_0, .int .i64 ((Qu.failT 1 x).o : Int), .int .i64 ((Qu.failT 1 x).e : Int)] 79 (0, 0))) := zh (hpr.row)
      clear hfc 
      refine ⟨_, rfl, ?_⟩
      simp only [Act.put, zA]
      refine wpList_nil ?_
      have hfe : (Qu.failT 1 x).e ≠ 0 := by unfold Qu.failT; by_cases q : x.e = 0 <;> simp [q]
      have HFE := zh hfe
      go_upto_region 11 with fail
      refine wp_region_lit ?_
      refine zr (.pointer (some ⟨bp, 0, none⟩)) W2_3 rfl ?_
      simp only [Act.put, zA]
      refine zr (.pointer (some ⟨bp, 0, none⟩)) W2_3 (xo_nil _ rfl rfl) ?_
      simp only [Act.put, zA]
      refine zr (.pointer (some ⟨bp, 2, none⟩)) W2_3 (xo_fld0 2 bp 2 (by kernel_rfl) rfl rfl) ?_
      simp only [Act.put, zA]
      refine zr (.int .i64 ((Qu.failT 1 x).e : Int)) W2_3 (xo_load1 ⟨bp, 2, none⟩ _ (cells_at Hpbp.out 2 rfl) Tryd.underlying35 rfl rfl rfl) ?_
      simp only [Act.put, zA]
      refine zr (.bool false) W2_3 (xo_eqlF .i64 (((Qu.failT 1 x).e : Nat) : Int) 0 (by omega) rfl rfl rfl) ?_
      simp only [Act.put, zA]
      refine wpList_nil ?_
      go_upto_region 13 with fail
      refine wp_region_lit ?_
      refine zr (.int .i64 (m : Int)) W2_3 rfl ?_
      simp only [Act.put, zA]
      refine zr (.int .i64 (m : Int)) W2_3 rfl ?_
      simp only [Act.put, zA]
      refine wpList_nil ?_
      have HE1 : Hid ((Qu.numT s lo hi x).1 = m) := zh (by unfold Qu.numT; rw [if_pos H3.out, HTX.out]; exact HA.out)
      have e0 : (Qu.numT s lo hi x).2 = Qu.failT 1 x := by
             unfold Qu.numT
             rw [if_pos H3.out, HTX.out, HA.out]
             simp only [if_pos hr, if_neg HFE.out]
      have hsf : PX W2_3 bp s (Qu.numT s lo hi x).2 := by rw [e0]; exact ⟨_, _, _, _, Hpbp.out, HTS.out, HCH.out, HTK.out, HOK.out⟩
      have hff := farc_mk HF.out HVW.out B0.out
      try clear e0
      go_wp2_with fail
      go_ret
      exact ⟨by rw [HE1.out]; rfl, hsf, hff⟩
     ·have hci2 : ¬ ((m : Int) < (lo : Int)) := by omega
      have hci3 : ((m : Int) > (hi : Int)) := by omega
      go_upto_region 9 with fail
      refine wp_region_lit ?_
      refine zr (.int .i64 (m : Int)) V2 rfl ?_
      simp only [Act.put, zA]
      refine zr (.int .i64 (lo : Int)) V2 rfl ?_
      simp only [Act.put, zA]
      refine zr (.bool false) V2 (xo_lssF .i64 (m : Int) (lo : Int) (by omega) rfl rfl rfl) ?_
      simp only [Act.put, zA]
      refine zr (.bool false) V2 rfl ?_
      simp only [Act.put, zA]
      refine zr (.int .i64 (m : Int)) V2 rfl ?_
      simp only [Act.put, zA]
      refine zr (.int .i64 (hi : Int)) V2 rfl ?_
      simp only [Act.put, zA]
      refine zr (.bool true) V2 (xo_gtrT .i64 (m : Int) (hi : Int) (by omega) rfl rfl rfl) ?_
      simp only [Act.put, zA]
      refine zr (.bool true) V2 rfl ?_
      simp only [Act.put, zA]
      refine wpList_nil ?_
      go_upto_region 10 with fail
      refine wp_region_lit ?_
      refine zr (.pointer (some ⟨bp, 0, none⟩)) V2 rfl ?_
      simp only [Act.put, zA]
      refine wpList_call (by kernel_rfl) 63 Tryd.func63 (by kernel_rfl) (by kernel_rfl) _ _ #[.pointer (some ⟨bp, 0, none⟩), .int .i64 1] rfl (by kernel_rfl) ?_
      refine (fail_as s bp x A n c ts V2 ⟨(heap_keep Hpbp.out B1.out), (HTS.out.keep B1.out), HCH.out, HTK.out, HOK.out⟩ 1).mono ?_
      rintro e W2_4 ⟨rfl, ⟨A_1, n_1, c_1, t_1, hpr⟩, hfc⟩
      have YHF : FarH bp bp w W2_4 := FarH.farC (HF.out.keep B1.out) hfc
      have C0_2 := zb B0 B1
      have hb := farc_bel hV0 C0_2.out hfc
      have hbr := hb
      clear B0
      have B0 := zh hbr
      clear hbr
      clear hb
      clear HF
      have HF : Hid (FarH bp bp w W2_4) := zh YHF
      clear YHF
      have hln_1 := hpr.tt.sg.len
      have hcp_1 := hpr.tt.sg.cap
      have htp_1 := hpr.tt.sg.top
      have hps_1 := hpr.ch.pos
      try clear HTS
      have HTS := zh hpr.tt 
      try clear HCH
      have HCH := zh hpr.ch 
      try clear HTK
      have HTK := zh hpr.tk 
      try clear HOK
      have HOK := zh hpr.ok 
      clear Hpbp
      have Hpbp : Hid (W2_4.heap[bp]? = some (.cells #[.slice A_1 n_1 c_1, .int .i64 ((Qu.failT 1 x).o : Int), .int .i64 ((Qu.failT 1 x).e : Int)] 79 (0, 0))) := zh (hpr.row)
      clear hfc 
      refine ⟨_, rfl, ?_⟩
      simp only [Act.put, zA]
      refine wpList_nil ?_
      have hfe : (Qu.failT 1 x).e ≠ 0 := by unfold Qu.failT; by_cases q : x.e = 0 <;> simp [q]
      have HFE := zh hfe
      go_upto_region 11 with fail
      refine wp_region_lit ?_
      refine zr (.pointer (some ⟨bp, 0, none⟩)) W2_4 rfl ?_
      simp only [Act.put, zA]
      refine zr (.pointer (some ⟨bp, 0, none⟩)) W2_4 (xo_nil _ rfl rfl) ?_
      simp only [Act.put, zA]
      refine zr (.pointer (some ⟨bp, 2, none⟩)) W2_4 (xo_fld0 2 bp 2 (by kernel_rfl) rfl rfl) ?_
      simp only [Act.put, zA]
      refine zr (.int .i64 ((Qu.failT 1 x).e : Int)) W2_4 (xo_load1 ⟨bp, 2, none⟩ _ (cells_at Hpbp.out 2 rfl) Tryd.underlying35 rfl rfl rfl) ?_
      simp only [Act.put, zA]
      refine zr (.bool false) W2_4 (xo_eqlF .i64 (((Qu.failT 1 x).e : Nat) : Int) 0 (by omega) rfl rfl rfl) ?_
      simp only [Act.put, zA]
      refine wpList_nil ?_
      go_upto_region 13 with fail
      refine wp_region_lit ?_
      refine zr (.int .i64 (m : Int)) W2_4 rfl ?_
      simp only [Act.put, zA]
      refine zr (.int .i64 (m : Int)) W2_4 rfl ?_
      simp only [Act.put, zA]
      refine wpList_nil ?_
      have HE1 : Hid ((Qu.numT s lo hi x).1 = m) := zh (by unfold Qu.numT; rw [if_pos H3.out, HTX.out]; exact HA.out)
      have e0 : (Qu.numT s lo hi x).2 = Qu.failT 1 x := by
             unfold Qu.numT
             rw [if_pos H3.out, HTX.out, HA.out]
             simp only [if_pos hr, if_neg HFE.out]
      have hsf : PX W2_4 bp s (Qu.numT s lo hi x).2 := by rw [e0]; exact ⟨_, _, _, _, Hpbp.out, HTS.out, HCH.out, HTK.out, HOK.out⟩
      have hff := farc_mk HF.out HVW.out B0.out
      try clear e0
      go_wp2_with fail
      go_ret
      exact ⟨by rw [HE1.out]; rfl, hsf, hff⟩
    ·have hci2 : ¬ ((m : Int) < (lo : Int)) := by omega
     have hci3 : ¬ ((m : Int) > (hi : Int)) := by omega
     go_upto_region 9 with fail
     refine wp_region_lit ?_
     refine zr (.int .i64 (m : Int)) V2 rfl ?_
     simp only [Act.put, zA]
     refine zr (.int .i64 (lo : Int)) V2 rfl ?_
     simp only [Act.put, zA]
     refine zr (.bool false) V2 (xo_lssF .i64 (m : Int) (lo : Int) (by omega) rfl rfl rfl) ?_
     simp only [Act.put, zA]
     refine zr (.bool false) V2 rfl ?_
     simp only [Act.put, zA]
     refine zr (.int .i64 (m : Int)) V2 rfl ?_
     simp only [Act.put, zA]
     refine zr (.int .i64 (hi : Int)) V2 rfl ?_
     simp only [Act.put, zA]
     refine zr (.bool false) V2 (xo_gtrF .i64 (m : Int) (hi : Int) (by omega) rfl rfl rfl) ?_
     simp only [Act.put, zA]
     refine zr (.bool false) V2 rfl ?_
     simp only [Act.put, zA]
     refine wpList_nil ?_
     by_cases he : x.e = 0
     ·go_upto_region 11 with fail
      refine wp_region_lit ?_
      refine zr (.pointer (some ⟨bp, 0, none⟩)) V2 rfl ?_
      simp only [Act.put, zA]
      refine zr (.pointer (some ⟨bp, 0, none⟩)) V2 (xo_nil _ rfl rfl) ?_
      simp only [Act.put, zA]
      refine zr (.pointer (some ⟨bp, 2, none⟩)) V2 (xo_fld0 2 bp 2 (by kernel_rfl) rfl rfl) ?_
      simp only [Act.put, zA]
      refine zr (.int .i64 (x.e : Int)) V2 (xo_load1 ⟨bp, 2, none⟩ _ (cells_at (heap_keep Hpbp.out B1.out) 2 rfl) Tryd.underlying35 rfl rfl rfl) ?_
      simp only [Act.put, zA]
      refine zr (.bool true) V2 (xo_eqlT .i64 ((x.e : Nat) : Int) 0 (by omega) rfl rfl rfl) ?_
      simp only [Act.put, zA]
      refine wpList_nil ?_
      go_upto_region 12 with fail
      refine wp_region_lit ?_
      refine zr (.pointer (some ⟨bp, 0, none⟩)) V2 rfl ?_
      simp only [Act.put, zA]
      refine zr (.pointer (some ⟨bp, 0, none⟩)) V2 rfl ?_
      simp only [Act.put, zA]
      refine zr (.pointer (some ⟨bp, 0, none⟩)) V2 (xo_nil _ rfl rfl) ?_
      simp only [Act.put, zA]
      refine zr (.pointer (some ⟨bp, 0, none⟩)) V2 (xo_fld0 0 bp 0 (by kernel_rfl) rfl rfl) ?_
      simp only [Act.put, zA]
      refine zr (.slice A n c) V2 (xo_load1 ⟨bp, 0, none⟩ _ (cells_at (heap_keep Hpbp.out B1.out) 0 rfl) Tryd.underlying76 rfl rfl rfl) ?_
      simp only [Act.put, zA]
      obtain ⟨A9, hA9⟩ : ∃ a, (if c = 1 then A else A.map (·.add (1 * 3))) = a := ⟨_, rfl⟩
      have HA9 := zh hA9
      clear hA9
      refine zr (.slice A9 (n - 1) (c - 1)) V2 (HA9.out ▸ xo_drop .i64 A n c 1 3 (by omega) Tryd.underlying76 (by kernel_rfl) rfl rfl rfl) ?_
      simp only [Act.put, zA]
      refine zr (.pointer (some ⟨bp, 0, none⟩)) V2 (xo_nil _ rfl rfl) ?_
      simp only [Act.put, zA]
      refine zr (.pointer (some ⟨bp, 0, none⟩)) V2 (xo_fld0 0 bp 0 (by kernel_rfl) rfl rfl) ?_
      simp only [Act.put, zA]
      refine wpList_store1 bp 0 #[.slice A n c, .int .i64 (x.o : Int), .int .i64 (x.e : Int)] (.slice A9 (n - 1) (c - 1)) 79 (by kernel_rfl) (heap_keep Hpbp.out B1.out) (xo_store1 bp 0 #[.slice A n c, .int .i64 (x.o : Int), .int .i64 (x.e : Int)] _ (.slice A9 (n - 1) (c - 1)) (heap_keep Hpbp.out B1.out) rfl (by kernel_rfl) rfl rfl rfl rfl) ?_
      intro X2_4 h1 hfar hbel hsz
      have YHF : FarH bp bp w X2_4 := FarH.store (HF.out.keep B1.out) (.inl rfl) hsz hfar
      have YHTS : TS X2_4 A n c ts := TS.far (HTS.out.keep B1.out) (heap_keep Hpbp.out B1.out) (by decide) hfar
      have C0_2 := zb B0 B1
      have hbr := hbel _ _ Gpbp.out C0_2.out
      clear B0
      have B0 := zh hbr
      clear hbr
      clear HF
      have HF := zh YHF
      clear YHF
      clear HTS
      have HTS := zh YHTS
      clear YHTS
      clear Hpbp
      have Hpbp : Hid (X2_4.heap[bp]? = some (.cells #[.slice A9 (n - 1) (c - 1), .int .i64 (x.o : Int), .int .i64 (x.e : Int)] 79 (0, 0))) := zh (h1)
      have HszX2_4 := zh hsz
      clear h1 hfar hbel hsz
      simp only [ptr, Act.put, zA]
      refine wpList_nil ?_
      go_upto_region 13 with fail
      refine wp_region_lit ?_
      refine zr (.int .i64 (m : Int)) X2_4 rfl ?_
      simp only [Act.put, zA]
      refine zr (.int .i64 (m : Int)) X2_4 rfl ?_
      simp only [Act.put, zA]
      refine wpList_nil ?_
      have HE1 : Hid ((Qu.numT s lo hi x).1 = m) := zh (by unfold Qu.numT; rw [if_pos H3.out, HTX.out]; exact HA.out)
      have e0 : (Qu.numT s lo hi x).2 = Qu.advT s x := by
             unfold Qu.numT
             rw [if_pos H3.out, HTX.out, HA.out]
             simp only [if_neg hr, if_pos he]
      have hsf : PX X2_4 bp s (Qu.numT s lo hi x).2 := by rw [e0]; exact ⟨_, _, _, _, Hpbp.out, HA9.out ▸ TS.drop HTS.out (by omega), HCH.out.tail HNT.out, Tkn.adv _, Qu.adv_ok HOK.out⟩
      have hff := farc_mk HF.out HVW.out B0.out
      clear e0
      go_wp2_with fail
      go_ret
      exact ⟨by rw [HE1.out]; rfl, hsf, hff⟩
     ·go_upto_region 11 with fail
      refine wp_region_lit ?_
      refine zr (.pointer (some ⟨bp, 0, none⟩)) V2 rfl ?_
      simp only [Act.put, zA]
      refine zr (.pointer (some ⟨bp, 0, none⟩)) V2 (xo_nil _ rfl rfl) ?_
      simp only [Act.put, zA]
      refine zr (.pointer (some ⟨bp, 2, none⟩)) V2 (xo_fld0 2 bp 2 (by kernel_rfl) rfl rfl) ?_
      simp only [Act.put, zA]
      refine zr (.int .i64 (x.e : Int)) V2 (xo_load1 ⟨bp, 2, none⟩ _ (cells_at (heap_keep Hpbp.out B1.out) 2 rfl) Tryd.underlying35 rfl rfl rfl) ?_
      simp only [Act.put, zA]
      refine zr (.bool false) V2 (xo_eqlF .i64 ((x.e : Nat) : Int) 0 (by omega) rfl rfl rfl) ?_
      simp only [Act.put, zA]
      refine wpList_nil ?_
      go_upto_region 13 with fail
      refine wp_region_lit ?_
      refine zr (.int .i64 (m : Int)) V2 rfl ?_
      simp only [Act.put, zA]
      refine zr (.int .i64 (m : Int)) V2 rfl ?_
      simp only [Act.put, zA]
      refine wpList_nil ?_
      have HE1 : Hid ((Qu.numT s lo hi x).1 = m) := zh (by unfold Qu.numT; rw [if_pos H3.out, HTX.out]; exact HA.out)
      have e0 : (Qu.numT s lo hi x).2 = x := by
             unfold Qu.numT
             rw [if_pos H3.out, HTX.out, HA.out]
             simp only [if_neg hr, if_neg he]
      have hsf : PX V2 bp s (Qu.numT s lo hi x).2 := by rw [e0]; exact ⟨_, _, _, _, (heap_keep Hpbp.out B1.out), (HTS.out.keep B1.out), HCH.out, HTK.out, HOK.out⟩
      have C0_2 := zb B0 B1
      have hff := farc_mk (HF.out.keep B1.out) HVW.out C0_2.out
      try clear e0
      go_wp2_with fail
      go_ret
      exact ⟨by rw [HE1.out]; rfl, hsf, hff⟩
 ·have hq : ¬ Qu.kdR x.st.tok = 2 := fun q => h3 (num_iff.1 q)
  go_upto_region 1 with fail
  refine wp_region_lit ?_
  refine zr (.pointer (some ⟨bp, 0, none⟩)) w rfl ?_
  simp only [Act.put, zA]
  refine zr (.pointer (some ⟨bp, 0, none⟩)) w (xo_nil _ rfl rfl) ?_
  simp only [Act.put, zA]
  refine zr (.pointer (some ⟨bp, 0, none⟩)) w (xo_fld0 0 bp 0 (by kernel_rfl) rfl rfl) ?_
  simp only [Act.put, zA]
  refine zr (.slice A n c) w (xo_load1 ⟨bp, 0, none⟩ _ (cells_at Hpbp.out 0 rfl) Tryd.underlying76 rfl rfl rfl) ?_
  simp only [Act.put, zA]
  refine zr (.pointer (some (gad A (0 * 3)))) w (xg_idx .i64 HTS.out.sg HCH.out.head Tryd.underlying76 (by kernel_rfl) rfl rfl rfl) ?_
  simp only [Act.put, zA]
  refine zr (.pointer (some (gad A ((0 * 3) + 0)))) w (xg_fld 0 HTS.out.sg HCH.out.head (by kernel_rfl) rfl rfl) ?_
  simp only [Act.put, zA]
  refine zr (.int .i64 ((Qu.tokR x.st).kind : Int)) w (xg_load1 (E := tkR) (i := 0) (j := 0) HTS.out.sg HCH.out.head rfl rfl Tryd.underlying3 rfl rfl rfl) ?_
  simp only [Act.put, zA]
  refine zr (.bool true) w (xo_neqT .i64 (((Qu.tokR x.st).kind : Nat) : Int) 2 (show ¬ ((Qu.kdR x.st.tok : Nat) : Int) = 2 by omega) rfl rfl rfl) ?_
  simp only [Act.put, zA]
  refine wpList_nil ?_
  go_upto_region 2 with fail
  refine wp_region_lit ?_
  refine zr (.pointer (some ⟨bp, 0, none⟩)) w rfl ?_
  simp only [Act.put, zA]
  refine wpList_call (by kernel_rfl) 46 Tryd.func46 (by kernel_rfl) (by kernel_rfl) _ _ #[.pointer (some ⟨bp, 0, none⟩)] rfl (by kernel_rfl) ?_
  refine (unexp_as s bp x A n c ts w ⟨Hpbp.out, HTS.out, HCH.out, HTK.out, HOK.out⟩).mono ?_
  rintro e W1_0 ⟨rfl, ⟨A_2, n_2, c_2, t_2, hpr⟩, hfc⟩
  have YHF : FarH bp bp w W1_0 := FarH.farC HF.out hfc
  have hb := farc_bel hV0 B0.out hfc
  have hbr := hb
  clear B0
  have B0 := zh hbr
  clear hbr
  clear hb
  clear HF
  have HF : Hid (FarH bp bp w W1_0) := zh YHF
  clear YHF
  have hln_2 := hpr.tt.sg.len
  have hcp_2 := hpr.tt.sg.cap
  have htp_2 := hpr.tt.sg.top
  have hps_2 := hpr.ch.pos
  try clear HTS
  have HTS := zh hpr.tt 
  try clear HCH
  have HCH := zh hpr.ch 
  try clear HTK
  have HTK := zh hpr.tk 
  try clear HOK
  have HOK := zh hpr.ok 
  clear Hpbp
  have Hpbp : Hid (W1_0.heap[bp]? = some (.cells #[.slice A_2 n_2 c_2, .int .i64 ((Qu.unT x).o : Int), .int .i64 ((Qu.unT x).e : Int)] 79 (0, 0))) := zh (hpr.row)
  clear hfc 
  refine ⟨_, rfl, ?_⟩
  simp only [Act.put, zA]
  refine wpList_nil ?_
  go_upto_region 3 with fail
  refine wp_region_lit ?_
  refine zr (.int .i64 0) W1_0 rfl ?_
  simp only [Act.put, zA]
  refine wpList_nil ?_
  have HE1 : Hid ((Qu.numT s lo hi x).1 = 0) := zh (by unfold Qu.numT; rw [if_neg h3])
  have e0 : (Qu.numT s lo hi x).2 = Qu.unT x := by unfold Qu.numT; rw [if_neg h3]
  have hsf : PX W1_0 bp s (Qu.numT s lo hi x).2 := by rw [e0]; exact ⟨_, _, _, _, Hpbp.out, HTS.out, HCH.out, HTK.out, HOK.out⟩
  have hff := farc_mk HF.out HVW.out B0.out
  try clear e0
  go_wp2_with fail
  go_ret
  exact ⟨by rw [HE1.out]; rfl, hsf, hff⟩
theorem name_list {i : Nat} (h : i < 4) : ([[119, 104, 111], [119, 104, 101, 110], [107, 105, 110, 100], [118, 97, 108, 117, 101]] : List (List UInt8))[i]? = some (Qu.nameN i) := by
 have h4 : i = 0 ∨ i = 1 ∨ i = 2 ∨ i = 3 := by omega
 rcases h4 with rfl | rfl | rfl | rfl <;> rfl
set_option maxRecDepth 100000 in
set_option maxHeartbeats 32000000 in
theorem rcolumn_st (s : List UInt8) (bp : Nat) (x : Qu.X) (A : Option Addr) (n c : Nat) (ts : List Qu.RT) (w : World) (hP : PR w bp s x A n c ts) :
  Calls Tryd.prog 47 #[.pointer (some ⟨bp, 0, none⟩)] w fun e w' => e = .returned (.int .i64 ((Qu.colT s x).1 : Int)) ∧ PX w' bp s (Qu.colT s x).2 ∧ FarC bp bp w w' := by
 obtain ⟨V, hV0, hV⟩ := base_world w
 have B0 := zh hV
 have HVW := zh hV
 clear hV
 have HF := zh (FarH.refl bp bp w)
 have HTS := zh hP.tt
 have HCH := zh hP.ch
 have HTK := zh hP.tk
 have HOK := zh hP.ok
 have hln := hP.tt.sg.len
 have hcp := hP.tt.sg.cap
 have htp := hP.tt.sg.top
 have hps := hP.ch.pos
 have Hpbp : Hid (w.heap[bp]? = some (.cells #[.slice A n c, .int .i64 (x.o : Int), .int .i64 (x.e : Int)] 79 (0, 0))) := zh (hP.row)
 have Gpbp : Hid (V.heap.size ≤ bp) := zh (by omega)
 have Lpbp : Hid (bp < w.heap.size) := zh (xp_lt Hpbp.out)
 have hbp0 := xp_lt hP.row
 clear hP
 go_enter Tryd.func47, Tryd.ntmps47
 go_upto_region 0 with fail
 refine wp_region_lit ?_
 refine zr (.int .i64 0) w rfl ?_
 simp only [Act.put, zA]
 refine wpList_nil ?_
 go_upto_region 1 with fail
 refine wp_region_lit ?_
 refine wpList_mk (by kernel_rfl) ([[119, 104, 111], [119, 104, 101, 110], [107, 105, 110, 100], [118, 97, 108, 117, 101]].flatMap stC).toArray 9 4 4 (xg_lit (E := stC) (bytes := 16) (.string ByteArray.empty) [.const (.string ⟨#[119, 104, 111]⟩), .const (.string ⟨#[119, 104, 101, 110]⟩), .const (.string ⟨#[107, 105, 110, 100]⟩), .const (.string ⟨#[118, 97, 108, 117, 101]⟩)] [[119, 104, 111], [119, 104, 101, 110], [107, 105, 110, 100], [118, 97, 108, 117, 101]] 4 Tryd.underlying86 (by kernel_rfl) rfl (by decide) (by decide) rfl rfl) ?_
 intro g5 V2 hge h0 hb
 have N0_0 : Hid (bp ≠ g5) := zh (xp_lt0 Hpbp.out hge)
 have Ge1 : Hid (w.heap.size ≤ g5) := zh hge
 have B1 := zh hb
 have Fv2_5 : Hid (RowG stC V2 g5 9 ([[119, 104, 111], [119, 104, 101, 110], [107, 105, 110, 100], [118, 97, 108, 117, 101]])) := zh (h0)
 have Lt3 : Hid (g5 < V2.heap.size) := zh (xp_lt Fv2_5.out)
 have Gw4 : Hid (w.heap.size ≤ g5) := zh (Nat.le_trans HF.out.size Ge1.out)
 clear hge h0 hb
 simp only [ptr, Act.put, zA]
 refine zr (.slice (some ⟨g5, 0, none⟩) 4 4) V2 rfl ?_
 simp only [Act.put, zA]
 refine wpList_nil ?_
 go_upto_region 2 with fail
 refine wp_region_lit ?_
 refine zr (.int .i64 0) V2 rfl ?_
 simp only [Act.put, zA]
 refine wpList_nil ?_
 have r0 : PR V2 bp s x A n c ts := ⟨(heap_keep Hpbp.out B1.out), (HTS.out.keep B1.out), HCH.out, HTK.out, HOK.out⟩
 have f0 := (HF.out.keep B1.out)
 have g0 := Fv2_5.out
 have C0_2 := zb B0 B1
 have bb0 := C0_2.out
 go_wp2_with fail
 go_loopw [4] (fun p wr => ∃ (i : Nat) (A2 : Option Addr) (n2 c2 : Nat) (t2 : List Qu.RT), p = .int .i64 (i : Int) ∧ i ≤ 4 ∧ Qu.tryT s Qu.nameN x 0 4 = Qu.tryT s Qu.nameN x i (4 - i) ∧ PR wr bp s x A2 n2 c2 t2 ∧ RowG stC wr g5 9 ([[119, 104, 111], [119, 104, 101, 110], [107, 105, 110, 100], [118, 97, 108, 117, 101]]) ∧ FarH bp bp w wr ∧ Below V.heap.size V wr) (fun p _ => 4 - (intOf p).toNat)
 case atStart => exact ⟨0, _, _, _, _, rfl, by omega, rfl, r0, g0, f0, bb0⟩
 case round =>
  clear r0 f0 g0 bb0 B0 HF Hpbp HTS HCH HTK HOK Fv2_5
  obtain ⟨wo, rfl⟩ : ∃ wo : World, wo = wr := ⟨_, rfl⟩
  obtain ⟨i, A2, n2, c2, t2, rfl, hi, htry, hpr, hg5, hfh, hbb⟩ := hrel
  have B0 := zh hbb
  have HF := zh hfh
  have Hpbp := zh hpr.row
  have HTS := zh hpr.tt
  have HCH := zh hpr.ch
  have HTK := zh hpr.tk
  have HOK := zh hpr.ok
  have Fv2_5 := zh hg5
  have HTRY := zh htry
  have hln2 := hpr.tt.sg.len
  have hcp2 := hpr.tt.sg.cap
  have htp2 := hpr.tt.sg.top
  have hps2 := hpr.ch.pos
  clear hbb hfh hpr hg5 htry
  have Gv5 : Hid (V.heap.size ≤ g5) := zh (by omega)
  have Lt6 : Hid (g5 < wo.heap.size) := zh (xp_lt Fv2_5.out)
  by_cases hlt : i < 4
  ·have hci7 : ((i : Int) < 4) := by omega
   go_upto_region 3 with fail
   refine wp_region_lit ?_
   refine zr (.int .i64 (i : Int)) wo rfl ?_
   simp only [Act.put, zA]
   refine zr (.bool true) wo (xo_lssT .i64 (i : Int) 4 (by omega) rfl rfl rfl) ?_
   simp only [Act.put, zA]
   refine wpList_nil ?_
   have HNM := zh (name_list hlt)
   by_cases ha : AccY (Qu.nameN i) x
   ·go_upto_region 5 with fail
    refine wp_region_lit ?_
    refine zr (.pointer (some ⟨bp, 0, none⟩)) wo rfl ?_
    simp only [Act.put, zA]
    refine zr (.slice (some ⟨g5, 0, none⟩) 4 4) wo rfl ?_
    simp only [Act.put, zA]
    refine zr (.int .i64 (i : Int)) wo rfl ?_
    simp only [Act.put, zA]
    refine zr (.pointer (some (gad (some ⟨g5, 0, none⟩) (i * 1)))) wo (xg_idx .i64 (RowG.sg (n := 4) (c := 4) Fv2_5.out (show ([[119, 104, 111], [119, 104, 101, 110], [107, 105, 110, 100], [118, 97, 108, 117, 101]]).length = 4 from rfl) (Nat.le_refl _) (by omega)) HNM.out Tryd.underlying86 (by kernel_rfl) rfl rfl rfl) ?_
    simp only [Act.put, zA]
    refine zr (.string (sB (Qu.nameN i))) wo (xg_load1 (E := stC) (i := i) (j := 0) (RowG.sg (n := 4) (c := 4) Fv2_5.out (show ([[119, 104, 111], [119, 104, 101, 110], [107, 105, 110, 100], [118, 97, 108, 117, 101]]).length = 4 from rfl) (Nat.le_refl _) (by omega)) HNM.out rfl rfl Tryd.underlying9 rfl rfl rfl) ?_
    simp only [Act.put, zA]
    refine wpList_call (by kernel_rfl) 45 Tryd.func45 (by kernel_rfl) (by kernel_rfl) _ _ #[.pointer (some ⟨bp, 0, none⟩), .string (sB (Qu.nameN i))] rfl (by kernel_rfl) ?_
    refine (raccept_yes s bp x A2 n2 c2 t2 wo ⟨Hpbp.out, HTS.out, HCH.out, HTK.out, HOK.out⟩ (Qu.nameN i) (Qu.nameN_ne i) ha).mono ?_
    rintro e W1_8 ⟨rfl, ⟨A_3, n_3, c_3, t_3, hpr⟩, hfc⟩
    have YFv2_5 : RowG stC W1_8 g5 9 ([[119, 104, 111], [119, 104, 101, 110], [107, 105, 110, 100], [118, 97, 108, 117, 101]]) := hfc.far _ _ (Ne.symm N0_0.out) (Ne.symm N0_0.out) Fv2_5.out
    have YHF : FarH bp bp w W1_8 := FarH.farC HF.out hfc
    have hb := farc_bel hV0 B0.out hfc
    have hbr := hb
    clear B0
    have B0 := zh hbr
    clear hbr
    clear hb
    clear Fv2_5
    have Fv2_5 : Hid (RowG stC W1_8 g5 9 ([[119, 104, 111], [119, 104, 101, 110], [107, 105, 110, 100], [118, 97, 108, 117, 101]])) := zh YFv2_5
    clear YFv2_5
    clear HF
    have HF : Hid (FarH bp bp w W1_8) := zh YHF
    clear YHF
    have Gv9 : Hid (V.heap.size ≤ g5) := zh (by omega)
    have Lt10 : Hid (g5 < W1_8.heap.size) := zh (xp_lt Fv2_5.out)
    have hln_3 := hpr.tt.sg.len
    have hcp_3 := hpr.tt.sg.cap
    have htp_3 := hpr.tt.sg.top
    have hps_3 := hpr.ch.pos
    try clear HTS
    have HTS := zh hpr.tt 
    try clear HCH
    have HCH := zh hpr.ch 
    try clear HTK
    have HTK := zh hpr.tk 
    try clear HOK
    have HOK := zh hpr.ok 
    clear Hpbp
    have Hpbp : Hid (W1_8.heap[bp]? = some (.cells #[.slice A_3 n_3 c_3, .int .i64 ((Qu.advT s x).o : Int), .int .i64 ((Qu.advT s x).e : Int)] 79 (0, 0))) := zh (hpr.row)
    clear hfc 
    refine ⟨_, rfl, ?_⟩
    simp only [Act.put, zA]
    refine wpList_nil ?_
    go_upto_region 6 with fail
    refine wp_region_lit ?_
    refine zr (.int .i64 (i : Int)) W1_8 rfl ?_
    simp only [Act.put, zA]
    refine zr (.int .i64 (i : Int)) W1_8 rfl ?_
    simp only [Act.put, zA]
    refine wpList_nil ?_
    have hstep : Qu.tryT s Qu.nameN x i (4 - i) = if AccY (Qu.nameN i) x then (some i, Qu.advT s x) else Qu.tryT s Qu.nameN x (i + 1) (4 - (i + 1)) := by rw [show 4 - i = (4 - (i + 1)) + 1 by omega]; rfl
    rw [if_pos ha] at hstep
    have e0 : Qu.colT s x = (i, Qu.advT s x) := by unfold Qu.colT; rw [HTRY.out, hstep]
    have HE := zh e0
    clear hstep e0
    have hsf : PX W1_8 bp s (Qu.colT s x).2 := by rw [HE.out]; exact ⟨_, _, _, _, Hpbp.out, HTS.out, HCH.out, HTK.out, HOK.out⟩
    have hff := farc_mk HF.out HVW.out B0.out
    go_wp2_with fail
    go_ret
    exact ⟨by rw [HE.out]; rfl, hsf, hff⟩
   ·go_upto_region 5 with fail
    refine wp_region_lit ?_
    refine zr (.pointer (some ⟨bp, 0, none⟩)) wo rfl ?_
    simp only [Act.put, zA]
    refine zr (.slice (some ⟨g5, 0, none⟩) 4 4) wo rfl ?_
    simp only [Act.put, zA]
    refine zr (.int .i64 (i : Int)) wo rfl ?_
    simp only [Act.put, zA]
    refine zr (.pointer (some (gad (some ⟨g5, 0, none⟩) (i * 1)))) wo (xg_idx .i64 (RowG.sg (n := 4) (c := 4) Fv2_5.out (show ([[119, 104, 111], [119, 104, 101, 110], [107, 105, 110, 100], [118, 97, 108, 117, 101]]).length = 4 from rfl) (Nat.le_refl _) (by omega)) HNM.out Tryd.underlying86 (by kernel_rfl) rfl rfl rfl) ?_
    simp only [Act.put, zA]
    refine zr (.string (sB (Qu.nameN i))) wo (xg_load1 (E := stC) (i := i) (j := 0) (RowG.sg (n := 4) (c := 4) Fv2_5.out (show ([[119, 104, 111], [119, 104, 101, 110], [107, 105, 110, 100], [118, 97, 108, 117, 101]]).length = 4 from rfl) (Nat.le_refl _) (by omega)) HNM.out rfl rfl Tryd.underlying9 rfl rfl rfl) ?_
    simp only [Act.put, zA]
    refine wpList_call (by kernel_rfl) 45 Tryd.func45 (by kernel_rfl) (by kernel_rfl) _ _ #[.pointer (some ⟨bp, 0, none⟩), .string (sB (Qu.nameN i))] rfl (by kernel_rfl) ?_
    refine (raccept_no s bp x A2 n2 c2 t2 wo ⟨Hpbp.out, HTS.out, HCH.out, HTK.out, HOK.out⟩ (Qu.nameN i) ha).mono ?_
    rintro e W1_8 ⟨rfl, ⟨A_4, n_4, c_4, t_4, hpr⟩, hfc⟩
    have YFv2_5 : RowG stC W1_8 g5 9 ([[119, 104, 111], [119, 104, 101, 110], [107, 105, 110, 100], [118, 97, 108, 117, 101]]) := hfc.far _ _ (Ne.symm N0_0.out) (Ne.symm N0_0.out) Fv2_5.out
    have YHF : FarH bp bp w W1_8 := FarH.farC HF.out hfc
    have hb := farc_bel hV0 B0.out hfc
    have hbr := hb
    clear B0
    have B0 := zh hbr
    clear hbr
    clear hb
    clear Fv2_5
    have Fv2_5 : Hid (RowG stC W1_8 g5 9 ([[119, 104, 111], [119, 104, 101, 110], [107, 105, 110, 100], [118, 97, 108, 117, 101]])) := zh YFv2_5
    clear YFv2_5
    clear HF
    have HF : Hid (FarH bp bp w W1_8) := zh YHF
    clear YHF
    have Gv9 : Hid (V.heap.size ≤ g5) := zh (by omega)
    have Lt10 : Hid (g5 < W1_8.heap.size) := zh (xp_lt Fv2_5.out)
    have hln_4 := hpr.tt.sg.len
    have hcp_4 := hpr.tt.sg.cap
    have htp_4 := hpr.tt.sg.top
    have hps_4 := hpr.ch.pos
    try clear HTS
    have HTS := zh hpr.tt 
    try clear HCH
    have HCH := zh hpr.ch 
    try clear HTK
    have HTK := zh hpr.tk 
    try clear HOK
    have HOK := zh hpr.ok 
    clear Hpbp
    have Hpbp : Hid (W1_8.heap[bp]? = some (.cells #[.slice A_4 n_4 c_4, .int .i64 (x.o : Int), .int .i64 (x.e : Int)] 79 (0, 0))) := zh (hpr.row)
    clear hfc 
    refine ⟨_, rfl, ?_⟩
    simp only [Act.put, zA]
    refine wpList_nil ?_
    go_upto_region 4 with fail
    refine wp_region_lit ?_
    refine zr (.int .i64 (i : Int)) W1_8 rfl ?_
    simp only [Act.put, zA]
    refine zr (.int .i64 ((i + 1 : Nat) : Int)) W1_8 (xo_addI (i : Int) 1 ((i + 1 : Nat) : Int) (by omega) (by omega) (by omega) rfl rfl rfl) ?_
    simp only [Act.put, zA]
    refine zr (.int .i64 ((i + 1 : Nat) : Int)) W1_8 rfl ?_
    simp only [Act.put, zA]
    refine wpList_nil ?_
    have hstep : Qu.tryT s Qu.nameN x i (4 - i) = if AccY (Qu.nameN i) x then (some i, Qu.advT s x) else Qu.tryT s Qu.nameN x (i + 1) (4 - (i + 1)) := by rw [show 4 - i = (4 - (i + 1)) + 1 by omega]; rfl
    rw [if_neg ha] at hstep
    have d0 := HTRY.out.trans hstep
    clear hstep
    have r0 : PR W1_8 bp s x _ _ _ _ := ⟨Hpbp.out, HTS.out, HCH.out, HTK.out, HOK.out⟩
    have f0 := HF.out
    have g0 := Fv2_5.out
    have bb0 := B0.out
    go_wp2_with fail
    go_roundw
    case rel => exact ⟨i + 1, _, _, _, _, by go_num, by omega, d0, r0, g0, f0, bb0⟩
    case measure => simp [intOf]; omega
  ·have hci7 : ¬ ((i : Int) < 4) := by omega
   go_upto_region 3 with fail
   refine wp_region_lit ?_
   refine zr (.int .i64 (i : Int)) wo rfl ?_
   simp only [Act.put, zA]
   refine zr (.bool false) wo (xo_lssF .i64 (i : Int) 4 (by omega) rfl rfl rfl) ?_
   simp only [Act.put, zA]
   refine wpList_nil ?_
   go_upto_region 7 with fail
   refine wp_region_lit ?_
   refine zr (.pointer (some ⟨bp, 0, none⟩)) wo rfl ?_
   simp only [Act.put, zA]
   refine wpList_call (by kernel_rfl) 46 Tryd.func46 (by kernel_rfl) (by kernel_rfl) _ _ #[.pointer (some ⟨bp, 0, none⟩)] rfl (by kernel_rfl) ?_
   refine (unexp_as s bp x A2 n2 c2 t2 wo ⟨Hpbp.out, HTS.out, HCH.out, HTK.out, HOK.out⟩).mono ?_
   rintro e W1_8 ⟨rfl, ⟨A_5, n_5, c_5, t_5, hpr⟩, hfc⟩
   have YFv2_5 : RowG stC W1_8 g5 9 ([[119, 104, 111], [119, 104, 101, 110], [107, 105, 110, 100], [118, 97, 108, 117, 101]]) := hfc.far _ _ (Ne.symm N0_0.out) (Ne.symm N0_0.out) Fv2_5.out
   have YHF : FarH bp bp w W1_8 := FarH.farC HF.out hfc
   have hb := farc_bel hV0 B0.out hfc
   have hbr := hb
   clear B0
   have B0 := zh hbr
   clear hbr
   clear hb
   clear Fv2_5
   have Fv2_5 : Hid (RowG stC W1_8 g5 9 ([[119, 104, 111], [119, 104, 101, 110], [107, 105, 110, 100], [118, 97, 108, 117, 101]])) := zh YFv2_5
   clear YFv2_5
   clear HF
   have HF : Hid (FarH bp bp w W1_8) := zh YHF
   clear YHF
   have Gv9 : Hid (V.heap.size ≤ g5) := zh (by omega)
   have Lt10 : Hid (g5 < W1_8.heap.size) := zh (xp_lt Fv2_5.out)
   have hln_5 := hpr.tt.sg.len
   have hcp_5 := hpr.tt.sg.cap
   have htp_5 := hpr.tt.sg.top
   have hps_5 := hpr.ch.pos
   try clear HTS
   have HTS := zh hpr.tt 
   try clear HCH
   have HCH := zh hpr.ch 
   try clear HTK
   have HTK := zh hpr.tk 
   try clear HOK
   have HOK := zh hpr.ok 
   clear Hpbp
   have Hpbp : Hid (W1_8.heap[bp]? = some (.cells #[.slice A_5 n_5 c_5, .int .i64 ((Qu.unT x).o : Int), .int .i64 ((Qu.unT x).e : Int)] 79 (0, 0))) := zh (hpr.row)
   clear hfc 
   refine ⟨_, rfl, ?_⟩
   simp only [Act.put, zA]
   refine wpList_nil ?_
   go_upto_region 8 with fail
   refine wp_region_lit ?_
   refine zr (.int .i64 0) W1_8 rfl ?_
   simp only [Act.put, zA]
   refine wpList_nil ?_
   have e0 : Qu.colT s x = (0, Qu.unT x) := by unfold Qu.colT; rw [HTRY.out, show 4 - i = 0 by omega]; rfl
   have HE := zh e0
   clear e0
   have hsf : PX W1_8 bp s (Qu.colT s x).2 := by rw [HE.out]; exact ⟨_, _, _, _, Hpbp.out, HTS.out, HCH.out, HTK.out, HOK.out⟩
   have hff := farc_mk HF.out HVW.out B0.out
   go_wp2_with fail
   go_ret
   exact ⟨by rw [HE.out]; rfl, hsf, hff⟩
theorem rcolumn_eq (s : List UInt8) (bp : Nat) (x : Qu.X) (A : Option Addr) (n c : Nat) (ts : List Qu.RT) (w : World) (hP : PR w bp s x A n c ts) (v : Nat) (y : Qu.X) (h : Qu.colT s x = (v, y)) :
  Calls Tryd.prog 47 #[.pointer (some ⟨bp, 0, none⟩)] w fun e w' => e = .returned (.int .i64 (v : Int)) ∧ PX w' bp s y ∧ FarC bp bp w w' := by
 have h0 := rcolumn_st s bp x A n c ts w hP
 rw [h] at h0
 exact h0
theorem rnumber_eq (s : List UInt8) (bp : Nat) (x : Qu.X) (A : Option Addr) (n c : Nat) (ts : List Qu.RT) (w : World) (hP : PR w bp s x A n c ts) (hs4 : s.length ≤ 1000) (lo hi : Nat) (hlo : lo ≤ 1000000) (hhi : hi ≤ 65536) (v : Nat) (y : Qu.X) (h : Qu.numT s lo hi x = (v, y)) :
  Calls Tryd.prog 48 #[.pointer (some ⟨bp, 0, none⟩), .int .i64 (lo : Int), .int .i64 (hi : Int)] w fun e w' => e = .returned (.int .i64 (v : Int)) ∧ PX w' bp s y ∧ FarC bp bp w w' := by
 have h0 := rnumber_as s bp x A n c ts w hP lo hi hlo hhi hs4
 rw [h] at h0
 exact h0
theorem rexpect_eq (s : List UInt8) (bp : Nat) (x : Qu.X) (A : Option Addr) (n c : Nat) (ts : List Qu.RT) (w : World) (hP : PR w bp s x A n c ts) (t : List UInt8) (ht : t ≠ []) (y : Qu.X) (h : Qu.expT s t x = y) :
  Calls Tryd.prog 50 #[.pointer (some ⟨bp, 0, none⟩), .string (sB t)] w fun e w' => e = .returned (.tuple #[]) ∧ PX w' bp s y ∧ FarC bp bp w w' := by
 have h0 := rexpect_as s bp x A n c ts w hP t ht
 rw [h] at h0
 exact h0
end Go.Proofs.YtlicfidcfhbmpaaDoor

