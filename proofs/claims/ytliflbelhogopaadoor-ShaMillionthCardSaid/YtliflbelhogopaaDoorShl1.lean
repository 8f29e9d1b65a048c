/- The walk of ShaMillionth. -/
import Derived.Test.YtliflbelhogopaaDoorShf0
namespace Go.Proofs.YtliflbelhogopaaDoor
set_option maxRecDepth 8000
open Go.RowKit
attribute [local simp] z32_ne z32_run
attribute [-simp] Tryd.zeroValue26 Tryd.isAgg26 Tryd.sizeOf26
set_option maxHeartbeats 2000000 in
theorem shaMillionth_any (k : Nat) (w : World) (hk : k ≤ 255) (hG : Gl w) :
    Calls Tryd.prog 10 #[.int .u8 (k : Int)] w fun e w' => e = .returned (.bool true) ∧ Below w.heap.size w w' := by
  obtain ⟨N, hN⟩ : ∃ N : Nat, N = 1000 + k := ⟨_, rfl⟩
  have hN2 : (1000 : Int) + (k : Int) = (N : Int) := by omega
  have hN3 : N ≤ 1255 := by omega
  obtain ⟨R, hR⟩ : ∃ R, shaN (List.replicate N 97) = R := ⟨_, rfl⟩
  have hl : R.length = 32 := by rw [← hR]; exact shaN_length _
  have hb : ∀ x ∈ R, x < 256 := by rw [← hR]; exact shaN_lt _
  have HR := Lib.hid hR
  have HG := Lib.hid hG
  clear hR hG hN
  go_enter Tryd.func10, Tryd.ntmps10
  go_wp2_with fail
  refine (sanity7_any w HG.out).mono ?_
  rintro e W1 ⟨rfl, hb1⟩
  have HB1 := Lib.hid hb1
  clear hb1
  go_wp2_with fail
  refine (repeated_any N W1 (by omega)).mono ?_
  rintro e W2 ⟨C, f, rfl, ho, hb2⟩
  have HS2 := Lib.hid ho.sl'
  have HB2 := Lib.hid (bel_step HB1.out hb2)
  clear hb2 ho HB1
  go_wp2_with fail
  refine (sum_any C N f _ W2 HS2.out (by omega) (HG.out.keep HB2.out) R HR.out).mono ?_
  rintro e W3 ⟨rfl, hb3⟩
  have HS3 := Lib.hid (HS2.out.keep hb3)
  have HB3 := Lib.hid (bel_step HB2.out hb3)
  clear hb3 HS2 HB2
  go_wp2_with fail
  refine (rsum_any C N f _ W3 HS3.out (by omega) R HR.out).mono ?_
  rintro e W4 ⟨rfl, hb4⟩
  have HB4 := Lib.hid (bel_step HB3.out hb4)
  clear hb4 HS3 HB3
  have heq := run_eqD_same R hl hb
  go_wp2_with fail
  go_ret
  exact ⟨rfl, HB4.out⟩
end Go.Proofs.YtliflbelhogopaaDoor
