/- The walk of ShaLengths. -/
import Derived.Test.YtliflbelhogopaaDoorShf0
namespace Go.Proofs.YtliflbelhogopaaDoor
set_option maxRecDepth 8000
open Go.RowKit
attribute [local simp] z32_ne z32_run
attribute [-simp] Tryd.zeroValue26 Tryd.isAgg26 Tryd.sizeOf26
section
variable {w : World} {base g n cap : Nat} {bs : List Nat}
theorem OwB.put (h : OwB w base (.slice (some ⟨g, 0, none⟩) n cap) n bs) (j x : Nat) (hx : x < 256) (v : Int) (e : v = (x : Int)) : OwB (w.setCell ⟨g, j, none⟩ (.int .u8 v)) base (.slice (some ⟨g, 0, none⟩) n cap) n (bs.set j x) := by
  subst e
  refine ⟨?_, fun y hy => ?_⟩
  · have := (World.ownsRow.stored h.1 j (.int .u8 (x : Int))).1
    unfold celB at this ⊢
    rwa [List.map_set]
  · rcases List.mem_or_eq_of_mem_set hy with hy | rfl
    · exact h.2 y hy
    · exact hx
theorem OwB.ge (h : OwB w base (.slice (some ⟨g, 0, none⟩) n cap) n bs) : base ≤ g := (World.ownsRow.lt h.1 g rfl).1
theorem OwB.free (h : OwB w base (.slice (some ⟨g, 0, none⟩) n cap) n bs) (j : Nat) : w.frozen? ⟨g, j, none⟩ = false := World.ownsRow.frozenAt h.1 j
theorem OwB.at_ (h : OwB w base (.slice (some ⟨g, 0, none⟩) n cap) n bs) {j : Nat} (hj : j < n) : w.cell? ⟨g, j, none⟩ = some (.int .u8 (bs.getD j 0 : Nat)) := by
  have := h.sl'.at_ hj
  rwa [ad_base] at this
end
theorem set_fill (x N j : Nat) (h : j < N) : (List.replicate j x ++ List.replicate (N - j) 97).set j x = List.replicate (j + 1) x ++ List.replicate (N - (j + 1)) 97 := by
  rw [List.set_append_right _ _ (by simp), List.length_replicate, Nat.sub_self, show N - j = (N - (j + 1)) + 1 from by omega, List.replicate_succ, List.set_cons_zero, List.replicate_succ', List.append_assoc]
  rfl
set_option maxHeartbeats 2000000 in
theorem shaLengths_any (k x : Nat) (w : World) (hk : k ≤ 65535) (hx : x ≤ 255) (hG : Gl w) :
    Calls Tryd.prog 4 #[.int .u16 (k : Int), .int .u8 (x : Int)] w fun e w' => e = .returned (.bool true) ∧ Below w.heap.size w w' := by
  obtain ⟨N, hN⟩ : ∃ N : Nat, N = k % 301 := ⟨_, rfl⟩
  have hN2 : Int.tmod (k : Int) 301 = (N : Int) := by rw [hN, Int.tmod_eq_emod_of_nonneg (by omega)]; omega
  have hN3 : N ≤ 300 := by omega
  obtain ⟨R, hR⟩ : ∃ R, shaN (List.replicate N x) = R := ⟨_, rfl⟩
  have hl : R.length = 32 := by rw [← hR]; exact shaN_length _
  have hb : ∀ x ∈ R, x < 256 := by rw [← hR]; exact shaN_lt _
  have HR := Lib.hid hR
  have HG := Lib.hid hG
  clear hR hG hN
  go_enter Tryd.func4, Tryd.ntmps4
  go_wp2_with fail
  refine (sanity7_any w HG.out).mono ?_
  rintro e W1 ⟨rfl, hb1⟩
  have HB1 := Lib.hid hb1
  clear hb1
  go_wp2_with fail
  refine (repeated_any N W1 (by omega)).mono ?_
  rintro e W2 ⟨C, f, rfl, ho, hb2⟩
  have HO2 := Lib.hid ho
  have HB2 := Lib.hid (bel_step HB1.out hb2)
  have hz1 := HB1.out.size
  clear hb2 ho HB1
  generalize W1.heap.size = b1 at *
  go_wp2_with fail
  go_loopw [7] (fun s wr => ∃ j : Nat, j ≤ N ∧ s = .int .i64 j ∧ OwB wr b1 (.slice C N f) N (List.replicate j x ++ List.replicate (N - j) 97) ∧ Below w.heap.size w wr) (fun s _ => N - (intOf s).toNat)
  case atStart => exact ⟨0, by omega, rfl, HO2.out, HB2.out⟩
  case round =>
    clear HO2 HB2
    obtain ⟨j, hj, rfl, ho, hbb⟩ := hrel
    have HO := Lib.hid ho
    have HB := Lib.hid hbb
    clear ho hbb
    have hk0 : (0 : Int) ≤ (j : Int) := by omega
    by_cases hlt : j < N
    · have hk1 : (j : Int) < (N : Int) := by omega
      obtain ⟨g, c', e⟩ := Go.Joins.ownsRow_form HO.out.1 (by omega)
      injection e with e1 _ e3
      subst e1 e3
      have hfz := HO.out.free j
      have hcl := HO.out.at_ hlt
      have hge := HO.out.ge
      go_wp2_with fail
      go_roundw
      case rel =>
        refine ⟨j + 1, hlt, by go_num, ?_, HB.out.setCell (show w.heap.size ≤ g by omega) _⟩
        rw [← set_fill x N j hlt]
        exact HO.out.put j x (by omega) _ rfl
      case measure => simp [intOf]; omega
    · obtain rfl : j = N := by omega
      have HS2 := Lib.hid (show Sb wr C j f (List.replicate j x) from by
        have := HO.out.sl'
        rwa [Nat.sub_self, List.replicate_zero, List.append_nil] at this)
      clear HO
      go_wp2_with fail
      refine (sum_any C j f _ wr HS2.out (by omega) (HG.out.keep HB.out) R HR.out).mono ?_
      rintro e W3 ⟨rfl, hb3⟩
      have HS3 := Lib.hid (HS2.out.keep hb3)
      have HB3 := Lib.hid (bel_step HB.out hb3)
      clear hb3 HS2 HB
      go_wp2_with fail
      refine (rsum_any C j f _ W3 HS3.out (by omega) R HR.out).mono ?_
      rintro e W4 ⟨rfl, hb4⟩
      have HB4 := Lib.hid (bel_step HB3.out hb4)
      clear hb4 HS3 HB3
      have heq := run_eqD_same R hl hb
      go_wp2_with fail
      go_ret
      exact ⟨rfl, HB4.out⟩
end Go.Proofs.YtliflbelhogopaaDoor
