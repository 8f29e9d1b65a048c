/- Contract of a law of package ntt; no conditions but the arguments' own. -/
import Derived.Test.YtihneehceclffaaNlm

set_option linter.unusedVariables false
namespace Go.Proofs.Ytihneehceclffaa
open Go.RowKit Gold

set_option maxHeartbeats 16000000 in
set_option maxRecDepth 100000 in
theorem nttInversion_any (X0 : Option Addr) (nx cx : Nat) (px : List Int) (k : Int) (w : World) (hx : Su w X0 nx cx px) (wx : ∀ z ∈ px, U64 z) (hk : 0 ≤ k ∧ k ≤ 255) :
    Calls Try.prog 4 #[.slice X0 nx cx, .int .u8 k] w fun e w' => e = .returned (.bool true) ∧ Below w.heap.size w w' := by
  have hcx := hx.cap
  have htx := hx.top
  have Px0 := Lib.hid hx
  have Wx := Lib.hid wx
  have HLx := Lib.hid hx.len
  clear hx wx
  obtain ⟨q, hq⟩ : ∃ q : Nat, k % 9 = (q : Int) := ⟨(k % 9).toNat, by omega⟩
  have hql : q ≤ 8 := by omega
  obtain ⟨N, hN⟩ : ∃ N : Nat, N = 2 ^ q := ⟨_, rfl⟩
  have hN1 : 1 ≤ N := by rw [hN]; exact Nat.two_pow_pos q
  have hN2 : N ≤ 256 := by rw [hN]; exact Nat.pow_le_pow_right (n := 2) (by omega) hql
  have HN := Lib.hid hN
  clear hN
  have HQ := Lib.hid hq
  clear hq
  go_enter Try.func4, Try.ntmps4
  go_wp2_with fail
  refine (sanity4_any _).mono ?_
  rintro e W1 ⟨rfl, hb⟩
  have Px2 := Lib.hid (Px0.out.keep hb)
  clear Px0
  have HB2 := Lib.hid hb
  clear hb
  go_wp2_with fail
  refine (made4_any X0 nx cx px k 8 q N _ Px2.out Wx.out hk (by omega) HQ.out HN.out).mono ?_
  rintro e W3 ⟨ga, rfl, hs, hb⟩
  have Px4 := Lib.hid (Px2.out.keep hb)
  clear Px2
  have HB4 := Lib.hid (bel_step HB2.out hb)
  clear HB2
  clear hb
  have LA5 := Lib.hid hs
  clear hs
  clear Px4
  generalize hxs : tabF N (cfF (px.map toF)) = xs at *
  have hxl : xs.length = N := by rw [← hxs]; exact tabF_length _ _
  have HXL := Lib.hid hxl
  clear hxs hxl
  go_wp2_with fail
  refine (forward_yes (some ⟨ga, 0, none⟩) N N xs q _ LA5.out HN.out (by omega)).mono ?_
  rintro e W6 ⟨gb, rfl, hs, hb⟩
  have LA7 := Lib.hid (LA5.out.keep hb)
  clear LA5
  have HB7 := Lib.hid (bel_step HB4.out hb)
  clear HB4
  clear hb
  have LB8 := Lib.hid hs
  clear hs
  go_wp2_with fail
  refine (inverse_yes (some ⟨gb, 0, none⟩) N N _ q _ LB8.out HN.out (by omega)).mono ?_
  rintro e W9 ⟨gc, rfl, hs, hb⟩
  have LA10 := Lib.hid (LA7.out.keep hb)
  clear LA7
  have LB10 := Lib.hid (LB8.out.keep hb)
  clear LB8
  have HB10 := Lib.hid (bel_step HB7.out hb)
  clear HB7
  clear hb
  have LC11 := Lib.hid hs
  clear hs
  go_wp2_with fail
  refine (inverse_yes (some ⟨ga, 0, none⟩) N N xs q _ LA10.out HN.out (by omega)).mono ?_
  rintro e W12 ⟨gd, rfl, hs, hb⟩
  have LA13 := Lib.hid (LA10.out.keep hb)
  clear LA10
  have LB13 := Lib.hid (LB10.out.keep hb)
  clear LB10
  have LC13 := Lib.hid (LC11.out.keep hb)
  clear LC11
  have HB13 := Lib.hid (bel_step HB10.out hb)
  clear HB10
  clear hb
  have LD14 := Lib.hid hs
  clear hs
  go_wp2_with fail
  refine (forward_yes (some ⟨gd, 0, none⟩) N N _ q _ LD14.out HN.out (by omega)).mono ?_
  rintro e W15 ⟨ge, rfl, hs, hb⟩
  have LA16 := Lib.hid (LA13.out.keep hb)
  clear LA13
  have LB16 := Lib.hid (LB13.out.keep hb)
  clear LB13
  have LC16 := Lib.hid (LC13.out.keep hb)
  clear LC13
  have LD16 := Lib.hid (LD14.out.keep hb)
  clear LD14
  have HB16 := Lib.hid (bel_step HB13.out hb)
  clear HB13
  clear hb
  have LE17 := Lib.hid hs
  clear hs
  go_wp2_with fail
  refine (same_yesF (some ⟨gc, 0, none⟩) N N (some ⟨ga, 0, none⟩) N N xs _ (LC16.out.cast (inv_of_fwd HN.out (by omega) HXL.out)) LA16.out).mono ?_
  rintro e W18 ⟨rfl, hb⟩
  have LA19 := Lib.hid (LA16.out.keep hb)
  clear LA16
  have LB19 := Lib.hid (LB16.out.keep hb)
  clear LB16
  have LC19 := Lib.hid (LC16.out.keep hb)
  clear LC16
  have LD19 := Lib.hid (LD16.out.keep hb)
  clear LD16
  have LE19 := Lib.hid (LE17.out.keep hb)
  clear LE17
  have HB19 := Lib.hid (bel_step HB16.out hb)
  clear HB16
  clear hb
  go_wp2_with fail
  refine (same_yesF (some ⟨ge, 0, none⟩) N N (some ⟨ga, 0, none⟩) N N xs _ (LE19.out.cast (fwd_of_inv HN.out (by omega) HXL.out)) LA19.out).mono ?_
  rintro e W20 ⟨rfl, hb⟩
  have LA21 := Lib.hid (LA19.out.keep hb)
  clear LA19
  have LB21 := Lib.hid (LB19.out.keep hb)
  clear LB19
  have LC21 := Lib.hid (LC19.out.keep hb)
  clear LC19
  have LD21 := Lib.hid (LD19.out.keep hb)
  clear LD19
  have LE21 := Lib.hid (LE19.out.keep hb)
  clear LE19
  have HB21 := Lib.hid (bel_step HB19.out hb)
  clear HB19
  clear hb
  go_wp2_with fail
  go_ret
  exact ⟨rfl, HB21.out⟩

end Go.Proofs.Ytihneehceclffaa
