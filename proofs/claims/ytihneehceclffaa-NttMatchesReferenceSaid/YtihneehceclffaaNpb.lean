/- Contracts of package ntt: Forward, Inverse, Extend, Mul; no conditions but that slices hold field elements. -/
import Derived.Test.YtihneehceclffaaNtr
namespace Go.Proofs.Ytihneehceclffaa
open Go.RowKit Gold

theorem vF_natF {n : Nat} (h : n ≤ 70000) : vF (natF n) = (n : Int) := vF_toF_El (by unfold El; omega)
theorem RowF.own {w : World} {g : Nat} {xs : List F} (h : RowF w g xs) {n : Nat} (hn : n = xs.length) (ht : n ≤ 70000) : Sf w (some ⟨g, 0, none⟩) n n xs := h.sl hn (Nat.le_refl _) (by omega)

set_option maxHeartbeats 1000000 in
theorem invert_any (A : Option Addr) (n c : Nat) (xs : List F) (K : Nat) (w : World) (h : Sf w A n c xs) (hN : n = 2 ^ K) (hK : K ≤ 16) :
    Calls Try.prog 35 #[.slice A n c] w fun e w' => ∃ g, e = .returned (.slice (some ⟨g, 0, none⟩) n n) ∧ w.heap.size ≤ g ∧ RowF w' g (tabF n (invT (cfF xs) K)) ∧ Below w.heap.size w w' := by
  have hN1 : 1 ≤ n := by rw [hN]; exact Nat.two_pow_pos K
  have hN2 : n ≤ 65536 := by rw [hN]; exact pow2_le hK
  have hcap := h.cap
  have htop := h.top
  have HN := Lib.hid hN
  have HS := Lib.hid h
  have hv := vF_natF (n := n) (by omega)
  have hne := natF_ne (n := n) hN1 hN2
  have HV := Lib.hid hv
  have HNE := Lib.hid hne
  clear hN h hv hne
  have hmk := run_makeF n (by omega)
  go_enter Try.func35, Try.ntmps35
  go_wp2_with fail
  rw [← HV.out]
  refine (invF_any (natF n) _ HNE.out).mono ?_
  rintro e W1 ⟨rfl, hb1⟩
  rw [HV.out]
  have HB1 := Lib.hid hb1
  clear hb1
  obtain ⟨s, hs⟩ : ∃ s, s = invF (natF n) := ⟨_, rfl⟩
  rw [← hs]
  have HSc := Lib.hid hs
  clear hs
  go_wp2_with (go_at_call 33; refine (transform_any A n c xs n K _ (HS.out.keep HB1.out) HN.out hK (Nat.le_refl _)).mono ?_; rintro e W2 ⟨g, rfl, hg, hr, hb⟩; have HR := Lib.hid hr; have HB2 := Lib.hid (bel_step HB1.out hb); have hg2 : w.heap.size ≤ g := (by have := HB1.out.size; omega); clear hr hb hg)
  clear hmk
  have hgl := HR.out.lt
  go_loopw [24] (fun i wr => ∃ k : Nat, k ≤ n ∧ i = .int .i64 k ∧ RowF wr W2.heap.size (tabF n fun p => if p < k then invT (cfF xs) K p else 0) ∧ Below W2.heap.size W2 wr) (fun i _ => n - (intOf i).toNat)
  case atStart => exact ⟨0, Nat.zero_le _, rfl, by rw [tabF_congr (g := fun _ => 0) fun p _ => if_neg (Nat.not_lt_zero _)]; exact rowF_made W2 _, (Below.refl _ _).alloc (Nat.le_refl _) _⟩
  case round =>
    obtain ⟨k, hk, rfl, hr, hb⟩ := hrel
    have HR1 := Lib.hid hr
    have HB3 := Lib.hid hb
    clear hr hb
    by_cases hlt : k < n
    · obtain ⟨j, hj⟩ : ∃ j, j = (n - k) % n := ⟨_, rfl⟩
      have hjn : j < n := by rw [hj]; exact Nat.mod_lt _ (by omega)
      have hji : ((n : Int) - (k : Int)) % (n : Int) = (j : Int) := by rw [hj, Int.natCast_emod, Int.ofNat_sub (by omega)]
      have h1 := (HR.out.keep HB3.out).at_ (tabF_get (i := j) (fwdF (cfF xs) K) hjn)
      obtain ⟨y, hy⟩ : ∃ y, (tabF n fun p => if p < k then invT (cfF xs) K p else 0)[k]? = some y := ⟨_, tabF_get _ hlt⟩
      have h2 := HR1.out.at_ hy
      have h3 := HR1.out.free k
      have HJ := Lib.hid hj
      obtain ⟨z, hz⟩ : ∃ z, z = fwdF (cfF xs) K j := ⟨_, rfl⟩
      rw [← hz] at h1
      have HZ := Lib.hid hz
      clear hy hj hz
      go_wp2_with (go_at_call 37; refine (mulF s z _).mono ?_; rintro e w1 ⟨rfl, rfl⟩)
      have hval : s * z = invT (cfF xs) K k := by
        rw [HSc.out, HZ.out, HJ.out]
        unfold invT fwdF
        rw [HN.out, vroot_index (by omega) (by rw [← HN.out]; exact hlt)]
      have HR3 := Lib.hid (show RowF (w1.setCell ⟨W2.heap.size, k, none⟩ (.int .u64 (vF (s * z)))) W2.heap.size (tabF n fun p => if p < k + 1 then invT (cfF xs) K p else 0) by
        have h4 := HR1.out.set k (s * z)
        rw [tabF_set, tabF_congr (g := fun p => if p < k + 1 then invT (cfF xs) K p else 0) fun p _ => ?_] at h4
        · exact h4
        · by_cases e : p = k
          · subst e
            rw [if_pos rfl, if_pos (Nat.lt_succ_self _), hval]
          · rw [if_neg e]
            by_cases h5 : p < k
            · rw [if_pos h5, if_pos (by omega)]
            · rw [if_neg h5, if_neg (by omega)])
      go_roundw
      case rel => exact ⟨k + 1, by omega, by go_num, HR3.out, HB3.out.setCell (p := ⟨W2.heap.size, k, none⟩) (Nat.le_refl _) _⟩
      case measure => simp [intOf]; omega
    · obtain rfl : k = n := by omega
      go_wp2_with fail
      go_ret
      exact ⟨_, rfl, HB2.out.size, by rw [tabF_congr (g := fun p => if p < k then invT (cfF xs) K p else 0) fun p hp => (if_pos hp).symm]; exact HR1.out, bel_step HB2.out HB3.out⟩

set_option maxHeartbeats 400000 in
theorem forward_yes (A : Option Addr) (n c : Nat) (xs : List F) (K : Nat) (w : World) (h : Sf w A n c xs) (hN : n = 2 ^ K) (hK : K ≤ 16) :
    Calls Try.prog 14 #[.slice A n c] w fun e w' => ∃ g, e = .returned (.tuple #[.slice (some ⟨g, 0, none⟩) n n, .int .i64 0]) ∧ Sf w' (some ⟨g, 0, none⟩) n n (tabF n (fwdF (cfF xs) K)) ∧ Below w.heap.size w w' := by
  have hN2 : n ≤ 65536 := by rw [hN]; exact pow2_le hK
  have HN := Lib.hid hN
  have HS := Lib.hid h
  clear hN h
  go_enter Try.func14, Try.ntmps14
  go_wp2_with (go_at_call 32; refine (isl_yes n K _ HN.out hK).mono ?_; rintro e w' ⟨rfl, rfl⟩)
  refine (transform_any A n c xs n K _ HS.out HN.out hK (Nat.le_refl _)).mono ?_
  rintro e W2 ⟨g, rfl, hg, hr, hb⟩
  have HR := Lib.hid hr
  have HB := Lib.hid hb
  clear hr hb
  go_wp2_with fail
  go_ret2
  exact ⟨_, rfl, HR.out.own (tabF_length _ _).symm (by omega), HB.out⟩
set_option maxHeartbeats 400000 in
theorem forward_no (A : Option Addr) (n c : Nat) (xs : List F) (w : World) (h : Sf w A n c xs) (hno : ∀ k : Nat, k ≤ 16 → n ≠ 2 ^ k) :
    Calls Try.prog 14 #[.slice A n c] w fun e w' => e = .returned (.tuple #[.slice none 0 0, .int .i64 1]) ∧ Below w.heap.size w w' := by
  have hcap := h.cap
  have htop := h.top
  have HNo := Lib.hid (show ∀ k : Nat, k ≤ 16 → (n : Int) ≠ ((2 ^ k : Nat) : Int) from fun k hk e => hno k hk (Int.ofNat.inj e))
  clear hno h
  go_enter Try.func14, Try.ntmps14
  go_wp2_with (go_at_call 32; refine (isl_no (n : Int) _ (by omega) (by omega) HNo.out).mono ?_; rintro e w' ⟨rfl, rfl⟩)
  go_ret2
  exact ⟨rfl, Below.refl _ _⟩

set_option maxHeartbeats 400000 in
theorem inverse_yes (A : Option Addr) (n c : Nat) (xs : List F) (K : Nat) (w : World) (h : Sf w A n c xs) (hN : n = 2 ^ K) (hK : K ≤ 16) :
    Calls Try.prog 16 #[.slice A n c] w fun e w' => ∃ g, e = .returned (.tuple #[.slice (some ⟨g, 0, none⟩) n n, .int .i64 0]) ∧ Sf w' (some ⟨g, 0, none⟩) n n (tabF n (invT (cfF xs) K)) ∧ Below w.heap.size w w' := by
  have hN2 : n ≤ 65536 := by rw [hN]; exact pow2_le hK
  have HN := Lib.hid hN
  have HS := Lib.hid h
  clear hN h
  go_enter Try.func16, Try.ntmps16
  go_wp2_with (go_at_call 32; refine (isl_yes n K _ HN.out hK).mono ?_; rintro e w' ⟨rfl, rfl⟩)
  refine (invert_any A n c xs K _ HS.out HN.out hK).mono ?_
  rintro e W2 ⟨g, rfl, hg, hr, hb⟩
  have HR := Lib.hid hr
  have HB := Lib.hid hb
  clear hr hb
  go_wp2_with fail
  go_ret2
  exact ⟨_, rfl, HR.out.own (tabF_length _ _).symm (by omega), HB.out⟩
set_option maxHeartbeats 400000 in
theorem inverse_no (A : Option Addr) (n c : Nat) (xs : List F) (w : World) (h : Sf w A n c xs) (hno : ∀ k : Nat, k ≤ 16 → n ≠ 2 ^ k) :
    Calls Try.prog 16 #[.slice A n c] w fun e w' => e = .returned (.tuple #[.slice none 0 0, .int .i64 1]) ∧ Below w.heap.size w w' := by
  have hcap := h.cap
  have htop := h.top
  have HNo := Lib.hid (show ∀ k : Nat, k ≤ 16 → (n : Int) ≠ ((2 ^ k : Nat) : Int) from fun k hk e => hno k hk (Int.ofNat.inj e))
  clear hno h
  go_enter Try.func16, Try.ntmps16
  go_wp2_with (go_at_call 32; refine (isl_no (n : Int) _ (by omega) (by omega) HNo.out).mono ?_; rintro e w' ⟨rfl, rfl⟩)
  go_ret2
  exact ⟨rfl, Below.refl _ _⟩

set_option maxHeartbeats 1000000 in
theorem extend_yes (A : Option Addr) (n c : Nat) (xs : List F) (b N K L : Nat) (w : World) (h : Sf w A n c xs) (hn : n = 2 ^ K) (hb : b = 2 ^ L) (hN : N = 2 ^ (K + L)) (hK : K + L ≤ 16) :
    Calls Try.prog 18 #[.slice A n c, .int .i64 (b : Int)] w fun e w' => ∃ g, e = .returned (.tuple #[.slice (some ⟨g, 0, none⟩) N N, .int .i64 0]) ∧ Sf w' (some ⟨g, 0, none⟩) N N (tabF N (fwdF (cfF xs) (K + L))) ∧ Below w.heap.size w w' := by
  have hN2 : N ≤ 65536 := by rw [hN]; exact pow2_le hK
  have hp : b * n = N := by rw [hn, hb, hN, Nat.pow_add, Nat.mul_comm]
  have hb1 : 1 ≤ b := by rw [hb]; exact Nat.two_pow_pos _
  have hn1 : 1 ≤ n := by rw [hn]; exact Nat.two_pow_pos _
  have hnN : n ≤ N := by rw [← hp]; exact Nat.le_mul_of_pos_left n (by omega)
  have hbN : b ≤ N := by rw [← hp]; exact Nat.le_mul_of_pos_right b (by omega)
  have hw : wrap64 ((b : Int) * (n : Int)) = (N : Int) := by
    rw [← Int.natCast_mul, hp]
    unfold wrap64
    omega
  have Hn := Lib.hid hn
  have Hb := Lib.hid hb
  have HN := Lib.hid hN
  have HS := Lib.hid h
  have hp0 : ((b : Int) * (n : Int)) = (N : Int) := by rw [← Int.natCast_mul, hp]
  clear hn hb hN h hp
  go_enter Try.func18, Try.ntmps18
  go_wp2_with fail
  refine (isl_yes n K _ Hn.out (by clear hw hp0; omega)).mono ?_
  rintro e w' ⟨rfl, rfl⟩
  go_wp2_with fail
  refine (isl_yes b L _ Hb.out (by clear hw hp0; omega)).mono ?_
  rintro e w' ⟨rfl, rfl⟩
  go_wp2_with fail
  refine (isl_yes N (K + L) _ HN.out hK).mono ?_
  rintro e w' ⟨rfl, rfl⟩
  go_wp2_with fail
  refine (transform_any A n c xs N (K + L) _ HS.out HN.out hK hnN).mono ?_
  rintro e W2 ⟨g, rfl, hg, hr, hb⟩
  have HR := Lib.hid hr
  have HB := Lib.hid hb
  clear hr hb hw hp0
  go_wp2_with fail
  go_ret2
  exact ⟨_, rfl, HR.out.own (tabF_length _ _).symm (by omega), HB.out⟩
set_option maxHeartbeats 1000000 in
theorem extend_no (A : Option Addr) (n c : Nat) (xs : List F) (b : Int) (w : World) (h : Sf w A n c xs) (h0 : -9223372036854775808 ≤ b) (h1 : b < 9223372036854775808)
    (hno : ∀ K L : Nat, K + L ≤ 16 → n = 2 ^ K → b ≠ ((2 ^ L : Nat) : Int)) :
    Calls Try.prog 18 #[.slice A n c, .int .i64 b] w fun e w' => e = .returned (.tuple #[.slice none 0 0, .int .i64 1]) ∧ Below w.heap.size w w' := by
  have hcap := h.cap
  have htop := h.top
  have HNo := Lib.hid hno
  clear hno h
  by_cases c1 : ∃ K : Nat, K ≤ 16 ∧ n = 2 ^ K
  · obtain ⟨K, hK, hn⟩ := c1
    have hn2 : n ≤ 65536 := by rw [hn]; exact pow2_le hK
    have hn1 : 1 ≤ n := by rw [hn]; exact Nat.two_pow_pos _
    by_cases c2 : ∃ L : Nat, L ≤ 16 ∧ b = ((2 ^ L : Nat) : Int)
    · obtain ⟨L, hL, hb⟩ := c2
      obtain ⟨B, hB⟩ : ∃ B, B = 2 ^ L := ⟨_, rfl⟩
      have hB2 : B ≤ 65536 := by rw [hB]; exact pow2_le hL
      have hB1 : 1 ≤ B := by rw [hB]; exact Nat.two_pow_pos _
      rw [← hB] at hb
      subst hb
      have hbig : 16 < K + L := Nat.lt_of_not_le fun hk => HNo.out K L hk hn (by rw [hB])
      obtain ⟨N, hN⟩ : ∃ N, N = 2 ^ (K + L) := ⟨_, rfl⟩
      have hp : B * n = N := by rw [hn, hB, hN, Nat.pow_add, Nat.mul_comm]
      have hN3 : N ≤ 4294967296 := by
        have : 2 ^ (K + L) ≤ 2 ^ 32 := Nat.pow_le_pow_right (by omega) (by omega)
        omega
      have hnoN : ∀ k : Nat, k ≤ 16 → (N : Int) ≠ ((2 ^ k : Nat) : Int) := fun k hk e => by
        have e1 : N = 2 ^ k := Int.ofNat.inj e
        have := pow2_inj (hN.symm.trans e1)
        omega
      have hw : wrap64 ((B : Int) * (n : Int)) = (N : Int) := by
        rw [← Int.natCast_mul, hp]
        unfold wrap64
        omega
      have hp0 : ((B : Int) * (n : Int)) = (N : Int) := by rw [← Int.natCast_mul, hp]
      have Hn := Lib.hid hn
      have HB := Lib.hid hB
      have HN := Lib.hid hnoN
      clear hn hB hN hp hnoN HNo
      go_enter Try.func18, Try.ntmps18
      go_wp2_with fail
      refine (isl_yes n K _ Hn.out hK).mono ?_
      rintro e w' ⟨rfl, rfl⟩
      go_wp2_with fail
      refine (isl_yes B L _ HB.out hL).mono ?_
      rintro e w' ⟨rfl, rfl⟩
      go_wp2_with fail
      refine (isl_no (N : Int) _ (by clear hw hp0; omega) (by clear hw hp0; omega) HN.out).mono ?_
      rintro e w' ⟨rfl, rfl⟩
      go_wp2_with fail
      go_ret2
      exact ⟨rfl, Below.refl _ _⟩
    · have Hn := Lib.hid hn
      have HB := Lib.hid (show ∀ k : Nat, k ≤ 16 → b ≠ ((2 ^ k : Nat) : Int) from fun k hk e => c2 ⟨k, hk, e⟩)
      clear hn c2 HNo
      go_enter Try.func18, Try.ntmps18
      go_wp2_with fail
      refine (isl_yes n K _ Hn.out hK).mono ?_
      rintro e w' ⟨rfl, rfl⟩
      go_wp2_with fail
      refine (isl_no b _ h0 h1 HB.out).mono ?_
      rintro e w' ⟨rfl, rfl⟩
      go_wp2_with fail
      go_ret2
      exact ⟨rfl, Below.refl _ _⟩
  · have Hn := Lib.hid (show ∀ k : Nat, k ≤ 16 → (n : Int) ≠ ((2 ^ k : Nat) : Int) from fun k hk e => c1 ⟨k, hk, Int.ofNat.inj e⟩)
    clear c1 HNo
    go_enter Try.func18, Try.ntmps18
    go_wp2_with fail
    refine (isl_no (n : Int) _ (by omega) (by omega) Hn.out).mono ?_
    rintro e w' ⟨rfl, rfl⟩
    go_wp2_with fail
    go_ret2
    exact ⟨rfl, Below.refl _ _⟩

theorem mul_values {xs ys : List F} {N K L : Nat} (hN : N = 2 ^ K) (hK : K ≤ 16) (hL : L = xs.length + ys.length - 1) (hLN : L ≤ N) :
    tabF L (invT (cfF (tabF N fun p => fwdF (cfF xs) K p * fwdF (cfF ys) K p)) K) = tabF L (convF (cfF xs) (cfF ys)) := by
  refine tabF_congr fun i hi => ?_
  rw [← inv_fwd hK (convF (cfF xs) (cfF ys)) (show i < 2 ^ K by omega)]
  unfold invT
  congr 1
  refine evF_congr (fun j hj => ?_) _
  rw [cfF_tab _ (by omega)]
  unfold fwdF
  exact (evF_conv (fun i hi => cfF_none hi) (fun i hi => cfF_none hi) (by omega) _).symm
/-- the product -/
def mulF' (xs ys : List F) : List F := tabF (xs.length + ys.length - 1) (convF (cfF xs) (cfF ys))
set_option maxHeartbeats 400000 in
theorem mul_empty (A : Option Addr) (n c : Nat) (B : Option Addr) (m d : Nat) (w : World) (hn : n ≤ 70000) (hm : m ≤ 70000) (h0 : n = 0 ∨ m = 0) :
    Calls Try.prog 20 #[.slice A n c, .slice B m d] w fun e w' => e = .returned (.tuple #[.slice none 0 0, .int .i64 0]) ∧ Below w.heap.size w w' := by
  by_cases hn0 : n = 0
  · subst hn0
    clear h0
    go_enter Try.func20, Try.ntmps20
    go_wp2_with fail
    go_ret2
    exact ⟨rfl, Below.refl _ _⟩
  · obtain rfl : m = 0 := h0.elim (fun h => absurd h hn0) id
    have hb : ((n : Int) == 0) = false := by simp; omega
    clear h0 hn0
    go_enter Try.func20, Try.ntmps20
    go_wp2_with fail
    go_ret2
    exact ⟨rfl, Below.refl _ _⟩
set_option maxHeartbeats 400000 in
theorem mul_big (A : Option Addr) (n c : Nat) (B : Option Addr) (m d : Nat) (w : World) (hn : n ≤ 70000) (hm : m ≤ 70000) (hn0 : 0 < n) (hm0 : 0 < m) (hb : 65536 < n + m - 1) :
    Calls Try.prog 20 #[.slice A n c, .slice B m d] w fun e w' => e = .returned (.tuple #[.slice none 0 0, .int .i64 2]) ∧ Below w.heap.size w w' := by
  have b1 : ((n : Int) == 0) = false := by simp; omega
  have b2 : ((m : Int) == 0) = false := by simp; omega
  have b3 : (65536 : Int) < (n : Int) + (m : Int) - 1 := by omega
  go_enter Try.func20, Try.ntmps20
  go_wp2_with fail
  go_ret2
  exact ⟨rfl, Below.refl _ _⟩
set_option maxHeartbeats 2000000 in
theorem mul_yes (A : Option Addr) (n c : Nat) (xs : List F) (B : Option Addr) (m d : Nat) (ys : List F) (w : World) (h : Sf w A n c xs) (h' : Sf w B m d ys) (hn0 : 0 < n) (hm0 : 0 < m) (hb : n + m - 1 ≤ 65536) :
    Calls Try.prog 20 #[.slice A n c, .slice B m d] w fun e w' => ∃ g, e = .returned (.tuple #[.slice (some ⟨g, 0, none⟩) (n + m - 1) (n + m - 1), .int .i64 0]) ∧ Sf w' (some ⟨g, 0, none⟩) (n + m - 1) (n + m - 1) (mulF' xs ys) ∧ Below w.heap.size w w' := by
  have hnl := Lib.hid h.len
  have hml := Lib.hid h'.len
  have HX := Lib.hid h
  have HY := Lib.hid h'
  have b1 : ((n : Int) == 0) = false := by simp; omega
  have b2 : ((m : Int) == 0) = false := by simp; omega
  obtain ⟨L, hL⟩ : ∃ L, L = n + m - 1 := ⟨_, rfl⟩
  have hLi : (n : Int) + (m : Int) - 1 = (L : Int) := by omega
  have hL1 : 1 ≤ L := by omega
  have hL2 : L ≤ 65536 := by omega
  have hnL : n ≤ L := by omega
  have hmL : m ≤ L := by omega
  rw [← hL]
  have HL := Lib.hid hL
  clear h h' hL hb
  go_enter Try.func20, Try.ntmps20
  go_wp2_with fail
  clear hLi b1 b2
  go_loop [7] (fun v => ∃ k N : Nat, v = .int .i64 (N : Int) ∧ N = 2 ^ k ∧ k ≤ 16) (fun v => L - (intOf v).toNat)
  case atStart => exact ⟨0, 1, rfl, rfl, by omega⟩
  case round =>
    obtain ⟨K, N, rfl, hN, hK⟩ := hrel
    have hN1 : 1 ≤ N := by rw [hN]; exact Nat.two_pow_pos _
    have hN2 : N ≤ 65536 := by rw [hN]; exact pow2_le hK
    have HN := Lib.hid hN
    clear hN
    by_cases hlt : N < L
    · have hK2 : K + 1 ≤ 16 := Nat.lt_of_not_le fun h => by
        obtain rfl : K = 16 := by omega
        have := HN.out
        omega
      go_wp2_with fail
      go_round
      case rel => exact ⟨K + 1, N * 2, by go_num, by rw [HN.out, pow2_succ]; omega, hK2⟩
      case measure => simp [intOf]; omega
    · have hLN : L ≤ N := by omega
      go_wp2_with fail
      refine (transform_any A n c xs N K _ HX.out HN.out hK (by omega)).mono ?_
      rintro e W2 ⟨g1, rfl, hg1, hr1, hb1⟩
      have HR1 := Lib.hid hr1
      have HB1 := Lib.hid hb1
      clear hr1 hb1
      go_wp2_with fail
      refine (transform_any B m d ys N K _ (HY.out.keep HB1.out) HN.out hK (by omega)).mono ?_
      rintro e W3 ⟨g2, rfl, hg2, hr2, hb2⟩
      have hg12 : g1 < g2 := by have := HR1.out.lt; omega
      have HR2 := Lib.hid hr2
      have HR1' := Lib.hid (HR1.out.keep hb2)
      have HB2 := Lib.hid (bel_step HB1.out hb2)
      clear hr2 hb2 HR1
      go_wp2_with fail
      go_loopw [39] (fun i wr => ∃ k : Nat, k ≤ N ∧ i = .int .i64 k ∧ RowF wr g1 (tabF N fun p => if p < k then fwdF (cfF xs) K p * fwdF (cfF ys) K p else fwdF (cfF xs) K p) ∧ W3.grownBy wr (some g1)) (fun i _ => N - (intOf i).toNat)
      case atStart => exact ⟨0, Nat.zero_le _, rfl, by rw [tabF_congr (g := fwdF (cfF xs) K) fun p _ => if_neg (Nat.not_lt_zero _)]; exact HR1'.out, World.grownBy.refl _ _⟩
      case round =>
        obtain ⟨k, hk, rfl, hr, hg⟩ := hrel
        have HR := Lib.hid hr
        have HG := Lib.hid hg
        clear hr hg
        by_cases hkl : k < N
        · have h1 := (HR2.out.same (HG.out.block _ HR2.out.lt (fun e => by injection e with e; omega))).at_ (tabF_get (fwdF (cfF ys) K) hkl)
          have h2 := HR.out.at_ (tabF_get (fun p => if p < k then fwdF (cfF xs) K p * fwdF (cfF ys) K p else fwdF (cfF xs) K p) hkl)
          rw [if_neg (Nat.lt_irrefl _)] at h2
          have h3 := HR.out.free k
          generalize hxe : fwdF (cfF xs) K k = x at *
          generalize hye : fwdF (cfF ys) K k = y at *
          have EX := Lib.hid hxe
          have EY := Lib.hid hye
          clear hxe hye
          go_wp2_with (go_at_call 37; refine (mulF x y _).mono ?_; rintro e w1 ⟨rfl, rfl⟩)
          have HR3 := Lib.hid (show RowF (w1.setCell ⟨g1, k, none⟩ (.int .u64 (vF (x * y)))) g1 (tabF N fun p => if p < k + 1 then fwdF (cfF xs) K p * fwdF (cfF ys) K p else fwdF (cfF xs) K p) by
            have h4 := HR.out.set k (x * y)
            rw [tabF_set, tabF_congr (g := fun p => if p < k + 1 then fwdF (cfF xs) K p * fwdF (cfF ys) K p else fwdF (cfF xs) K p) fun p _ => ?_] at h4
            · exact h4
            · by_cases e : p = k
              · subst e
                rw [if_pos rfl, if_pos (Nat.lt_succ_self _), EX.out, EY.out]
              · rw [if_neg e]
                by_cases h5 : p < k
                · rw [if_pos h5, if_pos (by omega)]
                · rw [if_neg h5, if_neg (by omega)])
          go_roundw
          case rel => exact ⟨k + 1, by omega, by go_num, HR3.out, grown_trans HG.out (grown_set _ _ _ _)⟩
          case measure => simp [intOf]; omega
        · obtain rfl : k = N := by omega
          have HB3 := Lib.hid (Below.grown HB2.out HG.out (by have := HB2.out.size; omega) (fun q e => by injection e with e; omega))
          have HS := Lib.hid ((HR.out.own (tabF_length _ _).symm (by omega)).cast (tabF_congr (g := fun p => fwdF (cfF xs) K p * fwdF (cfF ys) K p) fun p hp => if_pos hp))
          clear HR HG HB2
          go_wp2_with fail
          refine (invert_any (some ⟨g1, 0, none⟩) k k (tabF k fun p => fwdF (cfF xs) K p * fwdF (cfF ys) K p) K _ HS.out HN.out hK).mono ?_
          rintro e W5 ⟨g3, rfl, hg3, hr5, hb5⟩
          have HB5 := Lib.hid (bel_step HB3.out hb5)
          have HS5 := Lib.hid (hr5.sub (o := 0) (n := L) (c := L) (by rw [tabF_length]; omega) (Nat.le_refl _) (by omega))
          clear hr5 hb5
          go_wp2_with fail
          go_ret2
          refine ⟨_, rfl, ?_, HB5.out⟩
          have h9 := HS5.out
          rw [List.drop_zero, tabF_take _ hLN, mul_values HN.out hK (by rw [← hnl.out, ← hml.out, HL.out]) hLN] at h9
          unfold mulF'
          rw [← hnl.out, ← hml.out, ← HL.out]
          exact h9

end Go.Proofs.Ytihneehceclffaa
