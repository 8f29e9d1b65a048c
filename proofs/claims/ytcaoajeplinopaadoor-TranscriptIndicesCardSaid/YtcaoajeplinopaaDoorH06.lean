/- Several texts in one: Trb, Trc, Mka, Mke, Mkh, Decl, Mkg, Mki, Held4. -/
import Derived.Test.YtcaoajeplinopaaDoorH05
import Derived.Test.YtcaoajeplinopaaDoorH04
import Derived.Test.YtcaoajeplinopaaDoorH03
import Derived.Test.YtcaoajeplinopaaDoorH01
import Derived.Laws.Rows
import Derived.Sort.CutIn
import Derived.RangeFuncCalls
import Derived.OrdersIn
import Derived.OwnWalkIn
import Derived.OrdersHeld
namespace Go.Proofs.YtcaoajeplinopaaDoor
set_option linter.unusedVariables false
set_option linter.unusedSimpArgs false
set_option maxRecDepth 8000
open Go.RowKit
theorem byte_cast (x k : Nat) : (x : Int) / 2 ^ k % 256 = ((x / 2 ^ k % 256 : Nat) : Int) := by
  rw [Int.natCast_emod, Int.natCast_ediv, Int.natCast_pow]; rfl
set_option maxHeartbeats 1000000 in
theorem appendWord_any (base : Nat) (v : Value) (n : Nat) (bs : List Nat) (x : Nat) (w : World) (hx : x < 18446744073709551616) (ho : OwB w base v n bs) (hb : base ≤ w.heap.size) (hn : n ≤ 140737488350000) :
    Calls Tryd.prog 47 #[v, .int .u64 (x : Int)] w fun e w' => ∃ v', e = .returned v' ∧ OwB w' base v' (n + 8) (bs ++ leN x) ∧ Below base w w' := by
  obtain ⟨A, c, rfl, _⟩ := ho.sl
  have HO := Lib.hid ho
  clear ho
  go_enter Tryd.func47, Tryd.ntmps47
  go_wp2_with fail
  go_loopw [0, 6] (fun u s wr => ∃ k : Nat, k ≤ 8 ∧ s = .int .i64 k ∧ OwB wr base u (n + k) (bs ++ leK x k) ∧ Below base w wr) (fun _ s _ => 8 - (intOf s).toNat)
  case atStart => exact ⟨0, by omega, rfl, by simpa [leK] using HO.out, Below.refl _ _⟩
  case round =>
    clear HO
    obtain ⟨k, hk, rfl, ho, hbw⟩ := hrel
    have HO := Lib.hid ho
    have HB := Lib.hid hbw
    have hz : base ≤ wr.heap.size := Nat.le_trans hb hbw.size
    obtain ⟨C, f, rfl, _⟩ := ho.sl
    clear ho hbw
    by_cases hlt : k < 8
    · have hk1 : (k : Int) < 8 := by omega
      have hk0 : (0 : Int) ≤ (k : Int) := by omega
      have e2 : ((8 : Int) * (k : Int)).toNat = 8 * k := by omega
      have e3 : min (8 * k) 64 = 8 * k := by omega
      have e4 := byte_cast x (8 * k)
      have hyl : x / 2 ^ (8 * k) % 256 < 256 := Nat.mod_lt _ (by decide)
      have HK := Lib.hid (leK_succ x k)
      generalize x / 2 ^ (8 * k) % 256 = y at *
      go_upto_region 5 with (at_builtin; refine wpList_appendB rfl (.tmp 9) (.tmp 15) rfl base _ (n + k) _ rfl (HO.out.keep ((Below.refl _ _).alloc (Nat.le_refl _) _)) wr.heap.size 1 y rfl (One.new wr _ _) hyl (by omega) (by simp; omega) ?_; intro v1 w2 ho1 hb1; have HO1 := Lib.hid ho1; have HB2 := Lib.hid (((Below.refl base wr).alloc hz (.cells #[.int .u8 (y : Int)] 5)).trans hb1); obtain ⟨C1, f1, rfl, _⟩ := ho1.sl; clear ho1 hb1)
      go_wp2_with fail
      go_roundw
      case rel => exact ⟨k + 1, by omega, by go_num, by rw [HK.out, ← List.append_assoc]; exact HO1.out, HB.out.trans HB2.out⟩
      case measure => simp [intOf]; omega
    · obtain rfl : k = 8 := by omega
      go_wp2_with fail
      go_ret
      exact ⟨_, rfl, HO.out, HB.out⟩
theorem or64 (a b : Nat) (ha : a < 18446744073709551616) (hb : b < 18446744073709551616) : bits .or .u64 (a : Int) (b : Int) = ((a ||| b : Nat) : Int) :=
  (bits_nat .u64 64 (by decide) (fun n h0 h1 => by rw [IntKind.wrap_u64]; omega) a b (by omega) (by omega)).2
theorem leL_take {bs : List Nat} {k : Nat} (h : k < bs.length) : leL (bs.take (k + 1)) = leL (bs.take k) + 256 ^ k * bs.getD k 0 := by
  rw [← take_snoc h, leL_snoc, List.length_take, Nat.min_eq_left (by omega)]
set_option maxHeartbeats 1000000 in
theorem word8_any (A : Option Addr) (n c : Nat) (bs : List Nat) (w : World) (h : Sb w A n c bs) (hn : 8 ≤ n) :
    Calls Tryd.prog 41 #[.slice A n c] w fun e w' => e = .returned (.int .u64 ((leV bs 0 : Nat) : Int)) ∧ w' = w := by
  have hlen := h.len
  have HS := Lib.hid h
  obtain ⟨ad, rfl⟩ := h.some_ (by omega)
  clear h
  go_enter Tryd.func41, Tryd.ntmps41
  go_wp2_with fail
  go_loopw [3, 5] (fun u s wr => ∃ k : Nat, k ≤ 8 ∧ s = .int .i64 k ∧ u = .int .u64 ((leL (bs.take k) : Nat) : Int) ∧ wr = w) (fun _ s _ => 8 - (intOf s).toNat)
  case atStart => exact ⟨0, by omega, rfl, rfl, rfl⟩
  case round =>
    obtain ⟨k, hk, rfl, rfl, rfl⟩ := hrel
    by_cases hlt : k < 8
    · have hk1 : (k : Int) < 8 := by omega
      have hk0 : (0 : Int) ≤ (k : Int) := by omega
      have hk2 : (k : Int) < (n : Int) := by omega
      have e2 : ((8 : Int) * (k : Int)).toNat = 8 * k := by omega
      have e3 : min (8 * k) 64 = 8 * k := by omega
      have c0 := HS.out.at_ (show k < n by omega)
      have hyl := getD_byte HS.out.byte k
      have HK := Lib.hid (leL_take (show k < bs.length by omega))
      have hal : leL (bs.take k) < 256 ^ k := Nat.lt_of_lt_of_le (leL_lt fun x hx => HS.out.byte x (List.mem_of_mem_take hx)) (Nat.pow_le_pow_right (by decide) (by rw [List.length_take]; omega))
      generalize bs.getD k 0 = y at *
      generalize leL (bs.take k) = a at *
      have hpk : (256 : Nat) ^ k = 2 ^ (8 * k) := by rw [show (256 : Nat) = 2 ^ 8 from rfl, ← Nat.pow_mul]
      have hp64 : 2 ^ (8 * k) * 256 ≤ 18446744073709551616 := by
        have : 2 ^ (8 * k + 8) ≤ 2 ^ 64 := Nat.pow_le_pow_right (by decide) (by omega)
        rw [Nat.pow_add] at this
        exact this
      have hyk : y * 2 ^ (8 * k) < 18446744073709551616 := by
        have h1 : y * 2 ^ (8 * k) ≤ 255 * 2 ^ (8 * k) := Nat.mul_le_mul_right _ (by omega)
        omega
      have e5 : IntKind.u64.wrap (IntKind.u64.wrap (y : Int) * 2 ^ (8 * k)) = ((y * 2 ^ (8 * k) : Nat) : Int) := by
        have h1 : (y : Int) * 2 ^ (8 * k) = ((y * 2 ^ (8 * k) : Nat) : Int) := by rw [Int.natCast_mul, Int.natCast_pow]; rfl
        rw [IntKind.wrap_u64, IntKind.wrap_u64, show (y : Int) % 18446744073709551616 = (y : Int) by omega, h1]
        omega
      have e6 := or64 a (y * 2 ^ (8 * k)) (by omega) hyk
      have e7 : a ||| y * 2 ^ (8 * k) = a + 256 ^ k * y := by
        rw [Nat.or_comm, or_sum y a (8 * k) (by omega), hpk, Nat.mul_comm, Nat.add_comm]
      rw [e7] at e6
      have HE := Lib.hid (e5 ▸ e6)
      clear e5 e6 e7
      clear hpk hp64 hal hyl hyk
      go_wp2_with fail
      go_roundw
      case rel => exact ⟨k + 1, by omega, by go_num, by rw [HE.out, ← HK.out], trivial⟩
      case measure => simp [intOf]; omega
    · obtain rfl : k = 8 := by omega
      go_wp2_with fail
      go_ret
      have hv : leV bs 0 = leL (bs.take 8) := by unfold leV; rw [List.drop_zero]
      exact ⟨by rw [hv]; rfl, rfl⟩
theorem leL_drop {l : List Nat} {i : Nat} (h : i < l.length) : leL (l.drop i) = l.getD i 0 + 256 * leL (l.drop (i + 1)) := by
  rw [List.drop_eq_getElem_cons h, leL, List.getD_eq_getElem?_getD, List.getElem?_eq_getElem h]
  rfl
theorem leL_drop_lt {l : List Nat} (hl : l.length = 8) (hb : ∀ x ∈ l, x < 256) (i : Nat) (hi : 1 ≤ i) : leL (l.drop i) < 72057594037927936 :=
  Nat.lt_of_lt_of_le (leL_lt fun x hx => hb x (List.mem_of_mem_drop hx)) (show 256 ^ (l.drop i).length ≤ 256 ^ 7 from Nat.pow_le_pow_right (by decide) (by rw [List.length_drop]; omega))
set_option maxHeartbeats 1000000 in
theorem value_any (A : Option Addr) (n c : Nat) (bs : List Nat) (o : Nat) (w : World) (h : Sb w A n c bs) (hn : o + 8 ≤ n) :
    Calls Tryd.prog 31 #[.slice A n c, .int .i64 (o : Int)] w fun e w' => e = .returned (.int .u64 ((leV bs o : Nat) : Int)) ∧ w' = w := by
  have hlen := h.len
  have hcap := h.cap
  have htop := h.top
  have HS := Lib.hid h
  obtain ⟨ad, rfl⟩ := h.some_ (by omega)
  clear h
  have h8 : ((bs.drop o).take 8).length = 8 := by rw [List.length_take, List.length_drop]; omega
  have hb8 : ∀ x ∈ (bs.drop o).take 8, x < 256 := fun x hx => HS.out.byte x (List.mem_of_mem_drop (List.mem_of_mem_take hx))
  have hg8 : ∀ i, i < 8 → ((bs.drop o).take 8).getD i 0 = bs.getD (o + i) 0 := fun i hi => by
    rw [List.getD_eq_getElem?_getD, List.getD_eq_getElem?_getD, List.getElem?_take_of_lt hi, List.getElem?_drop]
  have hv : leV bs o = leL (((bs.drop o).take 8).drop 0) := by unfold leV; rw [List.drop_zero]
  generalize (bs.drop o).take 8 = l at *
  have H8 := Lib.hid h8
  have HB8 := Lib.hid hb8
  have HG8 := Lib.hid hg8
  have HV := Lib.hid hv
  clear h8 hb8 hg8 hv
  go_enter Tryd.func31, Tryd.ntmps31
  go_wp2_with fail
  go_loopw [5, 6] (fun u s wr => ∃ k : Nat, k ≤ 8 ∧ s = .int .i64 ((k : Int) - 1) ∧ u = .int .u64 ((leL (l.drop k) : Nat) : Int) ∧ wr = w) (fun _ s _ => (intOf s + 1).toNat)
  case atStart => exact ⟨8, by omega, rfl, by rw [List.drop_of_length_le (by rw [H8.out]; exact Nat.le_refl _)]; rfl, rfl⟩
  case round =>
    obtain ⟨k, hk, rfl, rfl, rfl⟩ := hrel
    by_cases hlt : 0 < k
    · obtain ⟨j, rfl⟩ : ∃ j, k = j + 1 := ⟨k - 1, by omega⟩
      have e1 : ((j + 1 : Nat) : Int) - 1 = (j : Int) := by omega
      rw [e1]
      have hk0 : (0 : Int) ≤ (j : Int) := by omega
      have e2 : (o : Int) + (j : Int) = ((o + j : Nat) : Int) := by omega
      have hk1 : ((o + j : Nat) : Int) < (n : Int) := by omega
      have hk3 : (0 : Int) ≤ ((o + j : Nat) : Int) := by omega
      have c0 := HS.out.at_ (show o + j < n by omega)
      have hyl := getD_byte HS.out.byte (o + j)
      have HK := Lib.hid (leL_drop (l := l) (i := j) (by rw [H8.out]; omega))
      rw [HG8.out j (by omega)] at HK
      have hal := leL_drop_lt H8.out HB8.out (j + 1) (by omega)
      generalize bs.getD (o + j) 0 = y at *
      generalize leL (l.drop (j + 1)) = a at *
      generalize o + j = q at *
      clear e1
      go_wp2_with fail
      go_roundw
      case rel => exact ⟨j, by omega, by first | rfl | (congr 1; omega), by rw [HK.out]; first | rfl | (congr 1; omega), trivial⟩
      case measure => simp [intOf]
    · obtain rfl : k = 0 := by omega
      go_wp2_with fail
      go_ret
      exact ⟨by rw [HV.out]; rfl, rfl⟩
set_option maxHeartbeats 1000000 in
theorem rword_any (x : Nat) (w : World) (hx : x < 18446744073709551616) :
    Calls Tryd.prog 49 #[.int .u64 (x : Int)] w fun e w' => ∃ C f, e = .returned (.slice C 8 f) ∧ Sb w' C 8 f (leN x) ∧ Below w.heap.size w w' := by
  go_enter Tryd.func49, Tryd.ntmps49
  go_wp2_with fail
  have HO := Lib.hid (OwB.made w w.heap.size (Nat.le_refl _))
  have HB := Lib.hid ((Below.refl w.heap.size w).alloc (Nat.le_refl _) (.cells #[] 5))
  generalize hv0 : Value.slice (some ⟨w.heap.size, 0, none⟩) 0 0 = v0 at *
  generalize w.alloc (.cells #[] 5) = w1 at *
  go_loopw [0, 3, 4] (fun z u s wr => ∃ k : Nat, k ≤ 8 ∧ s = .int .i64 k ∧ z = .int .u64 ((x / 2 ^ (8 * k) : Nat) : Int) ∧ OwB wr w.heap.size u k (leK x k) ∧ Below w.heap.size w wr) (fun _ _ s _ => 8 - (intOf s).toNat)
  case atStart => exact ⟨0, by omega, rfl, by simp, HO.out, HB.out⟩
  case round =>
    clear HO HB hv0
    obtain ⟨k, hk, rfl, rfl, ho, hbw⟩ := hrel
    have HO := Lib.hid ho
    have HB := Lib.hid hbw
    have hz : w.heap.size ≤ wr.heap.size := hbw.size
    obtain ⟨C, f, rfl, hsl⟩ := ho.sl
    have HSL := Lib.hid hsl
    clear ho hbw hsl
    by_cases hlt : k < 8
    · have hk1 : (k : Int) < 8 := by omega
      have hk0 : (0 : Int) ≤ (k : Int) := by omega
      have hyl : x / 2 ^ (8 * k) % 256 < 256 := Nat.mod_lt _ (by decide)
      have HK := Lib.hid (leK_succ x k)
      have HD := Lib.hid (show x / 2 ^ (8 * (k + 1)) = x / 2 ^ (8 * k) / 256 by rw [Nat.div_div_eq_div_mul, show 8 * (k + 1) = 8 * k + 8 by omega, Nat.pow_add])
      have hxx : x / 2 ^ (8 * k) < 18446744073709551616 := Nat.lt_of_le_of_lt (Nat.div_le_self _ _) hx
      generalize x / 2 ^ (8 * k) = z at *
      have e5 : (z : Int) % 256 = ((z % 256 : Nat) : Int) := by omega
      have e6 : IntKind.u8.wrap (((z % 256 : Nat) : Int)) = ((z % 256 : Nat) : Int) := by rw [IntKind.wrap_u8]; omega
      generalize z % 256 = y at *
      go_upto_region 6 with (at_builtin; refine wpList_appendB rfl (.tmp 10) (.tmp 14) rfl w.heap.size _ k _ rfl (HO.out.keep ((Below.refl _ _).alloc (Nat.le_refl _) _)) wr.heap.size 1 y rfl (One.new wr _ _) hyl (by omega) (by simp; omega) ?_; intro v1 w2 ho1 hb1; have HO1 := Lib.hid ho1; have HB2 := Lib.hid (((Below.refl w.heap.size wr).alloc hz (.cells #[.int .u8 (y : Int)] 5)).trans hb1); obtain ⟨C1, f1, rfl, _⟩ := ho1.sl; clear ho1 hb1)
      go_wp2_with fail
      go_roundw
      case rel => exact ⟨k + 1, by omega, by go_num, by rw [HD.out]; first | rfl | (congr 1; omega), by rw [HK.out]; exact HO1.out, HB.out.trans HB2.out⟩
      case measure => simp [intOf]; omega
    · obtain rfl : k = 8 := by omega
      go_wp2_with fail
      go_ret
      exact ⟨C, f, rfl, HSL.out, HB.out⟩
end Go.Proofs.YtcaoajeplinopaaDoor

namespace Go.Proofs.YtcaoajeplinopaaDoor
set_option linter.unusedVariables false
set_option linter.unusedSimpArgs false
set_option maxRecDepth 8000
open Go.RowKit
theorem flatten_take {Ps : List (List Nat)} {i : Nat} {p : List Nat} (h : Ps[i]? = some p) : (Ps.take (i + 1)).flatten = (Ps.take i).flatten ++ p := by
  rw [List.take_add_one, h, Option.toList_some, List.flatten_append]
  simp
set_option maxHeartbeats 2000000 in
theorem tjoin_any (A : Option Addr) (n c : Nat) (Ps : List (List Nat)) (w : World) (h : Pb w A n c Ps) (hn : n ≤ 1000) (hL : sumL Ps ≤ 140737488350000) :
    Calls Tryd.prog 45 #[.slice A n c] w fun e w' => ∃ C f, e = .returned (.slice C (sumL Ps) f) ∧ Sb w' C (sumL Ps) f Ps.flatten ∧ Below w.heap.size w w' := by
  have hcap := h.cap
  have htop := h.top
  have HS := Lib.hid h
  clear h
  go_enter Tryd.func45, Tryd.ntmps45
  go_wp2_with fail
  go_loopw [3, 11] (fun s i wr => ∃ k : Nat, k ≤ n ∧ s = .int .i64 ((sumL (Ps.take k) : Nat) : Int) ∧ i = .int .i64 k ∧ wr = w) (fun _ i _ => n - (intOf i).toNat)
  case atStart => exact ⟨0, by omega, rfl, rfl, rfl⟩
  case round =>
    obtain ⟨k, hk, rfl, rfl, hw⟩ := hrel
    have hw := hw.symm
    subst hw
    by_cases hlt : k < n
    · have hk1 : (k : Int) < (n : Int) := by omega
      have hk0 : (0 : Int) ≤ (k : Int) := by omega
      obtain ⟨p, hp⟩ : ∃ p, Ps[k]? = some p := ⟨Ps[k]'(by have := HS.out.len; omega), List.getElem?_eq_getElem _⟩
      obtain ⟨ad, B, m, d, rfl, hc, hs⟩ := HS.out.cells k p hp
      have hst := sumL_take hp
      have hsl := sumL_le Ps (k + 1)
      have hml := hs.len
      rw [← hml] at hst
      have HX := Lib.hid hst
      have hm : m ≤ 140737488350000 := by omega
      have hm2 : sumL (Ps.take k) + m ≤ 140737488350000 := by omega
      clear hst hsl hml hs hp
      generalize sumL (Ps.take k) = s at *
      go_wp2_with fail
      go_roundw
      case rel => exact ⟨k + 1, by omega, by rw [HX.out]; go_num, by go_num, trivial⟩
      case measure => simp [intOf]; omega
    · obtain rfl : k = n := by omega
      have hts : Ps.take k = Ps := List.take_of_length_le (by have := HS.out.len; omega)
      rw [hts]
      clear hts
      obtain ⟨s, hss⟩ : ∃ s, sumL Ps = s := ⟨_, rfl⟩
      rw [hss] at hL ⊢
      have HSS := Lib.hid hss
      clear hss
      have hmk : (Instr.makeSlice 22 (.int .i64 0) (.int .i64 (s : Int))).run Tryd.prog w = .ok (.slice (some ⟨w.heap.size, 0, none⟩) 0 s) (w.alloc (.cells (celB (List.replicate s 0)).toArray 5)) := run_makeB 0 s (Nat.zero_le _) (by omega) w
      go_upto_region 8 with fail
      clear hmk
      have HO := Lib.hid (OwB.fresh w s (by omega))
      have HB := Lib.hid ((Below.refl w.heap.size w).alloc (Nat.le_refl _) (.cells (celB (List.replicate s 0)).toArray 5))
      generalize hv0 : Value.slice (some ⟨w.heap.size, 0, none⟩) 0 s = v0 at *
      generalize w.alloc (.cells (celB (List.replicate s 0)).toArray 5) = w1 at *
      go_wp2_with fail
      go_loopw [6, 24] (fun u i wx => ∃ j : Nat, j ≤ k ∧ i = .int .i64 j ∧ OwB wx w.heap.size u (sumL (Ps.take j)) (Ps.take j).flatten ∧ Below w.heap.size w wx) (fun _ i _ => k - (intOf i).toNat)
      case atStart => exact ⟨0, by omega, rfl, HO.out, HB.out⟩
      case round =>
        clear HO HB hv0
        obtain ⟨j, hj, rfl, ho, hbw⟩ := hrel
        have HO := Lib.hid ho
        have HB := Lib.hid hbw
        obtain ⟨C, f, rfl, hsl⟩ := ho.sl
        have HSL := Lib.hid hsl
        have hz := hbw.size
        clear ho hsl
        by_cases hlt2 : j < k
        · have hk1 : (j : Int) < (k : Int) := by omega
          have hk0 : (0 : Int) ≤ (j : Int) := by omega
          obtain ⟨p, hp⟩ : ∃ p, Ps[j]? = some p := ⟨Ps[j]'(by have := HS.out.len; omega), List.getElem?_eq_getElem _⟩
          obtain ⟨ad, B, m, d, rfl, hc0, hs0⟩ := HS.out.cells j p hp
          have hc := cell_keep hc0 hbw
          have hs := hs0.keep hbw
          have hst := sumL_take hp
          have hsl := sumL_le Ps (j + 1)
          have hml := hs.len
          rw [← hml] at hst
          have HX := Lib.hid hst
          have HF := Lib.hid (flatten_take hp)
          have hm2 : sumL (Ps.take j) + m ≤ 140737488350000 := by have := HSS.out; omega
          clear hst hsl hml hp hc0 hs0 hbw
          generalize sumL (Ps.take j) = t at *
          go_upto_region 12 with (at_builtin; refine wpList_appendBa rfl (.tmp 28) (.tmp 29) rfl w.heap.size _ t _ rfl HO.out B m d p rfl hs (by omega) hz ?_; intro v1 w2 ho1 hb1; have HO1 := Lib.hid ho1; have HB2 := Lib.hid hb1; obtain ⟨C1, f1, rfl, _⟩ := ho1.sl; clear ho1 hb1)
          go_wp2_with fail
          go_roundw
          case rel => exact ⟨j + 1, by omega, by go_num, by rw [HX.out, HF.out]; exact HO1.out, HB.out.trans HB2.out⟩
          case measure => simp [intOf]; omega
        · obtain rfl : j = k := by omega
          clear hbw
          have hts : Ps.take j = Ps := List.take_of_length_le (by have := HS.out.len; omega)
          rw [hts, HSS.out] at HSL
          rw [hts, HSS.out]
          go_wp2_with fail
          go_ret
          refine ⟨C, f, ?_, ?_, HB.out⟩
          · rw [HSS.out]; rfl
          · rw [HSS.out]; exact HSL.out
end Go.Proofs.YtcaoajeplinopaaDoor

namespace Go.Proofs.YtcaoajeplinopaaDoor
set_option linter.unusedVariables false
set_option linter.unusedSimpArgs false
set_option maxRecDepth 8000
open Go.RowKit

section
variable {w : World} {A : Option Addr} {n c : Nat} {Ps : List (List Nat)}
theorem Pb.some_ (h : Pb w A n c Ps) (hn : 0 < n) : ∃ ad, A = some ad := by
  have hl := h.len
  obtain ⟨ad, _, _, _, e, _⟩ := h.cells 0 (Ps[0]'(by omega)) (List.getElem?_eq_getElem _)
  exact ⟨ad, e⟩
theorem Pb.take {k : Nat} (h : Pb w A n c Ps) (hk : k ≤ n) : Pb w A k c (Ps.take k) :=
  ⟨by rw [List.length_take]; have := h.len; omega, by have := h.cap; omega, h.top, h.nil, fun i p hp => h.cells i p (by
    have hl := (List.getElem?_eq_some_iff.1 hp).1
    rw [List.getElem?_take_of_lt (by rw [List.length_take] at hl; omega)] at hp
    exact hp)⟩
theorem Pb.drop {k : Nat} {ad : Addr} (h : Pb w (some ad) n c Ps) (hk : k ≤ n) : Pb w (some (if c = k then ad else ad.add k)) (n - k) (c - k) (Ps.drop k) := by
  have hl := h.len
  have hcp := h.cap
  refine ⟨by rw [List.length_drop]; omega, by omega, by have := h.top; omega, (fun e => by cases e), fun i p hp => ?_⟩
  have hi := (List.getElem?_eq_some_iff.1 hp).1
  rw [List.length_drop] at hi
  rw [List.getElem?_drop] at hp
  obtain ⟨ad', B, m, d, e, hc, hs⟩ := h.cells _ _ hp
  injection e with e
  subst e
  refine ⟨_, B, m, d, rfl, ?_, hs⟩
  rw [if_neg (by omega), ad_add]
  exact hc
end
end Go.Proofs.YtcaoajeplinopaaDoor

namespace Go.Proofs.YtcaoajeplinopaaDoor
set_option linter.unusedVariables false
set_option linter.unusedSimpArgs false
set_option maxRecDepth 8000
open Go.RowKit
/-- a slice value that reads as the integers is -/
structure Ib (w : World) (A : Option Addr) (n c : Nat) (is : List Int) : Prop where
  len : n = is.length
  cap : n ≤ c
  top : c ≤ 9223372036854775807
  nil : A = none → c = 0
  cells : ∀ (i : Nat) (z : Int), is[i]? = some z → ∃ ad, A = some ad ∧ w.cell? (ad.add i) = some (.int .i64 z)
section
variable {w w' : World} {A : Option Addr} {n c : Nat} {is : List Int}
theorem Ib.keep (h : Ib w A n c is) (hb : Below w.heap.size w w') : Ib w' A n c is :=
  ⟨h.len, h.cap, h.top, h.nil, fun i z hz => by obtain ⟨ad, e, hc⟩ := h.cells i z hz; exact ⟨ad, e, cell_keep hc hb⟩⟩
theorem Ib.at_ {ad : Addr} (h : Ib w (some ad) n c is) {i : Nat} (hi : i < n) : w.cell? (ad.add i) = some (.int .i64 (is.getD i 0)) := by
  have hl := h.len
  obtain ⟨ad', e, hc⟩ := h.cells i (is.getD i 0) (by rw [List.getD_eq_getElem?_getD, List.getElem?_eq_getElem (show i < is.length by omega)]; rfl)
  injection e with e
  subst e
  exact hc
theorem Ib.some_ (h : Ib w A n c is) (hn : 0 < n) : ∃ ad, A = some ad := by
  have hl := h.len
  obtain ⟨ad, e, _⟩ := h.cells 0 (is[0]'(by omega)) (List.getElem?_eq_getElem _)
  exact ⟨ad, e⟩
theorem Ib.nil_ (w : World) : Ib w none 0 0 [] := ⟨rfl, Nat.le_refl _, Nat.zero_le _, fun _ => rfl, fun i z hz => by simp at hz⟩
theorem Ib.take {k : Nat} (h : Ib w A n c is) (hk : k ≤ n) : Ib w A k c (is.take k) :=
  ⟨by rw [List.length_take]; have := h.len; omega, by have := h.cap; omega, h.top, h.nil, fun i p hp => h.cells i p (by
    have hl := (List.getElem?_eq_some_iff.1 hp).1
    rw [List.getElem?_take_of_lt (by rw [List.length_take] at hl; omega)] at hp
    exact hp)⟩
theorem Ib.drop {k : Nat} {ad : Addr} (h : Ib w (some ad) n c is) (hk : k ≤ n) : Ib w (some (if c = k then ad else ad.add k)) (n - k) (c - k) (is.drop k) := by
  have hl := h.len
  have hcp := h.cap
  refine ⟨by rw [List.length_drop]; omega, by omega, by have := h.top; omega, (fun e => by cases e), fun i p hp => ?_⟩
  have hi := (List.getElem?_eq_some_iff.1 hp).1
  rw [List.length_drop] at hi
  rw [List.getElem?_drop] at hp
  obtain ⟨ad', e, hc⟩ := h.cells _ _ hp
  injection e with e
  subst e
  refine ⟨_, rfl, ?_⟩
  rw [if_neg (by omega), ad_add]
  exact hc
end
end Go.Proofs.YtcaoajeplinopaaDoor

namespace Go.Proofs.YtcaoajeplinopaaDoor
set_option linter.unusedVariables false
set_option linter.unusedSimpArgs false
set_option maxRecDepth 8000
open Go.RowKit
open Go.Shelf
/-- a step of an iterator: nothing below N changes, no cells change -/
structure Abide (N : Nat) (A B : World) : Prop where
  below : Below N A B
  cells : ∀ (b : Nat) (o : Obj), A.heap[b]? = some o → o.isCells = true → B.heap[b]? = some o
theorem Abide.refl (N : Nat) (A : World) : Abide N A A := ⟨Below.refl _ _, fun _ _ h _ => h⟩
theorem Abide.trans {N : Nat} {A B C : World} (h : Abide N A B) (k : Abide N B C) : Abide N A C := ⟨h.below.trans k.below, fun b o ho hc => k.cells b o (h.cells b o ho hc) hc⟩
theorem Abide.mono {N M : Nat} {A B : World} (h : Abide N A B) (hM : M ≤ N) : Abide M A B := ⟨h.below.mono hM, h.cells⟩
theorem Abide.of_below {N : Nat} {A B : World} (h : Below A.heap.size A B) (hN : N ≤ A.heap.size) : Abide N A B := ⟨h.mono hN, fun _ _ ho _ => heap_keep ho h⟩
theorem Abide.putObj {N l : Nat} {A : World} {o : Obj} (o' : Obj) (h : A.heap[l]? = some o) (hc : o.isCells = false) (hN : N ≤ l) : Abide N A (A.putObj l o') :=
  ⟨⟨rfl, rfl, rfl, by simp, fun k hk => World.putObj_heap_other (by omega)⟩, fun b q hq hqc => by
    have e : b ≠ l := by
      rintro rfl
      rw [h] at hq
      cases hq
      rw [hc] at hqc
      cases hqc
    exact (World.putObj_heap_other e).trans hq⟩
theorem Abide.cell {N : Nat} {A B : World} (h : Abide N A B) {p : Addr} {v : Value} (hc : A.cell? p = some v) : B.cell? p = some v := by
  have hlt := World.block_lt_of_cell? _ _ hc
  have ho := Array.getElem?_eq_getElem hlt
  have hcell : (A.heap[p.block]'hlt).isCells = true := by
    have := hc
    unfold World.cell? at this
    rw [ho] at this
    cases hh : A.heap[p.block]'hlt <;> rw [hh] at this <;> first | rfl | (simp at this)
  exact (World.cell?_of_block ((h.cells _ _ ho hcell).trans ho.symm)).trans hc
/-- a block of digests -/
def isDig : Obj → Bool
  | .cells _ t _ => t == 30
  | _ => false
/-- what a round keeps for the iterator: whatever lies at or beyond N, but for blocks of digests -/
structure KeepI (N : Nat) (A B : World) : Prop where
  size : A.heap.size ≤ B.heap.size
  same : ∀ (b : Nat) (o : Obj), N ≤ b → A.heap[b]? = some o → isDig o = false → B.heap[b]? = some o
theorem KeepI.refl (N : Nat) (A : World) : KeepI N A A := ⟨Nat.le_refl _, fun _ _ _ h _ => h⟩
theorem KeepI.trans {N : Nat} {A B C : World} (h : KeepI N A B) (k : KeepI N B C) : KeepI N A C := ⟨Nat.le_trans h.size k.size, fun b o hb ho hd => k.same b o hb (h.same b o hb ho hd) hd⟩
theorem KeepI.mono {N M : Nat} {A B : World} (h : KeepI N A B) (hM : N ≤ M) : KeepI M A B := ⟨h.size, fun b o hb => h.same b o (by omega)⟩
theorem KeepI.of_below {N : Nat} {A B : World} (h : Below A.heap.size A B) : KeepI N A B := ⟨h.size, fun _ _ _ ho _ => heap_keep ho h⟩
theorem KeepI.putObj {N l : Nat} {A : World} (o' : Obj) (hN : l < N) : KeepI N A (A.putObj l o') := ⟨by simp, fun b o hb ho _ => (World.putObj_heap_other (by omega)).trans ho⟩
theorem KeepI.setCell {N : Nat} {A : World} (p : Addr) (v : Value) (hp : p.block < N) : KeepI N A (A.setCell p v) :=
  ⟨by simp [World.setCell], fun b o hb ho _ => (Below.heap_setCell A p v b (by omega)).trans ho⟩
theorem KeepI.setRow {N x : Nat} {A : World} (cs : Array Value) (hx : x < N) : KeepI N A (A.setRow x cs) :=
  ⟨by simp [World.setRow], fun b o hb ho _ => by
    have : x ≠ b := by omega
    simp [World.setRow, Array.getElem?_modify, this]
    exact ho⟩
theorem KeepI.cell {N : Nat} {A B : World} (h : KeepI N A B) {p : Addr} {v : Value} (hp : N ≤ p.block) (hc : A.cell? p = some v) (hd : ∀ o, A.heap[p.block]? = some o → isDig o = false) : B.cell? p = some v := by
  have hlt := World.block_lt_of_cell? _ _ hc
  have ho := Array.getElem?_eq_getElem hlt
  exact (World.cell?_of_block ((h.same _ _ hp ho (hd _ ho)).trans ho.symm)).trans hc
end Go.Proofs.YtcaoajeplinopaaDoor

namespace Go.Proofs.YtcaoajeplinopaaDoor
set_option linter.unusedVariables false
set_option linter.unusedSimpArgs false
set_option maxRecDepth 8000
open Go.RowKit

/-- what is asked once an operation, carried out in w, has yielded this: the value v in the very world; or a call that hands back v and only adds to memory -/
def Oper.calmUpon (P : Program) (w : World) (v : Value) : Result Next → Prop
  | .ok (.value u) w' => w' = w ∧ u = v
  | .ok .skip w' => w' = w ∧ v = undef
  | .ok (.enter f args) w' => w' = w ∧ Calls P f args w (fun e w'' => e = .returned v ∧ Below w.heap.size w w'')
  | _ => False
/-- one value, in every later world -/
def Oper.calm (P : Program) (w0 : World) (o : Oper) (a : Act) (next : Act → Prop) : Prop := ∃ v, (∀ x : Later w0, Oper.calmUpon P x.at v ((execOp a.eval o).run P x.at)) ∧ next (a.put o.dst v)
attribute [go_sem] Oper.calm Oper.calmUpon

section
variable {P : Program} {ops : Array Oper} {w0 : World} {mk : Nat → Option Obj}
/-- which variable lies where -/
def upd (bs : Nat → Option Nat) (i b : Nat) : Nat → Option Nat := fun k => if k = i then some b else bs k
def ptr (b : Nat) : Value := .pointer (some ⟨b, 0, none⟩)

/-- what is free of all that is not listed -/
def FreeOf (ops : Array Oper) (listed : Array Bool) (i : Nat) (oi : Oper) : Prop :=
  ∀ j oj, ops[j]? = some oj → j ≠ i → listed.getD j true = false → (∀ e ∈ oj.after, Region.binds .any e = true → e.on ≠ i) → oi.apart ops oj = true
theorem FreeOf.set {listed : Array Bool} {i j : Nat} {oi : Oper} (h : FreeOf ops listed i oi) (hjun : listed.getD j true = false) : FreeOf ops (listed.setIfInBounds j true) i oi := fun k ok hk hki hku hkn => by
  refine h k ok hk hki ?_ hkn
  by_cases hjk : j = k
  · rw [← hjk]; exact hjun
  · rw [getD_set_ne true hjk] at hku; exact hku
variable {n : Nat} {L : Array Bool → Act → (Nat → Option Nat) → Prop}
/-- just the operations before k are listed -/
structure Pref (ops : Array Oper) (k : Nat) (listed : Array Bool) : Prop where
  size : listed.size = ops.size
  yes : ∀ i, i < k → listed.getD i false = true
  no : ∀ i, k ≤ i → i < ops.size → listed.getD i true = false
theorem Pref.next {k : Nat} {listed : Array Bool} (h : Pref ops k listed) (hk : k < ops.size) : Pref ops (k + 1) (listed.setIfInBounds k true) := by
  refine ⟨by simpa using h.size, fun i hi => ?_, fun i hi hi' => ?_⟩
  · by_cases e : i = k
    · subst e
      simp [h.size, hk]
    · exact getD_set_true (h.yes i (by omega))
  · rw [getD_set_ne true (by omega)]
    exact h.no i (by omega) hi'
theorem Pref.at {k i : Nat} {listed : Array Bool} (h : Pref ops k listed) (hi : listed.getD i true = false) : k ≤ i := by
  rcases Nat.lt_or_ge i k with h' | h'
  · have h1 := h.yes i h'
    rw [getD_both hi] at h1
    cases h1
  · exact h'
theorem Pref.ready {k : Nat} {listed : Array Bool} {o : Oper} (h : Pref ops k listed) (hx : LexOK ops) (ho : ops[k]? = some o) : k ∈ Region.ready .any ops listed :=
  mem_ready.2 ⟨h.no k (Nat.le_refl _) (Array.getElem?_eq_some_iff.1 ho).1, o, ho, fun e he hb => h.yes _ (hx.edge k o ho e he hb)⟩
theorem Pref.inv {k n : Nat} {listed : Array Bool} (h : Pref ops k listed) (hx : LexOK ops) (hkn : k ≤ n) : HeadInv .any ops n listed := by
  refine ⟨h.size, fun j oj hj hl e he hb => ?_, fun t ht ht' => h.no t (by omega) ht'⟩
  have hlt := (Array.getElem?_eq_some_iff.1 hj).1
  have hjk : j < k := by
    rcases Nat.lt_or_ge j k with h' | h'
    · exact h'
    · have h1 := h.no j h' hlt
      rw [getD_both h1] at hl
      cases hl
  exact h.yes _ (Nat.lt_trans (hx.edge j oj hj e he hb) hjk)
theorem Pref.free {k : Nat} {listed : Array Bool} {o : Oper} (h : Pref ops k listed) (hx : LexOK ops) (ho : ops[k]? = some o) : FreeOf ops listed k o := fun j oj hj hne hun hno => by
  have := h.at hun
  exact hx.free k j o oj (by omega) ho hj hno

/-- the variables lie where they are said to lie -/
structure Fx (w0 : World) (mk : Nat → Option Obj) (bs : Nat → Option Nat) (w : World) : Prop where
  below : Below w0.heap.size w0 w
  here : ∀ i b, bs i = some b → ∃ z, mk i = some z ∧ w.heap[b]? = some z ∧ w0.heap.size ≤ b
  apart : ∀ i j b, bs i = some b → bs j = some b → i = j
theorem Fx.later {bs : Nat → Option Nat} {w w' : World} (h : Fx w0 mk bs w) (hb : Below w.heap.size w w') : Fx w0 mk bs w' :=
  ⟨h.below.trans (hb.mono h.below.size), fun i b e => by obtain ⟨z, h1, h2, h3⟩ := h.here i b e; exact ⟨z, h1, heap_keep h2 hb, h3⟩, h.apart⟩
theorem Fx.alloc {bs : Nat → Option Nat} {w : World} {i : Nat} {z : Obj} (h : Fx w0 mk bs w) (hm : mk i = some z) : Fx w0 mk (upd bs i w.heap.size) (w.alloc z) := by
  have new : ∀ j b, bs j = some b → b < w.heap.size := fun j b e => by
    obtain ⟨z', _, h2, _⟩ := h.here j b e
    exact (Array.getElem?_eq_some_iff.1 h2).1
  refine ⟨h.below.alloc h.below.size _, fun j b e => ?_, fun j k b e e' => ?_⟩
  · unfold upd at e
    by_cases hj : j = i
    · subst hj
      simp only [if_true, Option.some.injEq] at e
      subst e
      exact ⟨z, hm, heap_new w z, h.below.size⟩
    · simp only [hj, if_false] at e
      obtain ⟨z', h1, h2, h3⟩ := h.here j b e
      exact ⟨z', h1, heap_old _ h2, h3⟩
  · unfold upd at e e'
    by_cases hj : j = i
    · by_cases hk : k = i
      · rw [hj, hk]
      · simp only [hj, hk, if_true, if_false, Option.some.injEq] at e e'
        have := new k b e'
        omega
    · by_cases hk : k = i
      · simp only [hj, hk, if_true, if_false, Option.some.injEq] at e e'
        have := new j b e
        omega
      · simp only [hj, hk, if_false] at e e'
        exact h.apart j k b e e'

/-- the variables of a statement, by their list -/
def mkOf (m : Nat) (zs : List Obj) (i : Nat) : Option Obj := if i < m then none else zs[i - m]?
theorem Fx.get {m : Nat} {zs : List Obj} {bs : Nat → Option Nat} {X : World} (h : Fx w0 (mkOf m zs) bs X) (i b : Nat) (z : Obj) (e : bs i = some b) (e' : mkOf m zs i = some z) : X.heap[b]? = some z ∧ w0.heap.size ≤ b := by
  obtain ⟨z', h1, h2, h3⟩ := h.here i b e
  rw [h1] at e'
  cases e'
  exact ⟨h2, h3⟩
theorem all_cons {α : Type} {p : α → Prop} {x : α} {l : List α} (h : p x) (k : ∀ y, y ∈ l → p y) : ∀ y, y ∈ x :: l → p y := fun y hy => (List.mem_cons.1 hy).elim (fun e => e ▸ h) (k y)
theorem cells_at {W : World} {b : Nat} {cs : Array Value} {t : TypeId} (h : W.heap[b]? = some (.cells cs t (0, 0))) (i : Nat) {v : Value} (e : cs[i]? = some v) : W.cell? ⟨b, i, none⟩ = some v := by
  simp [World.cell?, h, e]
end


theorem Calls.calm {P : Program} {f : FuncId} {args : Array Value} {W : World} {v : Value} (h : Calls P f args W fun e w' => e = .returned v ∧ Below W.heap.size W w') : Calls P f args W fun e w'' => e = .returned v ∧ Below W.heap.size W w'' := h
end Go.Proofs.YtcaoajeplinopaaDoor

namespace Go.Proofs.YtcaoajeplinopaaDoor
set_option linter.unusedVariables false
set_option linter.unusedSimpArgs false
set_option maxRecDepth 8000
open Go.RowKit
theorem results_row_row {P : Program} {fn : Func} {p q : Tmp} {ty ty2 : TypeId} (h : fn.results = #[.cell p ty, .cell q ty2]) (tmps : Array Value) (w : World) (g k : Nat) (t t2 : TypeId) (cs ds : Array Value) (d d2 : TypeDesc)
    (hp : tmps.getD p undef = .pointer (some ⟨g, 0, none⟩)) (hq : tmps.getD q undef = .pointer (some ⟨k, 0, none⟩)) (hg : w.heap[g]? = some (.cells cs t (0, 0))) (hk : w.heap[k]? = some (.cells ds t2 (0, 0)))
    (hu : P.underlying ty = some d) (hd : (match d with | .struct _ | .array _ _ => true | _ => false) = true) (hi : (P.info? ty).map (·.size) = some cs.size)
    (hu2 : P.underlying ty2 = some d2) (hd2 : (match d2 with | .struct _ | .array _ _ => true | _ => false) = true) (hi2 : (P.info? ty2).map (·.size) = some ds.size) :
    (results fn tmps).run P w = .ok (.tuple #[.agg cs, .agg ds]) w := by
  have hp' : tmps[p]?.getD undef = .pointer (some ⟨g, 0, none⟩) := by simpa using hp
  have hq' : tmps[q]?.getD undef = .pointer (some ⟨k, 0, none⟩) := by simpa using hq
  simp [results, h, hp', hq', asAddr, Result.andThen, run_loadVar_row w g t ty cs (0, 0) d hg hu hd hi, run_loadVar_row w k t2 ty2 ds (0, 0) d2 hk hu2 hd2 hi2]
end Go.Proofs.YtcaoajeplinopaaDoor

namespace Go.Proofs.YtcaoajeplinopaaDoor
set_option linter.unusedVariables false
set_option linter.unusedSimpArgs false
set_option maxRecDepth 8000
open Go.RowKit
open Go.Shelf
attribute [local go_sem] Oper.semAt_some
theorem KeepI.alloc {N : Nat} {A : World} (o : Obj) : KeepI N A (A.alloc o) := KeepI.of_below ((Below.refl _ _).alloc (Nat.le_refl _) o)
end Go.Proofs.YtcaoajeplinopaaDoor

namespace Go.Proofs.YtcaoajeplinopaaDoor.H4
set_option linter.unusedVariables false
set_option linter.unusedSimpArgs false
set_option maxRecDepth 8000
open Go.RowKit Go.Proofs.YtcaoajeplinopaaDoor

/-- operations that only look -/
def stillOp (o : Oper) : Bool := match o.op with
  | .move _ => true
  | .assign _ => true
  | .pick _ _ _ => true
  | .load _ _ => true
  | .binOp _ _ _ _ _ => true
  | .unOp _ _ _ => true
  | .convert _ _ _ => true
  | .extract _ _ => true
  | .field _ _ _ => true
  | .indexAddr _ _ _ => true
  | .fieldAddr _ _ _ => true
  | .build _ _ => true
  | .slice _ _ _ _ _ => true
  | .index _ _ _ => true
  | .call c => match c.callee with
    | .builtin .len => true
    | .builtin .min => true
    | .builtin .max => true
    | _ => false
  | _ => false

theorem andThen_value {P : Program} {α : Type} {s : Sem α} {g : α → Value} {w w' : World} {n : Next} (h : (do let x ← s; pure (Next.value (g x)) : Sem Next).run P w = .ok n w') : ∃ x, n = .value x := by
  rw [Sem.run_bind] at h
  cases hs : s.run P w with
  | ok x w1 =>
    rw [hs, Result.andThen_ok, Sem.run_pure] at h
    injection h with h _
    exact ⟨_, h.symm⟩
  | halt x w1 => rw [hs] at h; cases h
theorem still_value {P : Program} {o : Oper} (h : stillOp o = true) {ev : Operand → Value} {w w' : World} {n : Next} (hr : (execOp ev o).run P w = .ok n w') : ∃ x, n = .value x := by
  unfold stillOp at h
  unfold execOp at hr
  cases ho : o.op with
  | call c =>
    simp only [ho] at h hr
    obtain ⟨callee, args, argTypes⟩ := c
    cases callee with
    | builtin b =>
      cases b <;> first | (cases h; done) | (simp only [resolve, Sem.run_bind, Sem.run_pure, Result.andThen_ok, invoke, builtin] at hr; exact andThen_value (g := fun x => x) (by simpa only [Sem.run_bind, Sem.run_pure] using hr))
    | _ => cases h
  | _ => simp only [ho] at h hr <;> first | (exact absurd h (by decide)) | exact andThen_value (g := fun x => x) hr | exact andThen_value hr | (rw [Sem.run_pure] at hr; injection hr with hr _; exact ⟨_, hr.symm⟩)

section
variable {P : Program} {ops : Array Oper} {S : World → Prop} {Q : Exit → Act → World → Prop}

/-- what an operation that is carried out may leave: its value and the world -/
def heldUpon (P : Program) (K : Value → World → Prop) : Result Next → Prop
  | .ok (.value u) w' => K u w'
  | .ok .skip w' => K undef w'
  | .ok (.enter f args) w' => Calls P f args w' (fun e w'' => ∃ v, e = .returned v ∧ K v w'')
  | _ => False
def hOp (P : Program) (o : Oper) (K : Value → World → Prop) (a : Act) (w : World) : Prop := heldUpon P K ((execOp a.eval o).run P w)
theorem hOp_mono {o : Oper} {K K' : Value → World → Prop} {a : Act} {w : World} (h : ∀ v w', K v w' → K' v w') (hh : hOp P o K a w) : hOp P o K' a w := by
  unfold hOp at *
  generalize (execOp a.eval o).run P w = r at *
  cases r with
  | ok n w' =>
    cases n <;> simp only [heldUpon] at hh ⊢ <;> first | exact h _ _ hh | exact hh.mono fun _ _ ⟨v, he, hk⟩ => ⟨v, he, h _ _ hk⟩
  | halt x w' => exact hh
theorem hOp_out {o : Oper} {K : Value → World → Prop} {a : Act} {w : World} (hh : hOp P o K a w) : ∃ v w', K v w' := by
  unfold hOp at hh
  generalize (execOp a.eval o).run P w = r at hh
  cases r with
  | ok n w' =>
    cases n <;> simp only [heldUpon] at hh
    case value u => exact ⟨_, _, hh⟩
    case skip => exact ⟨_, _, hh⟩
    case enter f args =>
      obtain ⟨e, w1, fr, ⟨v, _, hk⟩, _⟩ := hh []
      exact ⟨v, w1, hk⟩
  | halt x w' => exact hh.elim
theorem hOp_put {o : Oper} (hs : ∀ cs b, o.op ≠ .select cs b) {K : Value → World → Prop} {a : Act} {w : World} {d : Option Tmp} {u : Value} (h : ∀ t, d = some t → t ∉ o.looksAt ops) (hh : hOp P o K a w) : hOp P o K (a.put d u) w := by
  unfold hOp at *
  rw [execOp_put o hs a d u h]
  exact hh

def quietNow (ops : Array Oper) (o : Oper) (a : Act) : Prop := stillOp o = true ∨ Region.wanted o (yielded ops a.tmps) = false
def sOp (P : Program) (ops : Array Oper) (S : World → Prop) (i : Nat) (K : Act → World → Prop) (a : Act) (w : World) : Prop :=
  match ops[i]? with
  | none => K a w
  | some o => (quietNow ops o a ∧ ∃ v, YieldsIf P ops S o v a ∧ K (a.put o.dst v) w) ∨ (¬ quietNow ops o a ∧ hOp P o (fun v w' => S w' ∧ K (a.put o.dst v) w') a w)
theorem sOp_mono {i : Nat} {K K' : Act → World → Prop} {a : Act} {w : World} (hS : S w) (h : ∀ a w, S w → K a w → K' a w) (hh : sOp P ops S i K a w) : sOp P ops S i K' a w := by
  unfold sOp at *
  cases hi : ops[i]? with
  | none => rw [hi] at hh; exact h _ _ hS hh
  | some o =>
    rw [hi] at hh
    rcases hh with ⟨hq, v, hy, hk⟩ | ⟨hq, hh⟩
    · exact .inl ⟨hq, v, hy, h _ _ hS hk⟩
    · exact .inr ⟨hq, hOp_mono (fun _ _ ⟨h1, h2⟩ => ⟨h1, h _ _ h1 h2⟩) hh⟩
theorem sOp_out {i : Nat} {K : Act → World → Prop} {a : Act} {w : World} (hS : S w) (hh : sOp P ops S i K a w) : ∃ a' w', S w' ∧ K a' w' := by
  unfold sOp at hh
  cases hi : ops[i]? with
  | none => rw [hi] at hh; exact ⟨_, _, hS, hh⟩
  | some o =>
    rw [hi] at hh
    rcases hh with ⟨_, v, _, hk⟩ | ⟨_, hh⟩
    · exact ⟨_, _, hS, hk⟩
    · obtain ⟨v, w', h1, h2⟩ := hOp_out hh
      exact ⟨_, _, h1, h2⟩
theorem quietNow_put {o : Oper} {a : Act} {d : Option Tmp} {u : Value} (h : ∀ t, d = some t → t ∉ o.looksAt ops) : quietNow ops o (a.put d u) ↔ quietNow ops o a := by
  unfold quietNow
  rw [wanted_put o a d u h]
theorem wpOp_of_sOp {i : Nat} {K K' : Act → World → Prop} {a : Act} {w : World} (hS : S w) (h : ∀ a w, S w → K a w → K' a w) (hh : sOp P ops S i K a w) : wpOp P ops Q i K' a w := by
  unfold sOp at hh
  cases hi : ops[i]? with
  | none =>
    rw [hi] at hh
    unfold wpOp
    simp only [hi]
    exact h _ _ hS hh
  | some o =>
    rw [hi] at hh
    rcases hh with ⟨_, v, hy, hk⟩ | ⟨hq, hh⟩
    · exact hy.wpOp hi hS (h _ _ hS hk)
    · have hw : Region.wanted o (yielded ops a.tmps) = true := by
        cases e : Region.wanted o (yielded ops a.tmps) with
        | true => rfl
        | false => exact absurd (.inr e) hq
      unfold wpOp
      simp only [hi, hw, if_true]
      refine .inl ?_
      unfold hOp at hh
      unfold Oper.wp
      generalize (execOp a.eval o).run P w = r at *
      cases r with
      | ok n w' =>
        cases n <;> simp only [heldUpon] at hh <;> simp only [Oper.upon]
        case value u => exact h _ _ hh.1 hh.2
        case skip => exact h _ _ hh.1 hh.2
        case enter f args => exact hh.mono fun e w'' ⟨v, he, h1, h2⟩ => by subst he; exact h _ _ h1 h2
      | halt x w' => exact hh.elim

/-- whatever order is picked -/
def wpS (P : Program) (ops : Array Oper) (S : World → Prop) (Q : Exit → Act → World → Prop) : Nat → Array Bool → Act → World → Prop
  | 0, listed, a, w => Region.ready .any ops listed = [] ∧ Q .normal a w
  | n + 1, listed, a, w => (Region.ready .any ops listed = [] → Q .normal a w) ∧ ∀ i, i ∈ Region.ready .any ops listed → sOp P ops S i (wpS P ops S Q n (listed.setIfInBounds i true)) a w
theorem wpAny_of_wpS : ∀ (n : Nat) (listed : Array Bool) (a : Act) (w : World), S w → wpS P ops S Q n listed a w → wpAny P .any ops Q n listed a w
  | 0, _, _, _, _, h => h
  | n + 1, _, _, _, hS, h => ⟨h.1, fun i hi => wpOp_of_sOp hS (fun a' w' hS' h' => wpAny_of_wpS n _ a' w' hS' h') (h.2 i hi)⟩

theorem YieldsIf.one {o : Oper} {u v : Value} {a : Act} {w : World} (hS : S w) (h : YieldsIf P ops S o u a) (k : YieldsIf P ops S o v a) : u = v := by
  rcases h with ⟨h1, h2⟩ | ⟨h1, h2⟩ <;> rcases k with ⟨k1, k2⟩ | ⟨k1, k2⟩
  · have := (h2 w hS).symm.trans (k2 w hS)
    injection this with e
    injection e
  · rw [h1] at k1; cases k1
  · rw [h1] at k1; cases k1
  · rw [h2, k2]

/-- one operation apart from another: its value may be there already -/
theorem sOp_put {j : Nat} {oi oj : Oper} {v : Value} (hj : ops[j]? = some oj) (hap : oi.apart ops oj = true) (hsi : ∀ cs b, oi.op ≠ .select cs b) (hsj : ∀ cs b, oj.op ≠ .select cs b) {K : Act → World → Prop} {a : Act} {w : World}
    (hq : quietNow ops oi a) (hy : YieldsIf P ops S oi v a) (h : sOp P ops S j K (a.put oi.dst v) w) : sOp P ops S j (fun a' w' => quietNow ops oi a' ∧ YieldsIf P ops S oi v a' ∧ K (a'.put oi.dst v) w') a w := by
  obtain ⟨h1, h2, h3⟩ := Oper.apart_spec hap
  have keep : ∀ u, quietNow ops oi (a.put oj.dst u) ∧ YieldsIf P ops S oi v (a.put oj.dst u) := fun u =>
    ⟨(quietNow_put h3).2 hq, hy.of_same (execOp_put oi hsi a oj.dst u h3) (wanted_put oi a oj.dst u h3)⟩
  unfold sOp at *
  rw [hj] at h ⊢
  rcases h with ⟨hqj, u, hu, hk⟩ | ⟨hqj, hh⟩
  · exact .inl ⟨(quietNow_put h1).1 hqj, u, hu.of_same (execOp_put oj hsj a oi.dst v h1).symm (wanted_put oj a oi.dst v h1).symm, (keep u).1, (keep u).2, by rw [← Act.put_comm a v u h2]; exact hk⟩
  · refine .inr ⟨fun e => hqj ((quietNow_put h1).2 e), ?_⟩
    have hh' : hOp P oj (fun v' w' => S w' ∧ K ((a.put oi.dst v).put oj.dst v') w') a w := by
      unfold hOp at *
      rw [execOp_put oj hsj a oi.dst v h1] at hh
      exact hh
    exact hOp_mono (fun u w' ⟨e1, e2⟩ => ⟨e1, (keep u).1, (keep u).2, by rw [← Act.put_comm a v u h2]; exact e2⟩) hh'

/-- every later call waits for a call that has not come up -/
def Chain (ops : Array Oper) (i : Nat) (listed : Array Bool) : Prop := ∀ j oj, ops[j]? = some oj → j ≠ i → listed.getD j true = false → stillOp oj = false →
  ∃ e, e ∈ oj.after ∧ Region.binds .any e = true ∧ listed.getD e.on false = false ∧ ∀ oe, ops[e.on]? = some oe → stillOp oe = false

theorem wpS_first {i : Nat} {oi : Oper} (hi : ops[i]? = some oi) (hsel : ∀ (j : Nat) (o : Oper) cs b, ops[j]? = some o → o.op ≠ .select cs b) : ∀ (n : Nat) (listed : Array Bool) (a : Act) (w : World), S w →
      (∀ j oj, ops[j]? = some oj → j ≠ i → listed.getD j true = false → (∀ e ∈ oj.after, Region.binds .any e = true → e.on ≠ i) → oi.apart ops oj = true) →
      (stillOp oi = false → Chain ops i listed) → i ∈ Region.ready .any ops listed → sOp P ops S i (wpS P ops S Q n (listed.setIfInBounds i true)) a w → wpS P ops S Q (n + 1) listed a w := by
  intro n
  induction n with
  | zero =>
    intro listed a w hS _ _ hr H
    refine ⟨fun h => (by rw [h] at hr; cases hr), fun j hj => ?_⟩
    by_cases hji : j = i
    · subst hji; exact H
    · obtain ⟨a', w', _, h0, _⟩ := sOp_out hS H
      have := ready_mono hj hji
      rw [h0] at this
      cases this
  | succ n ih =>
    intro listed a w hS hfree hchain hr H
    refine ⟨fun h => (by rw [h] at hr; cases hr), fun j hj => ?_⟩
    by_cases hji : j = i
    · subst hji; exact H
    obtain ⟨hjun, oj, hoj, hall⟩ := mem_ready.1 hj
    have hnot : ∀ e ∈ oj.after, Region.binds .any e = true → e.on ≠ i := fun e he hb heq => by
      have h1 := hall e he hb
      have h0 := (mem_ready.1 hr).1
      rw [heq, getD_both h0] at h1
      cases h1
    have hap := hfree j oj hoj hji hjun hnot
    obtain ⟨p1, p2, p3⟩ := Oper.apart_spec hap
    have hsi := fun cs b => hsel i oi cs b hi
    have hsj := fun cs b => hsel j oj cs b hoj
    have hfree' : ∀ k ok, ops[k]? = some ok → k ≠ i → (listed.setIfInBounds j true).getD k true = false →
        (∀ e ∈ ok.after, Region.binds .any e = true → e.on ≠ i) → oi.apart ops ok = true := fun k ok hk hki hun hno => by
      refine hfree k ok hk hki ?_ hno
      by_cases hjk : j = k
      · subst hjk; exact hjun
      · rw [getD_set_ne true hjk] at hun; exact hun
    -- where i calls, j only looks
    have hjs : stillOp oi = false → stillOp oj = true := fun hs => by
      cases e : stillOp oj with
      | true => rfl
      | false =>
        obtain ⟨e, he, hb, hun, _⟩ := hchain hs j oj hoj hji hjun e
        rw [hall e he hb] at hun
        cases hun
    have hchain' : stillOp oi = false → Chain ops i (listed.setIfInBounds j true) := fun hs => by
      intro k ok hk hki hun hks
      have hjk : j ≠ k := by
        rintro rfl
        rw [hoj] at hk
        injection hk with hk
        rw [← hk, hjs hs] at hks
        cases hks
      rw [getD_set_ne true hjk] at hun
      obtain ⟨e, he, hb, h1, h2⟩ := hchain hs k ok hk hki hun hks
      refine ⟨e, he, hb, ?_, h2⟩
      have hje : j ≠ e.on := by
        intro h
        have := h2 oj (by rw [← h]; exact hoj)
        rw [hjs hs] at this
        cases this
      rw [getD_set_ne false hje]
      exact h1
    have hr' := ready_mono hr (Ne.symm hji)
    unfold sOp at H
    rw [hi] at H
    rcases H with ⟨hq, v, hy, HK⟩ | ⟨hnq, hh⟩
    · have h2 := sOp_put hoj hap hsi hsj hq hy (HK.2 j (ready_mono hj hji))
      refine sOp_mono hS (fun a' w' hS' ⟨hq', hy', hk'⟩ => ih (listed.setIfInBounds j true) a' w' hS' hfree' hchain' hr' ?_) h2
      unfold sOp
      rw [hi]
      refine .inl ⟨hq', v, hy', ?_⟩
      rw [Array.setIfInBounds_comm _ _ hji]
      exact hk'
    · have hs : stillOp oi = false := by
        cases e : stillOp oi with
        | false => rfl
        | true => exact absurd (.inl e) hnq
      have hj' := hjs hs
      obtain ⟨v0, w0, hS0, hK0⟩ := hOp_out hh
      have h1 := hK0.2 j (ready_mono hj hji)
      unfold sOp at h1
      rw [hoj] at h1
      obtain ⟨vj, hyj⟩ : ∃ vj, YieldsIf P ops S oj vj a := by
        rcases h1 with ⟨_, u, hu, _⟩ | ⟨e, _⟩
        · exact ⟨u, hu.of_same (execOp_put oj hsj a oi.dst v0 p1).symm (wanted_put oj a oi.dst v0 p1).symm⟩
        · exact absurd (.inl hj') e
      unfold sOp
      rw [hoj]
      refine .inl ⟨.inl hj', vj, hyj, ih (listed.setIfInBounds j true) (a.put oj.dst vj) w hS hfree' hchain' hr' ?_⟩
      unfold sOp
      rw [hi]
      refine .inr ⟨fun e => hnq ((quietNow_put p3).1 e), hOp_put hsi p3 (hOp_mono (fun v w' ⟨hS', hk'⟩ => ⟨hS', ?_⟩) hh)⟩
      have h2 := hk'.2 j (ready_mono hj hji)
      unfold sOp at h2
      rw [hoj] at h2
      rcases h2 with ⟨_, u, hu, hk2⟩ | ⟨e, _⟩
      · have hu' : YieldsIf P ops S oj u a := hu.of_same (execOp_put oj hsj a oi.dst v p1).symm (wanted_put oj a oi.dst v p1).symm
        have e := YieldsIf.one hS' hu' hyj
        subst e
        rw [Array.setIfInBounds_comm _ _ hji, ← Act.put_comm a v u p2]
        exact hk2
      · exact absurd (.inl hj') e

/-- the walk in the order of the text -/
def wpHeld (P : Program) (ops : Array Oper) (S : World → Prop) (Q : Exit → Act → World → Prop) : List Oper → Act → World → Prop
  | [], a, w => Q .normal a w
  | o :: l, a, w => (quietNow ops o a ∧ ∃ v, YieldsIf P ops S o v a ∧ wpHeld P ops S Q l (a.put o.dst v) w) ∨ (¬ quietNow ops o a ∧ hOp P o (fun v w' => S w' ∧ wpHeld P ops S Q l (a.put o.dst v) w') a w)

/-- each call waits for the call before it -/
structure ChainOK (ops : Array Oper) : Prop where
  chain : ∀ (k j : Nat) (ok oj : Oper), k < j → ops[k]? = some ok → ops[j]? = some oj → stillOp ok = false → stillOp oj = false → ∃ e, e ∈ oj.after ∧ Region.binds .any e = true ∧ k ≤ e.on ∧ e.on < j ∧ ∀ oe, ops[e.on]? = some oe → stillOp oe = false

theorem wpS_of_lex (hx : LexOK ops) (hc : ChainOK ops) : ∀ (l : List Oper) (k : Nat) (listed : Array Bool) (a : Act) (w : World), S w →
    (∀ j, l[j]? = ops[k + j]?) → k + l.length = ops.size → listed.size = ops.size → (∀ i, i < k → listed.getD i false = true) → (∀ i, k ≤ i → i < ops.size → listed.getD i true = false) →
    wpHeld P ops S Q l a w → wpS P ops S Q l.length listed a w
  | [], k, listed, a, w, _, _, hk, hz, h1, _, h => by
    refine ⟨?_, h⟩
    refine List.eq_nil_iff_forall_not_mem.2 fun i hi => ?_
    obtain ⟨h0, o, ho, _⟩ := mem_ready.1 hi
    have hlt := (Array.getElem?_eq_some_iff.1 ho).1
    have h3 := h1 i (by simp at hk; omega)
    rw [getD_both h0] at h3
    cases h3
  | o :: l, k, listed, a, w, hS, hl, hk, hz, h1, h2, h => by
    have h0 : ops[k]? = some o := by simpa using (hl 0).symm
    have hlt : k < ops.size := (Array.getElem?_eq_some_iff.1 h0).1
    have hst : sOp P ops S k (wpHeld P ops S Q l) a w := by
      unfold sOp
      rw [h0]
      exact h
    have hun : ∀ j, listed.getD j true = false → k ≤ j := fun j hun => by
      rcases Nat.lt_or_ge j k with h' | h'
      · have h3 := h1 j h'
        rw [getD_both hun] at h3
        cases h3
      · exact h'
    refine wpS_first h0 (Region.noSelect_spec hx.sel) l.length listed a w hS ?_ ?_ (mem_ready.2 ⟨h2 k (Nat.le_refl _) hlt, o, h0, fun e he hb => h1 _ (hx.edge k o h0 e he hb)⟩) ?_
    · intro j oj hj hne hju hno
      refine hx.free k j o oj ?_ h0 hj hno
      have := hun j hju
      omega
    · intro hs j oj hj hne hju hjs
      have := hun j hju
      obtain ⟨e, he, hb, hke, hej, hes⟩ := hc.chain k j o oj (by omega) h0 hj hs hjs
      refine ⟨e, he, hb, ?_, hes⟩
      have hjlt : j < ops.size := (Array.getElem?_eq_some_iff.1 hj).1
      exact getD_both (h2 e.on hke (by omega))
    · refine sOp_mono hS (fun a' w' hS' h' => wpS_of_lex hx hc l (k + 1) _ a' w' hS' (fun j => by have := hl (j + 1); simpa [Nat.add_assoc, Nat.add_comm 1 j] using this) (by simp at hk; omega) (by simpa using hz) ?_ ?_ h') hst
      · intro i hi
        by_cases e : i = k
        · subst e
          simp [hz, hlt]
        · exact getD_set_true (h1 i (by omega))
      · intro i hi hi'
        rw [getD_set_ne true (by omega)]
        exact h2 i (by omega) hi'

theorem wp_held_lex {id : Nat} {a : Act} {w : World} {l : List Oper} (hm : P.follows .mixedOrders = true) (hx : LexOK l.toArray) (hc : ChainOK l.toArray) (hS : S w.drew)
    (h : wpHeld P l.toArray S Q l a w.drew) : (Code.region id l.toArray true).wp P Q a w := by
  refine wp_region_any hm (wpAny_of_wpS (S := S) _ _ _ _ hS ?_)
  have := wpS_of_lex (P := P) (S := S) (Q := Q) hx hc l 0 (Array.replicate l.toArray.size false) a w.drew hS (by simp) (by simp) (by simp) (by intro i hi; omega) (fun i _ hi => getD_in (by simpa using hi) (getD_replicate_false _ _)) h
  simpa using this

theorem wpHeld_nil {a : Act} {w : World} (h : Q .normal a w) : wpHeld P ops S Q [] a w := h
/-- what only looks, by the walk of such -/
theorem wpHeld_still : ∀ (l1 l2 : List Oper) {a : Act} {w : World}, S w → l1.all stillOp = true → wpQuiet P ops S (fun a' => wpHeld P ops S Q l2 a' w) l1 a → wpHeld P ops S Q (l1 ++ l2) a w
  | [], _, _, _, _, _, h => h
  | o :: l1, l2, a, w, hS, hs, h => by
    rw [List.all_cons, Bool.and_eq_true] at hs
    refine .inl ⟨.inl hs.1, ?_⟩
    unfold wpQuiet at h
    by_cases hw : Region.wanted o (yielded ops a.tmps) = true
    · rw [if_pos hw] at h
      obtain ⟨v, hv, hn⟩ := h
      refine ⟨v, .inl ⟨hw, fun w' hS' => ?_⟩, wpHeld_still l1 l2 hS hs.2 hn⟩
      have h1 := hv w' hS'
      unfold Oper.quietAt at h1
      cases hr : (execOp a.eval o).run P w' with
      | ok n w2 =>
        obtain ⟨x, rfl⟩ := still_value hs.1 hr
        rw [hr] at h1
        obtain ⟨e1, e2⟩ := h1
        rw [e1, e2]
      | halt x w2 => rw [hr] at h1; exact h1.elim
    · rw [if_neg hw] at h
      exact ⟨undef, .inr ⟨by simpa using hw, rfl⟩, wpHeld_still l1 l2 hS hs.2 h⟩
theorem wpHeld_seg (n : Nat) {l : List Oper} {a : Act} {w : World} (hS : S w) (hs : (l.take n).all stillOp = true) (h : wpQuiet P ops S (fun a' => wpHeld P ops S Q (l.drop n) a' w) (l.take n) a) : wpHeld P ops S Q l a w := by
  have := wpHeld_still (Q := Q) (l.take n) (l.drop n) hS hs h
  rwa [List.take_append_drop] at this
/-- a call of a function -/
theorem wpHeld_call {o : Oper} {l : List Oper} {a : Act} {w : World} {fn : Func} (f : FuncId) (hf : P.funcs[f]? = some fn) (hname : (fn.name == "runtime.NumGoroutine") = false) (hb : fn.body.isNone = false) (args : Array Operand) (ts : Array TypeId) (vs : Array Value) (ho : o.op = .call { callee := .value (.func f), args := args, argTypes := ts })
    (hw : Region.wanted o (yielded ops a.tmps) = true) (hv : args.map a.eval = vs) (h : Calls P f vs w fun e w' => ∃ v, e = .returned v ∧ S w' ∧ wpHeld P ops S Q l (a.put o.dst v) w') : wpHeld P ops S Q (o :: l) a w := by
  refine .inr ⟨?_, ?_⟩
  · rintro (h1 | h1)
    · unfold stillOp at h1
      simp only [ho] at h1
      cases h1
    · rw [hw] at h1
      cases h1
  · unfold hOp execOp
    simp only [ho]
    have e : (do let d ← resolve a.eval { callee := .value (.func f), args := args, argTypes := ts } o.type; invoke d.target d.args : Sem Next).run P w = .ok (.enter f vs) w := by
      subst hv
      have h1 : fn.name ≠ "runtime.NumGoroutine" := by simpa using hname
      have h2 : fn.body ≠ none := by
        intro e
        rw [e] at hb
        cases hb
      simp [resolve, Deferred.ofValue, invoke, go_sem, Act.eval, callFunc, hf, h1, h2]
    rw [e]
    exact h
/-- any other operation that is carried out -/
theorem wpHeld_op {o : Oper} {l : List Oper} {a : Act} {w : World} (hs : stillOp o = false) (hw : Region.wanted o (yielded ops a.tmps) = true) (h : hOp P o (fun v w' => S w' ∧ wpHeld P ops S Q l (a.put o.dst v) w') a w) : wpHeld P ops S Q (o :: l) a w := by
  refine .inr ⟨?_, h⟩
  rintro (h1 | h1)
  · rw [hs] at h1
    cases h1
  · rw [hw] at h1
    cases h1
/-- one that yields a value and leaves a world -/
theorem wpHeld_run {o : Oper} {l : List Oper} {a : Act} {w : World} (v : Value) (w1 : World) (hs : stillOp o = false) (hw : Region.wanted o (yielded ops a.tmps) = true) (hr : (execOp a.eval o).run P w = .ok (.value v) w1) (hS : S w1) (h : wpHeld P ops S Q l (a.put o.dst v) w1) : wpHeld P ops S Q (o :: l) a w := by
  refine wpHeld_op hs hw ?_
  unfold hOp
  rw [hr]
  exact ⟨hS, h⟩
end

def LaterB (B : Nat) (w : World) : Type := { w' : World // Below B w w' }
instance {B : Nat} {w : World} : Nonempty (LaterB B w) := ⟨⟨w, Below.refl _ _⟩⟩
def LaterB.at {B : Nat} {w : World} (x : LaterB B w) : World := x.1
theorem LaterB.below {B : Nat} {w : World} (x : LaterB B w) : Below B w x.at := x.2
theorem LaterB.cell {B : Nat} {w : World} {a : Addr} {v : Value} (h : w.cell? a = some v) (hB : a.block < B) (x : LaterB B w) : x.at.cell? a = some v := (x.2.cell hB).trans h
theorem LaterB.step {B : Nat} {w w' w1 : World} (h : ∃ x : LaterB B w, w' = x.at) (hb : Below B w' w1) : ∃ x : LaterB B w, w1 = x.at := by
  obtain ⟨x, rfl⟩ := h
  exact ⟨⟨w1, x.2.trans hb⟩, rfl⟩
theorem LaterB.of {B : Nat} {w w' : World} (h : ∃ x : LaterB B w, w' = x.at) : Below B w w' := by
  obtain ⟨x, rfl⟩ := h
  exact x.2
theorem wp_heldB (B : Nat) {P : Program} {Q : Exit → Act → World → Prop} {id : Nat} {a : Act} {w : World} {l : List Oper} (hm : P.follows .mixedOrders = true) (hx : LexOK l.toArray) (hc : ChainOK l.toArray)
    (h : ∀ W, Below w.heap.size w W → (∃ x : LaterB B w, W = x.at) → wpHeld P l.toArray (fun w' => ∃ x : LaterB B w, w' = x.at) Q l a W) : (Code.region id l.toArray true).wp P Q a w :=
  wp_held_lex hm hx hc ⟨⟨w.drew, (Below.refl _ _).drew⟩, rfl⟩ (h w.drew (Below.refl _ _).drew ⟨⟨w.drew, (Below.refl _ _).drew⟩, rfl⟩)

def chainN : List Oper → Nat → Option Nat → Bool
  | [], _, _ => true
  | o :: l, k, last => (stillOp o || (match last with | none => true | some p => Nat.beq (Nat.mod (Nat.shiftRight (afterMask o) p) 2) 1)) && chainN l (k + 1) (if stillOp o then last else some k)
theorem chainN_spec {ops : Array Oper} : ∀ (l : List Oper) (k : Nat) (last : Option Nat), (∀ j, l[j]? = ops[k + j]?) →
    (∀ p, last = some p → p < k ∧ (∀ o, ops[p]? = some o → stillOp o = false) ∧ ∀ j o, p < j → j < k → ops[j]? = some o → stillOp o = true) → (last = none → ∀ j o, j < k → ops[j]? = some o → stillOp o = true) → chainN l k last = true →
    ∀ (j : Nat) (oj : Oper), k ≤ j → ops[j]? = some oj → stillOp oj = false → ∀ (i : Nat) (oi : Oper), i < j → ops[i]? = some oi → stillOp oi = false → ∃ e, e ∈ oj.after ∧ Region.binds .any e = true ∧ i ≤ e.on ∧ e.on < j ∧ ∀ oe, ops[e.on]? = some oe → stillOp oe = false
  | [], k, _, hl, _, _, _, j, oj, hj, hoj, _ => by
    intro i oi hi hoi _
    have h0 : ops[j]? = none := by
      have := hl (j - k)
      rw [show k + (j - k) = j by omega] at this
      rw [← this]
      rfl
    rw [h0] at hoj
    cases hoj
  | o :: l, k, last, hl, hp, hn, h, j, oj, hj, hoj, hjs => by
    intro i oi hi hoi his
    have h0 : ops[k]? = some o := by simpa using (hl 0).symm
    simp only [chainN, Bool.and_eq_true] at h
    by_cases e : j = k
    · subst e
      rw [h0] at hoj
      injection hoj with hoj
      subst hoj
      have h1 := h.1
      rw [hjs, Bool.false_or] at h1
      cases hlast : last with
      | none =>
        have := hn hlast i oi hi hoi
        rw [his] at this
        cases this
      | some p =>
        rw [hlast] at h1
        obtain ⟨q1, q2, q3⟩ := hp p hlast
        have h2 : (afterMask o).testBit p = true := by
          rw [Nat.testBit_eq_decide_div_mod_eq, decide_eq_true_iff, ← Nat.shiftRight_eq_div_pow]
          exact Nat.eq_of_beq_eq_true h1
        obtain ⟨e, he, hb, hk⟩ := afterMask_mem h2
        refine ⟨e, he, hb, ?_, by omega, by rw [hk]; exact q2⟩
        rw [hk]
        rcases Nat.lt_or_ge p i with h' | h'
        · have := q3 i oi h' hi hoi
          rw [his] at this
          cases this
        · exact h'
    · refine chainN_spec l (k + 1) _ (fun j => by have := hl (j + 1); simpa [Nat.add_assoc, Nat.add_comm 1 j] using this) ?_ ?_ h.2 j oj (by omega) hoj hjs i oi hi hoi his
      · intro p hpe
        cases ho : stillOp o with
        | true =>
          rw [ho, if_pos rfl] at hpe
          obtain ⟨q1, q2, q3⟩ := hp p hpe
          refine ⟨by omega, q2, fun j' o' h1 h2 h3 => ?_⟩
          by_cases e' : j' = k
          · subst e'
            rw [h0] at h3
            injection h3 with h3
            rw [← h3, ho]
          · exact q3 j' o' h1 (by omega) h3
        | false =>
          rw [ho, if_neg (by decide)] at hpe
          injection hpe with hpe
          subst hpe
          refine ⟨by omega, fun o' h' => ?_, fun j' o' h1 h2 _ => by omega⟩
          rw [h0] at h'
          injection h' with h'
          rw [← h', ho]
      · intro hpe j' o' h1 h3
        cases ho : stillOp o with
        | true =>
          rw [ho, if_pos rfl] at hpe
          by_cases e' : j' = k
          · subst e'
            rw [h0] at h3
            injection h3 with h3
            rw [← h3, ho]
          · exact hn hpe j' o' (by omega) h3
        | false =>
          rw [ho, if_neg (by decide)] at hpe
          cases hpe
theorem chainOK_of {l : List Oper} (h : chainN l 0 none = true) : ChainOK l.toArray :=
  ⟨fun k j ok oj hkj hok hoj hks hjs => chainN_spec (ops := l.toArray) l 0 none (by simp) (by intro p hp; cases hp) (by intro _ j o hj; omega) h j oj (Nat.zero_le _) hoj hjs k ok hkj hok hks⟩

end Go.Proofs.YtcaoajeplinopaaDoor.H4

