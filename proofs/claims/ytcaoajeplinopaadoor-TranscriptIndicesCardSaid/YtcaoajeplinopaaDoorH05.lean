/- Several texts in one: Shr, Shs, Sht, Shu, Tai3, Shx, Tra. -/
import Derived.Test.YtcaoajeplinopaaDoorH04
import Derived.StillTail
import Derived.Test.YtcaoajeplinopaaDoorH03
import Derived.OrdersHeld
namespace Go.Proofs.YtcaoajeplinopaaDoor
set_option linter.unusedVariables false
set_option linter.unusedSimpArgs false
set_option maxRecDepth 8000
open Go.RowKit
/-- append(s, t...), t any slice -/
theorem wpList_appendBa {ops : Array Oper} {rest : List Oper} {o : Oper} {a : Act} {Q : Exit → Act → World → Prop} {w : World} (hgd : o.guard = none) (s x : Operand)
    (ho : o.op = .call { callee := .builtin .append, args := #[s, x], argTypes := #[22, 22] }) (base : Nat) (v : Value) (n : Nat) (bs : List Nat) (hs : a.eval s = v) (hown : OwB w base v n bs)
    (A : Option Addr) (m c : Nat) (ys : List Nat) (hx : a.eval x = .slice A m c) (hy : Sb w A m c ys) (hn : n + m ≤ 140737488353000) (hbase : base ≤ w.heap.size)
    (h : ∀ v' w', OwB w' base v' (n + m) (bs ++ ys) → Below base w w' → wpList Tryd.prog ops Q rest (a.put o.dst v') w') : wpList Tryd.prog ops Q (o :: rest) a w := by
  cases A with
  | some ad => exact wpList_appendBs hgd s x ho base v n bs hs hown ad m c ys hx hy hn hbase h
  | none =>
    have hc0 := hy.nil rfl
    have hm0 : m = 0 := by have := hy.cap; omega
    subst hc0
    subst hm0
    have hys : ys = [] := List.eq_nil_of_length_eq_zero hy.len.symm
    subst hys
    obtain ⟨i, hi, hz, hs2, hb⟩ := info_parts u8_info
    refine wpList_append_own_none hgd s x 22 ho base 5 i 1 Tryd.underlying22 hi v n (celB bs) hs hown.1 hx ?_
    exact h v w (by rw [List.append_nil]; exact hown) (Below.refl _ _)
set_option maxHeartbeats 1000000 in
theorem rjoin_any (A : Option Addr) (n c : Nat) (xs : List Nat) (B : Option Addr) (m d : Nat) (bs : List Nat) (w : World) (ha : Sb w A n c xs) (hb : Sb w B m d bs) (hn : n + m ≤ 140737488351300) :
    Calls Tryd.prog 32 #[.slice A n c, .slice B m d] w fun e w' => ∃ C f, e = .returned (.slice C (n + m) f) ∧ Sb w' C (n + m) f (xs ++ bs) ∧ Below w.heap.size w w' := by
  go_enter Tryd.func32, Tryd.ntmps32
  have hb0 : Below w.heap.size w (w.alloc (.cells #[] 5)) := (Below.refl _ _).alloc (Nat.le_refl _) _
  go_upto_region 2 with (at_builtin; refine wpList_appendBa rfl (.tmp 6) (.tmp 7) rfl w.heap.size _ 0 [] rfl (OwB.made w _ (Nat.le_refl _)) A n c xs rfl (ha.keep hb0) (by omega) (by simp) ?_; intro v1 w1 ho1 hb1; rw [Nat.zero_add, List.nil_append] at ho1; have HO1 := Lib.hid ho1; have HB1 := Lib.hid (hb0.trans hb1); obtain ⟨C1, f1, rfl, _⟩ := ho1.sl; clear ho1 hb1 hb0)
  have hbs := hb.keep HB1.out
  go_upto_region 3 with (at_builtin; refine wpList_appendBa rfl (.tmp 9) (.tmp 10) rfl w.heap.size _ n xs rfl HO1.out B m d bs rfl hbs (by omega) HB1.out.size ?_; intro v2 w2 ho2 hb2; have HO2 := Lib.hid ho2; have HB2 := Lib.hid (HB1.out.trans hb2); obtain ⟨C2, f2, rfl, hs2⟩ := ho2.sl; clear ho2 hb2)
  go_wp2_with fail
  go_ret
  exact ⟨C2, f2, rfl, hs2, HB2.out⟩
attribute [local simp] z32_ne z32_run
attribute [-simp] Tryd.zeroValue30 Tryd.isAgg30 Tryd.sizeOf30
theorem take_snoc {bs : List Nat} {k : Nat} (h : k < bs.length) : bs.take k ++ [bs.getD k 0] = bs.take (k + 1) := by
  rw [List.take_succ_eq_append_getElem h, List.getD_eq_getElem?_getD, List.getElem?_eq_getElem h]
  rfl
theorem some_getD {bs : List Nat} {k : Nat} (h : k < bs.length) : bs[k]? = some (bs.getD k 0) := by rw [List.getD_eq_getElem?_getD, List.getElem?_eq_getElem h]; rfl
set_option maxHeartbeats 1000000 in
theorem rbytes_any (x : List Nat) (w : World) (hl : x.length = 32) (hb : ∀ z ∈ x, z < 256) :
    Calls Tryd.prog 34 #[.agg (celB x).toArray] w fun e w' => ∃ C f, e = .returned (.slice C 32 f) ∧ Sb w' C 32 f x ∧ Below w.heap.size w w' := by
  have HL := Lib.hid hl
  have HXB := Lib.hid hb
  clear hl hb
  go_enter Tryd.func34, Tryd.ntmps34
  go_wp2_with fail
  refine wp_named2 (fun w1 hb1 g0 g1 hlt1 => ?_)
  have H0 : Hid (RowB w1 30 w.heap.size x) := Lib.hid g0
  have hrow : w1.heap[w.heap.size + 1]? = some (.cells #[] 5 (0, 0)) := g1
  have HO0 : Hid (OwB w1 (w.heap.size + 1) (.slice (some ⟨w.heap.size + 1, 0, none⟩) 0 0) 0 []) := Lib.hid ⟨⟨rfl, .inr ⟨w.heap.size + 1, 0, _, rfl, Nat.le_refl _, hrow, Nat.le_refl _, by unfold maxLen; omega, rfl, rfl⟩⟩, fun _ h => by cases h⟩
  have HB1 := Lib.hid hb1
  clear g0 g1 hb1 hrow
  go_loopw [3, 4] (fun v s wr => ∃ k : Nat, k ≤ 32 ∧ s = .int .i64 k ∧ RowB wr 30 w.heap.size x ∧ OwB wr (w.heap.size + 1) v k (x.take k) ∧ Below w.heap.size w wr ∧ w.heap.size + 1 ≤ wr.heap.size) (fun _ s _ => 32 - (intOf s).toNat)
  case atStart => exact ⟨0, by omega, rfl, H0.out, HO0.out, HB1.out, by omega⟩
  case round =>
    clear H0 HO0 HB1
    obtain ⟨k, hk, rfl, hr, ho, hb, hz⟩ := hrel
    have HR := Lib.hid hr
    have HO := Lib.hid ho
    have HB := Lib.hid hb
    obtain ⟨C, f, rfl, hsl⟩ := ho.sl
    have HSL := Lib.hid hsl
    clear hr ho hb hsl
    by_cases hlt : k < 32
    · have hk1 : (k : Int) < 32 := by omega
      have hk0 : (0 : Int) ≤ (k : Int) := by omega
      have c0 := HR.out.at_ (some_getD (show k < x.length by rw [HL.out]; exact hlt))
      have hxb := getD_byte HXB.out k
      have HTS := Lib.hid (take_snoc (show k < x.length by rw [HL.out]; exact hlt))
      generalize x.getD k 0 = y at *
      go_upto_region 4 with (at_builtin; refine wpList_appendB rfl (.tmp 10) (.tmp 14) rfl (w.heap.size + 1) _ k _ rfl (HO.out.keep ((Below.refl _ _).alloc (Nat.le_refl _) _)) wr.heap.size 1 y rfl (One.new wr _ _) hxb (by omega) (by simp; omega) ?_; intro v1 w2 ho1 hb1; have HO1 := Lib.hid ho1; have HB2 := Lib.hid (((Below.refl (w.heap.size + 1) wr).alloc hz (.cells #[.int .u8 (y : Int)] 5)).trans hb1); obtain ⟨C1, f1, rfl, _⟩ := ho1.sl; clear ho1 hb1)
      go_wp2_with fail
      go_roundw
      case rel => exact ⟨k + 1, by omega, by go_num, HR.out.same (HB2.out.block _ (by omega)), by rw [← HTS.out]; exact HO1.out, HB.out.trans (HB2.out.mono (by omega)), Nat.le_trans hz HB2.out.size⟩
      case measure => simp [intOf]; omega
    · obtain rfl : k = 32 := by omega
      go_wp2_with fail
      go_ret
      refine ⟨C, f, rfl, HSL.out.cast ?_, HB.out⟩
      exact List.take_of_length_le (by rw [HL.out]; exact Nat.le_refl _)
end Go.Proofs.YtcaoajeplinopaaDoor

namespace Go.Proofs.YtcaoajeplinopaaDoor
set_option linter.unusedVariables false
set_option linter.unusedSimpArgs false
set_option maxRecDepth 8000
open Go.RowKit
theorem OwB.empty1 {w : World} {g t : Nat} (h : w.heap[g]? = some (.cells #[] t (0, 0))) {e : Nat} (ht : t = e) {base : Nat} (hb : base ≤ g) : w.ownsRow base e 1 (.slice (some ⟨g, 0, none⟩) 0 0) 0 [] :=
  ⟨rfl, .inr ⟨g, 0, _, rfl, hb, ht ▸ h, Nat.le_refl _, by unfold maxLen; omega, rfl, rfl⟩⟩
set_option maxHeartbeats 2000000 in
theorem rpad_any (A : Option Addr) (n c : Nat) (bs : List Nat) (w : World) (h : Sb w A n c bs) (hn : n ≤ 140737488351233) :
    Calls Tryd.prog 55 #[.slice A n c] w fun e w' => ∃ C f, e = .returned (.slice C (64 * nblk n) f) ∧ Sb w' C (64 * nblk n) f (msgN bs) ∧ Below w.heap.size w w' := by
  have HLN := Lib.hid h.len
  have hz63 := zerosN_le n
  have HTOT := Lib.hid (total_len n)
  have HS := Lib.hid h
  clear h
  go_enter Tryd.func55, Tryd.ntmps55
  have hb0 : Below w.heap.size w (w.alloc (.cells #[] 5)) := (Below.refl _ _).alloc (Nat.le_refl _) _
  go_upto_region 2 with (at_builtin; refine wpList_appendBa rfl (.tmp 6) (.tmp 7) rfl w.heap.size _ 0 [] rfl (OwB.made w _ (Nat.le_refl _)) A n c bs rfl (HS.out.keep hb0) (by omega) (by simp) ?_; intro v1 w1 ho1 hb1; rw [Nat.zero_add, List.nil_append] at ho1; have HO1 := Lib.hid ho1; have HB1 := Lib.hid (hb0.trans hb1); obtain ⟨C1, f1, rfl, _⟩ := ho1.sl; clear ho1 hb1 hb0)
  go_wp2_with (at_builtin; refine wpList_appendB rfl (.tmp 9) (.tmp 10) rfl w.heap.size _ n _ rfl (HO1.out.keep ((Below.refl _ _).alloc (Nat.le_refl _) _)) w1.heap.size 1 128 rfl (One.new w1 _ _) (by omega) (by omega) (by have := HB1.out.size; simp; omega) ?_; intro v2 w2 ho2 hb2; have HO2 := Lib.hid ho2; have HB2 := Lib.hid (HB1.out.trans (((Below.refl w.heap.size w1).alloc HB1.out.size _).trans hb2)); obtain ⟨C2, f2, rfl, _⟩ := ho2.sl; clear ho2 hb2)
  go_loopw [3] (fun v wr => ∃ k L : Nat, k ≤ zerosN n ∧ L = n + 1 + k ∧ OwB wr w.heap.size v L (bs ++ [128] ++ List.replicate k 0) ∧ Below w.heap.size w wr) (fun v _ => match v with | .slice _ m _ => n + 1 + zerosN n - m | _ => 0)
  case atStart => exact ⟨0, n + 1, Nat.zero_le _, rfl, by rw [List.replicate_zero, List.append_nil]; exact HO2.out, HB2.out⟩
  case round =>
    clear HO1 HB1 HO2 HB2
    obtain ⟨k, L, hk, hL, ho, hb⟩ := hrel
    have HLk := Lib.hid hL
    have HO := Lib.hid ho
    have HB := Lib.hid hb
    obtain ⟨C, f, rfl, _⟩ := ho.sl
    clear ho hb
    have hLs : L ≤ 140737488353000 := by omega
    by_cases hlt : k < zerosN n
    · have hne : (((L : Int) % 64) != 56) = true := by rw [bne_iff_ne]; unfold zerosN at hlt; omega
      clear hL
      go_wp2_with (at_builtin; refine wpList_appendB rfl (.tmp 16) (.tmp 17) rfl w.heap.size _ L _ rfl (HO.out.keep ((Below.refl _ _).alloc (Nat.le_refl _) _)) wr.heap.size 1 0 rfl (One.new wr _ _) (by omega) (by omega) (by have := HB.out.size; simp; omega) ?_; intro v2 w2 ho2 hb2; have HO2 := Lib.hid ho2; have HB2 := Lib.hid (HB.out.trans (((Below.refl w.heap.size wr).alloc HB.out.size (.cells #[.int .u8 0] 5)).trans hb2)); obtain ⟨C2, f2, rfl, _⟩ := ho2.sl; clear ho2 hb2)
      go_roundw
      case rel => exact ⟨k + 1, L + 1, hlt, by have := HLk.out; omega, by rw [List.replicate_succ', ← List.append_assoc]; exact HO2.out, HB2.out⟩
      case measure => have := HLk.out; simp; omega
    · have hkz : k = zerosN n := by omega
      have hne : (((L : Int) % 64) != 56) = false := by
        have : (L : Int) % 64 = 56 := by unfold zerosN at hkz; omega
        simp [this]
      clear hL
      go_wp2_with fail
      have HKZ := Lib.hid hkz
      clear hkz hlt hk
      go_loopw [3, 5] (fun v s wr => ∃ i M : Nat, i ≤ 8 ∧ s = .int .i64 i ∧ M = L + i ∧ OwB wr w.heap.size v M (bs ++ [128] ++ List.replicate k 0 ++ lenB n i) ∧ Below w.heap.size w wr) (fun _ s _ => 8 - (intOf s).toNat)
      case atStart => exact ⟨0, L, Nat.zero_le _, rfl, rfl, by rw [show lenB n 0 = [] from rfl, List.append_nil]; exact HO.out, HB.out⟩
      case round =>
        clear HO HB
        obtain ⟨i, M, hi, rfl, hM, ho, hb⟩ := hrel
        have HM := Lib.hid hM
        have HO := Lib.hid ho
        have HB := Lib.hid hb
        obtain ⟨C, f, rfl, hsl⟩ := ho.sl
        have HSL := Lib.hid hsl
        have hMs : M ≤ 140737488352000 := by have := HLk.out; have := HKZ.out; omega
        clear ho hb hM hsl
        by_cases hlt : i < 8
        · have hk1 : (i : Int) < 8 := by omega
          have hk0 : (0 : Int) ≤ (i : Int) := by omega
          have e2 : ((56 : Int) - 8 * (i : Int)).toNat = 56 - 8 * i := by omega
          have e3 : min (56 - 8 * i) 64 = 56 - 8 * i := by omega
          have e4 : (0 : Int) ≤ (56 : Int) - 8 * (i : Int) := by omega
          have hv : (n : Int) * 8 / 2 ^ (56 - 8 * i) % 256 = ((lenF n i : Nat) : Int) := by unfold lenF; rw [Nat.mul_comm 8 n]; rfl
          have hy := lenF_lt n i
          have HSC := Lib.hid (lenB_succ n i)
          generalize lenF n i = y at *
          go_wp2_with (at_builtin; refine wpList_appendB rfl (.tmp 27) (.tmp 34) rfl w.heap.size _ M _ rfl (HO.out.keep ((Below.refl _ _).alloc (Nat.le_refl _) _)) wr.heap.size 1 y rfl (One.new wr _ _) hy (by omega) (by have := HB.out.size; simp; omega) ?_; intro v2 w2 ho2 hb2; have HO2 := Lib.hid ho2; have HB2 := Lib.hid (HB.out.trans (((Below.refl w.heap.size wr).alloc HB.out.size (.cells #[.int .u8 (y : Int)] 5)).trans hb2)); obtain ⟨C2, f2, rfl, _⟩ := ho2.sl; clear ho2 hb2)
          go_roundw
          case rel => exact ⟨i + 1, M + 1, by omega, by go_num, by have := HM.out; omega, by rw [HSC.out, ← List.append_assoc]; exact HO2.out, HB2.out⟩
          case measure => simp [intOf]; omega
        · obtain rfl : i = 8 := by omega
          have hMM : M = 64 * nblk n := by have := HTOT.out; have := HM.out; have := HLk.out; have := HKZ.out; omega
          have HMM := Lib.hid hMM
          clear hMM
          go_wp2_with fail
          go_ret
          rw [← HMM.out]
          refine ⟨C, f, rfl, HSL.out.cast ?_, HB.out⟩
          unfold msgN padN
          rw [← HLN.out, ← HKZ.out]
          simp
end Go.Proofs.YtcaoajeplinopaaDoor

namespace Go.Proofs.YtcaoajeplinopaaDoor
set_option linter.unusedVariables false
set_option linter.unusedSimpArgs false
set_option maxRecDepth 8000
open Go.RowKit
attribute [local simp] z32_ne z32_run
attribute [-simp] Tryd.zeroValue30 Tryd.isAgg30 Tryd.sizeOf30 Tryd.isAgg83 Tryd.sizeOf83
theorem ch_size (s : Ch) : (Tryd.prog.info? 83).map (·.size) = some (celW (chL s)).toArray.size := by rw [List.size_toArray, celW_length, chL_length]; kernel_rfl
theorem exec_loadC {ev : Operand → Value} {o : Oper} {w : World} {x : Operand} {g t : Nat} {s : Ch} (h : RowW w t g (chL s)) (ho : o.op = .load 83 x) (hx : ev x = .pointer (some ⟨g, 0, none⟩)) :
    (execOp ev o).run Tryd.prog w = .ok (.value (.agg (celW (chL s)).toArray)) w := exec_loadRow g _ ho hx h Tryd.underlying83 (ch_size s)
theorem blk_drop {p : List Nat} {w : World} {ad : Addr} {n c j : Nat} (h : Sb w (some ad) n c p) (hj : 64 * j + 64 ≤ n) : Blk w (ad.add (64 * j)) (blkF p j) :=
  ⟨fun i => blkF_lt h.byte j i, fun i hi => by
    have := h.at_ (i := 64 * j + i) (by omega)
    rw [ad_add]
    exact this⟩
set_option maxHeartbeats 2000000 in
theorem rsum_any (A : Option Addr) (n c : Nat) (bs : List Nat) (w : World) (h : Sb w A n c bs) (hn : n ≤ 140737488351233) (R : List Nat) (hR : shaN bs = R) :
    Calls Tryd.prog 35 #[.slice A n c] w fun e w' => e = .returned (.agg (celB R).toArray) ∧ Below w.heap.size w w' := by
  have hl : R.length = 32 := by rw [← hR]; exact shaN_length _
  have HR := Lib.hid (show digN (stN ch0 (msgN bs) (nblk n)) 32 = R by rw [← hR, h.len]; rfl)
  have HS := Lib.hid h
  clear hR h
  go_enter Tryd.func35, Tryd.ntmps35
  go_wp2_with fail
  refine calls_named1 (fun w1 hb1 g0 hlt1 => ?_)
  have H0 : Hid (RowB w1 30 w.heap.size (List.replicate 32 0)) := Lib.hid g0
  have HB1 := Lib.hid hb1
  have HS1 := Lib.hid (HS.out.keep hb1)
  clear g0 hb1 HS
  refine (rinitial_any w1).mono ?_
  rintro e W2 ⟨rfl, hb⟩
  have H02 := Lib.hid (H0.out.keep hb)
  have HB2 := Lib.hid (bel_step HB1.out hb)
  have HS2 := Lib.hid (HS1.out.keep hb)
  clear hb H0 HB1 HS1
  go_wp2_with fail
  refine (rpad_any A n c bs W2 HS2.out hn).mono ?_
  rintro e W3 ⟨C, f, rfl, hs3, hb⟩
  have H03 := Lib.hid (H02.out.keep hb)
  have HB3 := Lib.hid (bel_step HB2.out hb)
  have HP3 := Lib.hid hs3
  have hcap := hs3.cap
  have htop := hs3.top
  obtain ⟨ad, rfl⟩ := hs3.some_ (by unfold nblk; omega)
  clear hb H02 HB2 HS2 hs3
  have hk8 : nblk n ≤ 2199023255520 := by unfold nblk; omega
  generalize nblk n = K at *
  generalize msgN bs = p at *
  have hsc := run_storeCells_new (P := Tryd.prog) W3 83 #[.int .u32 0, .int .u32 0, .int .u32 0, .int .u32 0, .int .u32 0, .int .u32 0, .int .u32 0, .int .u32 0] (celW (chL ch0)).toArray (by kernel_rfl) rfl celW_one
  have hsz : (celW (chL ch0)).length = 8 := rfl
  generalize hcs : celW (chL ch0) = cs at *
  go_wp2_with fail
  simp only [Tryd.sizeOf83, Result.andThen, ↓reduceIte, hsc, hsz]
  rw [Oper.upon_skip]
  clear hsc
  go_wp2_with fail
  refine wp_named1 (fun W4 hb4 g0 hlt4 => ?_)
  have H04 := Lib.hid (H03.out.keep hb4)
  have HB4 := Lib.hid (bel_step HB3.out hb4)
  have HP4 := Lib.hid (HP3.out.keep hb4)
  have HC4 : Hid (RowW W4 83 W3.heap.size (chL ch0)) := Lib.hid (by unfold RowW; rw [hcs]; exact g0)
  have hz : w.heap.size < W3.heap.size := H03.out.lt
  clear g0 hb4 hlt4 H03 HB3 HP3 hcs hsz
  generalize W3.heap.size = g at *
  obtain ⟨L, hL⟩ : ∃ L, L = 64 * K := ⟨_, rfl⟩
  rw [← hL] at HP4 hcap ⊢
  have HLK := Lib.hid hL
  have hLs : L ≤ 140737488353300 := by omega
  clear hL
  go_loopw [5] (fun s wr => ∃ j i : Nat, j ≤ K ∧ i = 64 * j ∧ s = .int .i64 i ∧ RowW wr 83 g (chL (stN ch0 p j)) ∧ RowB wr 30 w.heap.size (List.replicate 32 0) ∧ Sb wr (some ad) L f p ∧ Below w.heap.size w wr) (fun s _ => L - (intOf s).toNat)
  case atStart => exact ⟨0, 0, by omega, rfl, rfl, HC4.out, H04.out, HP4.out, HB4.out⟩
  case round =>
    clear HC4 H04 HP4 HB4
    obtain ⟨j, i, hj, hi, rfl, hc, h0, hp, hb⟩ := hrel
    have HI := Lib.hid hi
    have HC := Lib.hid hc
    have H0 := Lib.hid h0
    have HP := Lib.hid hp
    have HB := Lib.hid hb
    clear hc h0 hp hb
    by_cases hlt : j < K
    · have hiL : i + 64 ≤ L := by have := HLK.out; omega
      have hk1 : (i : Int) < (L : Int) := by omega
      have hk0 : (0 : Int) ≤ (i : Int) := by omega
      have hne : ¬ f = i := by omega
      have hw1 : IntKind.i64.wrap ((i : Int) + 64) = (i : Int) + 64 := by rw [IntKind.wrap_i64]; omega
      have hk2 : (i : Int) + 64 ≤ (f : Int) := by omega
      have hk3 : ((i : Int) + 64).toNat = i + 64 := by omega
      have hk4 : (0 : Int) ≤ (i : Int) + 64 := by omega
      have hk5 : (i : Int) ≤ (i : Int) + 64 := by omega
      have hk6 : i + 64 - i = 64 := by omega
      clear hi
      go_wp2_with fail
      refine wp_later_tail 7 (by kernel_rfl) (by kernel_rfl) ?_
      simp only [List.take_succ_cons, List.take_zero, List.drop_succ_cons, List.drop_zero]
      refine wpQuiet_val (by kernel_rfl) _ (fun v hv => by obtain ⟨X, rfl⟩ := hv; exact exec_loadC (HC.out.keep X.below) rfl rfl) ?_
      simp only [Act.put, List.setIfInBounds_toArray, List.set_cons_zero, List.set_cons_succ]
      have hB : ∀ X : Later wr, Blk X.at (ad.add i) (blkF p j) := fun X => by
        rw [HI.out]
        exact blk_drop (HP.out.keep X.below) (by have := HI.out; omega)
      generalize hS : stN ch0 p j = S at *
      have hok : S.Ok := by rw [← hS]; exact stN_ok ch0_ok _ _
      have HST := Lib.hid (show stN ch0 p (j + 1) = compN S (blkF p j) by rw [stN, hS])
      clear hS
      repeat (go_big_quiet_step ((go_at_call 56; with_reducible exact Calls.later (rcomp_any S (ad.add i) (blkF p j) (f - i) _ hok (hB _) (by omega) (by omega)))))
      refine wpQuiet_nil ?_
      intro X
      have HC5 := Lib.hid (HC.out.keep X.below)
      have H05 := Lib.hid (H0.out.keep X.below)
      have HP5 := Lib.hid (HP.out.keep X.below)
      have HB5 := Lib.hid (bel_step HB.out X.below)
      generalize X.at = w5 at *
      generalize compN S (blkF p j) = T at *
      clear HC H0 HP HB hB
      refine wpList_skip0 rfl (w5.setRow g (celW (chL T)).toArray) (exec_storeRow g _ _ rfl rfl rfl HC5.out (ch_size T) (by rw [List.size_toArray, List.size_toArray, celW_length, celW_length, chL_length, chL_length]) celW_one) ?_
      refine wpList_nil ?_
      simp only [Act.put, List.setIfInBounds_toArray, List.set_cons_zero, List.set_cons_succ]
      have HC6 := Lib.hid (HC5.out.row (chL T))
      have H06 := Lib.hid (H05.out.farRow (show w.heap.size ≠ g by omega) (celW (chL T)).toArray)
      have hb6 : Below g w5 (w5.setRow g (celW (chL T)).toArray) := bel_setRow (Below.refl _ _) (Nat.le_refl _) _
      have HB6 := Lib.hid (bel_setRow HB5.out (show w.heap.size ≤ g by omega) (celW (chL T)).toArray)
      have HP6 : Hid (Sb (w5.setRow g (celW (chL T)).toArray) (some ad) L f p) := Lib.hid (HP5.out.keepX HC5.out ((SameX.refl g w5).row _))
      clear HC5 H05 HB5 HP5 hb6
      generalize w5.setRow g (celW (chL T)).toArray = w6 at *
      go_wp2_with fail
      go_roundw
      case rel => exact ⟨j + 1, i + 64, hlt, by have := HI.out; omega, by go_num, by rw [HST.out]; exact HC6.out, H06.out, HP6.out, HB6.out⟩
      case measure => simp [intOf]; omega
    · obtain rfl : j = K := by omega
      obtain rfl : i = L := by have := HI.out; have := HLK.out; omega
      have hld := run_loadW (P := Tryd.prog) HC.out 8 (by rw [chL_length])
      generalize hS : stN ch0 p j = S at *
      have hok : S.Ok := by rw [← hS]; exact stN_ok ch0_ok _ _
      clear hS
      go_wp2_with fail
      simp only [Tryd.isAgg83, Tryd.sizeOf83, Result.andThen, ↓reduceIte, hld]
      rw [Oper.upon_value]
      clear hld
      go_wp2_with fail
      refine (rdigest_any S wr hok).mono ?_
      rintro e W6 ⟨rfl, hb6⟩
      have H06 := Lib.hid (H0.out.keep hb6)
      have HB6 := Lib.hid (bel_step HB.out hb6)
      rw [HR.out]
      clear hb6
      have hsc := run_storeB (P := Tryd.prog) (ws := R) H06.out (by rw [hl, List.length_replicate])
      have hsz : (celB R).length = 32 := by rw [celB_length, hl]
      go_wp2_with fail
      simp only [Tryd.sizeOf30, Result.andThen, ↓reduceIte, hsc]
      rw [Oper.upon_skip]
      go_wp2_with fail
      refine bodyPost_ret (v := .agg (celB R).toArray) ?_ rfl ⟨rfl, bel_setRow HB6.out (Nat.le_refl _) _⟩
      exact results_cell_row rfl _ _ w.heap.size 30 _ (0, 0) _ rfl (H06.out.row R) Tryd.underlying30 rfl (dig_size hl)
end Go.Proofs.YtcaoajeplinopaaDoor

namespace Go.Proofs.YtcaoajeplinopaaDoor
set_option linter.unusedVariables false
set_option linter.unusedSimpArgs false
set_option maxRecDepth 8000
open Go.RowKit
attribute [local simp] z32_ne z32_run
attribute [-simp] Tryd.zeroValue30 Tryd.isAgg30 Tryd.sizeOf30
theorem OwB.nil1 {w : World} {g : Nat} (h : w.heap[g]? = some (.cells #[] 5 (0, 0))) {base : Nat} (hb : base ≤ g) : OwB w base (.slice (some ⟨g, 0, none⟩) 0 0) 0 [] := ⟨OwB.empty1 h rfl hb, fun _ h => by cases h⟩
end Go.Proofs.YtcaoajeplinopaaDoor

namespace Go.Proofs.YtcaoajeplinopaaDoor.Tl
set_option linter.unusedVariables false
set_option linter.unusedSimpArgs false
set_option maxRecDepth 8000
open Go.RowKit Go.Proofs.YtcaoajeplinopaaDoor

section
variable {P : Program} {ops : Array Oper} {S : World → Prop} {Q : Exit → Act → World → Prop} {m : Nat}

/-- every later effect waits for this operation -/
def ChainX (ops : Array Oper) (i : Nat) (listed : Array Bool) : Prop := (∀ j, Waits ops i j → listed.getD j false = false) ∧
  ∀ j oj, ops[j]? = some oj → j ≠ i → listed.getD j true = false → stillOp oj = false → Waits ops i j
structure ChainW (ops : Array Oper) : Prop where
  chain : ∀ (k j : Nat) (ok oj : Oper), k < j → ops[k]? = some ok → ops[j]? = some oj → stillOp ok = false → stillOp oj = false → Waits ops k j
theorem wpT_first (hz : ops.size = m + 1) (hs : Region.sinkB .any ops m = true) (hc : Region.chainB .any ops m = true) {i : Nat} {oi : Oper} (him : i < m) (hi : ops[i]? = some oi) (hsel : ∀ (j : Nat) (o : Oper) cs b, ops[j]? = some o → o.op ≠ .select cs b) : ∀ (n : Nat) (listed : Array Bool) (a : Act) (w : World), HeadInv .any ops m listed → S w →
      (∀ j oj, ops[j]? = some oj → j ≠ i → listed.getD j true = false → (∀ e ∈ oj.after, Region.binds .any e = true → e.on ≠ i) → oi.apart ops oj = true) →
      (stillOp oi = false → ChainX ops i listed) → i ∈ Region.ready .any ops listed → sOp P ops S i (wpT P ops S m Q n (listed.setIfInBounds i true)) a w → wpT P ops S m Q (n + 1) listed a w := by
  intro n
  induction n with
  | zero =>
    intro listed a w inv hS _ _ hr H
    refine ⟨fun h => (by rw [h] at hr; cases hr), fun j hj => ?_⟩
    by_cases hji : j = i
    · subst hji; rw [tOp_ne (by omega)]; exact H
    · obtain ⟨a', w', _, h0, _⟩ := sOp_out hS H
      have := ready_mono hj hji
      rw [h0] at this
      cases this
  | succ n ih =>
    intro listed a w inv hS hfree hchain hr H
    refine ⟨fun h => (by rw [h] at hr; cases hr), fun j hj => ?_⟩
    by_cases hji : j = i
    · subst hji; rw [tOp_ne (by omega)]; exact H
    have hjm : j ≠ m := fun e => by
      subst e
      exact tail_waits hs hc (by omega) inv _ i rfl him (mem_ready.1 hr).1 j (Nat.le_refl _) hj
    have hjl := ready_lt hj
    have inv' : HeadInv .any ops m (listed.setIfInBounds j true) := inv.set hj (by omega)
    rw [tOp_ne hjm]
    obtain ⟨hjun, oj, hoj, hall⟩ := mem_ready.1 hj
    have hnot : ∀ e ∈ oj.after, Region.binds .any e = true → e.on ≠ i := fun e he hb heq => by
      have h1 := hall e he hb
      have h0 := (mem_ready.1 hr).1
      rw [heq, getD_both h0] at h1
      cases h1
    have hap := hfree j oj hoj hji hjun hnot
    obtain ⟨p1, p2, p3⟩ := Oper.apart_spec hap
    have hsi := fun cs b => hsel i oi cs b hi
    have hsj := fun cs b => hsel j oj cs b hoj
    have hfree' : ∀ k ok, ops[k]? = some ok → k ≠ i → (listed.setIfInBounds j true).getD k true = false →
        (∀ e ∈ ok.after, Region.binds .any e = true → e.on ≠ i) → oi.apart ops ok = true := fun k ok hk hki hun hno => by
      refine hfree k ok hk hki ?_ hno
      by_cases hjk : j = k
      · subst hjk; exact hjun
      · rw [getD_set_ne true hjk] at hun; exact hun
    have h0i : listed.getD i false = false := getD_both (mem_ready.1 hr).1
    have hjs : stillOp oi = false → stillOp oj = true := fun hs => by
      cases e : stillOp oj with
      | true => rfl
      | false => exact (Waits.not_ready (hchain hs).1 h0i ((hchain hs).2 j oj hoj hji hjun e) hoj hall).elim
    have hchain' : stillOp oi = false → ChainX ops i (listed.setIfInBounds j true) := fun hs => by
      refine ⟨fun k hw => ?_, fun k ok hk hki hun hks => ?_⟩
      · have h1 := (hchain hs).1 k hw
        by_cases hjk : j = k
        · subst hjk
          exact (Waits.not_ready (hchain hs).1 h0i hw hoj hall).elim
        · rw [getD_set_ne false hjk]; exact h1
      · have hjk : j ≠ k := by
          rintro rfl
          rw [hoj] at hk
          injection hk with hk
          rw [← hk, hjs hs] at hks
          cases hks
        rw [getD_set_ne true hjk] at hun
        exact (hchain hs).2 k ok hk hki hun hks
    have hr' := ready_mono hr (Ne.symm hji)
    have hrj := ready_mono hj hji
    unfold sOp at H
    rw [hi] at H
    rcases H with ⟨hq, v, hy, HK⟩ | ⟨hnq, hh⟩
    · have hkj := HK.2 j hrj
      rw [tOp_ne hjm] at hkj
      have h2 := sOp_put hoj hap hsi hsj hq hy hkj
      refine sOp_mono hS (fun a' w' hS' ⟨hq', hy', hk'⟩ => ih (listed.setIfInBounds j true) a' w' inv' hS' hfree' hchain' hr' ?_) h2
      unfold sOp
      rw [hi]
      refine .inl ⟨hq', v, hy', ?_⟩
      rw [Array.setIfInBounds_comm _ _ hji]
      exact hk'
    · have hs : stillOp oi = false := by
        cases e : stillOp oi with
        | false => rfl
        | true => exact absurd (.inl e) hnq
      have hj' := hjs hs
      obtain ⟨v0, w0, hS0, hK0⟩ := hOp_out hh
      have h1 := hK0.2 j hrj
      rw [tOp_ne hjm] at h1
      unfold sOp at h1
      rw [hoj] at h1
      obtain ⟨vj, hyj⟩ : ∃ vj, YieldsIf P ops S oj vj a := by
        rcases h1 with ⟨_, u, hu, _⟩ | ⟨e, _⟩
        · exact ⟨u, hu.of_same (execOp_put oj hsj a oi.dst v0 p1).symm (wanted_put oj a oi.dst v0 p1).symm⟩
        · exact absurd (.inl hj') e
      unfold sOp
      rw [hoj]
      refine .inl ⟨.inl hj', vj, hyj, ih (listed.setIfInBounds j true) (a.put oj.dst vj) w inv' hS hfree' hchain' hr' ?_⟩
      unfold sOp
      rw [hi]
      refine .inr ⟨fun e => hnq ((quietNow_put p3).1 e), hOp_put hsi p3 (hOp_mono (fun v w' ⟨hS', hk'⟩ => ⟨hS', ?_⟩) hh)⟩
      have h2 := hk'.2 j hrj
      rw [tOp_ne hjm] at h2
      unfold sOp at h2
      rw [hoj] at h2
      rcases h2 with ⟨_, u, hu, hk2⟩ | ⟨e, _⟩
      · have hu' : YieldsIf P ops S oj u a := hu.of_same (execOp_put oj hsj a oi.dst v p1).symm (wanted_put oj a oi.dst v p1).symm
        have e := YieldsIf.one hS' hu' hyj
        subst e
        rw [Array.setIfInBounds_comm _ _ hji, ← Act.put_comm a v u p2]
        exact hk2
      · exact absurd (.inl hj') e

theorem wpT_of_lex (hz : ops.size = m + 1) (hs : Region.sinkB .any ops m = true) (hcb : Region.chainB .any ops m = true) (hx : LexOK ops) (hc : ChainW ops) : ∀ (l : List Oper) (k : Nat) (listed : Array Bool) (a : Act) (w : World), HeadInv .any ops m listed → S w →
    (∀ j, j < l.length → l[j]? = ops[k + j]?) → k + l.length = m → (∀ i, i < k → listed.getD i false = true) → (∀ i, k ≤ i → i < ops.size → listed.getD i true = false) →
    wpHeld P ops S (fun _ a w => mOp P ops m (fun a w => Q .normal a w) a w) l a w → wpT P ops S m Q (l.length + 1) listed a w
  | [], k, listed, a, w, inv, _, _, hk, h1, h2, h => by
    obtain rfl : k = m := by simpa using hk
    obtain ⟨om, hom, hw, hh⟩ := h
    have hr : k ∈ Region.ready .any ops listed := mem_ready.2 ⟨h2 k (Nat.le_refl _) (by omega), om, hom, fun e he hb => h1 _ (hx.edge k om hom e he hb)⟩
    refine ⟨fun e => (by rw [e] at hr; cases hr), fun i hi => ?_⟩
    have hil := ready_lt hi
    have hik : k ≤ i := by
      rcases Nat.lt_or_ge i k with h' | h'
      · have h3 := h1 i h'
        rw [getD_both (mem_ready.1 hi).1] at h3
        cases h3
      · exact h'
    obtain rfl : i = k := by omega
    rw [tOp_eq]
    exact ⟨om, hom, hw, hOp_mono (fun v w' hq => ⟨none_left hz hs hcb inv hi, hq⟩) hh⟩
  | o :: l, k, listed, a, w, inv, hS, hl, hk, h1, h2, h => by
    have h0 : ops[k]? = some o := by simpa using (hl 0 (by simp)).symm
    have hlt : k < ops.size := (Array.getElem?_eq_some_iff.1 h0).1
    have hkm : k < m := by simp at hk; omega
    have hst : sOp P ops S k (wpHeld P ops S (fun _ a w => mOp P ops m (fun a w => Q .normal a w) a w) l) a w := by
      unfold sOp
      rw [h0]
      exact h
    have hun : ∀ j, listed.getD j true = false → k ≤ j := fun j hun => by
      rcases Nat.lt_or_ge j k with h' | h'
      · have h3 := h1 j h'
        rw [getD_both hun] at h3
        cases h3
      · exact h'
    have hr : k ∈ Region.ready .any ops listed := mem_ready.2 ⟨h2 k (Nat.le_refl _) hlt, o, h0, fun e he hb => h1 _ (hx.edge k o h0 e he hb)⟩
    refine wpT_first hz hs hcb hkm h0 (Region.noSelect_spec hx.sel) (l.length + 1) listed a w inv hS ?_ ?_ hr ?_
    · intro j oj hj hne hju hno
      refine hx.free k j o oj ?_ h0 hj hno
      have := hun j hju
      omega
    · intro hs'
      refine ⟨fun j hw => ?_, fun j oj hj hne hju hjs => ?_⟩
      · obtain ⟨h3, h4⟩ := hw.lt hx
        exact getD_both (h2 j (by omega) h4)
      · have := hun j hju
        exact hc.chain k j o oj (by omega) h0 hj hs' hjs
    · refine sOp_mono hS (fun a' w' hS' h' => wpT_of_lex hz hs hcb hx hc l (k + 1) _ a' w' (inv.set hr hkm) hS' (fun j hj => by have := hl (j + 1) (by simp; omega); simpa [Nat.add_assoc, Nat.add_comm 1 j] using this) (by simp at hk; omega) ?_ ?_ h') hst
      · intro i hi
        by_cases e : i = k
        · subst e
          simp [inv.size, hlt]
        · exact getD_set_true (h1 i (by omega))
      · intro i hi hi'
        rw [getD_set_ne true (by omega)]
        exact h2 i (by omega) hi'

theorem wp_held_tail {id : Nat} {a : Act} {w : World} {l : List Oper} (n : Nat) (hm : P.follows .mixedOrders = true) (hx : LexOK l.toArray) (hc : ChainW l.toArray) (hz : l.length = n + 1) (hs : Region.sinkB .any l.toArray n = true) (hcb : Region.chainB .any l.toArray n = true) (hS : S w.drew)
    (h : wpHeld P l.toArray S (fun _ a w => mOp P l.toArray n (fun a w => Q .normal a w) a w) (l.take n) a w.drew) : (Code.region id l.toArray true).wp P Q a w := by
  have inv0 : HeadInv .any l.toArray n (Array.replicate l.toArray.size false) :=
    ⟨by simp, fun j oj _ hl => (by rw [getD_replicate_false] at hl; cases hl), fun t _ ht => getD_in (by simpa using ht) (getD_replicate_false _ _)⟩
  have htl : (l.take n).length = n := by simp; omega
  refine wp_region_any hm (wpAny_of_wpT (S := S) (m := n) (by simpa using hz) hs hcb _ _ _ _ inv0 hS ?_)
  have := wpT_of_lex (P := P) (S := S) (Q := Q) (m := n) (ops := l.toArray) (by simpa using hz) hs hcb hx hc (l.take n) 0 (Array.replicate l.toArray.size false) a w.drew inv0 hS (fun j hj => by
    have hj' : j < n := by rw [htl] at hj; exact hj
    simp [hj']) (by simpa using htl) (by intro i hi; omega) (fun i _ hi => getD_in (by simpa using hi) (getD_replicate_false _ _)) h
  rw [htl] at this
  simpa [hz] using this
theorem wp_held_tailB (n B : Nat) {id : Nat} {a : Act} {w : World} {l : List Oper} (hm : P.follows .mixedOrders = true) (hx : LexOK l.toArray) (hc : ChainW l.toArray) (hz : l.length = n + 1) (hs : Region.sinkB .any l.toArray n = true) (hcb : Region.chainB .any l.toArray n = true)
    (h : ∀ W, Below w.heap.size w W → (∃ x : LaterB B w, W = x.at) → wpHeld P l.toArray (fun w' => ∃ x : LaterB B w, w' = x.at) (fun _ a w => mOp P l.toArray n (fun a w => Q .normal a w) a w) (l.take n) a W) : (Code.region id l.toArray true).wp P Q a w :=
  wp_held_tail n hm hx hc hz hs hcb ⟨⟨w.drew, (Below.refl _ _).drew⟩, rfl⟩ (h w.drew (Below.refl _ _).drew ⟨⟨w.drew, (Below.refl _ _).drew⟩, rfl⟩)
end

def chainV : List Oper → List Nat → List Nat → Bool
  | [], _, _ => true
  | o :: l, ms, hs => (fun m => (stillOp o || hs.all (bitOf m)) && chainV l (ms ++ [m]) (bif stillOp o then hs else ms.length :: hs)) (waitM ms o.after.toList)
theorem chainV_spec {ops : Array Oper} : ∀ (l : List Oper) (ms hs : List Nat), (∀ j, l[j]? = ops[ms.length + j]?) →
    (∀ j i, (ms.getD j 0).testBit i = true → Waits ops i j) → (∀ i o, i < ms.length → ops[i]? = some o → stillOp o = false → i ∈ hs) → chainV l ms hs = true →
    ∀ (j : Nat) (oj : Oper), ms.length ≤ j → ops[j]? = some oj → stillOp oj = false → ∀ (i : Nat) (oi : Oper), i < j → ops[i]? = some oi → stillOp oi = false → Waits ops i j
  | [], ms, _, hl, _, _, _, j, oj, hj, hoj, _ => by
    intro i oi hi hoi _
    have h0 : ops[j]? = none := by
      have := hl (j - ms.length)
      rw [show ms.length + (j - ms.length) = j by omega] at this
      rw [← this]
      rfl
    rw [h0] at hoj
    cases hoj
  | o :: l, ms, hs, hl, hp, hi, h, j, oj, hj, hoj, hjs => by
    have h0 : ops[ms.length]? = some o := by simpa using (hl 0).symm
    have hl' : ∀ m j, l[j]? = ops[(ms ++ [m]).length + j]? := fun m j => by have := hl (j + 1); simpa [Nat.add_assoc, Nat.add_comm 1 j] using this
    have hwm : ∀ i, (waitM ms o.after.toList).testBit i = true → Waits ops i ms.length := fun i hw => by
      obtain ⟨e, he, hb, hon⟩ := waitM_spec _ i hw
      have he' : e ∈ o.after := by simpa using he
      rcases hon with hon | hon
      · exact .on e h0 he' hb hon
      · exact .step e h0 he' hb (hp _ _ hon)
    simp only [chainV, Bool.and_eq_true] at h
    obtain ⟨hm, hrest⟩ := h
    by_cases hjk : j = ms.length
    · subst hjk
      rw [h0] at hoj
      injection hoj with hoj
      subst hoj
      rw [hjs] at hm
      intro i oi hij hoi his
      refine hwm i ?_
      have := List.all_eq_true.1 (by simpa using hm) i (hi i oi hij hoi his)
      rwa [bitOf_eq] at this
    · refine chainV_spec l _ _ (hl' _) ?_ ?_ hrest j oj (by simp; omega) hoj hjs
      · intro j' i' hw
        rcases Nat.lt_trichotomy j' ms.length with h' | h' | h'
        · refine hp j' i' ?_
          rw [List.getD_eq_getElem?_getD, List.getElem?_append_left h', ← List.getD_eq_getElem?_getD] at hw
          exact hw
        · subst h'
          refine hwm i' ?_
          rw [List.getD_eq_getElem?_getD, List.getElem?_append_right (Nat.le_refl _), Nat.sub_self] at hw
          exact hw
        · rw [List.getD_eq_getElem?_getD, List.getElem?_eq_none (by simp; omega)] at hw
          simp at hw
      · intro i' o' hik ho' hs'
        by_cases e : i' = ms.length
        · subst e
          rw [h0] at ho'
          injection ho' with ho'
          subst ho'
          rw [hs']
          simp
        · have := hi i' o' (by simp at hik; omega) ho' hs'
          cases stillOp o
          · exact List.mem_cons_of_mem _ this
          · exact this
theorem chainW_of {l : List Oper} (h : chainV l [] [] = true) : ChainW l.toArray :=
  ⟨fun k j ok oj hkj hok hoj hks hjs => chainV_spec (ops := l.toArray) l [] [] (by simp) (by intro j i hw; simp at hw) (by intro i o hi; simp at hi) h j oj (Nat.zero_le _) hoj hjs k ok hkj hok hks⟩

end Go.Proofs.YtcaoajeplinopaaDoor.Tl

namespace Go.Proofs.YtcaoajeplinopaaDoor
set_option linter.unusedVariables false
set_option linter.unusedSimpArgs false
set_option maxRecDepth 8000
open Go.RowKit
attribute [local simp] z32_ne z32_run
attribute [-simp] Tryd.zeroValue30 Tryd.isAgg30 Tryd.sizeOf30
def madeN (bs : List Nat) : List Nat := bs.take 32 ++ List.replicate (32 - min 32 bs.length) 0
theorem madeN_length (bs : List Nat) : (madeN bs).length = 32 := by unfold madeN; simp; omega
theorem madeN_lt {bs : List Nat} (h : ∀ x ∈ bs, x < 256) : ∀ x ∈ madeN bs, x < 256 := by
  intro x hx
  unfold madeN at hx
  rcases List.mem_append.1 hx with hx | hx
  · exact h x (List.mem_of_mem_take hx)
  · rw [(List.mem_replicate.1 hx).2]; decide
set_option maxHeartbeats 2000000 in
theorem rmade_any (A : Option Addr) (n c : Nat) (bs : List Nat) (w : World) (h : Sb w A n c bs) :
    Calls Tryd.prog 37 #[.slice A n c] w fun e w' => e = .returned (.agg (celB (madeN bs)).toArray) ∧ Below w.heap.size w w' := by
  have HLN := Lib.hid h.len
  have hcap := h.cap
  have htop := h.top
  have HS := Lib.hid h
  have HM := Lib.hid (show madeN bs = bs.take (min 32 n) ++ List.replicate (32 - min 32 n) 0 by
    unfold madeN
    rw [← HLN.out]
    congr 1
    by_cases hh : n ≤ 32
    · rw [List.take_of_length_le (by have := HLN.out; omega), List.take_of_length_le (by have := HLN.out; omega)]
    · rw [Nat.min_eq_left (by omega)])
  have HML := Lib.hid (madeN_length bs)
  clear h
  go_enter Tryd.func37, Tryd.ntmps37
  have hsc := run_storeCells_new (P := Tryd.prog) (w.alloc (.cells z32 30)) 30 z32 z32 (by rw [z32_size]; kernel_rfl) rfl celB_one
  rw [alloc_sz] at hsc
  go_wp2_with fail
  simp only [Tryd.sizeOf30, Result.andThen, ↓reduceIte, hsc, z32_size]
  rw [Oper.upon_skip]
  clear hsc
  go_wp2_with fail
  refine wp_named2 (fun w1 hb1 g0 g1 hlt1 => ?_)
  have H0 : Hid (RowB w1 30 w.heap.size (List.replicate 32 0)) := Lib.hid g0
  have H1 : Hid (RowB w1 30 (w.heap.size + 1) (List.replicate 32 0)) := Lib.hid g1
  have HB1 := Lib.hid hb1
  clear g0 g1 hb1
  go_loopw [4] (fun s wr => ∃ k : Nat, k ≤ 32 ∧ k ≤ n ∧ s = .int .i64 k ∧ RowB wr 30 w.heap.size (List.replicate 32 0) ∧ RowB wr 30 (w.heap.size + 1) (bs.take k ++ List.replicate (32 - k) 0) ∧ Below w.heap.size w wr) (fun s _ => 32 - (intOf s).toNat)
  case atStart => exact ⟨0, by omega, by omega, rfl, H0.out, H1.out, HB1.out⟩
  case round =>
    clear H0 H1 HB1
    obtain ⟨k, hk, hkn, rfl, h0, h1, hb⟩ := hrel
    have H0 := Lib.hid h0
    have H1 := Lib.hid h1
    have HB := Lib.hid hb
    clear h0 h1 hb
    have hk0 : (0 : Int) ≤ (k : Int) := by omega
    by_cases hlt : k < min 32 n
    · have hk1 : (k : Int) < 32 := by omega
      have hk2 : (k : Int) < (n : Int) := by omega
      have hkl : k < n := by omega
      have htl : (bs.take k).length = k := by rw [List.length_take]; have := HLN.out; omega
      obtain ⟨ad, rfl⟩ := HS.out.some_ (by omega)
      have c0 := (HS.out.keep HB.out).at_ hkl
      have HTS := Lib.hid (take_snoc (bs := bs) (k := k) (by rw [← HLN.out]; exact hkl))
      have d0 := H1.out.at_ (i := k) (x := 0) (get_zero htl (by omega))
      have d1 := H1.out.free k
      have HTL := Lib.hid htl
      generalize bs.getD k 0 = x at *
      clear htl hlt
      go_wp2_with fail
      go_roundw
      case rel =>
        refine ⟨k + 1, by omega, by omega, by go_num, H0.out.far _ (by simp), ?_, HB.out.setCell (by simp) _⟩
        rw [← HTS.out, ← set_midB _ HTL.out (by omega)]
        exact H1.out.put k _ _ rfl
      case measure => simp [intOf]; omega
    · have HKM := Lib.hid (show k = min 32 n by omega)
      clear hlt
      by_cases h32 : k = 32
      · have hk1 : ¬ (k : Int) < 32 := by omega
        have hld := run_loadB (P := Tryd.prog) H1.out 32 (by rw [List.length_append, List.length_take, List.length_replicate]; have := HLN.out; omega)
        have hbs : bs.take k ++ List.replicate (32 - k) 0 = madeN bs := by rw [HM.out, HKM.out]
        rw [hbs] at hld H1
        have hsc := run_storeB (P := Tryd.prog) (ws := madeN bs) H0.out (by rw [HML.out, List.length_replicate])
        have hsz : (celB (madeN bs)).length = 32 := by rw [celB_length, HML.out]
        generalize hRR : madeN bs = R at *
        have HRR := Lib.hid hRR
        clear hRR
        go_wp2_with fail
        simp only [Tryd.isAgg30, Tryd.sizeOf30, Result.andThen, ↓reduceIte, hld]
        rw [Oper.upon_value]
        clear hld
        go_wp2_with fail
        simp only [Tryd.sizeOf30, Result.andThen, ↓reduceIte, hsc]
        rw [Oper.upon_skip]
        clear hsc
        go_wp2_with fail
        refine bodyPost_ret (v := .agg (celB R).toArray) ?_ rfl ⟨by rw [HRR.out], bel_setRow HB.out (Nat.le_refl _) _⟩
        exact results_cell_row rfl _ _ w.heap.size 30 _ (0, 0) _ rfl (H0.out.row R) Tryd.underlying30 rfl (dig_size HML.out)
      · have hk1 : (k : Int) < 32 := by omega
        have hk2 : ¬ (k : Int) < (n : Int) := by have := HKM.out; omega
        have hld := run_loadB (P := Tryd.prog) H1.out 32 (by rw [List.length_append, List.length_take, List.length_replicate]; have := HLN.out; omega)
        have hbs : bs.take k ++ List.replicate (32 - k) 0 = madeN bs := by rw [HM.out, HKM.out]
        rw [hbs] at hld H1
        have hsc := run_storeB (P := Tryd.prog) (ws := madeN bs) H0.out (by rw [HML.out, List.length_replicate])
        have hsz : (celB (madeN bs)).length = 32 := by rw [celB_length, HML.out]
        generalize hRR : madeN bs = R at *
        have HRR := Lib.hid hRR
        clear hRR
        go_wp2_with fail
        simp only [Tryd.isAgg30, Tryd.sizeOf30, Result.andThen, ↓reduceIte, hld]
        rw [Oper.upon_value]
        clear hld
        go_wp2_with fail
        simp only [Tryd.sizeOf30, Result.andThen, ↓reduceIte, hsc]
        rw [Oper.upon_skip]
        clear hsc
        go_wp2_with fail
        refine bodyPost_ret (v := .agg (celB R).toArray) ?_ rfl ⟨by rw [HRR.out], bel_setRow HB.out (Nat.le_refl _) _⟩
        exact results_cell_row rfl _ _ w.heap.size 30 _ (0, 0) _ rfl (H0.out.row R) Tryd.underlying30 rfl (dig_size HML.out)
set_option maxHeartbeats 2000000 in
theorem rsame_yes (A : Option Addr) (n c : Nat) (B : Option Addr) (m d : Nat) (bs : List Nat) (w : World) (ha : Sb w A n c bs) (hb : Sb w B m d bs) :
    Calls Tryd.prog 23 #[.slice A n c, .slice B m d] w fun e w' => e = .returned (.bool true) ∧ Below w.heap.size w w' := by
  obtain rfl : n = m := by rw [ha.len, hb.len]
  have hcap := ha.cap
  have htop := ha.top
  have HA := Lib.hid ha
  have HC := Lib.hid hb
  clear ha hb
  go_enter Tryd.func23, Tryd.ntmps23
  go_wp2_with fail
  go_loopw [5] (fun s wr => ∃ k : Nat, k ≤ n ∧ s = .int .i64 k ∧ Below w.heap.size w wr) (fun s _ => n - (intOf s).toNat)
  case atStart => exact ⟨0, Nat.zero_le _, rfl, Below.refl _ _⟩
  case round =>
    obtain ⟨k, hk, rfl, hbw⟩ := hrel
    by_cases hlt : k < n
    · have hk1 : (k : Int) < (n : Int) := by omega
      have hk0 : (0 : Int) ≤ (k : Int) := by omega
      obtain ⟨ad, rfl⟩ := HA.out.some_ (by omega)
      obtain ⟨ad2, rfl⟩ := HC.out.some_ (by omega)
      have c0 := Later.cell ((HA.out.keep hbw).at_ hlt)
      have c1 := Later.cell ((HC.out.keep hbw).at_ hlt)
      generalize bs.getD k 0 = x at *
      go_wp2_with fail
      refine wp_later_lex (by kernel_rfl) (lexOK_of (by kernel_rfl) (by kernel_rfl)) ?_
      repeat (go_big_quiet_step (fail))
      refine wpQuiet_nil ?_
      intro X
      have hb2 := bel_step hbw X.below
      go_wp2_with fail
      go_roundw
      case rel => exact ⟨k + 1, hlt, by go_num, hb2⟩
      case measure => simp [intOf]; omega
    · obtain rfl : k = n := by omega
      go_wp2_with fail
      go_ret
      exact ⟨rfl, hbw⟩
end Go.Proofs.YtcaoajeplinopaaDoor

namespace Go.Proofs.YtcaoajeplinopaaDoor
set_option linter.unusedVariables false
set_option linter.unusedSimpArgs false
set_option maxRecDepth 8000
/-- the first k bytes of a number, lowest first -/
def leK (x k : Nat) : List Nat := (List.range k).map fun i => x / 2 ^ (8 * i) % 256
def leN (x : Nat) : List Nat := leK x 8
theorem leK_succ (x k : Nat) : leK x (k + 1) = leK x k ++ [x / 2 ^ (8 * k) % 256] := by unfold leK; rw [List.range_succ]; simp
theorem leK_length (x k : Nat) : (leK x k).length = k := by unfold leK; simp
theorem leN_length (x : Nat) : (leN x).length = 8 := leK_length x 8
theorem leK_lt (x k : Nat) : ∀ z ∈ leK x k, z < 256 := by
  intro z hz
  unfold leK at hz
  obtain ⟨i, _, rfl⟩ := List.mem_map.1 hz
  exact Nat.mod_lt _ (by decide)
theorem leN_lt (x : Nat) : ∀ z ∈ leN x, z < 256 := leK_lt x 8
/-- the number that bytes encode, lowest first -/
def leL : List Nat → Nat
  | [] => 0
  | b :: l => b + 256 * leL l
theorem leL_snoc (l : List Nat) (b : Nat) : leL (l ++ [b]) = leL l + 256 ^ l.length * b := by
  induction l with
  | nil => simp [leL]
  | cons a l ih => simp only [List.cons_append, leL, ih, List.length_cons, Nat.pow_succ]; grind
theorem leL_lt {l : List Nat} (h : ∀ x ∈ l, x < 256) : leL l < 256 ^ l.length := by
  induction l with
  | nil => simp [leL]
  | cons a l ih =>
    have h1 := ih fun x hx => h x (List.mem_cons_of_mem _ hx)
    have h2 := h a List.mem_cons_self
    simp only [leL, List.length_cons, Nat.pow_succ]
    omega
/-- the number of the eight bytes at an offset -/
def leV (b : List Nat) (o : Nat) : Nat := leL ((b.drop o).take 8)
theorem take_length_leT {α : Type} (l : List α) (k : Nat) : (l.take k).length ≤ k := by rw [List.length_take]; omega
theorem leV_lt {b : List Nat} (h : ∀ x ∈ b, x < 256) (o : Nat) : leV b o < 2 ^ 64 := by
  have h1 := leL_lt (l := (b.drop o).take 8) fun x hx => h x (List.mem_of_mem_drop (List.mem_of_mem_take hx))
  have h2 : 256 ^ ((b.drop o).take 8).length ≤ 256 ^ 8 := Nat.pow_le_pow_right (by decide) (take_length_leT _ _)
  unfold leV
  have h3 : (256 : Nat) ^ 8 = 2 ^ 64 := by decide
  omega
/-- bytes of a number read back -/
theorem leL_word (x k : Nat) : leL (leK x k) = x % 2 ^ (8 * k) := by
  induction k with
  | zero => simp [leK, leL, Nat.mod_one]
  | succ k ih =>
    rw [leK_succ, leL_snoc, ih, leK_length]
    have e : (256 : Nat) ^ k = 2 ^ (8 * k) := by rw [show (256 : Nat) = 2 ^ 8 from rfl, ← Nat.pow_mul]
    rw [e, show 8 * (k + 1) = 8 * k + 8 by omega, Nat.pow_add, Nat.mod_mul]
theorem leV_word {x : Nat} (hx : x < 2 ^ 64) (l r : List Nat) (o : Nat) (ho : l.length = o) : leV (l ++ (leN x ++ r)) o = x := by
  unfold leV
  subst ho
  rw [List.drop_left, List.take_append_of_le_length (by rw [leN_length]; omega), List.take_of_length_le (by rw [leN_length]; omega)]
  unfold leN
  rw [leL_word, Nat.mod_eq_of_lt (by simpa using hx)]
/-- the bytes of pairs of numbers -/
def extsN (l : List (Nat × Nat)) : List Nat := l.flatMap fun x => leN x.1 ++ leN x.2
theorem extsN_append (a b : List (Nat × Nat)) : extsN (a ++ b) = extsN a ++ extsN b := by unfold extsN; rw [List.flatMap_append]
theorem extsN_snoc (a : List (Nat × Nat)) (x : Nat × Nat) : extsN (a ++ [x]) = extsN a ++ (leN x.1 ++ leN x.2) := by rw [extsN_append]; simp [extsN]
theorem extsN_length (l : List (Nat × Nat)) : (extsN l).length = 16 * l.length := by
  induction l with
  | nil => rfl
  | cons x l ih =>
    have : extsN (x :: l) = (leN x.1 ++ leN x.2) ++ extsN l := by unfold extsN; rw [List.flatMap_cons]
    rw [this, List.length_append, List.length_append, leN_length, leN_length, ih, List.length_cons]; omega
theorem extsN_lt (l : List (Nat × Nat)) : ∀ z ∈ extsN l, z < 256 := by
  intro z hz
  unfold extsN at hz
  obtain ⟨x, _, hx⟩ := List.mem_flatMap.1 hz
  exact (List.mem_append.1 hx).elim (leN_lt _ z) (leN_lt _ z)
theorem extsN_take {l : List (Nat × Nat)} {i : Nat} {x : Nat × Nat} (h : l[i]? = some x) : extsN (l.take (i + 1)) = extsN (l.take i) ++ (leN x.1 ++ leN x.2) := by
  have hi := (List.getElem?_eq_some_iff.1 h).1
  rw [List.take_add_one, h, Option.toList_some, extsN_snoc]
theorem extsN_parts {l : List (Nat × Nat)} {i : Nat} {x : Nat × Nat} (h : l[i]? = some x) : extsN l = extsN (l.take i) ++ (leN x.1 ++ (leN x.2 ++ extsN (l.drop (i + 1)))) := by
  have hi := (List.getElem?_eq_some_iff.1 h).1
  conv => lhs; rw [← List.take_append_drop (i + 1) l]
  rw [extsN_append, extsN_take h, List.append_assoc, List.append_assoc]
theorem extsN_A {l : List (Nat × Nat)} {i : Nat} {x : Nat × Nat} (h : l[i]? = some x) (hx : x.1 < 2 ^ 64) : leV (extsN l) (16 * i) = x.1 := by
  have hi := (List.getElem?_eq_some_iff.1 h).1
  rw [extsN_parts h]
  exact leV_word hx _ _ _ (by rw [extsN_length, List.length_take]; omega)
theorem extsN_B {l : List (Nat × Nat)} {i : Nat} {x : Nat × Nat} (h : l[i]? = some x) (hx : x.2 < 2 ^ 64) : leV (extsN l) (16 * i + 8) = x.2 := by
  have hi := (List.getElem?_eq_some_iff.1 h).1
  rw [extsN_parts h, ← List.append_assoc]
  exact leV_word hx _ _ _ (by rw [List.length_append, extsN_length, List.length_take, leN_length]; omega)
def intsB (l : List Nat) : List Nat := l.flatMap leN
theorem intsB_lt (l : List Nat) : ∀ z ∈ intsB l, z < 256 := by
  intro z hz
  unfold intsB at hz
  obtain ⟨x, _, hx⟩ := List.mem_flatMap.1 hz
  exact leN_lt _ z hx
theorem intsB_take {l : List Nat} {i x : Nat} (h : l[i]? = some x) : intsB (l.take (i + 1)) = intsB (l.take i) ++ leN x := by
  rw [List.take_add_one, h, Option.toList_some]
  unfold intsB
  rw [List.flatMap_append]
  simp

def insT : List Nat → Nat → List Nat
  | [], x => [x]
  | y :: l, x => if y < x then y :: insT l x else if y = x then y :: l else x :: y :: l
theorem mem_insT {z x : Nat} : ∀ {l : List Nat}, z ∈ insT l x ↔ z = x ∨ z ∈ l
  | [] => by simp [insT]
  | y :: l => by
    unfold insT
    split
    · rw [List.mem_cons, mem_insT (l := l), List.mem_cons]; grind
    · split
      · rename_i h; subst h; simp
      · rw [List.mem_cons]
theorem insT_sorted {x : Nat} : ∀ {l : List Nat}, l.Pairwise (· < ·) → (insT l x).Pairwise (· < ·)
  | [], _ => by simp [insT]
  | y :: l, h => by
    obtain ⟨h1, h2⟩ := List.pairwise_cons.1 h
    unfold insT
    split
    · rename_i hy
      refine List.pairwise_cons.2 ⟨fun z hz => ?_, insT_sorted h2⟩
      rcases mem_insT.1 hz with rfl | hz
      · exact hy
      · exact h1 z hz
    · split
      · exact h
      · rename_i h3 h4
        refine List.pairwise_cons.2 ⟨fun z hz => ?_, h⟩
        rcases List.mem_cons.1 hz with rfl | hz
        · omega
        · have := h1 z hz; omega
theorem insT_same {x : Nat} : ∀ {l : List Nat}, l.Pairwise (· < ·) → x ∈ l → insT l x = l
  | [], _, h => by cases h
  | y :: l, h, hx => by
    obtain ⟨h1, h2⟩ := List.pairwise_cons.1 h
    unfold insT
    rcases List.mem_cons.1 hx with rfl | hx
    · rw [if_neg (by omega), if_pos rfl]
    · rw [if_pos (h1 x hx), insT_same h2 hx]
theorem insT_length {x : Nat} : ∀ {l : List Nat}, l.Pairwise (· < ·) → x ∉ l → (insT l x).length = l.length + 1
  | [], _, _ => by simp [insT]
  | y :: l, h, hx => by
    obtain ⟨h1, h2⟩ := List.pairwise_cons.1 h
    have hy : y ≠ x := fun e => hx (e ▸ List.mem_cons_self)
    have hl : x ∉ l := fun e => hx (List.mem_cons_of_mem _ e)
    unfold insT
    split
    · rw [List.length_cons, insT_length h2 hl, List.length_cons]
    · first | rfl | (rw [if_neg hy]; rfl)
theorem insT_le {x : Nat} {l : List Nat} (h : l.Pairwise (· < ·)) : l.length ≤ (insT l x).length ∧ (insT l x).length ≤ l.length + 1 := by
  by_cases hx : x ∈ l
  · rw [insT_same h hx]; omega
  · rw [insT_length h hx]; omega
/-- where x stands in a list that is cut there -/
theorem insT_cut {x k : Nat} : ∀ {l : List Nat}, (∀ y ∈ l.take k, y < x) → (∀ y ∈ l.drop k, x < y) → insT l x = l.take k ++ x :: l.drop k := by
  induction k with
  | zero =>
    intro l _ h2
    cases l with
    | nil => rfl
    | cons y l =>
      have := h2 y (by simp)
      unfold insT
      rw [if_neg (by omega), if_neg (by omega)]
      rfl
  | succ k ih =>
    intro l h1 h2
    cases l with
    | nil => rfl
    | cons y l =>
      have := h1 y (by simp)
      unfold insT
      rw [if_pos this, ih (l := l) (fun z hz => h1 z (by simp [hz])) (fun z hz => h2 z (by simpa using hz))]
      rfl
/-- the members of a list of candidates -/
def drawT (f : Nat → Nat) : Nat → List Nat
  | 0 => []
  | k + 1 => insT (drawT f k) (f k)
theorem drawT_sorted (f : Nat → Nat) : ∀ k, (drawT f k).Pairwise (· < ·)
  | 0 => List.Pairwise.nil
  | k + 1 => insT_sorted (drawT_sorted f k)
theorem drawT_mem {f : Nat → Nat} {z : Nat} : ∀ {k : Nat}, z ∈ drawT f k ↔ ∃ i, i < k ∧ f i = z
  | 0 => by simp [drawT]
  | k + 1 => by
    unfold drawT
    rw [mem_insT, drawT_mem (k := k)]
    constructor
    · rintro (rfl | ⟨i, hi, e⟩)
      · exact ⟨k, by omega, rfl⟩
      · exact ⟨i, by omega, e⟩
    · rintro ⟨i, hi, e⟩
      rcases Nat.lt_succ_iff_lt_or_eq.1 hi with h | h
      · exact Or.inr ⟨i, h, e⟩
      · subst h; exact Or.inl e.symm
theorem drawT_mono {f : Nat → Nat} {j k : Nat} (h : j ≤ k) {z : Nat} (hz : z ∈ drawT f j) : z ∈ drawT f k := by
  obtain ⟨i, hi, e⟩ := drawT_mem.1 hz
  exact drawT_mem.2 ⟨i, by omega, e⟩
theorem drawT_step (f : Nat → Nat) (k : Nat) : (drawT f k).length ≤ (drawT f (k + 1)).length ∧ (drawT f (k + 1)).length ≤ (drawT f k).length + 1 := insT_le (drawT_sorted f k)
theorem drawT_le (f : Nat → Nat) (k : Nat) : (drawT f k).length ≤ k := by
  induction k with
  | zero => simp [drawT]
  | succ k ih => have := (drawT_step f k).2; omega
theorem drawT_len_mono (f : Nat → Nat) {j k : Nat} (h : j ≤ k) : (drawT f j).length ≤ (drawT f k).length := by
  induction h with
  | refl => exact Nat.le_refl _
  | @step m h ih => exact Nat.le_trans ih (drawT_step f m).1
/-- the number of candidates that are looked at: at most K -/
def stopTF (f : Nat → Nat) (n : Nat) : Nat → Nat → Nat
  | 0, k => k
  | F + 1, k => if n ≤ (drawT f k).length then k else stopTF f n F (k + 1)
def stopT (f : Nat → Nat) (n K : Nat) : Nat := stopTF f n K 0
theorem stopTF_spec (f : Nat → Nat) (n : Nat) : ∀ (F k : Nat), (∀ j, j < k → (drawT f j).length < n) → k ≤ stopTF f n F k ∧ stopTF f n F k ≤ k + F ∧ (stopTF f n F k < k + F → n ≤ (drawT f (stopTF f n F k)).length) ∧ ∀ j, j < stopTF f n F k → (drawT f j).length < n
  | 0, k, h => ⟨Nat.le_refl _, Nat.le_refl _, fun h => absurd h (Nat.lt_irrefl _), h⟩
  | F + 1, k, h => by
    unfold stopTF
    split
    · rename_i h1
      exact ⟨Nat.le_refl _, by omega, fun _ => h1, h⟩
    · rename_i h1
      obtain ⟨a, b, c, d⟩ := stopTF_spec f n F (k + 1) (fun j hj => by
        rcases Nat.lt_succ_iff_lt_or_eq.1 hj with h2 | h2
        · exact h j h2
        · subst h2; omega)
      exact ⟨by omega, by omega, fun h2 => c (by omega), d⟩
theorem stopT_le (f : Nat → Nat) (n K : Nat) : stopT f n K ≤ K := by have := (stopTF_spec f n K 0 (fun j hj => by omega)).2.1; unfold stopT; omega
theorem stopT_full {f : Nat → Nat} {n K : Nat} (h : stopT f n K < K) : n ≤ (drawT f (stopT f n K)).length := (stopTF_spec f n K 0 (fun j hj => by omega)).2.2.1 (by unfold stopT at h; omega)
theorem stopT_before {f : Nat → Nat} {n K j : Nat} (h : j < stopT f n K) : (drawT f j).length < n := (stopTF_spec f n K 0 (fun j hj => by omega)).2.2.2 j h
theorem stopT_len (f : Nat → Nat) (n K : Nat) : (drawT f (stopT f n K)).length ≤ n := by
  cases hs : stopT f n K with
  | zero => simp [drawT]
  | succ s =>
    have h1 := stopT_before (f := f) (n := n) (K := K) (j := s) (by omega)
    have := (drawT_step f s).2
    omega
/-- what stops there is the stop -/
theorem stopT_eq {f : Nat → Nat} {n K s : Nat} (hs : s ≤ K) (h1 : ∀ j, j < s → (drawT f j).length < n) (h2 : s < K → n ≤ (drawT f s).length) : stopT f n K = s := by
  have a := stopT_le f n K
  rcases Nat.lt_trichotomy (stopT f n K) s with h | h | h
  · have := stopT_full (f := f) (n := n) (K := K) (by omega)
    have := h1 _ h
    omega
  · exact h
  · have := h2 (by omega)
    have := stopT_before h
    omega
theorem stopT_mono (f : Nat → Nat) {m n : Nat} (K : Nat) (h : m ≤ n) : stopT f m K ≤ stopT f n K := by
  have a := stopT_le f m K
  rcases Nat.lt_or_ge (stopT f n K) (stopT f m K) with h1 | h1
  · have := stopT_before h1
    have := stopT_full (f := f) (n := n) (K := K) (by omega)
    omega
  · exact h1
/-- the least numbers are added until there are n -/
def fillT (n : Nat) : Nat → Nat → List Nat → List Nat
  | 0, _, l => l
  | F + 1, i, l => if l.length < n then fillT n F (i + 1) (insT l i) else l
theorem fillT_sorted (n : Nat) : ∀ (F i : Nat) (l : List Nat), l.Pairwise (· < ·) → (fillT n F i l).Pairwise (· < ·)
  | 0, _, _, h => h
  | F + 1, i, l, h => by
    unfold fillT
    split
    · exact fillT_sorted n F _ _ (insT_sorted h)
    · exact h
theorem fillT_sub (n : Nat) {z : Nat} : ∀ (F i : Nat) (l : List Nat), z ∈ l → z ∈ fillT n F i l
  | 0, _, _, h => h
  | F + 1, i, l, h => by
    unfold fillT
    split
    · exact fillT_sub n F _ _ (mem_insT.2 (Or.inr h))
    · exact h
theorem fillT_mono {m n : Nat} (h : m ≤ n) {z : Nat} : ∀ (F i : Nat) (l : List Nat), z ∈ fillT m F i l → z ∈ fillT n F i l
  | 0, _, _, hz => hz
  | F + 1, i, l, hz => by
    unfold fillT at hz ⊢
    split at hz
    · rw [if_pos (by omega)]
      exact fillT_mono h F _ _ hz
    · split
      · exact fillT_sub n F _ _ (mem_insT.2 (Or.inr hz))
      · exact hz
theorem fillT_lt (n : Nat) {L : Nat} : ∀ (F i : Nat) (l : List Nat), i + F ≤ L → (∀ z ∈ l, z < L) → ∀ z ∈ fillT n F i l, z < L
  | 0, _, _, _, h => h
  | F + 1, i, l, hL, h => by
    unfold fillT
    split
    · refine fillT_lt n F _ _ (by omega) fun z hz => ?_
      rcases mem_insT.1 hz with rfl | hz
      · omega
      · exact h z hz
    · exact h
theorem fillT_full {n : Nat} : ∀ (F i : Nat) (l : List Nat), n ≤ l.length → fillT n F i l = l
  | 0, _, _, _ => rfl
  | F + 1, i, l, h => by unfold fillT; rw [if_neg (by omega)]
/-- a sorted list of all numbers below L has L elements -/
theorem sorted_geT : ∀ (L : Nat) (l : List Nat), l.Nodup → (∀ z, z < L → z ∈ l) → L ≤ l.length
  | 0, _, _, _ => Nat.zero_le _
  | L + 1, l, h, hm => by
    have h1 := sorted_geT L (l.erase L) (h.erase L) (fun z hz => (List.mem_erase_of_ne (by omega)).2 (hm z (by omega)))
    rw [List.length_erase_of_mem (hm L (by omega))] at h1
    have := List.length_pos_of_mem (hm L (by omega))
    omega
theorem sorted_leT : ∀ (L : Nat) (l : List Nat), l.Nodup → (∀ z ∈ l, z < L) → l.length ≤ L
  | 0, l, _, h => by
    cases l with
    | nil => simp
    | cons x l => have := h x List.mem_cons_self; omega
  | L + 1, l, hn, h => by
    by_cases hL : L ∈ l
    · have h1 := sorted_leT L (l.erase L) (hn.erase L) (fun z hz => by
        have hz2 := (List.Nodup.mem_erase_iff hn).1 hz
        have := h z hz2.2
        have := hz2.1
        omega)
      rw [List.length_erase_of_mem hL] at h1
      omega
    · have := sorted_leT L l hn (fun z hz => by
        have := h z hz
        have : z ≠ L := fun e => hL (e ▸ hz)
        omega)
      omega
theorem sorted_nodupT {l : List Nat} (h : l.Pairwise (· < ·)) : l.Nodup := h.imp fun h => Nat.ne_of_lt h
/-- with room for n numbers below L, filling reaches n -/
theorem fillT_length {n L : Nat} (hn : n ≤ L) : ∀ (F i : Nat) (l : List Nat), i + F = L → l.Pairwise (· < ·) → (∀ z, z < i → z ∈ l) → l.length ≤ n → (fillT n F i l).length = n
  | 0, i, l, hL, h, hi, hl => by
    have := sorted_geT i l (sorted_nodupT h) hi
    unfold fillT
    omega
  | F + 1, i, l, hL, h, hi, hl => by
    unfold fillT
    split
    · have h3 := (insT_le (x := i) h).2
      exact fillT_length hn F (i + 1) _ (by omega) (insT_sorted h) (fun z hz => mem_insT.2 (by
        rcases Nat.lt_succ_iff_lt_or_eq.1 hz with h2 | h2
        · exact Or.inr (hi z h2)
        · exact Or.inl h2)) (by omega)
    · omega
/-- a sorted list of L numbers below L: all of them -/
theorem sorted_allT : ∀ (l : List Nat) (a : Nat), l.Pairwise (· < ·) → (∀ z ∈ l, a ≤ z ∧ z < a + l.length) → ∀ i x, l[i]? = some x → x = a + i
  | [], _, _, _, i, x, hx => by simp at hx
  | y :: l, a, h, hm, i, x, hx => by
    obtain ⟨h1, h2⟩ := List.pairwise_cons.1 h
    have hy : y = a := by
      have h3 := hm y List.mem_cons_self
      have h4 : l.length ≤ a + l.length - y := by
        have h5 := sorted_leT (a + l.length - y) (l.map (· - (y + 1))) (by
          refine (List.Pairwise.imp_of_mem (R := (· < ·)) (fun {u v} hu hv huv => ?_) h2).map _ (fun u v h => h)
          have := h1 u hu
          have := h1 v hv
          show u - (y + 1) ≠ v - (y + 1)
          omega) (fun z hz => by
          obtain ⟨u, hu, rfl⟩ := List.mem_map.1 hz
          have := h1 u hu
          have := (hm u (List.mem_cons_of_mem _ hu)).2
          simp only [List.length_cons] at this
          omega)
        rw [List.length_map] at h5
        exact h5
      have h6 : l.length ≤ a + l.length - y := h4
      rcases Nat.eq_zero_or_pos l.length with h7 | h7
      · simp only [List.length_cons] at h3; omega
      · omega
    subst hy
    cases i with
    | zero => simp at hx; omega
    | succ i =>
      have hx : l[i]? = some x := by simpa using hx
      have := sorted_allT l (y + 1) h2 (fun z hz => by
        have a1 := h1 z hz
        have a2 := (hm z (List.mem_cons_of_mem _ hz)).2
        simp only [List.length_cons] at a2
        omega) i x hx
      omega
/-- what is drawn: n different numbers below L out of K candidates, filled up -/
def pickT (f : Nat → Nat) (n L K : Nat) : List Nat := fillT n L 0 (drawT f (stopT f n K))
theorem pickT_sorted (f : Nat → Nat) (n L K : Nat) : (pickT f n L K).Pairwise (· < ·) := fillT_sorted _ _ _ _ (drawT_sorted _ _)
theorem pickT_lt {f : Nat → Nat} {n L K : Nat} (hf : ∀ i, f i < L) : ∀ z ∈ pickT f n L K, z < L := fillT_lt _ _ _ _ (by omega) fun z hz => by
  obtain ⟨i, _, rfl⟩ := drawT_mem.1 hz
  exact hf i
theorem pickT_length {f : Nat → Nat} {n L K : Nat} (hn : n ≤ L) : (pickT f n L K).length = n := fillT_length hn _ _ _ (by omega) (drawT_sorted _ _) (fun z hz => by omega) (stopT_len _ _ _)
theorem pickT_sub {f : Nat → Nat} {m n L K : Nat} (h : m ≤ n) (hm : m ≤ L) {z : Nat} (hz : z ∈ pickT f m L K) : z ∈ pickT f n L K := by
  unfold pickT at hz ⊢
  have h1 := stopT_mono f K h
  have h2 := stopT_le f n K
  rcases Nat.lt_or_ge (stopT f m K) K with h3 | h3
  · rw [fillT_full _ _ _ (stopT_full h3)] at hz
    exact fillT_sub _ _ _ _ (drawT_mono h1 hz)
  · rw [show stopT f n K = stopT f m K by omega]
    exact fillT_mono h _ _ _ hz
theorem pickT_all {f : Nat → Nat} {n K i x : Nat} (hf : ∀ i, f i < n) (hx : (pickT f n n K)[i]? = some x) : x = i := by
  have := sorted_allT (pickT f n n K) 0 (pickT_sorted ..) (fun z hz => ⟨Nat.zero_le _, by rw [pickT_length (Nat.le_refl _)]; have := pickT_lt hf z hz; omega⟩) i x hx
  omega
/-- so many outputs of four candidates each -/
def outsN (s : Nat) : Nat := (s + 3) / 4
theorem stopT_ge {f : Nat → Nat} {n K : Nat} (hn : n ≤ K) : n ≤ stopT f n K := by
  rcases Nat.lt_or_ge (stopT f n K) K with h | h
  · have := stopT_full h
    have := drawT_le f (stopT f n K)
    omega
  · omega
end Go.Proofs.YtcaoajeplinopaaDoor

