/- The reference's Join, Bytes, Pad. -/
import Derived.Test.YtliflbelhogopaaDoorShq
namespace Go.Proofs.YtliflbelhogopaaDoor
set_option maxRecDepth 8000
open Go.RowKit
/-- append(s, t...), t any slice -/
theorem wpList_appendBa {ops : Array Oper} {rest : List Oper} {o : Oper} {a : Act} {Q : Exit → Act → World → Prop} {w : World} (hgd : o.guard = none) (s x : Operand)
    (ho : o.op = .call { callee := .builtin .append, args := #[s, x], argTypes := #[22, 22] }) (base : Nat) (v : Value) (n : Nat) (bs : List Nat) (hs : a.eval s = v) (hown : OwB w base v n bs)
    (A : Option Addr) (m c : Nat) (ys : List Nat) (hx : a.eval x = .slice A m c) (hy : Sb w A m c ys) (hn : n + m ≤ 70000) (hbase : base ≤ w.heap.size)
    (h : ∀ v' w', OwB w' base v' (n + m) (bs ++ ys) → Below base w w' → wpList Tryd.prog ops Q rest (a.put o.dst v') w') : wpList Tryd.prog ops Q (o :: rest) a w := by
  cases A with
  | some ad => exact wpList_appendBs hgd s x ho base v n bs hs hown ad m c ys hx hy hn hbase h
  | none =>
    have hc0 := hy.nil rfl
    have hm0 : m = 0 := by have := hy.cap; omega
    subst hc0
    subst hm0
    have hys : ys = [] := List.eq_nil_of_length_eq_zero hy.len.symm
    subst hys
    obtain ⟨i, hi, hz, hs2, hb⟩ := info_parts u8_info
    refine wpList_append_own_none hgd s x 22 ho base 5 i 1 Tryd.underlying22 hi v n (celB bs) hs hown.1 hx ?_
    exact h v w (by rw [List.append_nil]; exact hown) (Below.refl _ _)
set_option maxHeartbeats 1000000 in
theorem rjoin_any (A : Option Addr) (n c : Nat) (xs : List Nat) (B : Option Addr) (m d : Nat) (bs : List Nat) (w : World) (ha : Sb w A n c xs) (hb : Sb w B m d bs) (hn : n + m ≤ 65000) :
    Calls Tryd.prog 26 #[.slice A n c, .slice B m d] w fun e w' => ∃ C f, e = .returned (.slice C (n + m) f) ∧ Sb w' C (n + m) f (xs ++ bs) ∧ Below w.heap.size w w' := by
  go_enter Tryd.func26, Tryd.ntmps26
  have hb0 : Below w.heap.size w (w.alloc (.cells #[] 5)) := (Below.refl _ _).alloc (Nat.le_refl _) _
  go_upto_region 2 with (at_builtin; refine wpList_appendBa rfl (.tmp 6) (.tmp 7) rfl w.heap.size _ 0 [] rfl (OwB.made w _ (Nat.le_refl _)) A n c xs rfl (ha.keep hb0) (by omega) (by simp) ?_; intro v1 w1 ho1 hb1; rw [Nat.zero_add, List.nil_append] at ho1; have HO1 := Lib.hid ho1; have HB1 := Lib.hid (hb0.trans hb1); obtain ⟨C1, f1, rfl, _⟩ := ho1.sl; clear ho1 hb1 hb0)
  have hbs := hb.keep HB1.out
  go_upto_region 3 with (at_builtin; refine wpList_appendBa rfl (.tmp 9) (.tmp 10) rfl w.heap.size _ n xs rfl HO1.out B m d bs rfl hbs (by omega) HB1.out.size ?_; intro v2 w2 ho2 hb2; have HO2 := Lib.hid ho2; have HB2 := Lib.hid (HB1.out.trans hb2); obtain ⟨C2, f2, rfl, hs2⟩ := ho2.sl; clear ho2 hb2)
  go_wp2_with fail
  go_ret
  exact ⟨C2, f2, rfl, hs2, HB2.out⟩
attribute [local simp] z32_ne z32_run
attribute [-simp] Tryd.zeroValue26 Tryd.isAgg26 Tryd.sizeOf26
theorem take_snoc {bs : List Nat} {k : Nat} (h : k < bs.length) : bs.take k ++ [bs.getD k 0] = bs.take (k + 1) := by
  rw [List.take_succ_eq_append_getElem h, List.getD_eq_getElem?_getD, List.getElem?_eq_getElem h]
  rfl
theorem some_getD {bs : List Nat} {k : Nat} (h : k < bs.length) : bs[k]? = some (bs.getD k 0) := by rw [List.getD_eq_getElem?_getD, List.getElem?_eq_getElem h]; rfl
set_option maxHeartbeats 1000000 in
theorem rbytes_any (x : List Nat) (w : World) (hl : x.length = 32) (hb : ∀ z ∈ x, z < 256) :
    Calls Tryd.prog 27 #[.agg (celB x).toArray] w fun e w' => ∃ C f, e = .returned (.slice C 32 f) ∧ Sb w' C 32 f x ∧ Below w.heap.size w w' := by
  have HL := Lib.hid hl
  have HXB := Lib.hid hb
  clear hl hb
  go_enter Tryd.func27, Tryd.ntmps27
  go_wp2_with fail
  refine wp_named2 (fun w1 hb1 g0 g1 hlt1 => ?_)
  have H0 : Hid (RowB w1 26 w.heap.size x) := Lib.hid g0
  have hrow : w1.heap[w.heap.size + 1]? = some (.cells #[] 5 (0, 0)) := g1
  have HO0 : Hid (OwB w1 (w.heap.size + 1) (.slice (some ⟨w.heap.size + 1, 0, none⟩) 0 0) 0 []) := Lib.hid ⟨⟨rfl, .inr ⟨w.heap.size + 1, 0, _, rfl, Nat.le_refl _, hrow, Nat.le_refl _, by unfold maxLen; omega, rfl, rfl⟩⟩, fun _ h => by cases h⟩
  have HB1 := Lib.hid hb1
  clear g0 g1 hb1 hrow
  go_loopw [3, 4] (fun v s wr => ∃ k : Nat, k ≤ 32 ∧ s = .int .i64 k ∧ RowB wr 26 w.heap.size x ∧ OwB wr (w.heap.size + 1) v k (x.take k) ∧ Below w.heap.size w wr ∧ w.heap.size + 1 ≤ wr.heap.size) (fun _ s _ => 32 - (intOf s).toNat)
  case atStart => exact ⟨0, by omega, rfl, H0.out, HO0.out, HB1.out, by omega⟩
  case round =>
    clear H0 HO0 HB1
    obtain ⟨k, hk, rfl, hr, ho, hb, hz⟩ := hrel
    have HR := Lib.hid hr
    have HO := Lib.hid ho
    have HB := Lib.hid hb
    obtain ⟨C, f, rfl, hsl⟩ := ho.sl
    have HSL := Lib.hid hsl
    clear hr ho hb hsl
    by_cases hlt : k < 32
    · have hk1 : (k : Int) < 32 := by omega
      have hk0 : (0 : Int) ≤ (k : Int) := by omega
      have c0 := HR.out.at_ (some_getD (show k < x.length by rw [HL.out]; exact hlt))
      have hxb := getD_byte HXB.out k
      have HTS := Lib.hid (take_snoc (show k < x.length by rw [HL.out]; exact hlt))
      generalize x.getD k 0 = y at *
      go_upto_region 4 with (at_builtin; refine wpList_appendB rfl (.tmp 10) (.tmp 14) rfl (w.heap.size + 1) _ k _ rfl (HO.out.keep ((Below.refl _ _).alloc (Nat.le_refl _) _)) wr.heap.size 1 y rfl (One.new wr _ _) hxb (by omega) (by simp; omega) ?_; intro v1 w2 ho1 hb1; have HO1 := Lib.hid ho1; have HB2 := Lib.hid (((Below.refl (w.heap.size + 1) wr).alloc hz (.cells #[.int .u8 (y : Int)] 5)).trans hb1); obtain ⟨C1, f1, rfl, _⟩ := ho1.sl; clear ho1 hb1)
      go_wp2_with fail
      go_roundw
      case rel => exact ⟨k + 1, by omega, by go_num, HR.out.same (HB2.out.block _ (by omega)), by rw [← HTS.out]; exact HO1.out, HB.out.trans (HB2.out.mono (by omega)), Nat.le_trans hz HB2.out.size⟩
      case measure => simp [intOf]; omega
    · obtain rfl : k = 32 := by omega
      go_wp2_with fail
      go_ret
      refine ⟨C, f, rfl, HSL.out.cast ?_, HB.out⟩
      exact List.take_of_length_le (by rw [HL.out]; exact Nat.le_refl _)
end Go.Proofs.YtliflbelhogopaaDoor
