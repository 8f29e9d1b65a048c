/- The reference's Hex. -/
import Derived.Test.YtliflbelhogopaaDoorShx
import Derived.Test.YtliflbelhogopaaDoorHeld4
namespace Go.Proofs.YtliflbelhogopaaDoor
set_option maxRecDepth 8000
open Go.RowKit
attribute [local simp] z32_ne z32_run
attribute [-simp] Tryd.zeroValue26 Tryd.isAgg26 Tryd.sizeOf26
def hexd (i : Nat) : Nat := [48, 49, 50, 51, 52, 53, 54, 55, 56, 57, 97, 98, 99, 100, 101, 102].getD i 0
def hexN (bs : List Nat) : List Nat := bs.flatMap fun b => [hexd (b / 16), hexd (b % 16)]
theorem hexN_length (bs : List Nat) : (hexN bs).length = 2 * bs.length := by
  unfold hexN
  induction bs with
  | nil => rfl
  | cons b bs ih => rw [List.flatMap_cons, List.length_append, ih]; simp; omega
theorem hexN_snoc (bs : List Nat) (b : Nat) : hexN (bs ++ [b]) = hexN bs ++ [hexd (b / 16), hexd (b % 16)] := by
  unfold hexN
  rw [List.flatMap_append]
  simp
def hexS (bs : List Nat) : ByteArray := ⟨((hexN bs).map UInt8.ofNat).toArray⟩
theorem run_hexS {P : Program} {w : World} {src dst e : TypeId} {A : Option Addr} {n c : Nat} {bs : List Nat} (h : Sb w A n c bs) (hn : 0 < n) (hs : P.underlying src = some (.slice e)) (he : P.underlying e = some (.int .u8)) (hd : P.underlying dst = some .string) :
    (convert src dst (.slice A n c)).run P w = .ok (.string ⟨(bs.map UInt8.ofNat).toArray⟩) w := by
  obtain ⟨ad, rfl⟩ := h.some_ hn
  have hl : n = (bs.map UInt8.ofNat).length := by rw [List.length_map]; exact h.len
  rw [hl]
  refine run_convert_bytes_back w src dst e ad c (bs.map UInt8.ofNat) hs he hd (fun j hj => ?_)
  have hj2 : j < bs.length := by simpa using hj
  have h1 := h.at_ (i := j) (by rw [h.len]; exact hj2)
  rw [h1]
  have hb := h.byte (bs.getD j 0) (by rw [List.getD_eq_getElem?_getD, List.getElem?_eq_getElem hj2]; exact List.getElem_mem hj2)
  simp only [List.getElem_map, UInt8.toNat_ofNat']
  rw [List.getD_eq_getElem?_getD, List.getElem?_eq_getElem hj2] at hb ⊢
  simp only [Option.getD_some] at hb ⊢
  rw [Nat.mod_eq_of_lt hb]
def hexA : ByteArray := ⟨#[48, 49, 50, 51, 52, 53, 54, 55, 56, 57, 97, 98, 99, 100, 101, 102]⟩
theorem hexd_lt (i : Nat) : hexd i < 256 := by
  unfold hexd
  exact getD_byte (by decide) i
theorem run_hexd {ev : Operand → Value} {o : Oper} {s p : Operand} (i : Nat) (hi : i < 16) (ho : o.op = .index 9 s p) (hs : ev s = .string hexA) (hp : ev p = .int .u8 (i : Int)) (w : World) :
    (execOp ev o).run Tryd.prog w = .ok (.value (.int .u8 (hexd i : Nat))) w := by
  unfold execOp
  rw [ho]
  simp only [hs, hp]
  rcases (by omega : i = 0 ∨ i = 1 ∨ i = 2 ∨ i = 3 ∨ i = 4 ∨ i = 5 ∨ i = 6 ∨ i = 7 ∨ i = 8 ∨ i = 9 ∨ i = 10 ∨ i = 11 ∨ i = 12 ∨ i = 13 ∨ i = 14 ∨ i = 15) with rfl | rfl | rfl | rfl | rfl | rfl | rfl | rfl | rfl | rfl | rfl | rfl | rfl | rfl | rfl | rfl <;> kernel_rfl
theorem run_buildB2 {ev : Operand → Value} {o : Oper} {x y : Operand} (u v : Nat) (ho : o.op = .buildSlice 22 2 #[(0, x), (1, y)]) (hx : ev x = .int .u8 (u : Int)) (hy : ev y = .int .u8 (v : Int)) (w : World) :
    (execOp ev o).run Tryd.prog w = .ok (.value (.slice (some ⟨w.heap.size, 0, none⟩) 2 2)) (w.alloc (.cells #[.int .u8 (u : Int), .int .u8 (v : Int)] 5)) := by
  unfold execOp
  rw [ho]
  simp only [List.map_toArray, List.map_cons, List.map_nil, hx, hy]
  go_simp
theorem hOp_appendB2 {o : Oper} {a : Act} {w : World} {K : Value → World → Prop} (s x : Operand)
    (ho : o.op = .call { callee := .builtin .append, args := #[s, x], argTypes := #[22, 22] }) (base : Nat) (v : Value) (n : Nat) (bs : List Nat) (hs : a.eval s = v) (hown : OwB w base v n bs)
    (ad : Addr) (m c : Nat) (ys : List Nat) (hx : a.eval x = .slice (some ad) m c) (hy : Sb w (some ad) m c ys) (hn : n + m ≤ 70000) (hbase : base ≤ w.heap.size)
    (h : ∀ v' w', OwB w' base v' (n + m) (bs ++ ys) → Below base w w' → K v' w') : H4.hOp Tryd.prog o K a w := by
  obtain ⟨i, hi, hz, hs2, hb⟩ := info_parts u8_info
  obtain ⟨v', w', hrun, hown', hg, _⟩ := run_append_own (P := Tryd.prog) w base 22 o.type 5 i (.int .u8 0) 1 1 Tryd.underlying22 hi hz hs2 hb rfl (by omega) v n (celB bs) hown.1 ad m c (celB ys) (by rw [celB_length, ← hy.len, Nat.mul_one]) (celB_src hy) (fun u hu => celB_one' hu) (by unfold maxLen; omega) (by omega) hbase
  unfold H4.hOp execOp
  simp only [ho, resolve, invoke, builtin, Sem.run_bind, Sem.run_pure, Result.andThen_ok, List.map_toArray, List.map_cons, List.map_nil, hs, hx, hrun]
  refine h v' w' ⟨?_, fun z hz => ?_⟩ (OwB.below hown hg hbase)
  · rw [celB_append]
    exact hown'
  · rcases List.mem_append.1 hz with hz | hz
    · exact hown.2 z hz
    · exact hy.byte z hz
set_option maxHeartbeats 2000000 in
theorem rhex_any (x : List Nat) (w : World) (hl : x.length = 32) (hb : ∀ z ∈ x, z < 256) :
    Calls Tryd.prog 30 #[.agg (celB x).toArray] w fun e w' => e = .returned (.string (hexS x)) ∧ Below w.heap.size w w' := by
  have HL := Lib.hid hl
  have HXB := Lib.hid hb
  clear hl hb
  go_enter Tryd.func30, Tryd.ntmps30
  go_wp2_with fail
  refine wp_named2 (fun w1 hb1 g0 g1 hlt1 => ?_)
  have H0 : Hid (RowB w1 26 w.heap.size x) := Lib.hid g0
  have hrow : w1.heap[w.heap.size + 1]? = some (.cells #[] 5 (0, 0)) := g1
  have HB1 := Lib.hid hb1
  have HO0 := Lib.hid (OwB.nil1 g1 (Nat.le_refl _))
  clear g0 g1 hb1 hrow
  go_loopw [4, 5] (fun v s wr => ∃ k : Nat, k ≤ 32 ∧ s = .int .i64 k ∧ RowB wr 26 w.heap.size x ∧ OwB wr (w.heap.size + 1) v (2 * k) (hexN (x.take k)) ∧ Below w.heap.size w wr ∧ w.heap.size + 1 ≤ wr.heap.size) (fun _ s _ => 32 - (intOf s).toNat)
  case atStart => exact ⟨0, by omega, rfl, H0.out, HO0.out, HB1.out, by omega⟩
  case round =>
    clear H0 HO0 HB1
    obtain ⟨k, hk, rfl, hr, ho, hb, hz⟩ := hrel
    have HR := Lib.hid hr
    have HO := Lib.hid ho
    have HB := Lib.hid hb
    obtain ⟨C, f, rfl, hsl⟩ := ho.sl
    have HSL := Lib.hid hsl
    clear hr ho hb hsl
    by_cases hlt : k < 32
    · have hk1 : (k : Int) < 32 := by omega
      have hk0 : (0 : Int) ≤ (k : Int) := by omega
      have c0 := H4.LaterB.cell (B := w.heap.size + 1) (HR.out.at_ (some_getD (show k < x.length by rw [HL.out]; exact hlt))) (show w.heap.size < w.heap.size + 1 by omega)
      have hxb := getD_byte HXB.out k
      have HTS := Lib.hid (take_snoc (show k < x.length by rw [HL.out]; exact hlt))
      generalize x.getD k 0 = y at *
      go_wp2_with fail
      refine H4.wp_heldB (w.heap.size + 1) (by kernel_rfl) (lexOK_of (by kernel_rfl) (by kernel_rfl)) (H4.chainOK_of (by kernel_rfl)) (fun W0 hbW hSW => ?_)
      have HR0 := Lib.hid (HR.out.keep hbW)
      have HO0 := Lib.hid (HO.out.keep hbW)
      have HB0 := Lib.hid (bel_step HB.out hbW)
      have HS0 := Lib.hid hSW
      have hz0 : w.heap.size + 1 ≤ W0.heap.size := by have := hbW.size; omega
      clear hbW hSW
      refine H4.wpHeld_seg 13 HS0.out (by kernel_rfl) ?_
      simp only [List.take_succ_cons, List.take_zero, List.drop_succ_cons, List.drop_zero]
      repeat (go_big_quiet_step (fail))
      refine wpQuiet_val (by kernel_rfl) _ (fun v _ => run_hexd (y / 16) (by omega) rfl rfl rfl v) ?_
      simp only [Act.put, List.setIfInBounds_toArray, List.set_cons_zero, List.set_cons_succ]
      repeat (go_big_quiet_step (fail))
      refine wpQuiet_val (by kernel_rfl) _ (fun v _ => run_hexd (y % 16) (by omega) rfl rfl rfl v) ?_
      simp only [Act.put, List.setIfInBounds_toArray, List.set_cons_zero, List.set_cons_succ]
      refine wpQuiet_nil ?_
      have hb1 : Below W0.heap.size W0 (W0.alloc (.cells #[.int .u8 ((hexd (y / 16) : Nat) : Int), .int .u8 ((hexd (y % 16) : Nat) : Int)] 5)) := (Below.refl _ _).alloc (Nat.le_refl _) _
      refine H4.wpHeld_run _ _ (by kernel_rfl) (by kernel_rfl) (run_buildB2 (hexd (y / 16)) (hexd (y % 16)) rfl rfl rfl _) (H4.LaterB.step HS0.out (hb1.mono hz0)) ?_
      simp only [Act.put, List.setIfInBounds_toArray, List.set_cons_zero, List.set_cons_succ]
      have hrw : RowB (W0.alloc (.cells #[.int .u8 ((hexd (y / 16) : Nat) : Int), .int .u8 ((hexd (y % 16) : Nat) : Int)] 5)) 5 W0.heap.size [hexd (y / 16), hexd (y % 16)] := heap_new W0 _
      have hs2 := hrw.all (n := 2) (c := 2) (by intro z hz; simp at hz; rcases hz with rfl | rfl <;> exact hexd_lt _) rfl (Nat.le_refl _) (by omega)
      have HO1 := Lib.hid (HO0.out.keep hb1)
      have HS1 := Lib.hid (H4.LaterB.step HS0.out (hb1.mono hz0))
      have HB1 := Lib.hid (hb1.mono hz0)
      have hz1 : w.heap.size + 1 ≤ (W0.alloc (.cells #[.int .u8 ((hexd (y / 16) : Nat) : Int), .int .u8 ((hexd (y % 16) : Nat) : Int)] 5)).heap.size := Nat.le_trans hz0 hb1.size
      clear hb1 hrw
      generalize W0.alloc (.cells #[.int .u8 ((hexd (y / 16) : Nat) : Int), .int .u8 ((hexd (y % 16) : Nat) : Int)] 5) = W1 at *
      refine H4.wpHeld_op (by kernel_rfl) (by kernel_rfl) ?_
      refine hOp_appendB2 (.tmp 11) (.tmp 24) rfl (w.heap.size + 1) _ (2 * k) _ rfl HO1.out ⟨W0.heap.size, 0, none⟩ 2 2 _ rfl hs2 (by omega) hz1 ?_
      intro v2 W2 ho2 hb2
      obtain ⟨C2, f2, rfl, _⟩ := ho2.sl
      have HO2 := Lib.hid ho2
      have HB2 := Lib.hid (HB1.out.trans hb2)
      have HS2 := Lib.hid (H4.LaterB.step HS1.out hb2)
      clear ho2 hb2
      refine ⟨HS2.out, ?_⟩
      simp only [Act.put, List.setIfInBounds_toArray, List.set_cons_zero, List.set_cons_succ]
      refine H4.wpHeld_seg 1 HS2.out (by kernel_rfl) ?_
      simp only [List.take_succ_cons, List.take_zero, List.drop_succ_cons, List.drop_zero]
      repeat (go_big_quiet_step (fail))
      refine wpQuiet_nil (H4.wpHeld_nil ?_)
      go_wp2_with fail
      go_roundw
      case rel => exact ⟨k + 1, by omega, by go_num, HR0.out.same (HB2.out.block _ (by omega)), by rw [← HTS.out, hexN_snoc]; exact HO2.out, HB0.out.trans (HB2.out.mono (by omega)), Nat.le_trans hz0 HB2.out.size⟩
      case measure => simp [intOf]; omega
    · obtain rfl : k = 32 := by omega
      have hcv : ∀ dst, Tryd.prog.underlying dst = some .string → (convert 22 dst (.slice C (2 * 32) f)).run Tryd.prog wr = .ok (.string (hexS x)) wr := fun dst hd => by
        have := run_hexS (P := Tryd.prog) (dst := dst) HSL.out (by omega) Tryd.underlying22 Tryd.underlying5 hd
        rw [List.take_of_length_le (by rw [HL.out]; exact Nat.le_refl _)] at this
        exact this
      have hcv2 := hcv 9 Tryd.underlying9
      clear hcv
      obtain ⟨hx, HX⟩ : ∃ h, Hid (hexS x = h) := ⟨_, Lib.hid rfl⟩
      rw [HX.out] at hcv2
      go_wp2_with fail
      refine bodyPost_ret (v := .string hx) ?_ rfl ⟨by rw [HX.out], HB.out⟩
      simp [results, Tryd.results30, go_sem]
end Go.Proofs.YtliflbelhogopaaDoor
