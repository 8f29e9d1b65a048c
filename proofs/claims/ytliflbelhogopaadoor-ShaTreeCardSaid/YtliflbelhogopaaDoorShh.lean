/- Contracts of package sha256: the iterator over the blocks of a message. -/
import Derived.Test.YtliflbelhogopaaDoorShj
import Derived.Sort.CutIn
namespace Go.Proofs.YtliflbelhogopaaDoor
set_option maxRecDepth 8000
open Go.RowKit
open Go.Shelf
attribute [local go_sem] Oper.semAt_some
theorem Sb.empty (w : World) (A : Option Addr) (c : Nat) (hc : c ≤ 9223372036854775807) (h0 : A = none → c = 0) : Sb w A 0 c [] := ⟨rfl, Nat.zero_le _, hc, h0, (fun _ h => by cases h), fun i z hz => by simp at hz⟩
/-- what a yielded slice reads as: block i of the message -/
def BlkX (p : List Nat) (i : Nat) (x : Addr × Nat) (w : World) : Prop := Blk w x.1 (blkF p i) ∧ 64 ≤ x.2 ∧ x.2 ≤ 9223372036854775807
theorem blkx_part {Ps : List (List Nat)} {i g base : Nat} {w : World} (h : OwB w base (.slice (some ⟨g, 0, none⟩) 64 64) 64 ((Ps.flatten.drop (64 * i)).take 64)) (hb : ∀ x ∈ Ps.flatten, x < 256) : BlkX Ps.flatten i ((⟨g, 0, none⟩ : Addr), 64) w := by
  refine ⟨⟨fun j => blkF_lt hb i j, fun j hj => ?_⟩, Nat.le_refl _, by omega⟩
  have h1 := h.sl'.at_ (i := j) (by omega)
  rwa [part_blk hj] at h1
theorem wpListIn_appendBf {F : Fence} {N : Nat} {ops : Array Oper} {rest : List Oper} {o : Oper} {a : Act} {Q : Exit → Act → World → Prop} {w : World} (hgd : o.guard = none) (s x : Operand)
    (ho : o.op = .call { callee := .builtin .append, args := #[s, x], argTypes := #[22, 22] }) (base g k cap : Nat) (bs : List Nat) (hs : a.eval s = .slice (some ⟨g, 0, none⟩) k cap) (hown : OwB w base (.slice (some ⟨g, 0, none⟩) k cap) k bs)
    (ad : Addr) (m c : Nat) (ys : List Nat) (hx : a.eval x = .slice (some ad) m c) (hy : Sb w (some ad) m c ys) (k2 : Nat) (hk2 : k + m = k2) (hn : k2 ≤ cap) (hbase : base ≤ w.heap.size)
    (h : ∀ w', OwB w' base (.slice (some ⟨g, 0, none⟩) k2 cap) k2 (bs ++ ys) → Below base w w' → wpListIn F N Tryd.prog ops Q rest (a.put o.dst (.slice (some ⟨g, 0, none⟩) k2 cap)) w') : wpListIn F N Tryd.prog ops Q (o :: rest) a w := by
  subst hk2
  obtain ⟨i, hi, hz, hs2, hb⟩ := info_parts u8_info
  refine wpListIn_append_fits w hgd s x 22 ho base 5 i 1 Tryd.underlying22 hi hs2 g k cap (celB bs) hs hown.1 ad m c (celB ys) hx (by rw [celB_length, ← hy.len, Nat.mul_one]) (celB_src hy) (fun u hu => celB_one' hu) hn ?_
  intro w' hown' hg
  refine h w' ⟨?_, fun z hz => ?_⟩ (OwB.below hown hg hbase)
  · rw [celB_append]
    exact hown'
  · rcases List.mem_append.1 hz with hz | hz
    · exact hown.2 z hz
    · exact hy.byte z hz
set_option maxRecDepth 100000 in
set_option maxHeartbeats 4000000 in
theorem blk_iter (G : World → Prop) (A : Option Addr) (n c : Nat) (Ps : List (List Nat)) (hP : PbG G A n c Ps) (hn : n ≤ 1000) (K b1 : Nat) (hK : sumL Ps = 64 * K) (hKs : sumL Ps ≤ 80000) (hpb : ∀ x ∈ Ps.flatten, x < 256)
    (l : Nat) (W : World) (J Jx : Nat → World → Prop) (hJ : ∀ i A B, J i A → Below W.heap.size A B → J i B) (hJB : ∀ i B, J i B → G B ∧ W.heap.size ≤ B.heap.size) (hc1 : W.cell? ⟨b1, 0, none⟩ = some (.slice A n c))
    (hY : ∀ i (x : Addr × Nat) B, i < K → J i B → BlkX Ps.flatten i x B → YieldAt Fence.wide 1 Tryd.prog l #[.slice (some x.1) 64 x.2] B fun e B' => (e = .returned (.bool true) ∧ J (i + 1) B' ∧ KeepA W.heap.size B B') ∨ (e = .returned (.bool false) ∧ Jx i B'))
    (h0 : J 0 W) :
    CallsIn Fence.wide 2 Tryd.prog 40 (#[.func (.yield l) #[] #[]] ++ #[.pointer (some ⟨b1, 0, none⟩)]) W fun e B => (∃ v, e = .returned v) ∧ (J K B ∨ ∃ i, i < K ∧ Jx i B) := by
  have hcap := hP.cap
  have htop := hP.top
  have HP := Lib.hid hP
  have HJ := Lib.hid hJ
  have HJB := Lib.hid hJB
  have HPB := Lib.hid hpb
  have HK := Lib.hid hK
  have H0 := Lib.hid h0
  clear hP hJ hJB h0 hpb hK
  refine callsIn_of_wp Tryd.func40 rfl trivial ?_ rfl
  simp only [Tryd.ntmps40, List.size_toArray, List.length_cons, List.length_nil, Nat.reduceAdd, Nat.reduceSub, Array.replicate_succ, Array.replicate_zero, List.push_toArray, List.append_toArray, List.nil_append, List.cons_append]
  have hmk0 : ∀ w : World, (Instr.makeSlice 22 (.int .i64 0) (.int .i64 64)).run Tryd.prog w = .ok (.slice (some ⟨w.heap.size, 0, none⟩) 0 64) (w.alloc (.cells (celB (List.replicate 64 0)).toArray 5)) := fun w => run_makeB 0 64 (by omega) (by omega) w
  have HO1 := Lib.hid (OwB.fresh W 64 (by omega))
  obtain ⟨zs, hzs⟩ : ∃ zs : List Value, zs = celB (List.replicate 64 0) := ⟨_, rfl⟩
  rw [← hzs] at HO1
  have hmk : ∀ w : World, (Instr.makeSlice 22 (.int .i64 0) (.int .i64 64)).run Tryd.prog w = .ok (.slice (some ⟨w.heap.size, 0, none⟩) 0 64) (w.alloc (.cells zs.toArray 5)) := fun w => by rw [hzs]; exact hmk0 w
  clear hmk0 hzs
  have hc1' := cell_alloc hc1 (.cells zs.toArray 5)
  gi_wp2
  clear hmk hc1 hc1'
  have HJ1 := Lib.hid (HJ.out 0 W _ H0.out ((Below.refl _ _).alloc (Nat.le_refl _) (.cells zs.toArray 5)))
  clear H0
  generalize W.alloc (.cells zs.toArray 5) = W1 at *
  gi_loopw [3, 11] (fun pt s wr => ∃ k i r : Nat, k ≤ n ∧ r < 64 ∧ s = .int .i64 k ∧ pt = .slice (some ⟨W.heap.size, 0, none⟩) r 64 ∧ 64 * i + r = sumL (Ps.take k) ∧ J i wr ∧ OwB wr W.heap.size (.slice (some ⟨W.heap.size, 0, none⟩) r 64) r ((Ps.flatten.drop (64 * i)).take r)) (fun _ s _ => n - (intOf s).toNat)
  case atStart => exact ⟨0, 0, 0, Nat.zero_le _, by omega, rfl, rfl, rfl, HJ1.out, HO1.out⟩
  case round =>
    clear HJ1 HO1
    obtain ⟨k, i, r, hk, hr, rfl, rfl, hir, hj, ho⟩ := hrel
    have HIR := Lib.hid hir
    have HJi := Lib.hid hj
    have HO := Lib.hid ho
    have hg := (HJB.out i wr hj).1
    clear hir hj ho
    by_cases hlt : k < n
    · have hk1 : (k : Int) < (n : Int) := by omega
      have hk0 : (0 : Int) ≤ (k : Int) := by omega
      obtain ⟨q, hq⟩ : ∃ q, Ps[k]? = some q := ⟨Ps[k]'(by have := HP.out.len; omega), List.getElem?_eq_getElem _⟩
      obtain ⟨ad, B, m, d, rfl, hG⟩ := HP.out.cells k q hq
      obtain ⟨hc, hs⟩ := hG wr hg
      have HQ := Lib.hid hq
      have HG := Lib.hid hG
      obtain rfl : m = q.length := hs.len
      have hST := sumL_take hq
      have hSL := sumL_le Ps (k + 1)
      rw [hST] at hSL
      have HST := Lib.hid hST
      clear hq hs hg hG hST
      gi_wp2
      have HLT := Lib.hid hlt
      clear hc hlt hk1
      gi_loopw [3, 5] (fun pt rs wr => ∃ i r t m d, ∃ R : Option Addr, r < 64 ∧ t ≤ q.length ∧ m = q.length - t ∧ pt = .slice (some ⟨W.heap.size, 0, none⟩) r 64 ∧ rs = .slice R m d ∧ 64 * i + r = sumL (Ps.take k) + t ∧ (∀ w, G w → Sb w R m d (q.drop t)) ∧ J i wr ∧ OwB wr W.heap.size (.slice (some ⟨W.heap.size, 0, none⟩) r 64) r ((Ps.flatten.drop (64 * i)).take r)) (fun _ rs _ => match rs with | .slice _ m _ => m | _ => 0)
      case atStart => exact ⟨i, r, 0, q.length, d, B, hr, Nat.zero_le _, by omega, rfl, rfl, HIR.out, fun w hw => (HG.out w hw).2, HJi.out, HO.out⟩
      case round =>
        clear HIR HJi HO HG hr
        obtain ⟨i, r, t, m, d, R, hr, ht, hm, rfl, rfl, hir, hS, hj, ho⟩ := hrel
        have HIR := Lib.hid hir
        have HJi := Lib.hid hj
        have HO := Lib.hid ho
        have HS := Lib.hid hS
        have hg := (HJB.out i wr hj).1
        have hsb := hS wr hg
        have hmd := hsb.cap
        have hdt := hsb.top
        clear hir hj ho hS
        have HMq := Lib.hid hm
        clear hm
        by_cases hm0 : m = 0
        · subst hm0
          have hm1 : ¬ ((0 : Int) < ((0 : Nat) : Int)) := by simp
          have htq : t = q.length := by have := HMq.out; omega
          subst htq
          gi_wp2
          go_roundw
          case rel =>
            refine ⟨k + 1, i, r, HLT.out, hr, by go_num, rfl, ?_, HJi.out, HO.out⟩
            rw [HST.out]; exact HIR.out
          case measure => have := HLT.out; simp [intOf]; omega
        · have hm1 : (0 : Int) < (m : Int) := by omega
          obtain ⟨ad2, rfl⟩ := hsb.some_ (by omega)
          obtain ⟨M, hM⟩ : ∃ M, M = 64 - r := ⟨_, rfl⟩
          have e1 : (64 : Int) - (r : Int) = (M : Int) := by omega
          have HM := Lib.hid hM
          have hM1 : 1 ≤ M ∧ M ≤ 64 := by omega
          clear hM
          have hbase := (HJB.out i wr HJi.out).2
          by_cases hmM : m < M
          · have hm64 : (m : Int) < 64 := by omega
            have hrm : r + m < 64 := by have := HM.out; omega
            have hrm2 : ((r + m : Nat) : Int) < 64 := by omega
            by_cases hd : m = d
            · subst hd
              have hd0 := hm0
              have hsbm := hsb.take (Nat.le_refl m)
              gi_wp2_with (gi_at_builtin; refine wpListIn_appendBf rfl (.tmp 32) (.tmp 33) rfl W.heap.size W.heap.size r 64 _ rfl HO.out ad2 m _ _ rfl hsbm (r + m) (by omega) (by omega) hbase ?_; intro W2 ho2 hb2; have HO2 := Lib.hid ho2; have HB2 := Lib.hid hb2; clear ho2 hb2)
              go_roundw
              case rel =>
                have htq : t + m = q.length := by have := HMq.out; omega
                have hnx := flat_next (i := i) (r := r) (t := t) (n := m) HQ.out (by omega) HIR.out
                refine ⟨i, r + m, t + m, 0, _, _, hrm, by omega, by omega, rfl, rfl, by have := HIR.out; omega, fun w hw => ?_, HJ.out i _ _ HJi.out HB2.out, ?_⟩
                · rw [List.drop_of_length_le (by omega)]
                  exact Sb.empty _ _ _ (by omega) (fun e => by cases e)
                · rw [← hnx]
                  exact HO2.out
              case measure => simp; omega
            · have hd2 : ¬ d = m := fun e => hd e.symm
              clear hd
              have hsbm := hsb.take (Nat.le_refl m)
              gi_wp2_with (gi_at_builtin; refine wpListIn_appendBf rfl (.tmp 32) (.tmp 33) rfl W.heap.size W.heap.size r 64 _ rfl HO.out ad2 m _ _ rfl hsbm (r + m) (by omega) (by omega) hbase ?_; intro W2 ho2 hb2; have HO2 := Lib.hid ho2; have HB2 := Lib.hid hb2; clear ho2 hb2)
              go_roundw
              case rel =>
                have htq : t + m = q.length := by have := HMq.out; omega
                have hnx := flat_next (i := i) (r := r) (t := t) (n := m) HQ.out (by omega) HIR.out
                refine ⟨i, r + m, t + m, 0, _, _, hrm, by omega, by omega, rfl, rfl, by have := HIR.out; omega, fun w hw => ?_, HJ.out i _ _ HJi.out HB2.out, ?_⟩
                · rw [List.drop_of_length_le (by omega)]
                  exact Sb.empty _ _ _ (by omega) (fun e => by cases e)
                · rw [← hnx]
                  exact HO2.out
              case measure => simp; omega
          · have htM : t + M ≤ q.length := by have := HMq.out; omega
            have hi : i < K := by have := HIR.out; have := HM.out; have := HK.out; omega
            have htM' : M ≤ m := by omega
            by_cases h64 : M = 64
            · subst h64
              obtain rfl : r = 0 := by have := HM.out; omega
              have hx : BlkX Ps.flatten i (ad2, d) wr := by
                refine ⟨⟨fun j => blkF_lt HPB.out i j, fun j hj => ?_⟩, by omega, by omega⟩
                have h1 := hsb.at_ (i := j) (by omega)
                rwa [flat_blk HQ.out (by omega) (by have := HIR.out; omega) hj] at h1
              obtain ⟨fn, tmps, assign, body, hy, hR⟩ := hY i (ad2, d) wr hi HJi.out hx
              clear hx
              have HM : Hid ((64 : Nat) = 64 - 0) := Lib.hid rfl
              by_cases hd : d = 64
              · subst hd
                have hS2 := fun w (hw : G w) => (HS.out w hw).drop (k := 64) (by omega)
                rw [if_pos rfl, show m - 64 = 0 by omega] at hS2
                simp only [List.drop_drop, Nat.sub_self] at hS2
                have HS2 := Lib.hid hS2
                clear hS2
                gi_wp2
                clear hy
                refine hR.mono ?_
                rintro e W3 (⟨rfl, hj3, hk3⟩ | ⟨rfl, hx3⟩)
                · have HJ3 := Lib.hid hj3
                  have HO3 := Lib.hid (HO.out.same hk3.2)
                  clear hj3 hk3
                  gi_wp2
                  go_roundw
                  case rel =>
                    refine ⟨i + 1, 0, t + 64, 0, _, _, by omega, htM, by have := HMq.out; omega, rfl, rfl, by have := HIR.out; have := HM.out; omega, fun w hw => ?_, HJ3.out, HO3.out.zero⟩
                    exact HS2.out w hw
                  case measure => simp; omega
                · gi_wp2
                  refine bodyPost_ret (results_none rfl _ _ _) rfl ?_
                  exact ⟨⟨_, rfl⟩, .inr ⟨i, hi, hx3⟩⟩
              · have hS2 := fun w (hw : G w) => (HS.out w hw).drop (k := 64) (by omega)
                rw [if_neg hd] at hS2
                simp only [List.drop_drop] at hS2
                have HS2 := Lib.hid hS2
                clear hS2
                gi_wp2
                clear hy
                refine hR.mono ?_
                rintro e W3 (⟨rfl, hj3, hk3⟩ | ⟨rfl, hx3⟩)
                · have HJ3 := Lib.hid hj3
                  have HO3 := Lib.hid (HO.out.same hk3.2)
                  clear hj3 hk3
                  gi_wp2
                  go_roundw
                  case rel =>
                    refine ⟨i + 1, 0, t + 64, m - 64, _, _, by omega, htM, by have := HMq.out; omega, rfl, rfl, by have := HIR.out; have := HM.out; omega, fun w hw => ?_, HJ3.out, HO3.out.zero⟩
                    exact HS2.out w hw
                  case measure => simp; omega
                · gi_wp2
                  refine bodyPost_ret (results_none rfl _ _ _) rfl ?_
                  exact ⟨⟨_, rfl⟩, .inr ⟨i, hi, hx3⟩⟩
            · have hM64 : (M : Int) < 64 := by omega
              by_cases hd : M = d
              · subst hd
                have hsbm := hsb.take htM'
                have hS2 := fun w (hw : G w) => (HS.out w hw).drop (k := M) (by omega)
                rw [if_pos rfl, show m - M = 0 by omega] at hS2
                simp only [List.drop_drop, Nat.sub_self] at hS2
                have HS2 := Lib.hid hS2
                clear hS2
                gi_wp2_with (gi_at_builtin; refine wpListIn_appendBf rfl (.tmp 32) (.tmp 33) rfl W.heap.size W.heap.size r 64 _ rfl HO.out ad2 M _ _ rfl hsbm 64 (by have := HM.out; omega) (by omega) hbase ?_; intro W2 ho2 hb2; rw [flat_next HQ.out htM HIR.out, show r + M = 64 by have := HM.out; omega] at ho2; have HO2 := Lib.hid ho2; have HB2 := Lib.hid hb2; clear ho2 hb2; have hx : BlkX Ps.flatten i ((⟨W.heap.size, 0, none⟩ : Addr), 64) W2 := blkx_part HO2.out HPB.out; obtain ⟨fn, tmps, assign, body, hy, hR⟩ := hY i ((⟨W.heap.size, 0, none⟩ : Addr), 64) W2 hi (HJ.out i _ _ HJi.out HB2.out) hx; clear hx)
                clear hy
                refine hR.mono ?_
                rintro e W3 (⟨rfl, hj3, hk3⟩ | ⟨rfl, hx3⟩)
                · have HJ3 := Lib.hid hj3
                  have HO3 := Lib.hid (HO2.out.same hk3.2)
                  clear hj3 hk3
                  gi_wp2
                  go_roundw
                  case rel =>
                    refine ⟨i + 1, 0, t + M, 0, _, _, by omega, htM, by have := HMq.out; omega, rfl, rfl, by have := HIR.out; have := HM.out; omega, fun w hw => ?_, HJ3.out, HO3.out.zero⟩
                    exact HS2.out w hw
                  case measure => simp; omega
                · gi_wp2
                  refine bodyPost_ret (results_none rfl _ _ _) rfl ?_
                  exact ⟨⟨_, rfl⟩, .inr ⟨i, hi, hx3⟩⟩
              · have hd2 : ¬ d = M := fun e => hd e.symm
                clear hd
                have hsbm := hsb.take htM'
                have hS2 := fun w (hw : G w) => (HS.out w hw).drop (k := M) (by omega)
                rw [if_neg hd2] at hS2
                simp only [List.drop_drop] at hS2
                have HS2 := Lib.hid hS2
                clear hS2
                gi_wp2_with (gi_at_builtin; refine wpListIn_appendBf rfl (.tmp 32) (.tmp 33) rfl W.heap.size W.heap.size r 64 _ rfl HO.out ad2 M _ _ rfl hsbm 64 (by have := HM.out; omega) (by omega) hbase ?_; intro W2 ho2 hb2; rw [flat_next HQ.out htM HIR.out, show r + M = 64 by have := HM.out; omega] at ho2; have HO2 := Lib.hid ho2; have HB2 := Lib.hid hb2; clear ho2 hb2; have hx : BlkX Ps.flatten i ((⟨W.heap.size, 0, none⟩ : Addr), 64) W2 := blkx_part HO2.out HPB.out; obtain ⟨fn, tmps, assign, body, hy, hR⟩ := hY i ((⟨W.heap.size, 0, none⟩ : Addr), 64) W2 hi (HJ.out i _ _ HJi.out HB2.out) hx; clear hx)
                clear hy
                refine hR.mono ?_
                rintro e W3 (⟨rfl, hj3, hk3⟩ | ⟨rfl, hx3⟩)
                · have HJ3 := Lib.hid hj3
                  have HO3 := Lib.hid (HO2.out.same hk3.2)
                  clear hj3 hk3
                  gi_wp2
                  go_roundw
                  case rel =>
                    refine ⟨i + 1, 0, t + M, m - M, _, _, by omega, htM, by have := HMq.out; omega, rfl, rfl, by have := HIR.out; have := HM.out; omega, fun w hw => ?_, HJ3.out, HO3.out.zero⟩
                    exact HS2.out w hw
                  case measure => simp; omega
                · gi_wp2
                  refine bodyPost_ret (results_none rfl _ _ _) rfl ?_
                  exact ⟨⟨_, rfl⟩, .inr ⟨i, hi, hx3⟩⟩
    · have hkn : k = n := by omega
      subst hkn
      have hts : Ps.take k = Ps := List.take_of_length_le (by have := HP.out.len; omega)
      have hir := HIR.out
      rw [hts, HK.out] at hir
      obtain rfl : i = K := by omega
      clear hir hts
      gi_wp2
      go_end0
      exact ⟨⟨_, rfl⟩, .inl HJi.out⟩
end Go.Proofs.YtliflbelhogopaaDoor
