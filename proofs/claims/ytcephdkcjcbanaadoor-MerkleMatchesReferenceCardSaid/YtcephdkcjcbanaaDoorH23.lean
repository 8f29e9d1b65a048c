/- Several texts in one: Mvd, Mvg. -/
import Derived.Test.YtcephdkcjcbanaaDoorH22
import Derived.Test.YtcephdkcjcbanaaDoorH13
import Derived.Test.YtcephdkcjcbanaaDoorH14
import Derived.Deep.Slices
import Derived.Laws.IdiomArrays
/- What the laws of stage 8 need besides the contracts. -/
namespace Go.Proofs.YtcephdkcjcbanaaDoor
set_option maxRecDepth 8000
set_option linter.unusedVariables false
set_option linter.unusedSimpArgs false
open Go.RowKit
attribute [local simp] z32_ne z32_run
attribute [-simp] Tryd.zeroValue31 Tryd.isAgg31 Tryd.sizeOf31
theorem idxN_pw (n bits : Nat) : (idxN n bits).Pairwise (· < ·) := by
  unfold idxN
  rw [List.pairwise_map]
  refine (List.Pairwise.sublist List.filter_sublist List.pairwise_lt_range).imp ?_
  intro a b h
  omega
theorem idxN_in (n bits : Nat) : ∀ x ∈ idxN n bits, 0 ≤ x ∧ x < (n : Int) := by
  unfold idxN
  intro x hx
  obtain ⟨i, hi, rfl⟩ := List.mem_map.1 hx
  have := List.mem_range.1 (List.mem_filter.1 hi).1
  omega
theorem idxN_inc (n bits : Nat) : incF 0 (n : Int) (idxN n bits) = true := incF_of_pw (idxN_pw n bits) (idxN_in n bits)
theorem ver_honest {ml : List (List Nat)} {m : Nat} {is : List Int} (hl : ml.length = m) (h1 : 1 ≤ m) (h2 : m ≤ 65536) (hinc : incF 0 (m : Int) is = true) :
    verN (rootN ml) (m : Int) is (is.map fun z => ml.getD z.toNat []) (digsN ml (closedN 0 m is)) = 0 := by
  unfold verN
  rw [if_neg (by omega), if_neg (by rw [hinc]; simp), if_neg (by simp), if_neg (by omega), Int.toNat_natCast, if_neg (by unfold digsN; simp)]
  have h := reb_honest (Ls := ml) m h1 0 is [] (by omega) (InS.of_inc hinc)
  rw [List.append_nil] at h
  rw [h, if_neg]
  unfold subL
  rw [List.drop_zero, List.take_of_length_le (by omega)]
  simp
theorem Pb.dropTo {w : World} {ad : Addr} {n c k : Nat} {Ps : List (List Nat)} (h : Pb w (some ad) n c Ps) (hk : k < n) (hc : n ≤ c) : Pb w (some (ad.add k)) (n - k) (c - k) (Ps.drop k) := by
  have := h.drop (k := k) (by omega)
  rwa [if_neg (by omega)] at this
theorem run_neD_same (xs : List Nat) (hx : xs.length = 32) (bx : ∀ x ∈ xs, x < 256) (w : World) :
    (binOp .neq 31 (.agg (celB xs).toArray) (.agg (celB xs).toArray)).run Tryd.prog w = .ok (.bool false) w := by
  rw [run_neD w xs xs hx hx bx bx, decide_eq_true rfl]
  rfl
theorem madeQ_as (A : Option Addr) (n c : Nat) (Ls : List (List Nat)) (bt : Nat) (w : World) (h : Pb w A n c Ls) (hbt : bt < 2 ^ 64) :
    Calls Tryd.prog 10 #[.agg #[.slice A n c, .int .u64 (bt : Int)]] w fun e w' => ∃ ad m d I k f ml is, e = .returned (.tuple #[.slice (some ad) m d, .slice I k f]) ∧ Pb w' (some ad) m d ml ∧ Ib w' I k f is ∧ (1 ≤ m ∧ m ≤ 40 ∧ k ≤ m ∧ m ≤ d) ∧ (∀ l ∈ ml, l.length ≤ 59999) ∧ incF 0 (m : Int) is = true ∧ Below w.heap.size w w' :=
  (madeQ_any A n c Ls bt w h hbt).mono fun e w' ⟨B, m, d, I, k, f, he, hp, hi, hb⟩ => by
    have hm := hp.len
    have h1 := madeL_pos Ls
    have h2 := madeL_le Ls
    obtain ⟨ad, rfl⟩ := hp.some_ (by omega)
    have hkl := hi.len
    have hk := idxN_len (madeL Ls).length bt
    have hcp := hp.cap
    exact ⟨ad, m, d, I, k, f, _, _, he, hp, hi, by omega, madeL_small Ls, by rw [hm]; exact idxN_inc _ _, hb⟩
theorem exec_loadQ {ev : Operand → Value} {o : Oper} {x : Operand} {w : World} (g : Nat) (u1 u2 : Value) (ho : o.op = .load 25 x) (hx : ev x = .pointer (some ⟨g, 0, none⟩)) (hc : w.heap[g]? = some (.cells #[u1, u2] 25 (0, 0))) :
    (execOp ev o).run Tryd.prog w = .ok (.value (.agg #[u1, u2])) w := by
  unfold execOp
  simp only [ho, hx, Instr.loadAt, Instr.sureAddr, Sem.run_bind, Sem.run_pure, Result.andThen_ok]
  rw [run_loadVar_row w g 25 25 #[u1, u2] (0, 0) _ hc Tryd.underlying25 rfl (by kernel_rfl)]
  rfl
theorem leaves_pb (A : Option Addr) (n c : Nat) (Ls : List (List Nat)) (I : Option Addr) (k f : Nat) (is : List Int) (w : World) (h : Pb w A n c Ls) (hi : Ib w I k f is) (hk : k ≤ 1000) (hin : ∀ z ∈ is, 0 ≤ z ∧ z < (n : Int)) (bs : List (List Nat)) (hbs : (is.map fun z => Ls.getD z.toNat []) = bs) :
    Calls Tryd.prog 26 #[.slice A n c, .slice I k f] w fun e w' => ∃ B d, e = .returned (.agg #[.slice I k f, .slice B k d]) ∧ Pb w' B k d bs ∧ Below w.heap.size w w' :=
  (leaves_any A n c Ls I k f is w h hi hk hin).mono fun e w' ⟨v, he, ho, hb⟩ => by
    obtain ⟨B, d, e2, hp⟩ := ho.pb
    subst e2
    rw [hbs] at hp
    exact ⟨B, d, he, hp, hb⟩
end Go.Proofs.YtcephdkcjcbanaaDoor

/- The frames of the laws of stage 8: queries, indices, leaves, openings and memberships that come in are opened. -/
namespace Go.Proofs.YtcephdkcjcbanaaDoor
set_option linter.unusedVariables false
set_option linter.unusedSimpArgs false
set_option maxRecDepth 8000
open Go.ChangeShapes Go.WideShapes Go.ChangeAt Go.RowKit Go.Joins Go.Deep
theorem list_of8 {α : Type} (n : Nat) (P : Nat → α → Prop) (h : ∀ i, i < n → ∃ x, P i x) : ∃ l : List α, l.length = n ∧ ∀ i x, l[i]? = some x → P i x := by
  induction n with
  | zero => exact ⟨[], rfl, fun i x hx => by simp at hx⟩
  | succ n ih =>
    obtain ⟨l, hl, hp⟩ := ih fun i hi => h i (by omega)
    obtain ⟨x, hx⟩ := h n (Nat.lt_succ_self n)
    refine ⟨l ++ [x], by simp [hl], fun i y hy => ?_⟩
    by_cases hi : i < l.length
    · rw [List.getElem?_append_left hi] at hy
      exact hp i y hy
    · rw [List.getElem?_append_right (by omega)] at hy
      have e : i = n := by
        have := (List.getElem?_eq_some_iff.1 hy).1
        simp at this
        omega
      subst e
      rw [show i - l.length = 0 by omega] at hy
      injection hy with hy
      subst hy
      exact hx
section
variable {H : Type} {enc : TypeId × Value → H} {W : World} {base : Nat} {sp : Nat → Bool} {b1 : Nat} {hd : Bool} {v : Value} {d : DataW H} {p : List MemPlace}
theorem cellsP1 : Tryd.prog.cellsOf 44 = 1 := by kernel_rfl
theorem trod_bytess {m : Nat} {c0 : Value} {y : DataW H × List MemPlace} (h : DataW.trod enc Tryd.prog W b1 sp hd m 22 [c0] = some y) : ∃ (A : Option Addr) (n c : Nat) (Ps : List (List Nat)), c0 = .slice A n c ∧ Pb W A n c Ps := by
  obtain ⟨d, p⟩ := y
  rcases open_slice Tryd.underlying22 h with ⟨hcs, _⟩ | ⟨a, len, cap, m', n', D, Pl, hcs, _, hl, hm, hmm, _, hi⟩
  · injection hcs with hcs
    subst hcs
    exact ⟨none, 0, 0, [], rfl, rfl, Nat.le_refl _, Nat.zero_le _, fun _ => rfl, fun i p hp => by simp at hp⟩
  · injection hcs with hcs
    subst hcs
    unfold maxLen at hm
    have hC : ∀ i, i < len → ∃ q : List Nat, ∃ B m d, W.cell? (a.add i) = some (.slice B m d) ∧ Sb W B m d q := fun i hin => by
      obtain ⟨cs', hc, ht⟩ := hi i (by rw [hmm]; split <;> omega)
      rw [cellsP1] at hc
      obtain ⟨_, hcl, hat⟩ := World.cells?_some hc
      match cs', hcl with
      | [c0], _ =>
        obtain ⟨B, m, d, ps, e, hs⟩ := bytes_of_trod ht
        injection e with e
        subst e
        have h0 := hat 0 (by omega)
        simp only [Nat.mul_one] at h0
        exact ⟨ps, B, m, d, h0, hs⟩
    obtain ⟨Qs, hpl, hpp⟩ := list_of8 len _ hC
    refine ⟨some a, len, cap, Qs, rfl, hpl.symm, hl, by omega, (fun e => by cases e), fun i q hq => ?_⟩
    obtain ⟨B, m, d, k1, k2⟩ := hpp i q hq
    exact ⟨a, B, m, d, rfl, k1, k2⟩
theorem cellsQ8 : Tryd.prog.cellsOf 25 = 2 := by kernel_rfl
theorem cellsPP : Tryd.prog.cellsOf 22 = 1 := by kernel_rfl
theorem cellsU64 : Tryd.prog.cellsOf 23 = 1 := by kernel_rfl
theorem open_query8 (hv : Value.okWide Tryd.prog W .any base 25 v) (h : DataW.Trod enc Tryd.prog W b1 sp hd 25 v d p) :
    ∃ (A : Option Addr) (n c : Nat) (Ls : List (List Nat)) (bt : Nat), v = .agg #[.slice A n c, .int .u64 (bt : Int)] ∧ Pb W A n c Ls ∧ bt < 2 ^ 64 := by
  obtain ⟨cs, rfl, hsz, _⟩ : ∃ cs, v = .agg cs ∧ cs.size = Tryd.prog.cellsOf 25 ∧ Row.okWide Tryd.prog W .any base 25 cs := by
    simpa [Value.okWide, Tryd.underlying25] using hv
  rw [cellsQ8] at hsz
  obtain ⟨c0, c1, rfl⟩ := array2 hsz
  obtain ⟨fuel, hf⟩ := h
  obtain ⟨xs, m', _, _, _, hn, hel⟩ := DataW.trod_struct Tryd.underlying25 (show DataW.trod enc Tryd.prog W b1 sp hd fuel 25 [c0, c1] = some (d, p) by simpa [Value.cells] using hf)
  match xs, hn with
  | [y0, y1], _ =>
    have g0 : DataW.trod enc Tryd.prog W b1 sp hd m' 22 [c0] = some y0 := by simpa [cellsPP, cellsU64] using hel 0 _ rfl
    have g1 : DataW.trod enc Tryd.prog W b1 sp hd m' 23 [c1] = some y1 := by simpa [cellsPP, cellsU64] using hel 1 _ rfl
    obtain ⟨A, n, c, Ls, rfl, s0⟩ := trod_bytess g0
    obtain ⟨a3, e3, _, w3⟩ := DataW.trod_int Tryd.underlying23 g1
    simp at e3
    subst e3
    have hb := bounds_u64 w3
    exact ⟨A, n, c, Ls, a3.toNat, by rw [Int.toNat_of_nonneg hb.1], s0, by omega⟩
end
end Go.Proofs.YtcephdkcjcbanaaDoor
