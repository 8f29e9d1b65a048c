/- A cheap test that one walk in the order of the text serves every order: masks of slots as numbers in the place of lists. No program, no conditions. -/
import Derived.Test.YtliflbelhogopaaDoorOrd
namespace Go.Proofs.YtliflbelhogopaaDoor
set_option maxRecDepth 8000
open Go.RowKit

/-- what the one walk leans on -/
structure LexOK (ops : Array Oper) : Prop where
  sel : Region.noSelect ops = true
  edge : ∀ (j : Nat) (o : Oper), ops[j]? = some o → ∀ e, e ∈ o.after → Region.binds .any e = true → e.on < j
  free : ∀ (k j : Nat) (ok oj : Oper), k < j → ops[k]? = some ok → ops[j]? = some oj → (∀ e, e ∈ oj.after → Region.binds .any e = true → e.on ≠ k) → ok.apart ops oj = true

theorem wpAnyQ_of_lex {P : Program} {ops : Array Oper} {C : World → Prop} {Q : Act → Prop} (hx : LexOK ops) : ∀ (l : List Oper) (k : Nat) (listed : Array Bool) (a : Act),
    (∀ j, l[j]? = ops[k + j]?) → k + l.length = ops.size → listed.size = ops.size → (∀ i, i < k → listed.getD i false = true) → (∀ i, k ≤ i → i < ops.size → listed.getD i true = false) →
    wpQuiet P ops C Q l a → wpAnyQ P .any ops C Q l.length listed a
  | [], k, listed, a, _, hk, hz, h1, _, h => by
    refine ⟨?_, h⟩
    refine List.eq_nil_iff_forall_not_mem.2 fun i hi => ?_
    obtain ⟨h0, o, ho, _⟩ := mem_ready.1 hi
    have hlt := (Array.getElem?_eq_some_iff.1 ho).1
    have h3 := h1 i (by simp at hk; omega)
    rw [getD_both h0] at h3
    cases h3
  | o :: l, k, listed, a, hl, hk, hz, h1, h2, h => by
    have h0 : ops[k]? = some o := by simpa using (hl 0).symm
    have hlt : k < ops.size := (Array.getElem?_eq_some_iff.1 h0).1
    have hst : qOp P ops C k (wpQuiet P ops C Q l) a := by unfold qOp; simp only [h0]; exact h
    obtain ⟨v, hy, hK⟩ := yieldsIn_of_qOp h0 hst
    refine wpAnyQ_first h0 (Region.noSelect_spec hx.sel) l.length listed a ?_ (mem_ready.2 ⟨h2 k (Nat.le_refl _) hlt, o, h0, fun e he hb => h1 _ (hx.edge k o h0 e he hb)⟩) hy ?_
    · intro j oj hj hne hun hno
      refine hx.free k j o oj ?_ h0 hj hno
      rcases Nat.lt_trichotomy k j with h' | h' | h'
      · exact h'
      · exact absurd h'.symm hne
      · have h3 := h1 j h'
        rw [getD_both hun] at h3
        cases h3
    · refine wpAnyQ_of_lex hx l (k + 1) _ _ (fun j => by have := hl (j + 1); simpa [Nat.add_assoc, Nat.add_comm 1 j] using this) (by simp at hk; omega) (by simpa using hz) ?_ ?_ hK
      · intro i hi
        by_cases e : i = k
        · subst e
          simp [hz, hlt]
        · exact getD_set_true (h1 i (by omega))
      · intro i hi hi'
        rw [getD_set_ne true (by omega)]
        exact h2 i (by omega) hi'

theorem wp_later_lex {P : Program} {id : Nat} {Q : Exit → Act → World → Prop} {a : Act} {w : World} {l : List Oper} (hm : P.follows .mixedOrders = true) (hx : LexOK l.toArray)
    (h : wpQuiet P l.toArray (fun w' => ∃ x : Later w, w' = x.at) (fun a' => ∀ x : Later w, Q .normal a' x.at) l a) : (Code.region id l.toArray true).wp P Q a w := by
  refine wp_region_any hm (wpAny_of_quiet (C := fun w' => ∃ x : Later w, w' = x.at) (Q := fun a' => ∀ x : Later w, Q .normal a' x.at) (fun a' w' hw' h => by obtain ⟨x, rfl⟩ := hw'; exact h x) _ _ _ _ ⟨⟨w.drew, (Below.refl _ _).drew⟩, rfl⟩ ?_)
  have := wpAnyQ_of_lex (P := P) hx l 0 (Array.replicate l.toArray.size false) a (by simp) (by simp) (by simp) (by intro i hi; omega) (fun i _ hi => getD_in (by simpa using hi) (getD_replicate_false _ _)) h
  simpa using this

/-! ### The test -/
def dstMask (o : Oper) : Nat := match o.dst with | some d => Nat.shiftLeft 1 d | none => 0
def lookMask (ops : Array Oper) (o : Oper) : Nat := (o.looksAt ops).foldr (fun t m => Nat.lor (Nat.shiftLeft 1 t) m) 0
def afterMask (o : Oper) : Nat := o.after.toList.foldr (fun e m => match Region.binds .any e with | true => Nat.lor (Nat.shiftLeft 1 e.on) m | false => m) 0
/-- op number k (masks D, R) before op number j (masks A, R', D') -/
def pairOK (A R' D' : Nat) (k D R : Nat) : Bool :=
  Nat.beq (Nat.mod (Nat.shiftRight A k) 2) 1 || (Nat.beq (Nat.land D R') 0 && (Nat.beq (Nat.land D D') 0 && Nat.beq (Nat.land D' R) 0))
/-- all earlier ones, the last first -/
def prevOK (A R' D' : Nat) : List (Nat × Nat) → Bool
  | [] => true
  | (D, R) :: l => pairOK A R' D' l.length D R && prevOK A R' D' l
def lexN (ops : Array Oper) : List Oper → List (Nat × Nat) → Bool
  | [], _ => true
  | o :: l, prev => Nat.beq (Nat.shiftRight (afterMask o) prev.length) 0 && (prevOK (afterMask o) (lookMask ops o) (dstMask o) prev && lexN ops l ((dstMask o, lookMask ops o) :: prev))

theorem testBit_one (d i : Nat) : (Nat.shiftLeft 1 d).testBit i = decide (d = i) := by
  show (1 <<< d).testBit i = _
  rw [Nat.one_shiftLeft, Nat.testBit_two_pow]
theorem mem_lookMask {ops : Array Oper} {o : Oper} {t : Nat} (h : t ∈ o.looksAt ops) : (lookMask ops o).testBit t = true := by
  unfold lookMask
  generalize o.looksAt ops = l at h
  induction l with
  | nil => cases h
  | cons x l ih =>
    show (Nat.lor (Nat.shiftLeft 1 x) _).testBit t = true
    rw [show ∀ a b : Nat, Nat.lor a b = a ||| b from fun _ _ => rfl, Nat.testBit_or, testBit_one]
    rcases List.mem_cons.1 h with rfl | h
    · simp
    · rw [ih h, Bool.or_true]
theorem dstMask_bit {o : Oper} {d : Nat} (h : o.dst = some d) : (dstMask o).testBit d = true := by
  unfold dstMask
  simp only [h]
  rw [testBit_one]
  simp
theorem mem_afterMask {o : Oper} {e : Edge} (h : e ∈ o.after) (hb : Region.binds .any e = true) : (afterMask o).testBit e.on = true := by
  unfold afterMask
  have h' : e ∈ o.after.toList := by simpa using h
  generalize o.after.toList = l at h'
  induction l with
  | nil => cases h'
  | cons x l ih =>
    rw [List.foldr_cons]
    rcases List.mem_cons.1 h' with rfl | h'
    · rw [hb]
      show (Nat.lor (Nat.shiftLeft 1 e.on) _).testBit e.on = true
      rw [show ∀ a b : Nat, Nat.lor a b = a ||| b from fun _ _ => rfl, Nat.testBit_or, testBit_one]
      simp
    · cases Region.binds .any x with
      | true =>
        show (Nat.lor (Nat.shiftLeft 1 x.on) _).testBit e.on = true
        rw [show ∀ a b : Nat, Nat.lor a b = a ||| b from fun _ _ => rfl, Nat.testBit_or, ih h']
        simp
      | false => exact ih h'
theorem afterMask_mem {o : Oper} {k : Nat} (h : (afterMask o).testBit k = true) : ∃ e, e ∈ o.after ∧ Region.binds .any e = true ∧ e.on = k := by
  unfold afterMask at h
  suffices H : ∀ l : List Edge, (l.foldr (fun e m => match Region.binds .any e with | true => Nat.lor (Nat.shiftLeft 1 e.on) m | false => m) 0).testBit k = true → ∃ e, e ∈ l ∧ Region.binds .any e = true ∧ e.on = k by
    obtain ⟨e, he, h1, h2⟩ := H _ h
    exact ⟨e, by simpa using he, h1, h2⟩
  intro l
  induction l with
  | nil => intro h; simp at h
  | cons x l ih =>
    intro h
    rw [List.foldr_cons] at h
    cases hx : Region.binds .any x with
    | true =>
      rw [hx] at h
      have h : (Nat.lor (Nat.shiftLeft 1 x.on) (l.foldr (fun e m => match Region.binds .any e with | true => Nat.lor (Nat.shiftLeft 1 e.on) m | false => m) 0)).testBit k = true := h
      rw [show ∀ a b : Nat, Nat.lor a b = a ||| b from fun _ _ => rfl, Nat.testBit_or, testBit_one, Bool.or_eq_true] at h
      rcases h with h | h
      · exact ⟨x, by simp, hx, by simpa using h⟩
      · obtain ⟨e, he, h1⟩ := ih h
        exact ⟨e, List.mem_cons_of_mem _ he, h1⟩
    | false =>
      rw [hx] at h
      obtain ⟨e, he, h1⟩ := ih h
      exact ⟨e, List.mem_cons_of_mem _ he, h1⟩
theorem land_zero {a b t : Nat} (h : Nat.beq (Nat.land a b) 0 = true) (ha : a.testBit t = true) : b.testBit t = false := by
  have h1 : a &&& b = 0 := Nat.eq_of_beq_eq_true h
  have h2 : (a &&& b).testBit t = false := by rw [h1]; simp
  rw [Nat.testBit_and, ha] at h2
  simpa using h2
theorem pairOK_spec {ops : Array Oper} {ok oj : Oper} {k : Nat} (h : pairOK (afterMask oj) (lookMask ops oj) (dstMask oj) k (dstMask ok) (lookMask ops ok) = true)
    (hno : ∀ e, e ∈ oj.after → Region.binds .any e = true → e.on ≠ k) : ok.apart ops oj = true := by
  unfold pairOK at h
  rw [Bool.or_eq_true] at h
  rcases h with h | h
  · have h1 : Nat.mod (Nat.shiftRight (afterMask oj) k) 2 = 1 := Nat.eq_of_beq_eq_true h
    have h2 : (afterMask oj).testBit k = true := by
      rw [Nat.testBit_eq_decide_div_mod_eq, decide_eq_true_iff, ← Nat.shiftRight_eq_div_pow]
      exact h1
    obtain ⟨e, he, hb, hk⟩ := afterMask_mem h2
    exact absurd hk (hno e he hb)
  · rw [Bool.and_eq_true, Bool.and_eq_true] at h
    obtain ⟨h1, h2, h3⟩ := h
    unfold Oper.apart
    rw [Bool.and_eq_true]
    constructor
    · cases hd : ok.dst with
      | none => rfl
      | some d =>
        have b1 := land_zero h1 (dstMask_bit hd)
        have b2 := land_zero h2 (dstMask_bit hd)
        simp only [Bool.and_eq_true, Bool.not_eq_true', bne_iff_ne, ne_eq]
        constructor
        · cases hc : (oj.looksAt ops).contains d with
          | false => rfl
          | true =>
            rw [mem_lookMask (by simpa using hc)] at b1
            cases b1
        · intro e
          rw [dstMask_bit e] at b2
          cases b2
    · cases hd : oj.dst with
      | none => rfl
      | some d =>
        have b1 := land_zero h3 (dstMask_bit hd)
        simp only [Bool.not_eq_true']
        cases hc : (ok.looksAt ops).contains d with
        | false => rfl
        | true =>
          rw [mem_lookMask (by simpa using hc)] at b1
          cases b1
theorem prevOK_spec {A R' D' : Nat} : ∀ {prev : List (Nat × Nat)}, prevOK A R' D' prev = true → ∀ (k : Nat) (x : Nat × Nat), prev.reverse[k]? = some x → pairOK A R' D' k x.1 x.2 = true
  | [], _, k, x, hx => by simp at hx
  | (D, R) :: l, h, k, x, hx => by
    simp only [prevOK, Bool.and_eq_true] at h
    rw [List.reverse_cons] at hx
    by_cases hk : k < l.length
    · rw [List.getElem?_append_left (by simpa using hk)] at hx
      exact prevOK_spec h.2 k x hx
    · rw [List.getElem?_append_right (by simp; omega)] at hx
      have e : k = l.length := by
        have := (List.getElem?_eq_some_iff.1 hx).1
        simp at this
        omega
      subst e
      simp at hx
      subst hx
      exact h.1
theorem lexN_spec {ops : Array Oper} : ∀ (l : List Oper) (prev : List (Nat × Nat)) (done : List Oper), ops.toList = done ++ l → prev.reverse = done.map (fun o => (dstMask o, lookMask ops o)) → lexN ops l prev = true →
    ∀ (j : Nat) (o : Oper), done.length ≤ j → ops[j]? = some o → Nat.beq (Nat.shiftRight (afterMask o) j) 0 = true ∧ ∀ (k : Nat) (ok : Oper), k < j → ops[k]? = some ok → pairOK (afterMask o) (lookMask ops o) (dstMask o) k (dstMask ok) (lookMask ops ok) = true
  | [], prev, done, hd, _, _, j, o, hj, ho => by
    have := (Array.getElem?_eq_some_iff.1 ho).1
    have hz : ops.size = done.length := by rw [← Array.length_toList, hd]; simp
    omega
  | x :: l, prev, done, hd, hp, h, j, o, hj, ho => by
    simp only [lexN, Bool.and_eq_true] at h
    have hlen : prev.length = done.length := by rw [← List.length_reverse, hp]; simp
    by_cases e : j = done.length
    · subst e
      have hx : x = o := by
        rw [← Array.getElem?_toList, hd] at ho
        simpa using ho
      subst hx
      refine ⟨by rw [← hlen]; exact h.1, fun k ok hk hok => ?_⟩
      refine prevOK_spec h.2.1 k (dstMask ok, lookMask ops ok) ?_
      rw [← Array.getElem?_toList, hd, List.getElem?_append_left hk] at hok
      rw [hp, List.getElem?_map, hok]
      rfl
    · refine lexN_spec l _ (done ++ [x]) (by rw [hd]; simp) ?_ h.2.2 j o (by simp; omega) ho
      rw [List.reverse_cons, hp]
      simp
theorem lexOK_of {l : List Oper} (hs : Region.noSelect l.toArray = true) (h : lexN l.toArray l [] = true) : LexOK l.toArray := by
  have H := lexN_spec (ops := l.toArray) l [] [] (by simp) (by simp) h
  refine ⟨hs, fun j o ho e he hb => ?_, fun k j ok oj hk hok hoj hno => pairOK_spec ((H j oj (by simp) hoj).2 k ok hk hok) hno⟩
  have h1 : (afterMask o) >>> j = 0 := Nat.eq_of_beq_eq_true (H j o (by simp) ho).1
  have h2 := mem_afterMask he hb
  rcases Nat.lt_or_ge e.on j with h' | h'
  · exact h'
  · obtain ⟨d, hd⟩ : ∃ d, e.on = j + d := ⟨e.on - j, by omega⟩
    have h3 : ((afterMask o) >>> j).testBit d = true := by rw [Nat.testBit_shiftRight, ← hd]; exact h2
    rw [h1] at h3
    simp at h3

end Go.Proofs.YtliflbelhogopaaDoor
