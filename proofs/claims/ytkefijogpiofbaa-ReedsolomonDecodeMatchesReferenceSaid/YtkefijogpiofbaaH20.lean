/- Several texts in one: Ul9, Um9, Un9, Swe. -/
import Derived.Test.YtkefijogpiofbaaH19
import Derived.Test.YtkefijogpiofbaaH14
import Derived.Test.YtkefijogpiofbaaH15
namespace Gold
set_option linter.unusedVariables false
set_option linter.unusedSimpArgs false
set_option linter.unusedSectionVars false
set_option maxRecDepth 8000
/-- from the end on, the positions that can't grow (c: the word's length less theirs) are passed over -/
def stopN (c : Nat) (js : List Nat) : Nat → Nat
  | 0 => 0
  | i + 1 => if js.getD i 0 = c + i then stopN c js i else i + 1
/-- position i grows by one, the q behind it follow -/
def nxL (js : List Nat) (i q : Nat) : List Nat := (List.range js.length).map fun j => if i ≤ j ∧ j ≤ i + q then js.getD i 0 + 1 + (j - i) else js.getD j 0
theorem nxL_length (js : List Nat) (i q : Nat) : (nxL js i q).length = js.length := by simp [nxL]
theorem nxL_get {js : List Nat} {i q j : Nat} (h : j < js.length) : (nxL js i q)[j]? = some (if i ≤ j ∧ j ≤ i + q then js.getD i 0 + 1 + (j - i) else js.getD j 0) := by simp [nxL, h]
theorem nxL_zero {js : List Nat} {i a : Nat} (hi : js[i]? = some a) : js.set i (a + 1) = nxL js i 0 := by
  have hl := (List.getElem?_eq_some_iff.1 hi).1
  refine List.ext_getElem? fun j => ?_
  by_cases h : j < js.length
  · rw [nxL_get h, List.getElem?_set]
    by_cases e : i = j
    · subst e
      rw [if_pos rfl, if_pos h, if_pos (by omega), List.getD_eq_getElem?_getD, hi, Nat.sub_self]
      rfl
    · rw [if_neg e, if_neg (by omega), List.getD_eq_getElem?_getD, List.getElem?_eq_getElem h]
      rfl
  · rw [List.getElem?_eq_none (by rw [List.length_set]; omega), List.getElem?_eq_none (by rw [nxL_length]; omega)]
theorem nxL_set {js : List Nat} {i q : Nat} (h : i + q + 1 < js.length) : (nxL js i q).set (i + q + 1) (js.getD i 0 + 1 + q + 1) = nxL js i (q + 1) := by
  refine List.ext_getElem? fun j => ?_
  by_cases hj : j < js.length
  · rw [nxL_get hj, List.getElem?_set, nxL_length]
    by_cases e : i + q + 1 = j
    · subst e
      rw [if_pos rfl, if_pos hj, if_pos (by omega)]
      congr 1
      omega
    · rw [if_neg e, nxL_get hj]
      by_cases hb : i ≤ j ∧ j ≤ i + q
      · rw [if_pos hb, if_pos (by omega)]
      · rw [if_neg hb, if_neg (by omega)]
  · rw [List.getElem?_eq_none (by rw [List.length_set, nxL_length]; omega), List.getElem?_eq_none (by rw [nxL_length]; omega)]
def nextN (c : Nat) (js : List Nat) : Option (List Nat) := match stopN c js js.length with
  | 0 => none
  | i + 1 => some (nxL js i (js.length - 1 - i))
/-- all positions from js on -/
def enN (c : Nat) : Nat → List Nat → List (List Nat)
  | 0, js => [js]
  | f + 1, js => js :: match nextN c js with
    | none => []
    | some l => enN c f l
/-- all choices of a list's elements -/
def subsL : List Nat → List (List Nat)
  | [] => [[]]
  | a :: l => subsL l ++ (subsL l).map (a :: ·)
theorem mem_subsL : ∀ {l L : List Nat}, l.Sublist L → l ∈ subsL L
  | _, _, .slnil => by simp [subsL]
  | _, _, .cons a h => by simp only [subsL, List.mem_append]; exact .inl (mem_subsL h)
  | _, _, .cons_cons a h => by simp only [subsL, List.mem_append, List.mem_map]; exact .inr ⟨_, mem_subsL h, rfl⟩
/-- what is to be known of an enumeration -/
structure EnN (n k : Nat) (E : List (List Nat)) : Prop where
  first : E[0]? = some (List.range k)
  next : ∀ j js, E[j]? = some js → nextN (n - k) js = E[j + 1]?
  ok : ∀ js ∈ E, js.length = k ∧ js.Nodup ∧ ∀ j ∈ js, j < n
  all : ∀ l, l.Sublist (List.range n) → l.length = k → l ∈ E
  nd : E.Nodup
def enB (n k : Nat) (E : List (List Nat)) : Bool :=
  (E[0]? == some (List.range k)) && ((List.range E.length).all fun j => decide (nextN (n - k) (E.getD j []) = E[j + 1]?)) && (E.all fun js => (js.length == k) && decide js.Nodup && js.all fun j => decide (j < n)) && ((subsL (List.range n)).all fun l => !(l.length == k) || decide (l ∈ E)) && decide E.Nodup
theorem enB_of {n k : Nat} {E : List (List Nat)} (h : enB n k E = true) : EnN n k E := by
  unfold enB at h
  simp only [Bool.and_eq_true, List.all_eq_true, beq_iff_eq, decide_eq_true_eq, List.mem_range, Bool.or_eq_true, Bool.not_eq_true'] at h
  obtain ⟨⟨⟨⟨h1, h2⟩, h3⟩, h4⟩, h5⟩ := h
  refine ⟨h1, fun j js hj => ?_, fun js hj => ?_, fun l hl hk => ?_, h5⟩
  · have := h2 j (List.getElem?_eq_some_iff.1 hj).1
    rw [List.getD_eq_getElem?_getD, hj] at this
    exact this
  · exact ⟨(h3 js hj).1.1, (h3 js hj).1.2, (h3 js hj).2⟩
  · rcases h4 l (mem_subsL hl) with h | h
    · rw [hk] at h
      simp at h
    · exact h
theorem en_any {K L : Nat} (h1 : 1 ≤ L) (h3 : K + L ≤ 3) : ∃ E, EnN (2 ^ (K + L)) (2 ^ K) E := by
  have : (K = 0 ∧ L = 1) ∨ (K = 0 ∧ L = 2) ∨ (K = 0 ∧ L = 3) ∨ (K = 1 ∧ L = 1) ∨ (K = 1 ∧ L = 2) ∨ (K = 2 ∧ L = 1) := by omega
  rcases this with ⟨rfl, rfl⟩ | ⟨rfl, rfl⟩ | ⟨rfl, rfl⟩ | ⟨rfl, rfl⟩ | ⟨rfl, rfl⟩ | ⟨rfl, rfl⟩
  · exact ⟨enN 1 100 (List.range 1), enB_of (by decide +kernel)⟩
  · exact ⟨enN 3 100 (List.range 1), enB_of (by decide +kernel)⟩
  · exact ⟨enN 7 100 (List.range 1), enB_of (by decide +kernel)⟩
  · exact ⟨enN 2 100 (List.range 2), enB_of (by decide +kernel)⟩
  · exact ⟨enN 6 100 (List.range 2), enB_of (by decide +kernel)⟩
  · exact ⟨enN 4 100 (List.range 4), enB_of (by decide +kernel)⟩
/-- a near row agrees with the word at one of the choices -/
theorem near_agrees {n k M : Nat} {w : Nat → F} {f : List F} {E : List (List Nat)} (hE : EnN n k E) (hk : k ≤ n) (hf : (differF n M w f).length ≤ (n - k) / 2) : ∃ js ∈ E, ∀ j ∈ js, evL f (ptF M j) = w j := by
  have hc := filter_compl (fun i => decide (evL f (ptF M i) = w i)) (List.range n)
  rw [List.length_range] at hc
  have hd : ((List.range n).filter fun i => !decide (evL f (ptF M i) = w i)).length = (differF n M w f).length := rfl
  rw [hd] at hc
  refine ⟨((List.range n).filter fun i => decide (evL f (ptF M i) = w i)).take k, hE.all _ ((List.take_sublist _ _).trans List.filter_sublist) (by rw [List.length_take]; omega), fun j hj => ?_⟩
  have := (List.mem_filter.1 (List.mem_of_mem_take hj)).2
  simpa using this
/-- two rows that agree at as many positions as they have elements -/
theorem rows_at {n k M : Nat} {f g : List F} {js : List Nat} (hn : n = 2 ^ M) (hM : M ≤ 16) (hjl : js.length = k) (hd : js.Nodup) (hlt : ∀ j ∈ js, j < n) (hf : f.length ≤ k) (hg : g.length ≤ k) (h : ∀ j ∈ js, evL f (ptF M j) = evL g (ptF M j)) (hk : k ≤ 65536) : ∀ i, cfF f i = cfF g i := by
  have hm := mnF_le f g 0 1
  have hz := zero_at (p := mnF f g 0 1) (K := M) hM js hd (fun i hi => by rw [← hn]; exact hlt i hi) (by omega) (by omega) (fun i hi => by
    rw [evL_mnF, h i hi, F_pow_zero]
    grind)
  intro i
  have h1 := hz i
  rw [cfF_mnF, if_pos (Nat.zero_le _), Nat.sub_zero] at h1
  grind
end Gold

namespace Go.Proofs.Ytkefijogpiofbaa
set_option linter.unusedVariables false
set_option linter.unusedSimpArgs false
set_option linter.unusedSectionVars false
set_option maxRecDepth 8000
open Go.RowKit Go.Proofs.Ytkefijogpiofbaa.K
attribute [local irreducible] wpList wpQuiet
/-- what next leaves -/
def nxtPost (V : World) (B : Option Addr) (n k d : Nat) (js : List Nat) (e : Ending) (w' : World) : Prop :=
  ((Gold.nextN (n - k) js = none ∧ e = .returned (.bool false) ∧ w'.ownsRow V.heap.size 3 1 (.slice B k d) k (fl ixC js)) ∨
    ∃ l, Gold.nextN (n - k) js = some l ∧ e = .returned (.bool true) ∧ w'.ownsRow V.heap.size 3 1 (.slice B k d) k (fl ixC l)) ∧ Below V.heap.size V w'
theorem nxt_none {V w' : World} {B : Option Addr} {n k d : Nat} {js : List Nat} (hl : js.length = k) (hs : Gold.stopN (n - k) js k = 0) (ho : w'.ownsRow V.heap.size 3 1 (.slice B k d) k (fl ixC js)) (hb : Below V.heap.size V w') : nxtPost V B n k d js (.returned (.bool false)) w' :=
  ⟨.inl ⟨by unfold Gold.nextN; rw [hl, hs], rfl, ho⟩, hb⟩
theorem nxt_some {V w' : World} {B : Option Addr} {n k d i q : Nat} {js : List Nat} (hl : js.length = k) (hs : Gold.stopN (n - k) js k = i + 1) (hq : q = k - 1 - i) (ho : w'.ownsRow V.heap.size 3 1 (.slice B k d) k (fl ixC (Gold.nxL js i q))) (hb : Below V.heap.size V w') : nxtPost V B n k d js (.returned (.bool true)) w' :=
  ⟨.inr ⟨_, by unfold Gold.nextN; rw [hl, hs], rfl, by rw [← hq]; exact ho⟩, hb⟩
set_option maxRecDepth 100000 in
set_option maxHeartbeats 16000000 in
theorem rnext_any (B : Option Addr) (k d : Nat) (js : List Nat) (n : Nat) (hk1 : 1 ≤ k) (hkn : k ≤ n) (hn : n ≤ 65536) (hlt : ∀ j ∈ js, j < n) (V w : World) (hV : Below V.heap.size V w) (hJ : w.ownsRow V.heap.size 3 1 (.slice B k d) k (fl ixC js)) :
    Calls Try.prog 52 #[.slice B k d, .int .i64 (n : Int)] w (nxtPost V B n k d js) := by
  have B0 := Lib.hid hV
  have OJ := Lib.hid hJ
  have hjl : js.length = k := by have := (Sg.ownS hJ).len; exact this
  have hcap := (Sg.ownS hJ).cap
  have htop := (Sg.ownS hJ).top
  have HLT := Lib.hid hlt
  have hVw := hV.size
  clear hV hlt
  obtain ⟨g, cap, hgc, hge⟩ := own_at (i := 0) hJ hk1
  simp only [Value.slice.injEq, true_and] at hgc
  obtain ⟨rfl, rfl⟩ := hgc
  have HGE := Lib.hid hge
  clear hge hJ
  go_enter Try.func52, Try.ntmps52
  go_upto_region 1 with fail
  obtain ⟨c, hc⟩ : ∃ c, n - k = c := ⟨_, rfl⟩
  refine wp_region_lit ?_
  refine wpList_run (by kernel_rfl) (.slice (some ⟨g, 0, none⟩) k d) w rfl ?_
  simp only [Act.put, List.setIfInBounds_toArray, List.set_cons_zero, List.set_cons_succ]
  refine wpList_run (by kernel_rfl) (.int .i64 (k : Int)) w (xo_len (some ⟨g, 0, none⟩) k d Try.underlying68 rfl rfl) ?_
  simp only [Act.put, List.setIfInBounds_toArray, List.set_cons_zero, List.set_cons_succ]
  refine wpList_run (by kernel_rfl) (.int .i64 ((k : Int) - 1)) w (xo_subI (k : Int) 1 ((k : Int) - 1) (by omega) (by omega) (by omega) rfl rfl rfl) ?_
  simp only [Act.put, List.setIfInBounds_toArray, List.set_cons_zero, List.set_cons_succ]
  refine wpList_run (by kernel_rfl) (.int .i64 ((k : Int) - 1)) w rfl ?_
  simp only [Act.put, List.setIfInBounds_toArray, List.set_cons_zero, List.set_cons_succ]
  refine wpList_nil ?_
  have o0 := OJ.out
  have b0 := B0.out
  go_wp2_with fail
  go_loopw [5] (fun p wr => ∃ t : Nat, t ≤ k ∧ p = .int .i64 ((t : Int) - 1) ∧ Gold.stopN c js k = Gold.stopN c js t ∧ wr.ownsRow V.heap.size 3 1 (.slice (some ⟨g, 0, none⟩) k d) k (fl ixC js) ∧ Below V.heap.size V wr) (fun p _ => (intOf p + 1).toNat)
  case atStart => exact ⟨k, Nat.le_refl _, rfl, rfl, o0, b0⟩
  case round =>
    clear o0 b0 OJ B0
    obtain ⟨wo, rfl⟩ : ∃ wo : World, wo = wr := ⟨_, rfl⟩
    obtain ⟨t, ht, rfl, hst, oj, bb⟩ := hrel
    have B0 := Lib.hid bb
    have OJ := Lib.hid oj
    have HST := Lib.hid hst
    have HJs := Lib.hid (Sg.ownS oj)
    clear bb oj hst
    by_cases ht0 : t = 0
    · subst ht0
      have hn0 : ¬ ((((0 : Nat) : Int) - 1) ≥ 0) := by omega
      have hn1 : (((0 : Nat) : Int) - 1) < 0 := by omega
      go_upto_region 2 with fail
      refine wp_region_lit ?_
      refine wpList_run (by kernel_rfl) (.int .i64 (((0 : Nat) : Int) - 1)) wo rfl ?_
      simp only [Act.put, List.setIfInBounds_toArray, List.set_cons_zero, List.set_cons_succ]
      refine wpList_run (by kernel_rfl) (.bool false) wo (xo_geqF .i64 (((0 : Nat) : Int) - 1) 0 hn0 rfl rfl rfl) ?_
      simp only [Act.put, List.setIfInBounds_toArray, List.set_cons_zero, List.set_cons_succ]
      refine wpList_run (by kernel_rfl) (.bool false) wo rfl ?_
      simp only [Act.put, List.setIfInBounds_toArray, List.set_cons_zero, List.set_cons_succ]
      refine wpList_skip (by kernel_rfl) ?_
      try simp only [Act.put, List.setIfInBounds_toArray, List.set_cons_zero, List.set_cons_succ]
      refine wpList_skip (by kernel_rfl) ?_
      try simp only [Act.put, List.setIfInBounds_toArray, List.set_cons_zero, List.set_cons_succ]
      refine wpList_skip (by kernel_rfl) ?_
      try simp only [Act.put, List.setIfInBounds_toArray, List.set_cons_zero, List.set_cons_succ]
      refine wpList_skip (by kernel_rfl) ?_
      try simp only [Act.put, List.setIfInBounds_toArray, List.set_cons_zero, List.set_cons_succ]
      refine wpList_skip (by kernel_rfl) ?_
      try simp only [Act.put, List.setIfInBounds_toArray, List.set_cons_zero, List.set_cons_succ]
      refine wpList_skip (by kernel_rfl) ?_
      try simp only [Act.put, List.setIfInBounds_toArray, List.set_cons_zero, List.set_cons_succ]
      refine wpList_skip (by kernel_rfl) ?_
      try simp only [Act.put, List.setIfInBounds_toArray, List.set_cons_zero, List.set_cons_succ]
      refine wpList_skip (by kernel_rfl) ?_
      try simp only [Act.put, List.setIfInBounds_toArray, List.set_cons_zero, List.set_cons_succ]
      refine wpList_skip (by kernel_rfl) ?_
      try simp only [Act.put, List.setIfInBounds_toArray, List.set_cons_zero, List.set_cons_succ]
      refine wpList_skip (by kernel_rfl) ?_
      try simp only [Act.put, List.setIfInBounds_toArray, List.set_cons_zero, List.set_cons_succ]
      refine wpList_skip (by kernel_rfl) ?_
      try simp only [Act.put, List.setIfInBounds_toArray, List.set_cons_zero, List.set_cons_succ]
      refine wpList_run (by kernel_rfl) (.bool false) wo rfl ?_
      simp only [Act.put, List.setIfInBounds_toArray, List.set_cons_zero, List.set_cons_succ]
      refine wpList_nil ?_
      go_upto_region 4 with fail
      refine wp_region_lit ?_
      refine wpList_run (by kernel_rfl) (.int .i64 (((0 : Nat) : Int) - 1)) wo rfl ?_
      simp only [Act.put, List.setIfInBounds_toArray, List.set_cons_zero, List.set_cons_succ]
      refine wpList_run (by kernel_rfl) (.bool true) wo (xo_lssT .i64 (((0 : Nat) : Int) - 1) 0 hn1 rfl rfl rfl) ?_
      simp only [Act.put, List.setIfInBounds_toArray, List.set_cons_zero, List.set_cons_succ]
      refine wpList_nil ?_
      go_upto_region 5 with fail
      refine wp_region_lit ?_
      refine wpList_run (by kernel_rfl) (.bool false) wo rfl ?_
      simp only [Act.put, List.setIfInBounds_toArray, List.set_cons_zero, List.set_cons_succ]
      refine wpList_nil ?_
      have of := OJ.out
      have bf := B0.out
      have hfin := nxt_none (B := (some ⟨g, 0, none⟩)) (d := d) hjl (by rw [hc]; exact HST.out.trans rfl) of bf
      go_wp2_with fail
      go_ret
      exact hfin
    · obtain ⟨i, rfl⟩ : ∃ i, t = i + 1 := ⟨t - 1, by omega⟩
      have hti : ((i + 1 : Nat) : Int) - 1 = (i : Int) := by omega
      rw [hti]
      have hci0 : ((i : Int) ≥ 0) := by omega
      have hci1 : ¬ ((i : Int) < 0) := by omega
      obtain ⟨a, ha⟩ : ∃ a, js[i]? = some a := ⟨_, List.getElem?_eq_getElem (by omega)⟩
      have hal := HLT.out a (List.mem_of_getElem? ha)
      have hgd : js.getD i 0 = a := by rw [List.getD_eq_getElem?_getD, ha]; rfl
      have HGD := Lib.hid hgd
      have HEa := Lib.hid ha
      clear ha hgd
      by_cases hac : a = c + i
      · have hci2 : ((a : Int) = ((c + i : Nat) : Int)) := by omega
        go_upto_region 2 with fail
        refine wp_region_lit ?_
        refine wpList_run (by kernel_rfl) (.int .i64 (i : Int)) wo rfl ?_
        simp only [Act.put, List.setIfInBounds_toArray, List.set_cons_zero, List.set_cons_succ]
        refine wpList_run (by kernel_rfl) (.bool true) wo (xo_geqT .i64 (i : Int) 0 (by omega) rfl rfl rfl) ?_
        simp only [Act.put, List.setIfInBounds_toArray, List.set_cons_zero, List.set_cons_succ]
        refine wpList_run (by kernel_rfl) (.bool true) wo rfl ?_
        simp only [Act.put, List.setIfInBounds_toArray, List.set_cons_zero, List.set_cons_succ]
        refine wpList_run (by kernel_rfl) (.slice (some ⟨g, 0, none⟩) k d) wo rfl ?_
        simp only [Act.put, List.setIfInBounds_toArray, List.set_cons_zero, List.set_cons_succ]
        refine wpList_run (by kernel_rfl) (.int .i64 (i : Int)) wo rfl ?_
        simp only [Act.put, List.setIfInBounds_toArray, List.set_cons_zero, List.set_cons_succ]
        refine wpList_run (by kernel_rfl) (.pointer (some (gad (some ⟨g, 0, none⟩) (i * 1)))) wo (xg_idx .i64 HJs.out HEa.out Try.underlying68 (by kernel_rfl) rfl rfl rfl) ?_
        simp only [Act.put, List.setIfInBounds_toArray, List.set_cons_zero, List.set_cons_succ]
        refine wpList_run (by kernel_rfl) (.int .i64 (a : Int)) wo (xg_load1 (E := ixC) (i := i) (j := 0) HJs.out HEa.out rfl rfl Try.underlying3 rfl rfl rfl) ?_
        simp only [Act.put, List.setIfInBounds_toArray, List.set_cons_zero, List.set_cons_succ]
        refine wpList_run (by kernel_rfl) (.int .i64 (n : Int)) wo rfl ?_
        simp only [Act.put, List.setIfInBounds_toArray, List.set_cons_zero, List.set_cons_succ]
        refine wpList_run (by kernel_rfl) (.slice (some ⟨g, 0, none⟩) k d) wo rfl ?_
        simp only [Act.put, List.setIfInBounds_toArray, List.set_cons_zero, List.set_cons_succ]
        refine wpList_run (by kernel_rfl) (.int .i64 (k : Int)) wo (xo_len (some ⟨g, 0, none⟩) k d Try.underlying68 rfl rfl) ?_
        simp only [Act.put, List.setIfInBounds_toArray, List.set_cons_zero, List.set_cons_succ]
        refine wpList_run (by kernel_rfl) (.int .i64 (c : Int)) wo (xo_subI (n : Int) (k : Int) (c : Int) (by omega) (by omega) (by omega) rfl rfl rfl) ?_
        simp only [Act.put, List.setIfInBounds_toArray, List.set_cons_zero, List.set_cons_succ]
        refine wpList_run (by kernel_rfl) (.int .i64 (i : Int)) wo rfl ?_
        simp only [Act.put, List.setIfInBounds_toArray, List.set_cons_zero, List.set_cons_succ]
        refine wpList_run (by kernel_rfl) (.int .i64 ((c + i : Nat) : Int)) wo (xo_addI (c : Int) (i : Int) ((c + i : Nat) : Int) (by omega) (by omega) (by omega) rfl rfl rfl) ?_
        simp only [Act.put, List.setIfInBounds_toArray, List.set_cons_zero, List.set_cons_succ]
        refine wpList_run (by kernel_rfl) (.bool true) wo (xo_eqlT .i64 (a : Int) ((c + i : Nat) : Int) (by omega) rfl rfl rfl) ?_
        simp only [Act.put, List.setIfInBounds_toArray, List.set_cons_zero, List.set_cons_succ]
        refine wpList_run (by kernel_rfl) (.bool true) wo rfl ?_
        simp only [Act.put, List.setIfInBounds_toArray, List.set_cons_zero, List.set_cons_succ]
        refine wpList_nil ?_
        go_upto_region 3 with fail
        refine wp_region_lit ?_
        refine wpList_run (by kernel_rfl) (.int .i64 (i : Int)) wo rfl ?_
        simp only [Act.put, List.setIfInBounds_toArray, List.set_cons_zero, List.set_cons_succ]
        refine wpList_run (by kernel_rfl) (.int .i64 ((i : Int) - 1)) wo (xo_subI (i : Int) 1 ((i : Int) - 1) (by omega) (by omega) (by omega) rfl rfl rfl) ?_
        simp only [Act.put, List.setIfInBounds_toArray, List.set_cons_zero, List.set_cons_succ]
        refine wpList_run (by kernel_rfl) (.int .i64 ((i : Int) - 1)) wo rfl ?_
        simp only [Act.put, List.setIfInBounds_toArray, List.set_cons_zero, List.set_cons_succ]
        refine wpList_nil ?_
        have of := OJ.out
        have bf := B0.out
        have hs2 : Gold.stopN c js k = Gold.stopN c js i := by rw [HST.out]; exact if_pos (HGD.out.trans hac)
        go_wp2_with fail
        go_roundw
        case rel => exact ⟨i, by omega, rfl, hs2, of, bf⟩
        case measure => simp [intOf] <;> omega
      · have hci2 : ¬ ((a : Int) = ((c + i : Nat) : Int)) := by omega
        have hsi : Gold.stopN c js k = i + 1 := by rw [HST.out]; exact if_neg (fun e => hac (HGD.out.symm.trans e))
        have HSI := Lib.hid hsi
        clear hsi
        go_upto_region 2 with fail
        refine wp_region_lit ?_
        refine wpList_run (by kernel_rfl) (.int .i64 (i : Int)) wo rfl ?_
        simp only [Act.put, List.setIfInBounds_toArray, List.set_cons_zero, List.set_cons_succ]
        refine wpList_run (by kernel_rfl) (.bool true) wo (xo_geqT .i64 (i : Int) 0 (by omega) rfl rfl rfl) ?_
        simp only [Act.put, List.setIfInBounds_toArray, List.set_cons_zero, List.set_cons_succ]
        refine wpList_run (by kernel_rfl) (.bool true) wo rfl ?_
        simp only [Act.put, List.setIfInBounds_toArray, List.set_cons_zero, List.set_cons_succ]
        refine wpList_run (by kernel_rfl) (.slice (some ⟨g, 0, none⟩) k d) wo rfl ?_
        simp only [Act.put, List.setIfInBounds_toArray, List.set_cons_zero, List.set_cons_succ]
        refine wpList_run (by kernel_rfl) (.int .i64 (i : Int)) wo rfl ?_
        simp only [Act.put, List.setIfInBounds_toArray, List.set_cons_zero, List.set_cons_succ]
        refine wpList_run (by kernel_rfl) (.pointer (some (gad (some ⟨g, 0, none⟩) (i * 1)))) wo (xg_idx .i64 HJs.out HEa.out Try.underlying68 (by kernel_rfl) rfl rfl rfl) ?_
        simp only [Act.put, List.setIfInBounds_toArray, List.set_cons_zero, List.set_cons_succ]
        refine wpList_run (by kernel_rfl) (.int .i64 (a : Int)) wo (xg_load1 (E := ixC) (i := i) (j := 0) HJs.out HEa.out rfl rfl Try.underlying3 rfl rfl rfl) ?_
        simp only [Act.put, List.setIfInBounds_toArray, List.set_cons_zero, List.set_cons_succ]
        refine wpList_run (by kernel_rfl) (.int .i64 (n : Int)) wo rfl ?_
        simp only [Act.put, List.setIfInBounds_toArray, List.set_cons_zero, List.set_cons_succ]
        refine wpList_run (by kernel_rfl) (.slice (some ⟨g, 0, none⟩) k d) wo rfl ?_
        simp only [Act.put, List.setIfInBounds_toArray, List.set_cons_zero, List.set_cons_succ]
        refine wpList_run (by kernel_rfl) (.int .i64 (k : Int)) wo (xo_len (some ⟨g, 0, none⟩) k d Try.underlying68 rfl rfl) ?_
        simp only [Act.put, List.setIfInBounds_toArray, List.set_cons_zero, List.set_cons_succ]
        refine wpList_run (by kernel_rfl) (.int .i64 (c : Int)) wo (xo_subI (n : Int) (k : Int) (c : Int) (by omega) (by omega) (by omega) rfl rfl rfl) ?_
        simp only [Act.put, List.setIfInBounds_toArray, List.set_cons_zero, List.set_cons_succ]
        refine wpList_run (by kernel_rfl) (.int .i64 (i : Int)) wo rfl ?_
        simp only [Act.put, List.setIfInBounds_toArray, List.set_cons_zero, List.set_cons_succ]
        refine wpList_run (by kernel_rfl) (.int .i64 ((c + i : Nat) : Int)) wo (xo_addI (c : Int) (i : Int) ((c + i : Nat) : Int) (by omega) (by omega) (by omega) rfl rfl rfl) ?_
        simp only [Act.put, List.setIfInBounds_toArray, List.set_cons_zero, List.set_cons_succ]
        refine wpList_run (by kernel_rfl) (.bool false) wo (xo_eqlF .i64 (a : Int) ((c + i : Nat) : Int) (by omega) rfl rfl rfl) ?_
        simp only [Act.put, List.setIfInBounds_toArray, List.set_cons_zero, List.set_cons_succ]
        refine wpList_run (by kernel_rfl) (.bool false) wo rfl ?_
        simp only [Act.put, List.setIfInBounds_toArray, List.set_cons_zero, List.set_cons_succ]
        refine wpList_nil ?_
        go_upto_region 4 with fail
        refine wp_region_lit ?_
        refine wpList_run (by kernel_rfl) (.int .i64 (i : Int)) wo rfl ?_
        simp only [Act.put, List.setIfInBounds_toArray, List.set_cons_zero, List.set_cons_succ]
        refine wpList_run (by kernel_rfl) (.bool false) wo (xo_lssF .i64 (i : Int) 0 (by omega) rfl rfl rfl) ?_
        simp only [Act.put, List.setIfInBounds_toArray, List.set_cons_zero, List.set_cons_succ]
        refine wpList_nil ?_
        go_upto_region 6 with fail
        refine wp_region_lit ?_
        refine wpList_run (by kernel_rfl) (.slice (some ⟨g, 0, none⟩) k d) wo rfl ?_
        simp only [Act.put, List.setIfInBounds_toArray, List.set_cons_zero, List.set_cons_succ]
        refine wpList_run (by kernel_rfl) (.int .i64 (i : Int)) wo rfl ?_
        simp only [Act.put, List.setIfInBounds_toArray, List.set_cons_zero, List.set_cons_succ]
        refine wpList_run (by kernel_rfl) (.pointer (some (gad (some ⟨g, 0, none⟩) (i * 1)))) wo (xg_idx .i64 HJs.out HEa.out Try.underlying68 (by kernel_rfl) rfl rfl rfl) ?_
        simp only [Act.put, List.setIfInBounds_toArray, List.set_cons_zero, List.set_cons_succ]
        refine wpList_run (by kernel_rfl) (.int .i64 (a : Int)) wo (xg_load1 (E := ixC) (i := i) (j := 0) HJs.out HEa.out rfl rfl Try.underlying3 rfl rfl rfl) ?_
        simp only [Act.put, List.setIfInBounds_toArray, List.set_cons_zero, List.set_cons_succ]
        refine wpList_run (by kernel_rfl) (.int .i64 ((a + 1 : Nat) : Int)) wo (xo_addI (a : Int) 1 ((a + 1 : Nat) : Int) (by omega) (by omega) (by omega) rfl rfl rfl) ?_
        simp only [Act.put, List.setIfInBounds_toArray, List.set_cons_zero, List.set_cons_succ]
        refine wpList_run (by kernel_rfl) (.pointer (some ((⟨g, 0, none⟩ : Addr).add i))) wo (xo_index1 .i64 ⟨g, 0, none⟩ k d i (by omega) Try.underlying68 (by kernel_rfl) rfl rfl rfl) ?_
        simp only [Act.put, List.setIfInBounds_toArray, List.set_cons_zero, List.set_cons_succ]
        refine wpList_ownStore (.int .i64 ((a + 1 : Nat) : Int)) (by kernel_rfl) OJ.out (i := i) (by omega) (by kernel_rfl) rfl rfl rfl rfl ?_
        intro X1_3 ho hfar hbel hkin
        have hox : X1_3.ownsRow V.heap.size 3 1 (.slice (some ⟨g, 0, none⟩) k d) k (fl ixC (js.set i (a + 1))) := by rw [fl_set1 ixC (fun x => .int .i64 (x : Int))]; exact ho
        have hbr := hbel _ _ HGE.out B0.out
        clear B0
        have B0 := Lib.hid hbr
        clear hbr
        clear OJ
        have OJ := Lib.hid hox
        clear ho hfar hbel hox hkin
        simp only [ptr, Act.put, List.setIfInBounds_toArray, List.set_cons_zero, List.set_cons_succ]
        refine wpList_nil ?_
        have of := OJ.out
        have hnz := Gold.nxL_zero HEa.out
        rw [hnz] at of
        go_upto_region 7 with fail
        refine wp_region_lit ?_
        refine wpList_run (by kernel_rfl) (.int .i64 (i : Int)) X1_3 rfl ?_
        simp only [Act.put, List.setIfInBounds_toArray, List.set_cons_zero, List.set_cons_succ]
        refine wpList_run (by kernel_rfl) (.int .i64 ((i + 1 : Nat) : Int)) X1_3 (xo_addI (i : Int) 1 ((i + 1 : Nat) : Int) (by omega) (by omega) (by omega) rfl rfl rfl) ?_
        simp only [Act.put, List.setIfInBounds_toArray, List.set_cons_zero, List.set_cons_succ]
        refine wpList_run (by kernel_rfl) (.int .i64 ((i + 1 : Nat) : Int)) X1_3 rfl ?_
        simp only [Act.put, List.setIfInBounds_toArray, List.set_cons_zero, List.set_cons_succ]
        refine wpList_nil ?_
        have b0 := B0.out
        go_wp2_with fail
        go_loopw [6] (fun p wr => ∃ q : Nat, i + q + 1 ≤ k ∧ p = .int .i64 ((i + q + 1 : Nat) : Int) ∧ wr.ownsRow V.heap.size 3 1 (.slice (some ⟨g, 0, none⟩) k d) k (fl ixC (Gold.nxL js i q)) ∧ Below V.heap.size V wr) (fun p _ => k - (intOf p).toNat)
        case atStart => exact ⟨0, by omega, by first | rfl | (congr 1), of, b0⟩
        case round =>
          clear of b0 OJ B0 HJs
          obtain ⟨wz, rfl⟩ : ∃ wz : World, wz = wr := ⟨_, rfl⟩
          obtain ⟨q, hq, rfl, oj, bb⟩ := hrel
          have B0 := Lib.hid bb
          have OQ := Lib.hid oj
          have HQs := Lib.hid (Sg.ownS oj)
          clear bb oj
          obtain ⟨m, hm⟩ : ∃ m, i + q + 1 = m := ⟨_, rfl⟩
          rw [hm]
          by_cases hmk : m < k
          · have hci4 : ((m : Int) < (k : Int)) := by omega
            go_upto_region 8 with fail
            refine wp_region_lit ?_
            refine wpList_run (by kernel_rfl) (.int .i64 (m : Int)) wz rfl ?_
            simp only [Act.put, List.setIfInBounds_toArray, List.set_cons_zero, List.set_cons_succ]
            refine wpList_run (by kernel_rfl) (.slice (some ⟨g, 0, none⟩) k d) wz rfl ?_
            simp only [Act.put, List.setIfInBounds_toArray, List.set_cons_zero, List.set_cons_succ]
            refine wpList_run (by kernel_rfl) (.int .i64 (k : Int)) wz (xo_len (some ⟨g, 0, none⟩) k d Try.underlying68 rfl rfl) ?_
            simp only [Act.put, List.setIfInBounds_toArray, List.set_cons_zero, List.set_cons_succ]
            refine wpList_run (by kernel_rfl) (.bool true) wz (xo_lssT .i64 (m : Int) (k : Int) (by omega) rfl rfl rfl) ?_
            simp only [Act.put, List.setIfInBounds_toArray, List.set_cons_zero, List.set_cons_succ]
            refine wpList_nil ?_
            obtain ⟨m1, hm1⟩ : ∃ m1, m - 1 = m1 := ⟨_, rfl⟩
            obtain ⟨y, hy⟩ : ∃ y, a + 1 + q = y := ⟨_, rfl⟩
            have hqa : q ≤ 65536 := by omega
            have HEy : Hid ((Gold.nxL js i q)[m1]? = some y) := Lib.hid (by rw [Gold.nxL_get (by omega), if_pos (by omega), HGD.out]; congr 1; omega)
            go_upto_region 10 with fail
            refine wp_region_lit ?_
            refine wpList_run (by kernel_rfl) (.slice (some ⟨g, 0, none⟩) k d) wz rfl ?_
            simp only [Act.put, List.setIfInBounds_toArray, List.set_cons_zero, List.set_cons_succ]
            refine wpList_run (by kernel_rfl) (.int .i64 (m : Int)) wz rfl ?_
            simp only [Act.put, List.setIfInBounds_toArray, List.set_cons_zero, List.set_cons_succ]
            refine wpList_run (by kernel_rfl) (.slice (some ⟨g, 0, none⟩) k d) wz rfl ?_
            simp only [Act.put, List.setIfInBounds_toArray, List.set_cons_zero, List.set_cons_succ]
            refine wpList_run (by kernel_rfl) (.int .i64 (m : Int)) wz rfl ?_
            simp only [Act.put, List.setIfInBounds_toArray, List.set_cons_zero, List.set_cons_succ]
            refine wpList_run (by kernel_rfl) (.int .i64 (m1 : Int)) wz (xo_subI (m : Int) 1 (m1 : Int) (by omega) (by omega) (by omega) rfl rfl rfl) ?_
            simp only [Act.put, List.setIfInBounds_toArray, List.set_cons_zero, List.set_cons_succ]
            refine wpList_run (by kernel_rfl) (.pointer (some (gad (some ⟨g, 0, none⟩) (m1 * 1)))) wz (xg_idx .i64 HQs.out HEy.out Try.underlying68 (by kernel_rfl) rfl rfl rfl) ?_
            simp only [Act.put, List.setIfInBounds_toArray, List.set_cons_zero, List.set_cons_succ]
            refine wpList_run (by kernel_rfl) (.int .i64 (y : Int)) wz (xg_load1 (E := ixC) (i := m1) (j := 0) HQs.out HEy.out rfl rfl Try.underlying3 rfl rfl rfl) ?_
            simp only [Act.put, List.setIfInBounds_toArray, List.set_cons_zero, List.set_cons_succ]
            refine wpList_run (by kernel_rfl) (.int .i64 ((y + 1 : Nat) : Int)) wz (xo_addI (y : Int) 1 ((y + 1 : Nat) : Int) (by omega) (by omega) (by omega) rfl rfl rfl) ?_
            simp only [Act.put, List.setIfInBounds_toArray, List.set_cons_zero, List.set_cons_succ]
            refine wpList_run (by kernel_rfl) (.pointer (some ((⟨g, 0, none⟩ : Addr).add m))) wz (xo_index1 .i64 ⟨g, 0, none⟩ k d m (by omega) Try.underlying68 (by kernel_rfl) rfl rfl rfl) ?_
            simp only [Act.put, List.setIfInBounds_toArray, List.set_cons_zero, List.set_cons_succ]
            refine wpList_ownStore (.int .i64 ((y + 1 : Nat) : Int)) (by kernel_rfl) OQ.out (i := m) (by omega) (by kernel_rfl) rfl rfl rfl rfl ?_
            intro X1_5 ho hfar hbel hkin
            have hox : X1_5.ownsRow V.heap.size 3 1 (.slice (some ⟨g, 0, none⟩) k d) k (fl ixC ((Gold.nxL js i q).set m (y + 1))) := by rw [fl_set1 ixC (fun x => .int .i64 (x : Int))]; exact ho
            have hbr := hbel _ _ HGE.out B0.out
            clear B0
            have B0 := Lib.hid hbr
            clear hbr
            clear OQ
            have OQ := Lib.hid hox
            clear ho hfar hbel hox hkin
            simp only [ptr, Act.put, List.setIfInBounds_toArray, List.set_cons_zero, List.set_cons_succ]
            refine wpList_nil ?_
            go_upto_region 9 with fail
            refine wp_region_lit ?_
            refine wpList_run (by kernel_rfl) (.int .i64 (m : Int)) X1_5 rfl ?_
            simp only [Act.put, List.setIfInBounds_toArray, List.set_cons_zero, List.set_cons_succ]
            refine wpList_run (by kernel_rfl) (.int .i64 ((m + 1 : Nat) : Int)) X1_5 (xo_addI (m : Int) 1 ((m + 1 : Nat) : Int) (by omega) (by omega) (by omega) rfl rfl rfl) ?_
            simp only [Act.put, List.setIfInBounds_toArray, List.set_cons_zero, List.set_cons_succ]
            refine wpList_run (by kernel_rfl) (.int .i64 ((m + 1 : Nat) : Int)) X1_5 rfl ?_
            simp only [Act.put, List.setIfInBounds_toArray, List.set_cons_zero, List.set_cons_succ]
            refine wpList_nil ?_
            have of := OQ.out
            have bf := B0.out
            have hns : (Gold.nxL js i q).set m (y + 1) = Gold.nxL js i (q + 1) := by have := Gold.nxL_set (js := js) (i := i) (q := q) (by omega); rw [HGD.out, hm, hy] at this; exact this
            rw [hns] at of
            go_wp2_with fail
            go_roundw
            case rel => exact ⟨q + 1, by omega, (by congr 1; omega), of, bf⟩
            case measure => simp [intOf] <;> omega
          · have hci4 : ¬ ((m : Int) < (k : Int)) := by omega
            go_upto_region 8 with fail
            refine wp_region_lit ?_
            refine wpList_run (by kernel_rfl) (.int .i64 (m : Int)) wz rfl ?_
            simp only [Act.put, List.setIfInBounds_toArray, List.set_cons_zero, List.set_cons_succ]
            refine wpList_run (by kernel_rfl) (.slice (some ⟨g, 0, none⟩) k d) wz rfl ?_
            simp only [Act.put, List.setIfInBounds_toArray, List.set_cons_zero, List.set_cons_succ]
            refine wpList_run (by kernel_rfl) (.int .i64 (k : Int)) wz (xo_len (some ⟨g, 0, none⟩) k d Try.underlying68 rfl rfl) ?_
            simp only [Act.put, List.setIfInBounds_toArray, List.set_cons_zero, List.set_cons_succ]
            refine wpList_run (by kernel_rfl) (.bool false) wz (xo_lssF .i64 (m : Int) (k : Int) (by omega) rfl rfl rfl) ?_
            simp only [Act.put, List.setIfInBounds_toArray, List.set_cons_zero, List.set_cons_succ]
            refine wpList_nil ?_
            go_upto_region 11 with fail
            refine wp_region_lit ?_
            refine wpList_run (by kernel_rfl) (.bool true) wz rfl ?_
            simp only [Act.put, List.setIfInBounds_toArray, List.set_cons_zero, List.set_cons_succ]
            refine wpList_nil ?_
            have of := OQ.out
            have bf := B0.out
            have hfin := nxt_some (B := (some ⟨g, 0, none⟩)) (d := d) (n := n) hjl (by rw [hc]; exact HSI.out) (show q = k - 1 - i by omega) of bf
            go_wp2_with fail
            go_ret
            exact hfin
end Go.Proofs.Ytkefijogpiofbaa

namespace Go.Proofs.Ytkefijogpiofbaa
set_option linter.unusedVariables false
set_option linter.unusedSimpArgs false
set_option linter.unusedSectionVars false
set_option maxRecDepth 8000
open Go.RowKit Go.Proofs.Ytkefijogpiofbaa.K
attribute [local irreducible] wpList wpQuiet
/-- what the reference's Decode answers -/
def rdecPost (w : World) (n k M : Nat) (xs : List Gold.F) (e : Ending) (w' : World) : Prop := ∃ (v : Value) (dd er : Nat), e = .returned (.tuple #[v, .int .i64 (dd : Int), .int .i64 (er : Int)]) ∧
  ((er = 0 ∧ ∃ f, f.length = k ∧ (Gold.differF n M (Gold.cfF xs) f).length ≤ (n - k) / 2 ∧ dd = (Gold.differF n M (Gold.cfF xs) f).length ∧ ∃ A c, v = .slice A k c ∧ Sg feC 1 w' A k c f) ∨
    (er = 4 ∧ dd = 0 ∧ v = .slice none 0 0 ∧ ∀ f, f.length ≤ k → (n - k) / 2 < (Gold.differF n M (Gold.cfF xs) f).length)) ∧ Below w.heap.size w w'
/-- no near row agrees with the word at these positions -/
def BadR (n k M : Nat) (xs : List Gold.F) (js : List Nat) : Prop := ∀ f : List Gold.F, f.length ≤ k → (Gold.differF n M (Gold.cfF xs) f).length ≤ (n - k) / 2 → ¬ ∀ p ∈ js, Gold.evL f (Gold.ptF M p) = Gold.cfF xs p
theorem bad_row {n k M : Nat} {xs row : List Gold.F} {js : List Nat} (hn : n = 2 ^ M) (hM : M ≤ 16) (hk : k ≤ n) (hjl : js.length = k) (hd : js.Nodup) (hlt : ∀ j ∈ js, j < n) (hr : row.length = k) (hev : ∀ p ∈ js, Gold.evL row (Gold.ptF M p) = Gold.cfF xs p) (hfar : (n - k) / 2 < (Gold.differF n M (Gold.cfF xs) row).length) : BadR n k M xs js := fun f hf hnear hag => by
  have h65 := Gold.pow2_le hM
  have hc := Gold.rows_at (f := row) (g := f) hn hM hjl hd hlt (by omega) hf (fun p hp => (hev p hp).trans (hag p hp).symm) (by omega)
  rw [Gold.differ_congr (f := row) (g := f) (Gold.evL_congr hc)] at hfar
  omega
theorem rdec_yes {w w' : World} {n k M ds : Nat} {xs row : List Gold.F} {A : Option Addr} {c : Nat} (hr : row.length = k) (hnear : (Gold.differF n M (Gold.cfF xs) row).length ≤ (n - k) / 2) (hds : (Gold.differF n M (Gold.cfF xs) row).length = ds) (hs : Sg feC 1 w' A k c row) (hb : Below w.heap.size w w') : rdecPost w n k M xs (.returned (.tuple #[.slice A k c, .int .i64 (ds : Int), .int .i64 0])) w' :=
  ⟨_, ds, 0, rfl, .inl ⟨rfl, row, hr, hnear, hds.symm, A, c, rfl, hs⟩, hb⟩
theorem rdec_no {w w' : World} {n k M j : Nat} {xs : List Gold.F} {E : List (List Nat)} {js : List Nat} (hE : Gold.EnN n k E) (hk : k ≤ n) (hj : E[j]? = some js) (hend : E[j + 1]? = none) (hbad : ∀ (j2 : Nat) (l : List Nat), j2 < j → E[j2]? = some l → BadR n k M xs l) (hbd : BadR n k M xs js) (hb : Below w.heap.size w w') : rdecPost w n k M xs (.returned (.tuple #[.slice none 0 0, .int .i64 0, .int .i64 4])) w' := by
  refine ⟨_, 0, 4, rfl, .inr ⟨rfl, rfl, rfl, fun f hf => ?_⟩, hb⟩
  rcases Nat.lt_or_ge ((n - k) / 2) (Gold.differF n M (Gold.cfF xs) f).length with h | h
  · exact h
  · exfalso
    obtain ⟨l, hl, hag⟩ := Gold.near_agrees hE hk h
    obtain ⟨j2, hj2⟩ := List.getElem?_of_mem hl
    have h1 := (List.getElem?_eq_some_iff.1 hj2).1
    have h2 := List.getElem?_eq_none_iff.1 hend
    rcases Nat.lt_or_ge j2 j with h3 | h3
    · exact hbad j2 l h3 hj2 f hf h hag
    · obtain rfl : j2 = j := by omega
      rw [hj] at hj2
      injection hj2 with hj2
      subst hj2
      exact hbd f hf h hag
theorem differ_le (n M : Nat) (w : Nat → Gold.F) (f : List Gold.F) : (Gold.differF n M w f).length ≤ n := by
  unfold Gold.differF
  have := List.length_filter_le (fun i => !decide (Gold.evL f (Gold.ptF M i) = w i)) (List.range n)
  rw [List.length_range] at this
  exact this
/-- the numbers that lie at the head of a block -/
def atL (w : World) (g k : Nat) : List Nat := (List.range k).map fun i => match w.cell? ⟨g, i, none⟩ with
  | some (.int _ m) => m.toNat
  | _ => 0
theorem atL_of {w : World} {g k c : Nat} {js : List Nat} (h : Sg ixC 1 w (some ⟨g, 0, none⟩) k c js) : atL w g k = js := by
  refine List.ext_getElem? fun i => ?_
  by_cases hi : i < k
  · obtain ⟨x, hx⟩ : ∃ x, js[i]? = some x := ⟨_, List.getElem?_eq_getElem (by rw [h.len]; exact hi)⟩
    obtain ⟨g2, off, e, hr⟩ := h.at_ i x hx
    simp only [Option.some.injEq, Addr.mk.injEq, and_true] at e
    obtain ⟨rfl, rfl⟩ := e
    have hc := hr 0 _ rfl
    simp only [Nat.zero_add, Nat.mul_one, Nat.add_zero] at hc
    unfold atL
    rw [List.getElem?_map, List.getElem?_range hi, hx]
    simp only [Option.map_some, hc]
    rfl
  · rw [List.getElem?_eq_none (by unfold atL; rw [List.length_map, List.length_range]; omega), List.getElem?_eq_none (by rw [h.len]; omega)]
theorem idx_at {E : List (List Nat)} {j : Nat} {js : List Nat} (hd : E.Nodup) (hj : E[j]? = some js) : E.idxOf js = j := by
  obtain ⟨hl, he⟩ := List.getElem?_eq_some_iff.1 hj
  subst he
  exact List.Nodup.idxOf_getElem hd j hl
set_option maxRecDepth 100000 in
set_option maxHeartbeats 16000000 in
theorem rdecode_any (A : Option Addr) (n c : Nat) (xs : List Gold.F) (z K L : Nat) (hN : n = 2 ^ (K + L)) (hz : z = 2 ^ L) (hL1 : 1 ≤ L) (hM : K + L ≤ 3) (w : World) (hX : Sg feC 1 w A n c xs) :
    Calls Try.prog 26 #[.slice A n c, .int .i64 (z : Int)] w (rdecPost w n (2 ^ K) (K + L) xs) := by
  have HX := Lib.hid hX
  have hxl := hX.len
  have hcp := hX.cap
  have htp := hX.top
  clear hX
  obtain ⟨M, hKL⟩ : ∃ M, K + L = M := ⟨_, rfl⟩
  rw [hKL] at hN ⊢
  obtain ⟨k, hk⟩ : ∃ k, k = 2 ^ K := ⟨_, rfl⟩
  rw [← hk]
  obtain ⟨E, hE⟩ := Gold.en_any (K := K) (L := L) hL1 hM
  rw [hKL, ← hN, ← hk] at hE
  have HE := Lib.hid hE
  have hn8 : n ≤ 8 := by rw [hN]; exact (show 2 ^ M ≤ 2 ^ 3 from Nat.pow_le_pow_right (by omega) (by omega))
  have hbz := (bB_pow hL1 (show L ≤ 4 by omega))
  rw [← hz] at hbz
  have hpw := pwB_pow M
  rw [← hN] at hpw
  have HR := Lib.hid hbz
  have HP := Lib.hid hpw
  have hz16 : z ≤ 8 := by rw [hz]; exact (show 2 ^ L ≤ 2 ^ 3 from Nat.pow_le_pow_right (by omega) (by omega))
  have hz1 : 1 ≤ z := by rw [hz]; exact Nat.two_pow_pos L
  have hkn : n / z = k := by rw [hN, hz, hk, ← hKL, Nat.pow_add, Nat.mul_div_cancel _ (Nat.two_pow_pos L)]
  have hzle : z ≤ n := by rw [hN, hz, ← hKL, Nat.pow_add]; exact Nat.le_mul_of_pos_left _ (Nat.two_pow_pos K)
  have hzk : z * k = n := by rw [hN, hz, hk, ← hKL, Nat.pow_add, Nat.mul_comm]
  have hkle : k ≤ n := by rw [← hkn]; exact Nat.div_le_self _ _
  have hk1 : 1 ≤ k := by rw [hk]; exact Nat.two_pow_pos K
  have HK := Lib.hid hk
  have HZ := Lib.hid hz
  have HNN := Lib.hid hN
  have hM3 : M ≤ 3 := by omega
  clear hbz hpw hk hz hN hE
  go_enter Try.func26, Try.ntmps26
  go_upto_region 1 with fail
  have hci0 : ¬ ((n : Int) < (z : Int)) := by omega
  have hci1 : ¬ ((n : Int) > 65536) := by omega
  refine wp_region_lit ?_
  refine wpList_run (by kernel_rfl) (.int .i64 (z : Int)) w rfl ?_
  simp only [Act.put, List.setIfInBounds_toArray, List.set_cons_zero, List.set_cons_succ]
  refine wpList_call (by kernel_rfl) 40 Try.func40 (by kernel_rfl) (by kernel_rfl) _ _ #[.int .i64 (z : Int)] rfl (by kernel_rfl) ?_
  refine (rrate_any (z : Int) w).mono ?_
  rintro e V1 ⟨rfl, hb⟩
  have B0 := Lib.hid hb
  rw [HR.out]
  clear hb 
  refine ⟨_, rfl, ?_⟩
  simp only [Act.put, List.setIfInBounds_toArray, List.set_cons_zero, List.set_cons_succ]
  refine wpList_run (by kernel_rfl) (.bool false) V1 rfl ?_
  simp only [Act.put, List.setIfInBounds_toArray, List.set_cons_zero, List.set_cons_succ]
  refine wpList_run (by kernel_rfl) (.bool false) V1 rfl ?_
  simp only [Act.put, List.setIfInBounds_toArray, List.set_cons_zero, List.set_cons_succ]
  refine wpList_run (by kernel_rfl) (.slice A n c) V1 rfl ?_
  simp only [Act.put, List.setIfInBounds_toArray, List.set_cons_zero, List.set_cons_succ]
  refine wpList_run (by kernel_rfl) (.int .i64 (n : Int)) V1 (xo_len A n c Try.underlying22 rfl rfl) ?_
  simp only [Act.put, List.setIfInBounds_toArray, List.set_cons_zero, List.set_cons_succ]
  refine wpList_call (by kernel_rfl) 41 Try.func41 (by kernel_rfl) (by kernel_rfl) _ _ #[.int .i64 (n : Int)] rfl (by kernel_rfl) ?_
  refine (rpower_any n (by omega) V1).mono ?_
  rintro e V2 ⟨rfl, hb⟩
  have B1 := Lib.hid hb
  rw [HP.out]
  clear hb 
  refine ⟨_, rfl, ?_⟩
  simp only [Act.put, List.setIfInBounds_toArray, List.set_cons_zero, List.set_cons_succ]
  refine wpList_run (by kernel_rfl) (.bool false) V2 rfl ?_
  simp only [Act.put, List.setIfInBounds_toArray, List.set_cons_zero, List.set_cons_succ]
  refine wpList_run (by kernel_rfl) (.bool false) V2 rfl ?_
  simp only [Act.put, List.setIfInBounds_toArray, List.set_cons_zero, List.set_cons_succ]
  refine wpList_run (by kernel_rfl) (.bool false) V2 rfl ?_
  simp only [Act.put, List.setIfInBounds_toArray, List.set_cons_zero, List.set_cons_succ]
  refine wpList_run (by kernel_rfl) (.slice A n c) V2 rfl ?_
  simp only [Act.put, List.setIfInBounds_toArray, List.set_cons_zero, List.set_cons_succ]
  refine wpList_run (by kernel_rfl) (.int .i64 (n : Int)) V2 (xo_len A n c Try.underlying22 rfl rfl) ?_
  simp only [Act.put, List.setIfInBounds_toArray, List.set_cons_zero, List.set_cons_succ]
  refine wpList_run (by kernel_rfl) (.int .i64 (z : Int)) V2 rfl ?_
  simp only [Act.put, List.setIfInBounds_toArray, List.set_cons_zero, List.set_cons_succ]
  refine wpList_run (by kernel_rfl) (.bool false) V2 (xo_lssF .i64 (n : Int) (z : Int) (by omega) rfl rfl rfl) ?_
  simp only [Act.put, List.setIfInBounds_toArray, List.set_cons_zero, List.set_cons_succ]
  refine wpList_run (by kernel_rfl) (.bool false) V2 rfl ?_
  simp only [Act.put, List.setIfInBounds_toArray, List.set_cons_zero, List.set_cons_succ]
  refine wpList_run (by kernel_rfl) (.bool false) V2 rfl ?_
  simp only [Act.put, List.setIfInBounds_toArray, List.set_cons_zero, List.set_cons_succ]
  refine wpList_run (by kernel_rfl) (.slice A n c) V2 rfl ?_
  simp only [Act.put, List.setIfInBounds_toArray, List.set_cons_zero, List.set_cons_succ]
  refine wpList_run (by kernel_rfl) (.int .i64 (n : Int)) V2 (xo_len A n c Try.underlying22 rfl rfl) ?_
  simp only [Act.put, List.setIfInBounds_toArray, List.set_cons_zero, List.set_cons_succ]
  refine wpList_run (by kernel_rfl) (.bool false) V2 (xo_gtrF .i64 (n : Int) 65536 (by omega) rfl rfl rfl) ?_
  simp only [Act.put, List.setIfInBounds_toArray, List.set_cons_zero, List.set_cons_succ]
  refine wpList_run (by kernel_rfl) (.bool false) V2 rfl ?_
  simp only [Act.put, List.setIfInBounds_toArray, List.set_cons_zero, List.set_cons_succ]
  refine wpList_nil ?_
  go_upto_region 3 with fail
  refine wp_region_lit ?_
  refine wpList_run (by kernel_rfl) (.slice A n c) V2 rfl ?_
  simp only [Act.put, List.setIfInBounds_toArray, List.set_cons_zero, List.set_cons_succ]
  refine wpList_run (by kernel_rfl) (.int .i64 (n : Int)) V2 (xo_len A n c Try.underlying22 rfl rfl) ?_
  simp only [Act.put, List.setIfInBounds_toArray, List.set_cons_zero, List.set_cons_succ]
  refine wpList_run (by kernel_rfl) (.int .i64 (z : Int)) V2 rfl ?_
  simp only [Act.put, List.setIfInBounds_toArray, List.set_cons_zero, List.set_cons_succ]
  refine wpList_run (by kernel_rfl) (.int .i64 (k : Int)) V2 (xo_quoN .i64 n z k (by omega) hkn (by rw [IntKind.wrap_i64]; omega) rfl rfl rfl) ?_
  simp only [Act.put, List.setIfInBounds_toArray, List.set_cons_zero, List.set_cons_succ]
  refine wpList_run (by kernel_rfl) (.int .i64 (k : Int)) V2 rfl ?_
  simp only [Act.put, List.setIfInBounds_toArray, List.set_cons_zero, List.set_cons_succ]
  refine wpList_nil ?_
  have C0_2 := Lib.hid (bel_step B0.out B1.out)
  have HBV2 := Lib.hid C0_2.out
  have YHX := (HX.out.keep C0_2.out)
  clear HX
  have HX := Lib.hid YHX
  clear YHX
  obtain ⟨VB2, rfl⟩ : ∃ VB2 : World, VB2 = V2 := ⟨_, rfl⟩
  go_upto_region 4 with fail
  refine wp_region_lit ?_
  refine wpList_mk (by kernel_rfl) #[] 3 0 0 (xo_empty (size := 1) Try.underlying68 (by kernel_rfl) rfl VB2) ?_
  intro g38 V1 hge h0 hb
  have hge2 := Nat.le_trans (Below.refl VB2.heap.size VB2).size hge
  have B0 := Lib.hid hb
  have Ow38 : Hid (V1.ownsRow VB2.heap.size 3 1 (.slice (some ⟨g38, 0, none⟩) 0 0) 0 (fl ixC [])) := Lib.hid (own_new h0 hge2)
  clear hge hge2 h0 hb
  simp only [ptr, Act.put, List.setIfInBounds_toArray, List.set_cons_zero, List.set_cons_succ]
  refine wpList_run (by kernel_rfl) (.slice (some ⟨g38, 0, none⟩) 0 0) V1 rfl ?_
  simp only [Act.put, List.setIfInBounds_toArray, List.set_cons_zero, List.set_cons_succ]
  refine wpList_nil ?_
  go_upto_region 5 with fail
  refine wp_region_lit ?_
  refine wpList_run (by kernel_rfl) (.int .i64 0) V1 rfl ?_
  simp only [Act.put, List.setIfInBounds_toArray, List.set_cons_zero, List.set_cons_succ]
  refine wpList_nil ?_
  have O3 := Ow38.out
  have O4 := B0.out
  go_wp2_with fail
  go_loopw [8, 9] (fun ov p wr => ∃ i : Nat, i ≤ k ∧ p = .int .i64 i ∧ wr.ownsRow VB2.heap.size 3 1 ov i (fl ixC (List.range i)) ∧ Below VB2.heap.size VB2 wr) (fun _ p _ => k - (intOf p).toNat)
  case atStart => exact ⟨0, Nat.zero_le _, rfl, O3, O4⟩
  case round =>
    clear O4 O3
    obtain ⟨wo, rfl⟩ : ∃ wo : World, wo = wr := ⟨_, rfl⟩
    obtain ⟨i, hi, rfl, hOW, hb0⟩ := hrel
    have hbr := hb0
    clear B0
    have B0 := Lib.hid hbr
    clear hbr
    have OW := Lib.hid hOW
    clear hb0 hOW
    by_cases hi1 : i < k
    · have hci6 : ((i : Int) < (k : Int)) := by omega
      go_upto_region 6 with fail
      refine wp_region_lit ?_
      refine wpList_run (by kernel_rfl) (.int .i64 (i : Int)) wo rfl ?_
      simp only [Act.put, List.setIfInBounds_toArray, List.set_cons_zero, List.set_cons_succ]
      refine wpList_run (by kernel_rfl) (.int .i64 (k : Int)) wo rfl ?_
      simp only [Act.put, List.setIfInBounds_toArray, List.set_cons_zero, List.set_cons_succ]
      refine wpList_run (by kernel_rfl) (.bool true) wo (xo_lssT .i64 (i : Int) (k : Int) (by omega) rfl rfl rfl) ?_
      simp only [Act.put, List.setIfInBounds_toArray, List.set_cons_zero, List.set_cons_succ]
      refine wpList_nil ?_
      go_upto_region 8 with fail
      refine wp_region_lit ?_
      refine wpList_run (by kernel_rfl) (u8) wo rfl ?_
      simp only [Act.put, List.setIfInBounds_toArray, List.set_cons_zero, List.set_cons_succ]
      refine wpList_run (by kernel_rfl) (.int .i64 (i : Int)) wo rfl ?_
      simp only [Act.put, List.setIfInBounds_toArray, List.set_cons_zero, List.set_cons_succ]
      refine wpList_mk (by kernel_rfl) ([i].flatMap ixC).toArray 3 1 1 (xg_lit (E := ixC) (bytes := 8) (.int .i64 0) [.tmp 45] [i] 1 Try.underlying68 (by kernel_rfl) rfl (by decide) (by decide) rfl rfl) ?_
      intro g46 V2 hge h0 hb
      have Ge7 : Hid (wo.heap.size ≤ g46) := Lib.hid hge
      have B1 := Lib.hid hb
      have Fv8_46 : Hid (RowG ixC V2 g46 3 ([i])) := Lib.hid (h0)
      have Lt9 : Hid (g46 < V2.heap.size) := Lib.hid (xp_lt Fv8_46.out)
      clear hge h0 hb
      simp only [ptr, Act.put, List.setIfInBounds_toArray, List.set_cons_zero, List.set_cons_succ]
      have C0_2 := Lib.hid (bel_step B0.out B1.out)
      refine wpList_app2 (size := 1) (by kernel_rfl) (.tmp 44) (.tmp 46) 68 rfl (.int .i64 0) 8 Try.underlying68 (by kernel_rfl) rfl (by decide) rfl (own_keep OW.out B1.out) (some ⟨g46, 0, none⟩) 1 1 (fl ixC ([i])) rfl (RowG.sg (n := 1) (c := 1) Fv8_46.out (show ([i]).length = 1 from rfl) (Nat.le_refl _) (by omega)).src (by unfold maxLen; omega) (by omega) C0_2.out.size ?_
      intro v47 X2_10 ho hb1 hg hloc
      have hox : X2_10.ownsRow VB2.heap.size 3 1 v47 (i + 1) (fl ixC ((List.range i) ++ ([i]))) := by rw [fl_append]; exact ho
      have hbr := C0_2.out.trans hb1
      clear B0
      have B0 := Lib.hid hbr
      clear hbr
      have Ow47_11 := Lib.hid hox
      clear ho hox hb1 hg hloc
      simp only [ptr, Act.put, List.setIfInBounds_toArray, List.set_cons_zero, List.set_cons_succ]
      refine wpList_run (by kernel_rfl) (v47) X2_10 rfl ?_
      simp only [Act.put, List.setIfInBounds_toArray, List.set_cons_zero, List.set_cons_succ]
      refine wpList_nil ?_
      have hko := Ow47_11.out
      rw [show List.range i ++ [i] = List.range (i + 1) from List.range_succ.symm] at hko
      go_upto_region 7 with fail
      refine wp_region_lit ?_
      refine wpList_run (by kernel_rfl) (.int .i64 (i : Int)) X2_10 rfl ?_
      simp only [Act.put, List.setIfInBounds_toArray, List.set_cons_zero, List.set_cons_succ]
      refine wpList_run (by kernel_rfl) (.int .i64 ((i + 1 : Nat) : Int)) X2_10 (xo_addI (i : Int) 1 ((i + 1 : Nat) : Int) (by omega) (by omega) (by omega) rfl rfl rfl) ?_
      simp only [Act.put, List.setIfInBounds_toArray, List.set_cons_zero, List.set_cons_succ]
      refine wpList_run (by kernel_rfl) (.int .i64 ((i + 1 : Nat) : Int)) X2_10 rfl ?_
      simp only [Act.put, List.setIfInBounds_toArray, List.set_cons_zero, List.set_cons_succ]
      refine wpList_nil ?_
      have hq12 := B0.out
      go_wp2_with fail
      go_roundw
      case rel => exact ⟨i + 1, by omega, by go_num, hko, hq12⟩
      case measure => simp [intOf]; omega
    · have hci6 : ¬ ((i : Int) < (k : Int)) := by omega
      go_upto_region 6 with fail
      refine wp_region_lit ?_
      refine wpList_run (by kernel_rfl) (.int .i64 (i : Int)) wo rfl ?_
      simp only [Act.put, List.setIfInBounds_toArray, List.set_cons_zero, List.set_cons_succ]
      refine wpList_run (by kernel_rfl) (.int .i64 (k : Int)) wo rfl ?_
      simp only [Act.put, List.setIfInBounds_toArray, List.set_cons_zero, List.set_cons_succ]
      refine wpList_run (by kernel_rfl) (.bool false) wo (xo_lssF .i64 (i : Int) (k : Int) (by omega) rfl rfl rfl) ?_
      simp only [Act.put, List.setIfInBounds_toArray, List.set_cons_zero, List.set_cons_succ]
      refine wpList_nil ?_
      obtain rfl : k = i := by omega
      obtain ⟨g, d, hvs, hge⟩ := own_at (i := 0) OW.out hk1
      subst hvs
      have HGE := Lib.hid hge
      clear hge
      have o0 := OW.out
      have b0 := B0.out
      go_wp2_with fail
      go_loopw [10, 11, 12, 13] (fun q10 q11 q12 q13 wr => ∃ (j : Nat) (js : List Nat), E[j]? = some js ∧ (∀ (j2 : Nat) (l : List Nat), j2 < j → E[j2]? = some l → BadR n k M xs l) ∧ wr.ownsRow VB2.heap.size 3 1 (.slice (some ⟨g, 0, none⟩) k d) k (fl ixC js) ∧ Below VB2.heap.size VB2 wr) (fun _ _ _ _ wr => E.length - E.idxOf (atL wr g k))
      case atStart => exact ⟨0, _, HE.out.first, (fun _ _ h => absurd h (Nat.not_lt_zero _)), o0, b0⟩
      case round =>
        clear o0 b0 OW B0
        obtain ⟨wz, rfl⟩ : ∃ wz : World, wz = wr := ⟨_, rfl⟩
        obtain ⟨j, js, hj, hbad, oj, bb⟩ := hrel
        have hjE := HE.out.ok js (List.mem_of_getElem? hj)
        obtain ⟨hjl, hjd, hjlt⟩ := hjE
        have hm1 : E.idxOf (atL wz g k) = j := by rw [atL_of (Sg.ownS oj)]; exact idx_at HE.out.nd hj
        have hjlen := (List.getElem?_eq_some_iff.1 hj).1
        have B0 := Lib.hid bb
        have OJ := Lib.hid oj
        have HJs := Lib.hid (Sg.ownS oj)
        have HJE := Lib.hid hj
        have HBAD := Lib.hid hbad
        have HJL := Lib.hid hjl
        have HJD := Lib.hid hjd
        have HJT := Lib.hid hjlt
        have HM1 := Lib.hid hm1
        clear bb oj hj hbad hjl hjd hjlt hm1
        go_upto_region 9 with fail
        refine wp_region_lit ?_
        refine wpList_run (by kernel_rfl) (.slice A n c) wz rfl ?_
        simp only [Act.put, List.setIfInBounds_toArray, List.set_cons_zero, List.set_cons_succ]
        refine wpList_run (by kernel_rfl) (.slice (some ⟨g, 0, none⟩) k d) wz rfl ?_
        simp only [Act.put, List.setIfInBounds_toArray, List.set_cons_zero, List.set_cons_succ]
        refine wpList_call (by kernel_rfl) 49 Try.func49 (by kernel_rfl) (by kernel_rfl) _ _ #[.slice A n c, .slice (some ⟨g, 0, none⟩) k d] rfl (by kernel_rfl) ?_
        refine (through_any A n c xs (some ⟨g, 0, none⟩) k d js M HNN.out (by omega) (by omega) HJT.out HJD.out wz (HX.out.keep B0.out) HJs.out).mono ?_
        rintro e V2 ⟨At, ct, rfl, row, hrl, hs, hev, hb⟩
        have B1 := Lib.hid hb
        have HEV := Lib.hid hev
        clear hev
        have Ht := Lib.hid hs
        clear hb hs
        refine ⟨_, rfl, ?_⟩
        simp only [Act.put, List.setIfInBounds_toArray, List.set_cons_zero, List.set_cons_succ]
        refine wpList_run (by kernel_rfl) (.slice At k ct) V2 rfl ?_
        simp only [Act.put, List.setIfInBounds_toArray, List.set_cons_zero, List.set_cons_succ]
        refine wpList_nil ?_
        go_upto_region 10 with fail
        refine wp_region_lit ?_
        refine wpList_run (by kernel_rfl) (.slice At k ct) V2 rfl ?_
        simp only [Act.put, List.setIfInBounds_toArray, List.set_cons_zero, List.set_cons_succ]
        refine wpList_run (by kernel_rfl) (.int .i64 (z : Int)) V2 rfl ?_
        simp only [Act.put, List.setIfInBounds_toArray, List.set_cons_zero, List.set_cons_succ]
        refine wpList_call (by kernel_rfl) 10 Try.func10 (by kernel_rfl) (by kernel_rfl) _ _ #[.slice At k ct, .int .i64 (z : Int)] rfl (by kernel_rfl) ?_
        refine (rencodeN At k ct row z K L n M HK.out HZ.out hL1 (by omega) hKL (by omega) HNN.out V2 Ht.out).mono ?_
        rintro e V3 ⟨Au, cu, rfl, hs, hb⟩
        have B2 := Lib.hid hb
        have Hu := Lib.hid hs
        clear hb hs
        refine ⟨_, rfl, ?_⟩
        simp only [Act.put, List.setIfInBounds_toArray, List.set_cons_zero, List.set_cons_succ]
        refine wpList_run (by kernel_rfl) (.tuple #[.slice Au n cu, .int .i64 0]) V3 rfl ?_
        simp only [Act.put, List.setIfInBounds_toArray, List.set_cons_zero, List.set_cons_succ]
        refine wpList_run (by kernel_rfl) (.slice Au n cu) V3 rfl ?_
        simp only [Act.put, List.setIfInBounds_toArray, List.set_cons_zero, List.set_cons_succ]
        refine wpList_run (by kernel_rfl) (.int .i64 0) V3 rfl ?_
        simp only [Act.put, List.setIfInBounds_toArray, List.set_cons_zero, List.set_cons_succ]
        refine wpList_run (by kernel_rfl) (.slice Au n cu) V3 rfl ?_
        simp only [Act.put, List.setIfInBounds_toArray, List.set_cons_zero, List.set_cons_succ]
        refine wpList_run (by kernel_rfl) (.int .i64 0) V3 rfl ?_
        simp only [Act.put, List.setIfInBounds_toArray, List.set_cons_zero, List.set_cons_succ]
        refine wpList_nil ?_
        go_upto_region 11 with fail
        refine wp_region_lit ?_
        refine wpList_run (by kernel_rfl) (.slice Au n cu) V3 rfl ?_
        simp only [Act.put, List.setIfInBounds_toArray, List.set_cons_zero, List.set_cons_succ]
        refine wpList_run (by kernel_rfl) (.slice A n c) V3 rfl ?_
        simp only [Act.put, List.setIfInBounds_toArray, List.set_cons_zero, List.set_cons_succ]
        have C0_2 := Lib.hid (bel_step B0.out B1.out)
        have C0_3 := Lib.hid (bel_step C0_2.out B2.out)
        refine wpList_call (by kernel_rfl) 20 Try.func20 (by kernel_rfl) (by kernel_rfl) _ _ #[.slice Au n cu, .slice A n c] rfl (by kernel_rfl) ?_
        refine (rdistance_any Au n cu (Gold.cwF row M) A n c xs (by omega) (by omega) V3 Hu.out (HX.out.keep C0_3.out)).mono ?_
        rintro e V4 ⟨rfl, hb⟩
        have B3 := Lib.hid hb
        rw [dst_cw HNN.out hxl, ← differ_cw HNN.out xs row]
        obtain ⟨ds, hds⟩ : ∃ d, (Gold.differF n M (Gold.cfF xs) row).length = d := ⟨_, rfl⟩
        have hdsn : ds ≤ n := by rw [← hds]; exact differ_le _ _ _ _
        rw [hds]
        have HDS := Lib.hid hds
        clear hds
        clear hb 
        refine ⟨_, rfl, ?_⟩
        simp only [Act.put, List.setIfInBounds_toArray, List.set_cons_zero, List.set_cons_succ]
        refine wpList_run (by kernel_rfl) (.int .i64 (ds : Int)) V4 rfl ?_
        simp only [Act.put, List.setIfInBounds_toArray, List.set_cons_zero, List.set_cons_succ]
        refine wpList_nil ?_
        by_cases hnr : 2 * ds < n - k + 1
        · have hci7 : (((2 * ds : Nat) : Int) < ((n - k + 1 : Nat) : Int)) := by omega
          go_upto_region 12 with fail
          refine wp_region_lit ?_
          refine wpList_run (by kernel_rfl) (.int .i64 (ds : Int)) V4 rfl ?_
          simp only [Act.put, List.setIfInBounds_toArray, List.set_cons_zero, List.set_cons_succ]
          refine wpList_run (by kernel_rfl) (.int .i64 ((2 * ds : Nat) : Int)) V4 (xo_mulI 2 (ds : Int) ((2 * ds : Nat) : Int) (by omega) (by omega) (by omega) rfl rfl rfl) ?_
          simp only [Act.put, List.setIfInBounds_toArray, List.set_cons_zero, List.set_cons_succ]
          refine wpList_run (by kernel_rfl) (.int .i64 (k : Int)) V4 rfl ?_
          simp only [Act.put, List.setIfInBounds_toArray, List.set_cons_zero, List.set_cons_succ]
          refine wpList_run (by kernel_rfl) (.int .i64 (z : Int)) V4 rfl ?_
          simp only [Act.put, List.setIfInBounds_toArray, List.set_cons_zero, List.set_cons_succ]
          refine wpList_call (by kernel_rfl) 51 Try.func51 (by kernel_rfl) (by kernel_rfl) _ _ #[.int .i64 (k : Int), .int .i64 (z : Int)] rfl (by kernel_rfl) ?_
          refine (rminDistance_any k z (by omega) (by rw [hzk]; omega) V4).mono ?_
          rintro e V5 ⟨rfl, hb⟩
          have B4 := Lib.hid hb
          rw [hzk]
          clear hb 
          refine ⟨_, rfl, ?_⟩
          simp only [Act.put, List.setIfInBounds_toArray, List.set_cons_zero, List.set_cons_succ]
          refine wpList_run (by kernel_rfl) (.bool true) V5 (xo_lssT .i64 ((2 * ds : Nat) : Int) ((n - k + 1 : Nat) : Int) (by omega) rfl rfl rfl) ?_
          simp only [Act.put, List.setIfInBounds_toArray, List.set_cons_zero, List.set_cons_succ]
          refine wpList_nil ?_
          go_upto_region 13 with fail
          refine wp_region_lit ?_
          refine wpList_run (by kernel_rfl) (.slice At k ct) V5 rfl ?_
          simp only [Act.put, List.setIfInBounds_toArray, List.set_cons_zero, List.set_cons_succ]
          refine wpList_run (by kernel_rfl) (.int .i64 (ds : Int)) V5 rfl ?_
          simp only [Act.put, List.setIfInBounds_toArray, List.set_cons_zero, List.set_cons_succ]
          refine wpList_run (by kernel_rfl) (.slice At k ct) V5 rfl ?_
          simp only [Act.put, List.setIfInBounds_toArray, List.set_cons_zero, List.set_cons_succ]
          refine wpList_run (by kernel_rfl) (.int .i64 (ds : Int)) V5 rfl ?_
          simp only [Act.put, List.setIfInBounds_toArray, List.set_cons_zero, List.set_cons_succ]
          refine wpList_run (by kernel_rfl) (.int .i64 0) V5 rfl ?_
          simp only [Act.put, List.setIfInBounds_toArray, List.set_cons_zero, List.set_cons_succ]
          refine wpList_nil ?_
          have C2_4 := Lib.hid (bel_step B2.out B3.out)
          have C2_5 := Lib.hid (bel_step C2_4.out B4.out)
          have C0_4 := Lib.hid (bel_step C0_3.out B3.out)
          have C0_5 := Lib.hid (bel_step C0_4.out B4.out)
          have hfin := rdec_yes (n := n) (M := M) (xs := xs) hrl (by rw [HDS.out]; omega) HDS.out (Ht.out.keep C2_5.out) (HBV2.out.trans (C0_5.out.mono HBV2.out.size))
          go_wp2_with fail
          go_ret3
          exact hfin
        · have hci7 : ¬ (((2 * ds : Nat) : Int) < ((n - k + 1 : Nat) : Int)) := by omega
          go_upto_region 12 with fail
          refine wp_region_lit ?_
          refine wpList_run (by kernel_rfl) (.int .i64 (ds : Int)) V4 rfl ?_
          simp only [Act.put, List.setIfInBounds_toArray, List.set_cons_zero, List.set_cons_succ]
          refine wpList_run (by kernel_rfl) (.int .i64 ((2 * ds : Nat) : Int)) V4 (xo_mulI 2 (ds : Int) ((2 * ds : Nat) : Int) (by omega) (by omega) (by omega) rfl rfl rfl) ?_
          simp only [Act.put, List.setIfInBounds_toArray, List.set_cons_zero, List.set_cons_succ]
          refine wpList_run (by kernel_rfl) (.int .i64 (k : Int)) V4 rfl ?_
          simp only [Act.put, List.setIfInBounds_toArray, List.set_cons_zero, List.set_cons_succ]
          refine wpList_run (by kernel_rfl) (.int .i64 (z : Int)) V4 rfl ?_
          simp only [Act.put, List.setIfInBounds_toArray, List.set_cons_zero, List.set_cons_succ]
          refine wpList_call (by kernel_rfl) 51 Try.func51 (by kernel_rfl) (by kernel_rfl) _ _ #[.int .i64 (k : Int), .int .i64 (z : Int)] rfl (by kernel_rfl) ?_
          refine (rminDistance_any k z (by omega) (by rw [hzk]; omega) V4).mono ?_
          rintro e V5 ⟨rfl, hb⟩
          have B4 := Lib.hid hb
          rw [hzk]
          clear hb 
          refine ⟨_, rfl, ?_⟩
          simp only [Act.put, List.setIfInBounds_toArray, List.set_cons_zero, List.set_cons_succ]
          refine wpList_run (by kernel_rfl) (.bool false) V5 (xo_lssF .i64 ((2 * ds : Nat) : Int) ((n - k + 1 : Nat) : Int) (by omega) rfl rfl rfl) ?_
          simp only [Act.put, List.setIfInBounds_toArray, List.set_cons_zero, List.set_cons_succ]
          refine wpList_nil ?_
          have hbd : BadR n k M xs js := bad_row HNN.out (by omega) hkle HJL.out HJD.out HJT.out hrl (fun p hp => by obtain ⟨m, hm⟩ := List.getElem?_of_mem hp; exact HEV.out m p hm) (by rw [HDS.out]; omega)
          have HBD := Lib.hid hbd
          clear hbd
          go_upto_region 14 with fail
          refine wp_region_lit ?_
          refine wpList_run (by kernel_rfl) (.slice (some ⟨g, 0, none⟩) k d) V5 rfl ?_
          simp only [Act.put, List.setIfInBounds_toArray, List.set_cons_zero, List.set_cons_succ]
          refine wpList_run (by kernel_rfl) (.slice A n c) V5 rfl ?_
          simp only [Act.put, List.setIfInBounds_toArray, List.set_cons_zero, List.set_cons_succ]
          refine wpList_run (by kernel_rfl) (.int .i64 (n : Int)) V5 (xo_len A n c Try.underlying22 rfl rfl) ?_
          simp only [Act.put, List.setIfInBounds_toArray, List.set_cons_zero, List.set_cons_succ]
          refine wpList_op (by kernel_rfl) ?_
          refine hOp_call 52 Try.func52 (by kernel_rfl) (by kernel_rfl) _ _ #[.slice (some ⟨g, 0, none⟩) k d, .int .i64 (n : Int)] rfl (by kernel_rfl) ?_
          have C0_4 := Lib.hid (bel_step C0_3.out B3.out)
          have C0_5 := Lib.hid (bel_step C0_4.out B4.out)
          have C1_3 := Lib.hid (bel_step B1.out B2.out)
          have C1_4 := Lib.hid (bel_step C1_3.out B3.out)
          have C1_5 := Lib.hid (bel_step C1_4.out B4.out)
          refine (rnext_any (some ⟨g, 0, none⟩) k d js n hk1 hkle (by omega) HJT.out VB2 V5 C0_5.out (own_keep OJ.out C1_5.out)).mono ?_
          rintro e X1 ⟨hor, hbx⟩
          rcases hor with ⟨hn0, rfl, ho⟩ | ⟨l, hn1, rfl, ho⟩
          · refine ⟨_, rfl, ?_⟩
            simp only [ptr, Act.put, List.setIfInBounds_toArray, List.set_cons_zero, List.set_cons_succ]
            clear B0
            have B0 := Lib.hid hbx
            refine wpList_run (by kernel_rfl) (.bool true) X1 rfl ?_
            simp only [Act.put, List.setIfInBounds_toArray, List.set_cons_zero, List.set_cons_succ]
            refine wpList_nil ?_
            go_upto_region 15 with fail
            refine wp_region_lit ?_
            refine wpList_run (by kernel_rfl) (.slice none 0 0) X1 rfl ?_
            simp only [Act.put, List.setIfInBounds_toArray, List.set_cons_zero, List.set_cons_succ]
            refine wpList_run (by kernel_rfl) (.int .i64 0) X1 rfl ?_
            simp only [Act.put, List.setIfInBounds_toArray, List.set_cons_zero, List.set_cons_succ]
            refine wpList_run (by kernel_rfl) (.int .i64 4) X1 rfl ?_
            simp only [Act.put, List.setIfInBounds_toArray, List.set_cons_zero, List.set_cons_succ]
            refine wpList_nil ?_
            have hend : E[j + 1]? = none := by rw [← HE.out.next j js HJE.out]; exact hn0
            have hfin := rdec_no HE.out hkle HJE.out hend HBAD.out HBD.out (HBV2.out.trans (B0.out.mono HBV2.out.size))
            go_wp2_with fail
            go_ret3
            exact hfin
          · refine ⟨_, rfl, ?_⟩
            simp only [ptr, Act.put, List.setIfInBounds_toArray, List.set_cons_zero, List.set_cons_succ]
            clear B0
            have B0 := Lib.hid hbx
            refine wpList_run (by kernel_rfl) (.bool false) X1 rfl ?_
            simp only [Act.put, List.setIfInBounds_toArray, List.set_cons_zero, List.set_cons_succ]
            refine wpList_nil ?_
            have hj2 : E[j + 1]? = some l := by rw [← HE.out.next j js HJE.out]; exact hn1
            have hbad2 : ∀ (j2 : Nat) (l : List Nat), j2 < j + 1 → E[j2]? = some l → BadR n k M xs l := fun j2 l h hl => by
              rcases Nat.lt_or_ge j2 j with h2 | h2
              · exact HBAD.out j2 l h2 hl
              · obtain rfl : j2 = j := by omega
                rw [HJE.out] at hl
                injection hl with hl
                subst hl
                exact HBD.out
            have hm2 : E.idxOf (atL X1 g k) = j + 1 := by rw [atL_of (Sg.ownS ho)]; exact idx_at HE.out.nd hj2
            have bf := B0.out
            go_wp2_with fail
            go_roundw
            case rel => exact ⟨j + 1, l, hj2, hbad2, ho, bf⟩
            case measure => rw [hm2, HM1.out]; have := (List.getElem?_eq_some_iff.1 hj2).1; omega
end Go.Proofs.Ytkefijogpiofbaa

namespace Go.Proofs.Ytkefijogpiofbaa
set_option linter.unusedVariables false
set_option linter.unusedSimpArgs false
set_option linter.unusedSectionVars false
set_option maxRecDepth 8000
open Go.ChangeShapes Go.WideShapes Go.ChangeAt Go.RowKit Go.Joins Go.Deep Go.Proofs.Ytkefijogpiofbaa.K
section
variable {H : Type} {enc : TypeId × Value → H} {W : World} {base : Nat} {sp : Nat → Bool} {b1 : Nat} {hd : Bool} {v : Value} {d : DataW H} {p : List MemPlace}
theorem cells9E : Try.prog.cellsOf 71 = 2 := by kernel_rfl
theorem cells9B : Try.prog.cellsOf 5 = 1 := by kernel_rfl
theorem trod9_err {m : Nat} {cs : List Value} {y : DataW H × List MemPlace} (hl : cs.length = 2) (h : DataW.trod enc Try.prog W b1 sp hd m 71 cs = some y) : ∃ o : Nat × Nat, cs = erC o ∧ (o.1 < 256 ∧ o.2 < 18446744073709551616) := by
  obtain ⟨ys, m2, _, _, _, hn, hel⟩ := DataW.trod_struct Try.underlying71 h
  match cs, hl, ys, hn with
  | [c0, c1], _, [y0, y1], _ =>
    have g0 : DataW.trod enc Try.prog W b1 sp hd m2 5 [c0] = some y0 := by simpa [cells9B] using hel 0 _ rfl
    have g1 : DataW.trod enc Try.prog W b1 sp hd m2 29 [c1] = some y1 := by simpa [cells9U] using hel 1 _ rfl
    obtain ⟨a, e0, _, w0⟩ := DataW.trod_int Try.underlying5 g0
    obtain ⟨b, e1, h1⟩ := trod9_u64 g1
    have h0 := bounds_u8 w0
    simp only [List.cons.injEq, and_true, wdC] at e0 e1
    subst e0 e1
    exact ⟨(a.toNat, b), by simp only [erC]; rw [Int.toNat_of_nonneg h0.1], by show a.toNat < 256; omega, h1⟩
theorem open9_errs (hv : Value.okWide Try.prog W .any base 42 v) (h : DataW.Trod enc Try.prog W b1 sp hd 42 v d p) : ∃ (A : Option Addr) (n c : Nat) (xs : List (Nat × Nat)), v = .slice A n c ∧ Sg erC 2 W A n c xs ∧ ∀ x ∈ xs, x.1 < 256 ∧ x.2 < 18446744073709551616 := by
  obtain ⟨A, n, c, rfl⟩ : ∃ A n c, v = .slice A n c := okWide_slice Try.underlying42 hv
  obtain ⟨fuel, hf⟩ := h
  obtain ⟨A2, n2, c2, xs, e, hs, hp⟩ := open_seq (E := erC) (fun x => x.1 < 256 ∧ x.2 < 18446744073709551616) Try.underlying42 cells9E (fun m cs y hl hy => trod9_err hl hy) (show DataW.trod enc Try.prog W b1 sp hd fuel 42 [.slice A n c] = some (d, p) by simpa [Value.cells] using hf)
  simp only [List.cons.injEq, Value.slice.injEq, and_true] at e
  obtain ⟨rfl, rfl, rfl⟩ := e
  exact ⟨A, n, c, xs, rfl, hs, hp⟩
end
end Go.Proofs.Ytkefijogpiofbaa

