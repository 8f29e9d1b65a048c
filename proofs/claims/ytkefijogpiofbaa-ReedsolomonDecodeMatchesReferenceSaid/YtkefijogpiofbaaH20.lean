/- Several texts in one: Ul9, Um9, Swe. -/
import Derived.Test.YtkefijogpiofbaaH19
import Derived.Test.YtkefijogpiofbaaH14
import Derived.Test.YtkefijogpiofbaaH15
namespace Gold
set_option linter.unusedVariables false
set_option linter.unusedSimpArgs false
set_option linter.unusedSectionVars false
set_option maxRecDepth 8000
/-- from the end on, the positions that can't grow (c: the word's length less theirs) are passed over -/
def stopN (c : Nat) (js : List Nat) : Nat → Nat
  | 0 => 0
  | i + 1 => if js.getD i 0 = c + i then stopN c js i else i + 1
/-- position i grows by one, the q behind it follow -/
def nxL (js : List Nat) (i q : Nat) : List Nat := (List.range js.length).map fun j => if i ≤ j ∧ j ≤ i + q then js.getD i 0 + 1 + (j - i) else js.getD j 0
theorem nxL_length (js : List Nat) (i q : Nat) : (nxL js i q).length = js.length := by simp [nxL]
theorem nxL_get {js : List Nat} {i q j : Nat} (h : j < js.length) : (nxL js i q)[j]? = some (if i ≤ j ∧ j ≤ i + q then js.getD i 0 + 1 + (j - i) else js.getD j 0) := by simp [nxL, h]
theorem nxL_zero {js : List Nat} {i a : Nat} (hi : js[i]? = some a) : js.set i (a + 1) = nxL js i 0 := by
  have hl := (List.getElem?_eq_some_iff.1 hi).1
  refine List.ext_getElem? fun j => ?_
  by_cases h : j < js.length
  · rw [nxL_get h, List.getElem?_set]
    by_cases e : i = j
    · subst e
      rw [if_pos rfl, if_pos h, if_pos (by omega), List.getD_eq_getElem?_getD, hi, Nat.sub_self]
      rfl
    · rw [if_neg e, if_neg (by omega), List.getD_eq_getElem?_getD, List.getElem?_eq_getElem h]
      rfl
  · rw [List.getElem?_eq_none (by rw [List.length_set]; omega), List.getElem?_eq_none (by rw [nxL_length]; omega)]
theorem nxL_set {js : List Nat} {i q : Nat} (h : i + q + 1 < js.length) : (nxL js i q).set (i + q + 1) (js.getD i 0 + 1 + q + 1) = nxL js i (q + 1) := by
  refine List.ext_getElem? fun j => ?_
  by_cases hj : j < js.length
  · rw [nxL_get hj, List.getElem?_set, nxL_length]
    by_cases e : i + q + 1 = j
    · subst e
      rw [if_pos rfl, if_pos hj, if_pos (by omega)]
      congr 1
      omega
    · rw [if_neg e, nxL_get hj]
      by_cases hb : i ≤ j ∧ j ≤ i + q
      · rw [if_pos hb, if_pos (by omega)]
      · rw [if_neg hb, if_neg (by omega)]
  · rw [List.getElem?_eq_none (by rw [List.length_set, nxL_length]; omega), List.getElem?_eq_none (by rw [nxL_length]; omega)]
def nextN (c : Nat) (js : List Nat) : Option (List Nat) := match stopN c js js.length with
  | 0 => none
  | i + 1 => some (nxL js i (js.length - 1 - i))
/-- all positions from js on -/
def enN (c : Nat) : Nat → List Nat → List (List Nat)
  | 0, js => [js]
  | f + 1, js => js :: match nextN c js with
    | none => []
    | some l => enN c f l
/-- all choices of a list's elements -/
def subsL : List Nat → List (List Nat)
  | [] => [[]]
  | a :: l => subsL l ++ (subsL l).map (a :: ·)
theorem mem_subsL : ∀ {l L : List Nat}, l.Sublist L → l ∈ subsL L
  | _, _, .slnil => by simp [subsL]
  | _, _, .cons a h => by simp only [subsL, List.mem_append]; exact .inl (mem_subsL h)
  | _, _, .cons_cons a h => by simp only [subsL, List.mem_append, List.mem_map]; exact .inr ⟨_, mem_subsL h, rfl⟩
/-- what is to be known of an enumeration -/
structure EnN (n k : Nat) (E : List (List Nat)) : Prop where
  first : E[0]? = some (List.range k)
  next : ∀ j js, E[j]? = some js → nextN (n - k) js = E[j + 1]?
  ok : ∀ js ∈ E, js.length = k ∧ js.Nodup ∧ ∀ j ∈ js, j < n
  all : ∀ l, l.Sublist (List.range n) → l.length = k → l ∈ E
  nd : E.Nodup
def enB (n k : Nat) (E : List (List Nat)) : Bool :=
  (E[0]? == some (List.range k)) && ((List.range E.length).all fun j => decide (nextN (n - k) (E.getD j []) = E[j + 1]?)) && (E.all fun js => (js.length == k) && decide js.Nodup && js.all fun j => decide (j < n)) && ((subsL (List.range n)).all fun l => !(l.length == k) || decide (l ∈ E)) && decide E.Nodup
theorem enB_of {n k : Nat} {E : List (List Nat)} (h : enB n k E = true) : EnN n k E := by
  unfold enB at h
  simp only [Bool.and_eq_true, List.all_eq_true, beq_iff_eq, decide_eq_true_eq, List.mem_range, Bool.or_eq_true, Bool.not_eq_true'] at h
  obtain ⟨⟨⟨⟨h1, h2⟩, h3⟩, h4⟩, h5⟩ := h
  refine ⟨h1, fun j js hj => ?_, fun js hj => ?_, fun l hl hk => ?_, h5⟩
  · have := h2 j (List.getElem?_eq_some_iff.1 hj).1
    rw [List.getD_eq_getElem?_getD, hj] at this
    exact this
  · exact ⟨(h3 js hj).1.1, (h3 js hj).1.2, (h3 js hj).2⟩
  · rcases h4 l (mem_subsL hl) with h | h
    · rw [hk] at h
      simp at h
    · exact h
theorem en_any {K L : Nat} (h1 : 1 ≤ L) (h3 : K + L ≤ 3) : ∃ E, EnN (2 ^ (K + L)) (2 ^ K) E := by
  have : (K = 0 ∧ L = 1) ∨ (K = 0 ∧ L = 2) ∨ (K = 0 ∧ L = 3) ∨ (K = 1 ∧ L = 1) ∨ (K = 1 ∧ L = 2) ∨ (K = 2 ∧ L = 1) := by omega
  rcases this with ⟨rfl, rfl⟩ | ⟨rfl, rfl⟩ | ⟨rfl, rfl⟩ | ⟨rfl, rfl⟩ | ⟨rfl, rfl⟩ | ⟨rfl, rfl⟩
  · exact ⟨enN 1 100 (List.range 1), enB_of (by decide +kernel)⟩
  · exact ⟨enN 3 100 (List.range 1), enB_of (by decide +kernel)⟩
  · exact ⟨enN 7 100 (List.range 1), enB_of (by decide +kernel)⟩
  · exact ⟨enN 2 100 (List.range 2), enB_of (by decide +kernel)⟩
  · exact ⟨enN 6 100 (List.range 2), enB_of (by decide +kernel)⟩
  · exact ⟨enN 4 100 (List.range 4), enB_of (by decide +kernel)⟩
/-- a near row agrees with the word at one of the choices -/
theorem near_agrees {n k M : Nat} {w : Nat → F} {f : List F} {E : List (List Nat)} (hE : EnN n k E) (hk : k ≤ n) (hf : (differF n M w f).length ≤ (n - k) / 2) : ∃ js ∈ E, ∀ j ∈ js, evL f (ptF M j) = w j := by
  have hc := filter_compl (fun i => decide (evL f (ptF M i) = w i)) (List.range n)
  rw [List.length_range] at hc
  have hd : ((List.range n).filter fun i => !decide (evL f (ptF M i) = w i)).length = (differF n M w f).length := rfl
  rw [hd] at hc
  refine ⟨((List.range n).filter fun i => decide (evL f (ptF M i) = w i)).take k, hE.all _ ((List.take_sublist _ _).trans List.filter_sublist) (by rw [List.length_take]; omega), fun j hj => ?_⟩
  have := (List.mem_filter.1 (List.mem_of_mem_take hj)).2
  simpa using this
/-- two rows that agree at as many positions as they have elements -/
theorem rows_at {n k M : Nat} {f g : List F} {js : List Nat} (hn : n = 2 ^ M) (hM : M ≤ 16) (hjl : js.length = k) (hd : js.Nodup) (hlt : ∀ j ∈ js, j < n) (hf : f.length ≤ k) (hg : g.length ≤ k) (h : ∀ j ∈ js, evL f (ptF M j) = evL g (ptF M j)) (hk : k ≤ 65536) : ∀ i, cfF f i = cfF g i := by
  have hm := mnF_le f g 0 1
  have hz := zero_at (p := mnF f g 0 1) (K := M) hM js hd (fun i hi => by rw [← hn]; exact hlt i hi) (by omega) (by omega) (fun i hi => by
    rw [evL_mnF, h i hi, F_pow_zero]
    grind)
  intro i
  have h1 := hz i
  rw [cfF_mnF, if_pos (Nat.zero_le _), Nat.sub_zero] at h1
  grind
end Gold

namespace Go.Proofs.Ytkefijogpiofbaa
set_option linter.unusedVariables false
set_option linter.unusedSimpArgs false
set_option linter.unusedSectionVars false
set_option maxRecDepth 8000
open Go.RowKit Go.Proofs.Ytkefijogpiofbaa.K
attribute [local irreducible] wpList wpQuiet
/-- what next leaves -/
def nxtPost (V : World) (B : Option Addr) (n k d : Nat) (js : List Nat) (e : Ending) (w' : World) : Prop :=
  ((Gold.nextN (n - k) js = none ∧ e = .returned (.bool false) ∧ w'.ownsRow V.heap.size 3 1 (.slice B k d) k (fl ixC js)) ∨
    ∃ l, Gold.nextN (n - k) js = some l ∧ e = .returned (.bool true) ∧ w'.ownsRow V.heap.size 3 1 (.slice B k d) k (fl ixC l)) ∧ Below V.heap.size V w'
theorem nxt_none {V w' : World} {B : Option Addr} {n k d : Nat} {js : List Nat} (hl : js.length = k) (hs : Gold.stopN (n - k) js k = 0) (ho : w'.ownsRow V.heap.size 3 1 (.slice B k d) k (fl ixC js)) (hb : Below V.heap.size V w') : nxtPost V B n k d js (.returned (.bool false)) w' :=
  ⟨.inl ⟨by unfold Gold.nextN; rw [hl, hs], rfl, ho⟩, hb⟩
theorem nxt_some {V w' : World} {B : Option Addr} {n k d i q : Nat} {js : List Nat} (hl : js.length = k) (hs : Gold.stopN (n - k) js k = i + 1) (hq : q = k - 1 - i) (ho : w'.ownsRow V.heap.size 3 1 (.slice B k d) k (fl ixC (Gold.nxL js i q))) (hb : Below V.heap.size V w') : nxtPost V B n k d js (.returned (.bool true)) w' :=
  ⟨.inr ⟨_, by unfold Gold.nextN; rw [hl, hs], rfl, by rw [← hq]; exact ho⟩, hb⟩
set_option maxRecDepth 100000 in
set_option maxHeartbeats 16000000 in
theorem rnext_any (B : Option Addr) (k d : Nat) (js : List Nat) (n : Nat) (hk1 : 1 ≤ k) (hkn : k ≤ n) (hn : n ≤ 65536) (hlt : ∀ j ∈ js, j < n) (V w : World) (hV : Below V.heap.size V w) (hJ : w.ownsRow V.heap.size 3 1 (.slice B k d) k (fl ixC js)) :
    Calls Try.prog 52 #[.slice B k d, .int .i64 (n : Int)] w (nxtPost V B n k d js) := by
  have B0 := Lib.hid hV
  have OJ := Lib.hid hJ
  have hjl : js.length = k := by have := (Sg.ownS hJ).len; exact this
  have hcap := (Sg.ownS hJ).cap
  have htop := (Sg.ownS hJ).top
  have HLT := Lib.hid hlt
  have hVw := hV.size
  clear hV hlt
  obtain ⟨g, cap, hgc, hge⟩ := own_at (i := 0) hJ hk1
  simp only [Value.slice.injEq, true_and] at hgc
  obtain ⟨rfl, rfl⟩ := hgc
  have HGE := Lib.hid hge
  clear hge hJ
  go_enter Try.func52, Try.ntmps52
  go_upto_region 1 with fail
  obtain ⟨c, hc⟩ : ∃ c, n - k = c := ⟨_, rfl⟩
  refine wp_region_lit ?_
  refine wpList_run (by kernel_rfl) (.slice (some ⟨g, 0, none⟩) k d) w rfl ?_
  simp only [Act.put, List.setIfInBounds_toArray, List.set_cons_zero, List.set_cons_succ]
  refine wpList_run (by kernel_rfl) (.int .i64 (k : Int)) w (xo_len (some ⟨g, 0, none⟩) k d Try.underlying68 rfl rfl) ?_
  simp only [Act.put, List.setIfInBounds_toArray, List.set_cons_zero, List.set_cons_succ]
  refine wpList_run (by kernel_rfl) (.int .i64 ((k : Int) - 1)) w (xo_subI (k : Int) 1 ((k : Int) - 1) (by omega) (by omega) (by omega) rfl rfl rfl) ?_
  simp only [Act.put, List.setIfInBounds_toArray, List.set_cons_zero, List.set_cons_succ]
  refine wpList_run (by kernel_rfl) (.int .i64 ((k : Int) - 1)) w rfl ?_
  simp only [Act.put, List.setIfInBounds_toArray, List.set_cons_zero, List.set_cons_succ]
  refine wpList_nil ?_
  have o0 := OJ.out
  have b0 := B0.out
  go_wp2_with fail
  go_loopw [5] (fun p wr => ∃ t : Nat, t ≤ k ∧ p = .int .i64 ((t : Int) - 1) ∧ Gold.stopN c js k = Gold.stopN c js t ∧ wr.ownsRow V.heap.size 3 1 (.slice (some ⟨g, 0, none⟩) k d) k (fl ixC js) ∧ Below V.heap.size V wr) (fun p _ => (intOf p + 1).toNat)
  case atStart => exact ⟨k, Nat.le_refl _, rfl, rfl, o0, b0⟩
  case round =>
    clear o0 b0 OJ B0
    obtain ⟨wo, rfl⟩ : ∃ wo : World, wo = wr := ⟨_, rfl⟩
    obtain ⟨t, ht, rfl, hst, oj, bb⟩ := hrel
    have B0 := Lib.hid bb
    have OJ := Lib.hid oj
    have HST := Lib.hid hst
    have HJs := Lib.hid (Sg.ownS oj)
    clear bb oj hst
    by_cases ht0 : t = 0
    · subst ht0
      have hn0 : ¬ ((((0 : Nat) : Int) - 1) ≥ 0) := by omega
      have hn1 : (((0 : Nat) : Int) - 1) < 0 := by omega
      go_upto_region 2 with fail
      refine wp_region_lit ?_
      refine wpList_run (by kernel_rfl) (.int .i64 (((0 : Nat) : Int) - 1)) wo rfl ?_
      simp only [Act.put, List.setIfInBounds_toArray, List.set_cons_zero, List.set_cons_succ]
      refine wpList_run (by kernel_rfl) (.bool false) wo (xo_geqF .i64 (((0 : Nat) : Int) - 1) 0 hn0 rfl rfl rfl) ?_
      simp only [Act.put, List.setIfInBounds_toArray, List.set_cons_zero, List.set_cons_succ]
      refine wpList_run (by kernel_rfl) (.bool false) wo rfl ?_
      simp only [Act.put, List.setIfInBounds_toArray, List.set_cons_zero, List.set_cons_succ]
      refine wpList_skip (by kernel_rfl) ?_
      try simp only [Act.put, List.setIfInBounds_toArray, List.set_cons_zero, List.set_cons_succ]
      refine wpList_skip (by kernel_rfl) ?_
      try simp only [Act.put, List.setIfInBounds_toArray, List.set_cons_zero, List.set_cons_succ]
      refine wpList_skip (by kernel_rfl) ?_
      try simp only [Act.put, List.setIfInBounds_toArray, List.set_cons_zero, List.set_cons_succ]
      refine wpList_skip (by kernel_rfl) ?_
      try simp only [Act.put, List.setIfInBounds_toArray, List.set_cons_zero, List.set_cons_succ]
      refine wpList_skip (by kernel_rfl) ?_
      try simp only [Act.put, List.setIfInBounds_toArray, List.set_cons_zero, List.set_cons_succ]
      refine wpList_skip (by kernel_rfl) ?_
      try simp only [Act.put, List.setIfInBounds_toArray, List.set_cons_zero, List.set_cons_succ]
      refine wpList_skip (by kernel_rfl) ?_
      try simp only [Act.put, List.setIfInBounds_toArray, List.set_cons_zero, List.set_cons_succ]
      refine wpList_skip (by kernel_rfl) ?_
      try simp only [Act.put, List.setIfInBounds_toArray, List.set_cons_zero, List.set_cons_succ]
      refine wpList_skip (by kernel_rfl) ?_
      try simp only [Act.put, List.setIfInBounds_toArray, List.set_cons_zero, List.set_cons_succ]
      refine wpList_skip (by kernel_rfl) ?_
      try simp only [Act.put, List.setIfInBounds_toArray, List.set_cons_zero, List.set_cons_succ]
      refine wpList_skip (by kernel_rfl) ?_
      try simp only [Act.put, List.setIfInBounds_toArray, List.set_cons_zero, List.set_cons_succ]
      refine wpList_run (by kernel_rfl) (.bool false) wo rfl ?_
      simp only [Act.put, List.setIfInBounds_toArray, List.set_cons_zero, List.set_cons_succ]
      refine wpList_nil ?_
      go_upto_region 4 with fail
      refine wp_region_lit ?_
      refine wpList_run (by kernel_rfl) (.int .i64 (((0 : Nat) : Int) - 1)) wo rfl ?_
      simp only [Act.put, List.setIfInBounds_toArray, List.set_cons_zero, List.set_cons_succ]
      refine wpList_run (by kernel_rfl) (.bool true) wo (xo_lssT .i64 (((0 : Nat) : Int) - 1) 0 hn1 rfl rfl rfl) ?_
      simp only [Act.put, List.setIfInBounds_toArray, List.set_cons_zero, List.set_cons_succ]
      refine wpList_nil ?_
      go_upto_region 5 with fail
      refine wp_region_lit ?_
      refine wpList_run (by kernel_rfl) (.bool false) wo rfl ?_
      simp only [Act.put, List.setIfInBounds_toArray, List.set_cons_zero, List.set_cons_succ]
      refine wpList_nil ?_
      have of := OJ.out
      have bf := B0.out
      have hfin := nxt_none (B := (some ⟨g, 0, none⟩)) (d := d) hjl (by rw [hc]; exact HST.out.trans rfl) of bf
      go_wp2_with fail
      go_ret
      exact hfin
    · obtain ⟨i, rfl⟩ : ∃ i, t = i + 1 := ⟨t - 1, by omega⟩
      have hti : ((i + 1 : Nat) : Int) - 1 = (i : Int) := by omega
      rw [hti]
      have hci0 : ((i : Int) ≥ 0) := by omega
      have hci1 : ¬ ((i : Int) < 0) := by omega
      obtain ⟨a, ha⟩ : ∃ a, js[i]? = some a := ⟨_, List.getElem?_eq_getElem (by omega)⟩
      have hal := HLT.out a (List.mem_of_getElem? ha)
      have hgd : js.getD i 0 = a := by rw [List.getD_eq_getElem?_getD, ha]; rfl
      have HGD := Lib.hid hgd
      have HEa := Lib.hid ha
      clear ha hgd
      by_cases hac : a = c + i
      · have hci2 : ((a : Int) = ((c + i : Nat) : Int)) := by omega
        go_upto_region 2 with fail
        refine wp_region_lit ?_
        refine wpList_run (by kernel_rfl) (.int .i64 (i : Int)) wo rfl ?_
        simp only [Act.put, List.setIfInBounds_toArray, List.set_cons_zero, List.set_cons_succ]
        refine wpList_run (by kernel_rfl) (.bool true) wo (xo_geqT .i64 (i : Int) 0 (by omega) rfl rfl rfl) ?_
        simp only [Act.put, List.setIfInBounds_toArray, List.set_cons_zero, List.set_cons_succ]
        refine wpList_run (by kernel_rfl) (.bool true) wo rfl ?_
        simp only [Act.put, List.setIfInBounds_toArray, List.set_cons_zero, List.set_cons_succ]
        refine wpList_run (by kernel_rfl) (.slice (some ⟨g, 0, none⟩) k d) wo rfl ?_
        simp only [Act.put, List.setIfInBounds_toArray, List.set_cons_zero, List.set_cons_succ]
        refine wpList_run (by kernel_rfl) (.int .i64 (i : Int)) wo rfl ?_
        simp only [Act.put, List.setIfInBounds_toArray, List.set_cons_zero, List.set_cons_succ]
        refine wpList_run (by kernel_rfl) (.pointer (some (gad (some ⟨g, 0, none⟩) (i * 1)))) wo (xg_idx .i64 HJs.out HEa.out Try.underlying68 (by kernel_rfl) rfl rfl rfl) ?_
        simp only [Act.put, List.setIfInBounds_toArray, List.set_cons_zero, List.set_cons_succ]
        refine wpList_run (by kernel_rfl) (.int .i64 (a : Int)) wo (xg_load1 (E := ixC) (i := i) (j := 0) HJs.out HEa.out rfl rfl Try.underlying3 rfl rfl rfl) ?_
        simp only [Act.put, List.setIfInBounds_toArray, List.set_cons_zero, List.set_cons_succ]
        refine wpList_run (by kernel_rfl) (.int .i64 (n : Int)) wo rfl ?_
        simp only [Act.put, List.setIfInBounds_toArray, List.set_cons_zero, List.set_cons_succ]
        refine wpList_run (by kernel_rfl) (.slice (some ⟨g, 0, none⟩) k d) wo rfl ?_
        simp only [Act.put, List.setIfInBounds_toArray, List.set_cons_zero, List.set_cons_succ]
        refine wpList_run (by kernel_rfl) (.int .i64 (k : Int)) wo (xo_len (some ⟨g, 0, none⟩) k d Try.underlying68 rfl rfl) ?_
        simp only [Act.put, List.setIfInBounds_toArray, List.set_cons_zero, List.set_cons_succ]
        refine wpList_run (by kernel_rfl) (.int .i64 (c : Int)) wo (xo_subI (n : Int) (k : Int) (c : Int) (by omega) (by omega) (by omega) rfl rfl rfl) ?_
        simp only [Act.put, List.setIfInBounds_toArray, List.set_cons_zero, List.set_cons_succ]
        refine wpList_run (by kernel_rfl) (.int .i64 (i : Int)) wo rfl ?_
        simp only [Act.put, List.setIfInBounds_toArray, List.set_cons_zero, List.set_cons_succ]
        refine wpList_run (by kernel_rfl) (.int .i64 ((c + i : Nat) : Int)) wo (xo_addI (c : Int) (i : Int) ((c + i : Nat) : Int) (by omega) (by omega) (by omega) rfl rfl rfl) ?_
        simp only [Act.put, List.setIfInBounds_toArray, List.set_cons_zero, List.set_cons_succ]
        refine wpList_run (by kernel_rfl) (.bool true) wo (xo_eqlT .i64 (a : Int) ((c + i : Nat) : Int) (by omega) rfl rfl rfl) ?_
        simp only [Act.put, List.setIfInBounds_toArray, List.set_cons_zero, List.set_cons_succ]
        refine wpList_run (by kernel_rfl) (.bool true) wo rfl ?_
        simp only [Act.put, List.setIfInBounds_toArray, List.set_cons_zero, List.set_cons_succ]
        refine wpList_nil ?_
        go_upto_region 3 with fail
        refine wp_region_lit ?_
        refine wpList_run (by kernel_rfl) (.int .i64 (i : Int)) wo rfl ?_
        simp only [Act.put, List.setIfInBounds_toArray, List.set_cons_zero, List.set_cons_succ]
        refine wpList_run (by kernel_rfl) (.int .i64 ((i : Int) - 1)) wo (xo_subI (i : Int) 1 ((i : Int) - 1) (by omega) (by omega) (by omega) rfl rfl rfl) ?_
        simp only [Act.put, List.setIfInBounds_toArray, List.set_cons_zero, List.set_cons_succ]
        refine wpList_run (by kernel_rfl) (.int .i64 ((i : Int) - 1)) wo rfl ?_
        simp only [Act.put, List.setIfInBounds_toArray, List.set_cons_zero, List.set_cons_succ]
        refine wpList_nil ?_
        have of := OJ.out
        have bf := B0.out
        have hs2 : Gold.stopN c js k = Gold.stopN c js i := by rw [HST.out]; exact if_pos (HGD.out.trans hac)
        go_wp2_with fail
        go_roundw
        case rel => exact ⟨i, by omega, rfl, hs2, of, bf⟩
        case measure => simp [intOf] <;> omega
      · have hci2 : ¬ ((a : Int) = ((c + i : Nat) : Int)) := by omega
        have hsi : Gold.stopN c js k = i + 1 := by rw [HST.out]; exact if_neg (fun e => hac (HGD.out.symm.trans e))
        have HSI := Lib.hid hsi
        clear hsi
        go_upto_region 2 with fail
        refine wp_region_lit ?_
        refine wpList_run (by kernel_rfl) (.int .i64 (i : Int)) wo rfl ?_
        simp only [Act.put, List.setIfInBounds_toArray, List.set_cons_zero, List.set_cons_succ]
        refine wpList_run (by kernel_rfl) (.bool true) wo (xo_geqT .i64 (i : Int) 0 (by omega) rfl rfl rfl) ?_
        simp only [Act.put, List.setIfInBounds_toArray, List.set_cons_zero, List.set_cons_succ]
        refine wpList_run (by kernel_rfl) (.bool true) wo rfl ?_
        simp only [Act.put, List.setIfInBounds_toArray, List.set_cons_zero, List.set_cons_succ]
        refine wpList_run (by kernel_rfl) (.slice (some ⟨g, 0, none⟩) k d) wo rfl ?_
        simp only [Act.put, List.setIfInBounds_toArray, List.set_cons_zero, List.set_cons_succ]
        refine wpList_run (by kernel_rfl) (.int .i64 (i : Int)) wo rfl ?_
        simp only [Act.put, List.setIfInBounds_toArray, List.set_cons_zero, List.set_cons_succ]
        refine wpList_run (by kernel_rfl) (.pointer (some (gad (some ⟨g, 0, none⟩) (i * 1)))) wo (xg_idx .i64 HJs.out HEa.out Try.underlying68 (by kernel_rfl) rfl rfl rfl) ?_
        simp only [Act.put, List.setIfInBounds_toArray, List.set_cons_zero, List.set_cons_succ]
        refine wpList_run (by kernel_rfl) (.int .i64 (a : Int)) wo (xg_load1 (E := ixC) (i := i) (j := 0) HJs.out HEa.out rfl rfl Try.underlying3 rfl rfl rfl) ?_
        simp only [Act.put, List.setIfInBounds_toArray, List.set_cons_zero, List.set_cons_succ]
        refine wpList_run (by kernel_rfl) (.int .i64 (n : Int)) wo rfl ?_
        simp only [Act.put, List.setIfInBounds_toArray, List.set_cons_zero, List.set_cons_succ]
        refine wpList_run (by kernel_rfl) (.slice (some ⟨g, 0, none⟩) k d) wo rfl ?_
        simp only [Act.put, List.setIfInBounds_toArray, List.set_cons_zero, List.set_cons_succ]
        refine wpList_run (by kernel_rfl) (.int .i64 (k : Int)) wo (xo_len (some ⟨g, 0, none⟩) k d Try.underlying68 rfl rfl) ?_
        simp only [Act.put, List.setIfInBounds_toArray, List.set_cons_zero, List.set_cons_succ]
        refine wpList_run (by kernel_rfl) (.int .i64 (c : Int)) wo (xo_subI (n : Int) (k : Int) (c : Int) (by omega) (by omega) (by omega) rfl rfl rfl) ?_
        simp only [Act.put, List.setIfInBounds_toArray, List.set_cons_zero, List.set_cons_succ]
        refine wpList_run (by kernel_rfl) (.int .i64 (i : Int)) wo rfl ?_
        simp only [Act.put, List.setIfInBounds_toArray, List.set_cons_zero, List.set_cons_succ]
        refine wpList_run (by kernel_rfl) (.int .i64 ((c + i : Nat) : Int)) wo (xo_addI (c : Int) (i : Int) ((c + i : Nat) : Int) (by omega) (by omega) (by omega) rfl rfl rfl) ?_
        simp only [Act.put, List.setIfInBounds_toArray, List.set_cons_zero, List.set_cons_succ]
        refine wpList_run (by kernel_rfl) (.bool false) wo (xo_eqlF .i64 (a : Int) ((c + i : Nat) : Int) (by omega) rfl rfl rfl) ?_
        simp only [Act.put, List.setIfInBounds_toArray, List.set_cons_zero, List.set_cons_succ]
        refine wpList_run (by kernel_rfl) (.bool false) wo rfl ?_
        simp only [Act.put, List.setIfInBounds_toArray, List.set_cons_zero, List.set_cons_succ]
        refine wpList_nil ?_
        go_upto_region 4 with fail
        refine wp_region_lit ?_
        refine wpList_run (by kernel_rfl) (.int .i64 (i : Int)) wo rfl ?_
        simp only [Act.put, List.setIfInBounds_toArray, List.set_cons_zero, List.set_cons_succ]
        refine wpList_run (by kernel_rfl) (.bool false) wo (xo_lssF .i64 (i : Int) 0 (by omega) rfl rfl rfl) ?_
        simp only [Act.put, List.setIfInBounds_toArray, List.set_cons_zero, List.set_cons_succ]
        refine wpList_nil ?_
        go_upto_region 6 with fail
        refine wp_region_lit ?_
        refine wpList_run (by kernel_rfl) (.slice (some ⟨g, 0, none⟩) k d) wo rfl ?_
        simp only [Act.put, List.setIfInBounds_toArray, List.set_cons_zero, List.set_cons_succ]
        refine wpList_run (by kernel_rfl) (.int .i64 (i : Int)) wo rfl ?_
        simp only [Act.put, List.setIfInBounds_toArray, List.set_cons_zero, List.set_cons_succ]
        refine wpList_run (by kernel_rfl) (.pointer (some (gad (some ⟨g, 0, none⟩) (i * 1)))) wo (xg_idx .i64 HJs.out HEa.out Try.underlying68 (by kernel_rfl) rfl rfl rfl) ?_
        simp only [Act.put, List.setIfInBounds_toArray, List.set_cons_zero, List.set_cons_succ]
        refine wpList_run (by kernel_rfl) (.int .i64 (a : Int)) wo (xg_load1 (E := ixC) (i := i) (j := 0) HJs.out HEa.out rfl rfl Try.underlying3 rfl rfl rfl) ?_
        simp only [Act.put, List.setIfInBounds_toArray, List.set_cons_zero, List.set_cons_succ]
        refine wpList_run (by kernel_rfl) (.int .i64 ((a + 1 : Nat) : Int)) wo (xo_addI (a : Int) 1 ((a + 1 : Nat) : Int) (by omega) (by omega) (by omega) rfl rfl rfl) ?_
        simp only [Act.put, List.setIfInBounds_toArray, List.set_cons_zero, List.set_cons_succ]
        refine wpList_run (by kernel_rfl) (.pointer (some ((⟨g, 0, none⟩ : Addr).add i))) wo (xo_index1 .i64 ⟨g, 0, none⟩ k d i (by omega) Try.underlying68 (by kernel_rfl) rfl rfl rfl) ?_
        simp only [Act.put, List.setIfInBounds_toArray, List.set_cons_zero, List.set_cons_succ]
        refine wpList_ownStore (.int .i64 ((a + 1 : Nat) : Int)) (by kernel_rfl) OJ.out (i := i) (by omega) (by kernel_rfl) rfl rfl rfl rfl ?_
        intro X1_3 ho hfar hbel hkin
        have hox : X1_3.ownsRow V.heap.size 3 1 (.slice (some ⟨g, 0, none⟩) k d) k (fl ixC (js.set i (a + 1))) := by rw [fl_set1 ixC (fun x => .int .i64 (x : Int))]; exact ho
        have hbr := hbel _ _ HGE.out B0.out
        clear B0
        have B0 := Lib.hid hbr
        clear hbr
        clear OJ
        have OJ := Lib.hid hox
        clear ho hfar hbel hox hkin
        simp only [ptr, Act.put, List.setIfInBounds_toArray, List.set_cons_zero, List.set_cons_succ]
        refine wpList_nil ?_
        have of := OJ.out
        have hnz := Gold.nxL_zero HEa.out
        rw [hnz] at of
        go_upto_region 7 with fail
        refine wp_region_lit ?_
        refine wpList_run (by kernel_rfl) (.int .i64 (i : Int)) X1_3 rfl ?_
        simp only [Act.put, List.setIfInBounds_toArray, List.set_cons_zero, List.set_cons_succ]
        refine wpList_run (by kernel_rfl) (.int .i64 ((i + 1 : Nat) : Int)) X1_3 (xo_addI (i : Int) 1 ((i + 1 : Nat) : Int) (by omega) (by omega) (by omega) rfl rfl rfl) ?_
        simp only [Act.put, List.setIfInBounds_toArray, List.set_cons_zero, List.set_cons_succ]
        refine wpList_run (by kernel_rfl) (.int .i64 ((i + 1 : Nat) : Int)) X1_3 rfl ?_
        simp only [Act.put, List.setIfInBounds_toArray, List.set_cons_zero, List.set_cons_succ]
        refine wpList_nil ?_
        have b0 := B0.out
        go_wp2_with fail
        go_loopw [6] (fun p wr => ∃ q : Nat, i + q + 1 ≤ k ∧ p = .int .i64 ((i + q + 1 : Nat) : Int) ∧ wr.ownsRow V.heap.size 3 1 (.slice (some ⟨g, 0, none⟩) k d) k (fl ixC (Gold.nxL js i q)) ∧ Below V.heap.size V wr) (fun p _ => k - (intOf p).toNat)
        case atStart => exact ⟨0, by omega, by first | rfl | (congr 1), of, b0⟩
        case round =>
          clear of b0 OJ B0 HJs
          obtain ⟨wz, rfl⟩ : ∃ wz : World, wz = wr := ⟨_, rfl⟩
          obtain ⟨q, hq, rfl, oj, bb⟩ := hrel
          have B0 := Lib.hid bb
          have OQ := Lib.hid oj
          have HQs := Lib.hid (Sg.ownS oj)
          clear bb oj
          obtain ⟨m, hm⟩ : ∃ m, i + q + 1 = m := ⟨_, rfl⟩
          rw [hm]
          by_cases hmk : m < k
          · have hci4 : ((m : Int) < (k : Int)) := by omega
            go_upto_region 8 with fail
            refine wp_region_lit ?_
            refine wpList_run (by kernel_rfl) (.int .i64 (m : Int)) wz rfl ?_
            simp only [Act.put, List.setIfInBounds_toArray, List.set_cons_zero, List.set_cons_succ]
            refine wpList_run (by kernel_rfl) (.slice (some ⟨g, 0, none⟩) k d) wz rfl ?_
            simp only [Act.put, List.setIfInBounds_toArray, List.set_cons_zero, List.set_cons_succ]
            refine wpList_run (by kernel_rfl) (.int .i64 (k : Int)) wz (xo_len (some ⟨g, 0, none⟩) k d Try.underlying68 rfl rfl) ?_
            simp only [Act.put, List.setIfInBounds_toArray, List.set_cons_zero, List.set_cons_succ]
            refine wpList_run (by kernel_rfl) (.bool true) wz (xo_lssT .i64 (m : Int) (k : Int) (by omega) rfl rfl rfl) ?_
            simp only [Act.put, List.setIfInBounds_toArray, List.set_cons_zero, List.set_cons_succ]
            refine wpList_nil ?_
            obtain ⟨m1, hm1⟩ : ∃ m1, m - 1 = m1 := ⟨_, rfl⟩
            obtain ⟨y, hy⟩ : ∃ y, a + 1 + q = y := ⟨_, rfl⟩
            have hqa : q ≤ 65536 := by omega
            have HEy : Hid ((Gold.nxL js i q)[m1]? = some y) := Lib.hid (by rw [Gold.nxL_get (by omega), if_pos (by omega), HGD.out]; congr 1; omega)
            go_upto_region 10 with fail
            refine wp_region_lit ?_
            refine wpList_run (by kernel_rfl) (.slice (some ⟨g, 0, none⟩) k d) wz rfl ?_
            simp only [Act.put, List.setIfInBounds_toArray, List.set_cons_zero, List.set_cons_succ]
            refine wpList_run (by kernel_rfl) (.int .i64 (m : Int)) wz rfl ?_
            simp only [Act.put, List.setIfInBounds_toArray, List.set_cons_zero, List.set_cons_succ]
            refine wpList_run (by kernel_rfl) (.slice (some ⟨g, 0, none⟩) k d) wz rfl ?_
            simp only [Act.put, List.setIfInBounds_toArray, List.set_cons_zero, List.set_cons_succ]
            refine wpList_run (by kernel_rfl) (.int .i64 (m : Int)) wz rfl ?_
            simp only [Act.put, List.setIfInBounds_toArray, List.set_cons_zero, List.set_cons_succ]
            refine wpList_run (by kernel_rfl) (.int .i64 (m1 : Int)) wz (xo_subI (m : Int) 1 (m1 : Int) (by omega) (by omega) (by omega) rfl rfl rfl) ?_
            simp only [Act.put, List.setIfInBounds_toArray, List.set_cons_zero, List.set_cons_succ]
            refine wpList_run (by kernel_rfl) (.pointer (some (gad (some ⟨g, 0, none⟩) (m1 * 1)))) wz (xg_idx .i64 HQs.out HEy.out Try.underlying68 (by kernel_rfl) rfl rfl rfl) ?_
            simp only [Act.put, List.setIfInBounds_toArray, List.set_cons_zero, List.set_cons_succ]
            refine wpList_run (by kernel_rfl) (.int .i64 (y : Int)) wz (xg_load1 (E := ixC) (i := m1) (j := 0) HQs.out HEy.out rfl rfl Try.underlying3 rfl rfl rfl) ?_
            simp only [Act.put, List.setIfInBounds_toArray, List.set_cons_zero, List.set_cons_succ]
            refine wpList_run (by kernel_rfl) (.int .i64 ((y + 1 : Nat) : Int)) wz (xo_addI (y : Int) 1 ((y + 1 : Nat) : Int) (by omega) (by omega) (by omega) rfl rfl rfl) ?_
            simp only [Act.put, List.setIfInBounds_toArray, List.set_cons_zero, List.set_cons_succ]
            refine wpList_run (by kernel_rfl) (.pointer (some ((⟨g, 0, none⟩ : Addr).add m))) wz (xo_index1 .i64 ⟨g, 0, none⟩ k d m (by omega) Try.underlying68 (by kernel_rfl) rfl rfl rfl) ?_
            simp only [Act.put, List.setIfInBounds_toArray, List.set_cons_zero, List.set_cons_succ]
            refine wpList_ownStore (.int .i64 ((y + 1 : Nat) : Int)) (by kernel_rfl) OQ.out (i := m) (by omega) (by kernel_rfl) rfl rfl rfl rfl ?_
            intro X1_5 ho hfar hbel hkin
            have hox : X1_5.ownsRow V.heap.size 3 1 (.slice (some ⟨g, 0, none⟩) k d) k (fl ixC ((Gold.nxL js i q).set m (y + 1))) := by rw [fl_set1 ixC (fun x => .int .i64 (x : Int))]; exact ho
            have hbr := hbel _ _ HGE.out B0.out
            clear B0
            have B0 := Lib.hid hbr
            clear hbr
            clear OQ
            have OQ := Lib.hid hox
            clear ho hfar hbel hox hkin
            simp only [ptr, Act.put, List.setIfInBounds_toArray, List.set_cons_zero, List.set_cons_succ]
            refine wpList_nil ?_
            go_upto_region 9 with fail
            refine wp_region_lit ?_
            refine wpList_run (by kernel_rfl) (.int .i64 (m : Int)) X1_5 rfl ?_
            simp only [Act.put, List.setIfInBounds_toArray, List.set_cons_zero, List.set_cons_succ]
            refine wpList_run (by kernel_rfl) (.int .i64 ((m + 1 : Nat) : Int)) X1_5 (xo_addI (m : Int) 1 ((m + 1 : Nat) : Int) (by omega) (by omega) (by omega) rfl rfl rfl) ?_
            simp only [Act.put, List.setIfInBounds_toArray, List.set_cons_zero, List.set_cons_succ]
            refine wpList_run (by kernel_rfl) (.int .i64 ((m + 1 : Nat) : Int)) X1_5 rfl ?_
            simp only [Act.put, List.setIfInBounds_toArray, List.set_cons_zero, List.set_cons_succ]
            refine wpList_nil ?_
            have of := OQ.out
            have bf := B0.out
            have hns : (Gold.nxL js i q).set m (y + 1) = Gold.nxL js i (q + 1) := by have := Gold.nxL_set (js := js) (i := i) (q := q) (by omega); rw [HGD.out, hm, hy] at this; exact this
            rw [hns] at of
            go_wp2_with fail
            go_roundw
            case rel => exact ⟨q + 1, by omega, (by congr 1; omega), of, bf⟩
            case measure => simp [intOf] <;> omega
          · have hci4 : ¬ ((m : Int) < (k : Int)) := by omega
            go_upto_region 8 with fail
            refine wp_region_lit ?_
            refine wpList_run (by kernel_rfl) (.int .i64 (m : Int)) wz rfl ?_
            simp only [Act.put, List.setIfInBounds_toArray, List.set_cons_zero, List.set_cons_succ]
            refine wpList_run (by kernel_rfl) (.slice (some ⟨g, 0, none⟩) k d) wz rfl ?_
            simp only [Act.put, List.setIfInBounds_toArray, List.set_cons_zero, List.set_cons_succ]
            refine wpList_run (by kernel_rfl) (.int .i64 (k : Int)) wz (xo_len (some ⟨g, 0, none⟩) k d Try.underlying68 rfl rfl) ?_
            simp only [Act.put, List.setIfInBounds_toArray, List.set_cons_zero, List.set_cons_succ]
            refine wpList_run (by kernel_rfl) (.bool false) wz (xo_lssF .i64 (m : Int) (k : Int) (by omega) rfl rfl rfl) ?_
            simp only [Act.put, List.setIfInBounds_toArray, List.set_cons_zero, List.set_cons_succ]
            refine wpList_nil ?_
            go_upto_region 11 with fail
            refine wp_region_lit ?_
            refine wpList_run (by kernel_rfl) (.bool true) wz rfl ?_
            simp only [Act.put, List.setIfInBounds_toArray, List.set_cons_zero, List.set_cons_succ]
            refine wpList_nil ?_
            have of := OQ.out
            have bf := B0.out
            have hfin := nxt_some (B := (some ⟨g, 0, none⟩)) (d := d) (n := n) hjl (by rw [hc]; exact HSI.out) (show q = k - 1 - i by omega) of bf
            go_wp2_with fail
            go_ret
            exact hfin
end Go.Proofs.Ytkefijogpiofbaa

namespace Go.Proofs.Ytkefijogpiofbaa
set_option linter.unusedVariables false
set_option linter.unusedSimpArgs false
set_option linter.unusedSectionVars false
set_option maxRecDepth 8000
open Go.ChangeShapes Go.WideShapes Go.ChangeAt Go.RowKit Go.Joins Go.Deep Go.Proofs.Ytkefijogpiofbaa.K
section
variable {H : Type} {enc : TypeId × Value → H} {W : World} {base : Nat} {sp : Nat → Bool} {b1 : Nat} {hd : Bool} {v : Value} {d : DataW H} {p : List MemPlace}
theorem cells9E : Try.prog.cellsOf 71 = 2 := by kernel_rfl
theorem cells9B : Try.prog.cellsOf 5 = 1 := by kernel_rfl
theorem trod9_err {m : Nat} {cs : List Value} {y : DataW H × List MemPlace} (hl : cs.length = 2) (h : DataW.trod enc Try.prog W b1 sp hd m 71 cs = some y) : ∃ o : Nat × Nat, cs = erC o ∧ (o.1 < 256 ∧ o.2 < 18446744073709551616) := by
  obtain ⟨ys, m2, _, _, _, hn, hel⟩ := DataW.trod_struct Try.underlying71 h
  match cs, hl, ys, hn with
  | [c0, c1], _, [y0, y1], _ =>
    have g0 : DataW.trod enc Try.prog W b1 sp hd m2 5 [c0] = some y0 := by simpa [cells9B] using hel 0 _ rfl
    have g1 : DataW.trod enc Try.prog W b1 sp hd m2 29 [c1] = some y1 := by simpa [cells9U] using hel 1 _ rfl
    obtain ⟨a, e0, _, w0⟩ := DataW.trod_int Try.underlying5 g0
    obtain ⟨b, e1, h1⟩ := trod9_u64 g1
    have h0 := bounds_u8 w0
    simp only [List.cons.injEq, and_true, wdC] at e0 e1
    subst e0 e1
    exact ⟨(a.toNat, b), by simp only [erC]; rw [Int.toNat_of_nonneg h0.1], by show a.toNat < 256; omega, h1⟩
theorem open9_errs (hv : Value.okWide Try.prog W .any base 42 v) (h : DataW.Trod enc Try.prog W b1 sp hd 42 v d p) : ∃ (A : Option Addr) (n c : Nat) (xs : List (Nat × Nat)), v = .slice A n c ∧ Sg erC 2 W A n c xs ∧ ∀ x ∈ xs, x.1 < 256 ∧ x.2 < 18446744073709551616 := by
  obtain ⟨A, n, c, rfl⟩ : ∃ A n c, v = .slice A n c := okWide_slice Try.underlying42 hv
  obtain ⟨fuel, hf⟩ := h
  obtain ⟨A2, n2, c2, xs, e, hs, hp⟩ := open_seq (E := erC) (fun x => x.1 < 256 ∧ x.2 < 18446744073709551616) Try.underlying42 cells9E (fun m cs y hl hy => trod9_err hl hy) (show DataW.trod enc Try.prog W b1 sp hd fuel 42 [.slice A n c] = some (d, p) by simpa [Value.cells] using hf)
  simp only [List.cons.injEq, Value.slice.injEq, and_true] at e
  obtain ⟨rfl, rfl, rfl⟩ := e
  exact ⟨A, n, c, xs, rfl, hs, hp⟩
end
end Go.Proofs.Ytkefijogpiofbaa

