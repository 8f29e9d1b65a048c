/- Several texts in one: Qu. -/
import Derived.Test.YtopicjdmajlndaaDoorJ11
namespace Go.Proofs.YtopicjdmajlndaaDoor
set_option linter.unusedVariables false
set_option linter.unusedSimpArgs false
set_option linter.unusedSectionVars false
set_option maxRecDepth 8000
open Go.RowKit Go.Proofs.YtopicjdmajlndaaDoor.K
attribute [local irreducible] wpList wpQuiet
/-- own slices of words, under heads -/
structure OwnsU (w : World) (t : TypeId) (base : Nat) (hs : List Hd) (xss : List (List Nat)) : Prop where
  len : hs.length = xss.length
  row : ∀ (i : Nat) (h : Hd) (xs : List Nat), hs[i]? = some h → xss[i]? = some xs → xs.length = h.n ∧ w.ownsRow base t 1 (.slice h.A h.n h.c) h.n (fl wdC xs)
theorem OwnsU.keep {w w' : World} {t : TypeId} {base : Nat} {hs : List Hd} {xss : List (List Nat)} (h : OwnsU w t base hs xss) (hb : Below w.heap.size w w') : OwnsU w' t base hs xss := ⟨h.len, fun i d xs hi hx => ⟨(h.row i d xs hi hx).1, own_keep (h.row i d xs hi hx).2 hb⟩⟩
theorem own_growT {w w' : World} {b1 b2 : Nat} {e1 e2 : TypeId} {s1 s2 n1 n2 : Nat} {v1 v2 : Value} {c1 c2 : List Value} (h : w.ownsRow b1 e1 s1 v1 n1 c1) (ho : w.ownsRow b2 e2 s2 v2 n2 c2) (hg : w.grownBy w' v2.ownBlock) (hne : e1 ≠ e2) : w'.ownsRow b1 e1 s1 v1 n1 c1 := by
  refine ⟨h.1, ?_⟩
  rcases h.2 with hn | ⟨g, cap, cur, rfl, hbs, hgg, rest⟩
  · exact .inl hn
  · exact .inr ⟨g, cap, cur, rfl, hbs, own_rowkeep ho hg hgg hne, rest⟩
theorem OwnsU.grown {w w' : World} {t : TypeId} {base b0 : Nat} {hs : List Hd} {xss : List (List Nat)} {e : TypeId} {size n : Nat} {v : Value} {cs : List Value} (h : OwnsU w t base hs xss) (ho : w.ownsRow b0 e size v n cs) (hg : w.grownBy w' v.ownBlock) (hne : t ≠ e) : OwnsU w' t base hs xss :=
  ⟨h.len, fun i d xs hi hx => ⟨(h.row i d xs hi hx).1, own_growT (h.row i d xs hi hx).2 ho hg hne⟩⟩
theorem OwnsU.nil {w : World} {t : TypeId} {base : Nat} : OwnsU w t base [] [] := ⟨rfl, fun i h xs hi => by simp at hi⟩
theorem OwnsU.push {w : World} {t : TypeId} {base n c : Nat} {A : Option Addr} {hs : List Hd} {xss : List (List Nat)} {xs : List Nat} (h : OwnsU w t base hs xss) (ho : w.ownsRow base t 1 (.slice A n c) n (fl wdC xs)) (hl : xs.length = n) : OwnsU w t base (hs ++ [Hd.mk A n c]) (xss ++ [xs]) :=
  ⟨by simp [h.len], fun i d ys hi hx => by
    rw [List.getElem?_append] at hi hx
    rw [h.len] at hi
    split at hi
    · next hlt => rw [if_pos hlt] at hx; exact h.row i d ys hi hx
    · next hlt =>
      rw [if_neg hlt] at hx
      have h0 : i - xss.length = 0 := by have := (List.getElem?_eq_some_iff.1 hi).1; simp at this; omega
      rw [h0] at hi hx
      simp at hi hx
      subst hi hx
      exact ⟨hl, ho⟩⟩
theorem OwnsU.sg {w : World} {t : TypeId} {base : Nat} {hs : List Hd} {xss : List (List Nat)} (h : OwnsU w t base hs xss) {i : Nat} {d : Hd} {xs : List Nat} (hi : hs[i]? = some d) (hx : xss[i]? = some xs) : Sg wdC 1 w d.A d.n d.c xs := Sg.ownS (h.row i d xs hi hx).2
/-- the bits of the first i fields and k of the next -/
def bitsP (cols : List (List Nat)) (i k : Nat) : List (List Nat) := bitsN cols i ++ (List.range k).map (bitN (cols.getD i []))
theorem bitsP_zero (cols : List (List Nat)) (i : Nat) : bitsP cols i 0 = bitsN cols i := by simp [bitsP]
theorem bitsP_succ (cols : List (List Nat)) (i k : Nat) : bitsP cols i (k + 1) = bitsP cols i k ++ [(cols.getD i []).map fun x => x / 2 ^ k % 2] := by
  unfold bitsP
  rw [List.range_succ, List.map_append, List.append_assoc]
  rfl
theorem bitsN_24 (cols : List (List Nat)) : (bitsN cols 4).length = 24 := by simp [bitsN, widN]
theorem bitsN_len (cols : List (List Nat)) (j : Nat) (h : j ≤ 4) : (bitsN cols j).length ≤ 24 := by
  have : j = 0 ∨ j = 1 ∨ j = 2 ∨ j = 3 ∨ j = 4 := by omega
  rcases this with rfl | rfl | rfl | rfl | rfl <;> simp [bitsN, widN]
theorem colsN_ok {rs : List Rd} {gs : List Bool} {n N : Nat} (h1 : rs.length = n) (h2 : gs.length = n) (hN : n ≤ N) (hv : ∀ r ∈ rs, vR r = true) : ∀ xs ∈ colsN rs gs N, xs.length = N ∧ ∀ x ∈ xs, x < 256 := by
  intro xs hxs
  obtain ⟨i, hi, rfl⟩ := List.mem_map.1 hxs
  refine ⟨colN_length h1 h2 hN, fun x hx => ?_⟩
  rw [← fillP_all (i := i) (N := N) h1 h2] at hx
  unfold fillP at hx
  rcases List.mem_append.1 hx with hx | hx
  · have hx := List.mem_of_mem_take hx
    unfold colV at hx
    split at hx
    · next h4 =>
      obtain ⟨r, hr, rfl⟩ := List.mem_map.1 hx
      have hf := fok_of (hv r hr) i h4
      simp only [fokB, decide_eq_true_eq] at hf
      have hw := widN_le i
      have h3 := hf.2
      omega
    · obtain ⟨g, _, rfl⟩ := List.mem_map.1 hx
      split <;> omega
  · rw [List.mem_replicate] at hx
    omega
set_option maxRecDepth 100000 in
set_option maxHeartbeats 8000000 in
theorem rbits_arg (A : Option Addr) (n c : Nat) (rs : List Rd) (B : Option Addr) (d : Nat) (gs : List Bool) (z : Int) (hz : z < 0 ∨ 16 < z) (w : World) (hL : Sg rdC 4 w A n c rs) (hG : Sg boC 1 w B n d gs) : Calls Tryd.prog 22 #[.agg #[.slice A n c, .slice B n d], .int .i64 z] w fun e w' => e = .returned (.tuple #[.slice none 0 0, .int .i64 1]) ∧ Below w.heap.size w w' := by
  have HL := Lib.hid hL
  have HG := Lib.hid hG
  have hln := hL.len
  have hgn := hG.len
  clear hL hG
  go_enter Tryd.func22, Tryd.ntmps22
  go_upto_region 1 with fail
  refine wp_named1 (fun V1 hb g0 hlt => ?_)
  have B0 := Lib.hid hb
  have Fv0_2 : Hid (V1.heap[w.heap.size]? = some (.cells #[.slice A n c, .slice B n d] 30 (0, 0))) := Lib.hid (g0)
  have Gb0 : Hid (w.heap.size ≤ w.heap.size) := Lib.hid (by omega)
  clear hb g0 hlt
  have Lt0 : Hid (w.heap.size < V1.heap.size) := Lib.hid (xp_lt Fv0_2.out)
  refine wp_region_lit ?_
  refine wpList_run (by kernel_rfl) (.agg #[.slice A n c, .slice B n d]) V1 (xo_loadW w.heap.size _ Fv0_2.out Tryd.underlying30 rfl (by kernel_rfl) rfl rfl) ?_
  simp only [Act.put, List.setIfInBounds_toArray, List.set_cons_zero, List.set_cons_succ]
  refine wpList_run (by kernel_rfl) (.int .i64 z) V1 rfl ?_
  simp only [Act.put, List.setIfInBounds_toArray, List.set_cons_zero, List.set_cons_succ]
  refine wpList_call (by kernel_rfl) 20 Tryd.func20 (by kernel_rfl) (by kernel_rfl) _ _ #[.agg #[.slice A n c, .slice B n d], .int .i64 z] rfl (by kernel_rfl) ?_
  refine (rcols_arg A n c rs B d gs z hz V1 (HL.out.keep B0.out) (HG.out.keep B0.out)).mono ?_
  rintro e V2 ⟨rfl, hb⟩
  have B1 := Lib.hid hb
  clear hb 
  refine ⟨_, rfl, ?_⟩
  simp only [Act.put, List.setIfInBounds_toArray, List.set_cons_zero, List.set_cons_succ]
  refine wpList_run (by kernel_rfl) (.tuple #[.slice none 0 0, .int .i64 1]) V2 rfl ?_
  simp only [Act.put, List.setIfInBounds_toArray, List.set_cons_zero, List.set_cons_succ]
  refine wpList_run (by kernel_rfl) (.slice none 0 0) V2 rfl ?_
  simp only [Act.put, List.setIfInBounds_toArray, List.set_cons_zero, List.set_cons_succ]
  refine wpList_run (by kernel_rfl) (.int .i64 1) V2 rfl ?_
  simp only [Act.put, List.setIfInBounds_toArray, List.set_cons_zero, List.set_cons_succ]
  refine wpList_run (by kernel_rfl) (.slice none 0 0) V2 rfl ?_
  simp only [Act.put, List.setIfInBounds_toArray, List.set_cons_zero, List.set_cons_succ]
  refine wpList_run (by kernel_rfl) (.int .i64 1) V2 rfl ?_
  simp only [Act.put, List.setIfInBounds_toArray, List.set_cons_zero, List.set_cons_succ]
  refine wpList_nil ?_
  go_upto_region 2 with fail
  refine wp_region_lit ?_
  refine wpList_run (by kernel_rfl) (.int .i64 1) V2 rfl ?_
  simp only [Act.put, List.setIfInBounds_toArray, List.set_cons_zero, List.set_cons_succ]
  refine wpList_run (by kernel_rfl) (.bool true) V2 (xo_neqT .i64 1 0 (by omega) rfl rfl rfl) ?_
  simp only [Act.put, List.setIfInBounds_toArray, List.set_cons_zero, List.set_cons_succ]
  refine wpList_nil ?_
  go_upto_region 3 with fail
  refine wp_region_lit ?_
  refine wpList_run (by kernel_rfl) (.int .i64 1) V2 rfl ?_
  simp only [Act.put, List.setIfInBounds_toArray, List.set_cons_zero, List.set_cons_succ]
  refine wpList_run (by kernel_rfl) (.slice none 0 0) V2 rfl ?_
  simp only [Act.put, List.setIfInBounds_toArray, List.set_cons_zero, List.set_cons_succ]
  refine wpList_run (by kernel_rfl) (.int .i64 1) V2 rfl ?_
  simp only [Act.put, List.setIfInBounds_toArray, List.set_cons_zero, List.set_cons_succ]
  refine wpList_nil ?_
  go_wp2_with fail
  go_ret2
  have C0_2 := Lib.hid (bel_step B0.out B1.out)
  exact ⟨rfl, C0_2.out⟩
set_option maxRecDepth 100000 in
set_option maxHeartbeats 8000000 in
theorem rbits_big (A : Option Addr) (n c : Nat) (rs : List Rd) (B : Option Addr) (d : Nat) (gs : List Bool) (lg : Nat) (hlg : lg ≤ 16) (hnN : 2 ^ lg < n) (w : World) (hL : Sg rdC 4 w A n c rs) (hG : Sg boC 1 w B n d gs) : Calls Tryd.prog 22 #[.agg #[.slice A n c, .slice B n d], .int .i64 (lg : Int)] w fun e w' => e = .returned (.tuple #[.slice none 0 0, .int .i64 2]) ∧ Below w.heap.size w w' := by
  have HL := Lib.hid hL
  have HG := Lib.hid hG
  have hln := hL.len
  have hgn := hG.len
  clear hL hG
  go_enter Tryd.func22, Tryd.ntmps22
  go_upto_region 1 with fail
  refine wp_named1 (fun V1 hb g0 hlt => ?_)
  have B0 := Lib.hid hb
  have Fv0_2 : Hid (V1.heap[w.heap.size]? = some (.cells #[.slice A n c, .slice B n d] 30 (0, 0))) := Lib.hid (g0)
  have Gb0 : Hid (w.heap.size ≤ w.heap.size) := Lib.hid (by omega)
  clear hb g0 hlt
  have Lt0 : Hid (w.heap.size < V1.heap.size) := Lib.hid (xp_lt Fv0_2.out)
  refine wp_region_lit ?_
  refine wpList_run (by kernel_rfl) (.agg #[.slice A n c, .slice B n d]) V1 (xo_loadW w.heap.size _ Fv0_2.out Tryd.underlying30 rfl (by kernel_rfl) rfl rfl) ?_
  simp only [Act.put, List.setIfInBounds_toArray, List.set_cons_zero, List.set_cons_succ]
  refine wpList_run (by kernel_rfl) (.int .i64 (lg : Int)) V1 rfl ?_
  simp only [Act.put, List.setIfInBounds_toArray, List.set_cons_zero, List.set_cons_succ]
  refine wpList_call (by kernel_rfl) 20 Tryd.func20 (by kernel_rfl) (by kernel_rfl) _ _ #[.agg #[.slice A n c, .slice B n d], .int .i64 (lg : Int)] rfl (by kernel_rfl) ?_
  refine (rcols_big A n c rs B d gs lg hlg hnN V1 (HL.out.keep B0.out) (HG.out.keep B0.out)).mono ?_
  rintro e V2 ⟨rfl, hb⟩
  have B1 := Lib.hid hb
  clear hb 
  refine ⟨_, rfl, ?_⟩
  simp only [Act.put, List.setIfInBounds_toArray, List.set_cons_zero, List.set_cons_succ]
  refine wpList_run (by kernel_rfl) (.tuple #[.slice none 0 0, .int .i64 2]) V2 rfl ?_
  simp only [Act.put, List.setIfInBounds_toArray, List.set_cons_zero, List.set_cons_succ]
  refine wpList_run (by kernel_rfl) (.slice none 0 0) V2 rfl ?_
  simp only [Act.put, List.setIfInBounds_toArray, List.set_cons_zero, List.set_cons_succ]
  refine wpList_run (by kernel_rfl) (.int .i64 2) V2 rfl ?_
  simp only [Act.put, List.setIfInBounds_toArray, List.set_cons_zero, List.set_cons_succ]
  refine wpList_run (by kernel_rfl) (.slice none 0 0) V2 rfl ?_
  simp only [Act.put, List.setIfInBounds_toArray, List.set_cons_zero, List.set_cons_succ]
  refine wpList_run (by kernel_rfl) (.int .i64 2) V2 rfl ?_
  simp only [Act.put, List.setIfInBounds_toArray, List.set_cons_zero, List.set_cons_succ]
  refine wpList_nil ?_
  go_upto_region 2 with fail
  refine wp_region_lit ?_
  refine wpList_run (by kernel_rfl) (.int .i64 2) V2 rfl ?_
  simp only [Act.put, List.setIfInBounds_toArray, List.set_cons_zero, List.set_cons_succ]
  refine wpList_run (by kernel_rfl) (.bool true) V2 (xo_neqT .i64 2 0 (by omega) rfl rfl rfl) ?_
  simp only [Act.put, List.setIfInBounds_toArray, List.set_cons_zero, List.set_cons_succ]
  refine wpList_nil ?_
  go_upto_region 3 with fail
  refine wp_region_lit ?_
  refine wpList_run (by kernel_rfl) (.int .i64 2) V2 rfl ?_
  simp only [Act.put, List.setIfInBounds_toArray, List.set_cons_zero, List.set_cons_succ]
  refine wpList_run (by kernel_rfl) (.slice none 0 0) V2 rfl ?_
  simp only [Act.put, List.setIfInBounds_toArray, List.set_cons_zero, List.set_cons_succ]
  refine wpList_run (by kernel_rfl) (.int .i64 2) V2 rfl ?_
  simp only [Act.put, List.setIfInBounds_toArray, List.set_cons_zero, List.set_cons_succ]
  refine wpList_nil ?_
  go_wp2_with fail
  go_ret2
  have C0_2 := Lib.hid (bel_step B0.out B1.out)
  exact ⟨rfl, C0_2.out⟩
set_option maxRecDepth 100000 in
set_option maxHeartbeats 16000000 in
theorem rbits_yes (A : Option Addr) (n c : Nat) (rs : List Rd) (B : Option Addr) (d : Nat) (gs : List Bool) (lg : Nat) (hlg : lg ≤ 16) (hnN : n ≤ 2 ^ lg) (hv : ∀ r ∈ rs, vR r = true) (w : World) (hL : Sg rdC 4 w A n c rs) (hG : Sg boC 1 w B n d gs) : Calls Tryd.prog 22 #[.agg #[.slice A n c, .slice B n d], .int .i64 (lg : Int)] w fun e w' => ∃ A2 c2, e = .returned (.tuple #[.slice A2 24 c2, .int .i64 0]) ∧ (∃ hs, Cols w' A2 24 c2 hs (bitsN (colsN rs gs (2 ^ lg)) 4)) ∧ Below w.heap.size w w' := by
  have HV := Lib.hid hv
  clear hv
  have HL := Lib.hid hL
  have HG := Lib.hid hG
  have hln := hL.len
  have hgn := hG.len
  clear hL hG
  go_enter Tryd.func22, Tryd.ntmps22
  go_upto_region 1 with fail
  refine wp_named1 (fun V1 hb g0 hlt => ?_)
  have B0 := Lib.hid hb
  have Fv0_2 : Hid (V1.heap[w.heap.size]? = some (.cells #[.slice A n c, .slice B n d] 30 (0, 0))) := Lib.hid (g0)
  have Gb0 : Hid (w.heap.size ≤ w.heap.size) := Lib.hid (by omega)
  clear hb g0 hlt
  have Lt0 : Hid (w.heap.size < V1.heap.size) := Lib.hid (xp_lt Fv0_2.out)
  obtain ⟨N, hN⟩ : ∃ N, 2 ^ lg = N := ⟨_, rfl⟩
  have hNt : 1 ≤ N ∧ N ≤ 65536 := by rw [← hN]; exact ⟨Nat.pow_pos (by omega), Nat.pow_le_pow_right (by omega) hlg⟩
  have HNN := Lib.hid hN
  clear hN
  have HNL := Lib.hid hnN
  clear hnN
  refine wp_region_lit ?_
  refine wpList_run (by kernel_rfl) (.agg #[.slice A n c, .slice B n d]) V1 (xo_loadW w.heap.size _ Fv0_2.out Tryd.underlying30 rfl (by kernel_rfl) rfl rfl) ?_
  simp only [Act.put, List.setIfInBounds_toArray, List.set_cons_zero, List.set_cons_succ]
  refine wpList_run (by kernel_rfl) (.int .i64 (lg : Int)) V1 rfl ?_
  simp only [Act.put, List.setIfInBounds_toArray, List.set_cons_zero, List.set_cons_succ]
  refine wpList_call (by kernel_rfl) 20 Tryd.func20 (by kernel_rfl) (by kernel_rfl) _ _ #[.agg #[.slice A n c, .slice B n d], .int .i64 (lg : Int)] rfl (by kernel_rfl) ?_
  refine (rcols_yes A n c rs B d gs lg hlg HNL.out HV.out V1 (HL.out.keep B0.out) (HG.out.keep B0.out)).mono ?_
  rintro e V2 ⟨A5, c5, rfl, ⟨hs0, hc0⟩, hb⟩
  have B1 := Lib.hid hb
  rw [HNN.out] at hc0
  have HC := Lib.hid hc0
  clear hb hc0
  refine ⟨_, rfl, ?_⟩
  simp only [Act.put, List.setIfInBounds_toArray, List.set_cons_zero, List.set_cons_succ]
  refine wpList_run (by kernel_rfl) (.tuple #[.slice A5 5 c5, .int .i64 0]) V2 rfl ?_
  simp only [Act.put, List.setIfInBounds_toArray, List.set_cons_zero, List.set_cons_succ]
  refine wpList_run (by kernel_rfl) (.slice A5 5 c5) V2 rfl ?_
  simp only [Act.put, List.setIfInBounds_toArray, List.set_cons_zero, List.set_cons_succ]
  refine wpList_run (by kernel_rfl) (.int .i64 0) V2 rfl ?_
  simp only [Act.put, List.setIfInBounds_toArray, List.set_cons_zero, List.set_cons_succ]
  refine wpList_run (by kernel_rfl) (.slice A5 5 c5) V2 rfl ?_
  simp only [Act.put, List.setIfInBounds_toArray, List.set_cons_zero, List.set_cons_succ]
  refine wpList_run (by kernel_rfl) (.int .i64 0) V2 rfl ?_
  simp only [Act.put, List.setIfInBounds_toArray, List.set_cons_zero, List.set_cons_succ]
  refine wpList_nil ?_
  go_upto_region 2 with fail
  refine wp_region_lit ?_
  refine wpList_run (by kernel_rfl) (.int .i64 0) V2 rfl ?_
  simp only [Act.put, List.setIfInBounds_toArray, List.set_cons_zero, List.set_cons_succ]
  refine wpList_run (by kernel_rfl) (.bool false) V2 (xo_neqF .i64 0 0 (by omega) rfl rfl rfl) ?_
  simp only [Act.put, List.setIfInBounds_toArray, List.set_cons_zero, List.set_cons_succ]
  refine wpList_nil ?_
  have C0_2 := Lib.hid (bel_step B0.out B1.out)
  have HBV1 := Lib.hid C0_2.out
  have YHC := HC.out
  clear HC
  have HC := Lib.hid YHC
  clear YHC
  obtain ⟨VB1, rfl⟩ : ∃ VB1 : World, VB1 = V2 := ⟨_, rfl⟩
  go_upto_region 4 with fail
  refine wp_region_lit ?_
  refine wpList_mk (by kernel_rfl) #[] 48 0 0 (xo_empty (size := 1) Tryd.underlying38 (by kernel_rfl) rfl VB1) ?_
  intro g22 V1 hge h0 hb
  have hge2 := Nat.le_trans (Below.refl VB1.heap.size VB1).size hge
  have B0 := Lib.hid hb
  have Ow22 : Hid (V1.ownsRow VB1.heap.size 48 1 (.slice (some ⟨g22, 0, none⟩) 0 0) 0 (fl hdC [])) := Lib.hid (own_new h0 hge2)
  clear hge hge2 h0 hb
  simp only [ptr, Act.put, List.setIfInBounds_toArray, List.set_cons_zero, List.set_cons_succ]
  refine wpList_run (by kernel_rfl) (.slice (some ⟨g22, 0, none⟩) 0 0) V1 rfl ?_
  simp only [Act.put, List.setIfInBounds_toArray, List.set_cons_zero, List.set_cons_succ]
  refine wpList_nil ?_
  go_upto_region 5 with fail
  refine wp_region_lit ?_
  refine wpList_run (by kernel_rfl) (.int .i64 0) V1 rfl ?_
  simp only [Act.put, List.setIfInBounds_toArray, List.set_cons_zero, List.set_cons_succ]
  refine wpList_nil ?_
  obtain ⟨cols, hcols⟩ : ∃ x, colsN rs gs N = x := ⟨_, rfl⟩
  have HCO := Lib.hid hcols
  have hcl5 : cols.length = 5 := by rw [← hcols]; simp [colsN]
  have HLT := Lib.hid (show ∀ xs ∈ cols, xs.length = N ∧ ∀ x ∈ xs, x < 256 by rw [← hcols]; exact colsN_ok hln hgn (by have := HNL.out; rw [HNN.out] at this; exact this) HV.out)
  have hc9 := HC.out
  rw [hcols] at hc9
  clear HC hcols
  have HC := Lib.hid hc9
  clear hc9
  have hbl0 : ∀ j, j ≤ 4 → (bitsN cols j).length ≤ 24 := fun j hj => bitsN_len cols j hj
  have HBL := Lib.hid hbl0
  clear hbl0
  have O2 := Ow22.out
  have O3 := B0.out
  go_wp2_with fail
  go_loopw [8, 9] (fun v p wr => ∃ i : Nat, ∃ hs : List Hd, i ≤ 4 ∧ p = .int .i64 i ∧ hs.length = (bitsN cols i).length ∧ wr.ownsRow VB1.heap.size 48 1 v (bitsN cols i).length (fl hdC hs) ∧ OwnsU wr 50 VB1.heap.size hs (bitsN cols i) ∧ Below VB1.heap.size VB1 wr) (fun _ p _ => 4 - (intOf p).toNat)
  case atStart => exact ⟨0, [], Nat.zero_le _, rfl, rfl, O2, OwnsU.nil, O3⟩
  case round =>
    clear O3 O2
    obtain ⟨wo, rfl⟩ : ∃ wo : World, wo = wr := ⟨_, rfl⟩
    obtain ⟨i, hs, hi, rfl, hhsl, hOW, hHB, hb0⟩ := hrel
    have hbr := hb0
    clear B0
    have B0 := Lib.hid hbr
    clear hbr
    have hsl := Lib.hid hhsl
    have OW := Lib.hid hOW
    have HB := Lib.hid hHB
    clear hb0 hhsl hOW hHB
    by_cases hlt : i < 4
    · have hci5 : ((i : Int) < 4) := by omega
      go_upto_region 6 with fail
      refine wp_region_lit ?_
      refine wpList_run (by kernel_rfl) (.int .i64 (i : Int)) wo rfl ?_
      simp only [Act.put, List.setIfInBounds_toArray, List.set_cons_zero, List.set_cons_succ]
      refine wpList_run (by kernel_rfl) (.bool true) wo (xo_lssT .i64 (i : Int) 4 (by omega) rfl rfl rfl) ?_
      simp only [Act.put, List.setIfInBounds_toArray, List.set_cons_zero, List.set_cons_succ]
      refine wpList_nil ?_
      go_upto_region 8 with fail
      refine wp_region_lit ?_
      refine wpList_run (by kernel_rfl) (.int .i64 0) wo rfl ?_
      simp only [Act.put, List.setIfInBounds_toArray, List.set_cons_zero, List.set_cons_succ]
      refine wpList_nil ?_
      have hwi : widN i ≤ 8 := by unfold widN; split <;> omega
      have hbi1 := HBL.out (i + 1) (by omega)
      have hbi2 : (bitsN cols (i + 1)).length = (bitsN cols i).length + widN i := by simp [bitsN]
      obtain ⟨xs, hx⟩ : ∃ xs, cols[i]? = some xs := ⟨_, List.getElem?_eq_getElem (by omega)⟩
      have hxn := HLT.out xs (List.mem_of_getElem? hx)
      have hgD : cols.getD i [] = xs := by simp [List.getD_eq_getElem?_getD, hx]
      have HGD := Lib.hid hgD
      have HXS := Lib.hid hx
      have hxl := hxn.1
      have HX2 := Lib.hid hxn.2
      clear hx hgD hxn
      have hy0 := HB.out
      rw [← bitsP_zero] at hy0
      clear HB
      have HB := Lib.hid hy0
      clear hy0
      have O6 := OW.out
      have O7 := HB.out
      have O8 := B0.out
      go_wp2_with fail
      go_loopw [8, 10] (fun v p wr => ∃ k : Nat, ∃ hs : List Hd, k ≤ (widN i) ∧ p = .int .i64 k ∧ hs.length = ((bitsN cols i).length + k) ∧ wr.ownsRow VB1.heap.size 48 1 v ((bitsN cols i).length + k) (fl hdC hs) ∧ OwnsU wr 50 VB1.heap.size hs (bitsP cols i k) ∧ Below VB1.heap.size VB1 wr) (fun _ p _ => (widN i) - (intOf p).toNat)
      case atStart => exact ⟨0, hs, Nat.zero_le _, rfl, (by first | exact hsl.out | (simpa [bitsP] using hsl.out)), O6, O7, O8⟩
      case round =>
        clear O8 O6 O7
        obtain ⟨wp, rfl⟩ : ∃ wp : World, wp = wr := ⟨_, rfl⟩
        obtain ⟨k, hs, hi, rfl, hhsl, hOW, hHB, hb0⟩ := hrel
        have hbr := hb0
        clear B0
        have B0 := Lib.hid hbr
        clear hbr
        have hsl := Lib.hid hhsl
        have OW := Lib.hid hOW
        have HB := Lib.hid hHB
        clear hb0 hhsl hOW hHB
        by_cases hlk : k < widN i
        · have hci10 : ((k : Int) < ((widN i : Nat) : Int)) := by omega
          go_upto_region 9 with fail
          refine wp_region_lit ?_
          refine wpList_run (by kernel_rfl) (.int .i64 (k : Int)) wp rfl ?_
          simp only [Act.put, List.setIfInBounds_toArray, List.set_cons_zero, List.set_cons_succ]
          refine wpList_run (by kernel_rfl) (.int .i64 (i : Int)) wp rfl ?_
          simp only [Act.put, List.setIfInBounds_toArray, List.set_cons_zero, List.set_cons_succ]
          refine wpList_call (by kernel_rfl) 34 Tryd.func34 (by kernel_rfl) (by kernel_rfl) _ _ #[.int .i64 (i : Int)] rfl (by kernel_rfl) ?_
          refine (width_any i hlt wp).mono ?_
          rintro e V2 ⟨rfl, hb⟩
          have B1 := Lib.hid hb
          clear hb 
          refine ⟨_, rfl, ?_⟩
          simp only [Act.put, List.setIfInBounds_toArray, List.set_cons_zero, List.set_cons_succ]
          refine wpList_run (by kernel_rfl) (.bool true) V2 (xo_lssT .i64 (k : Int) ((widN i : Nat) : Int) (by omega) rfl rfl rfl) ?_
          simp only [Act.put, List.setIfInBounds_toArray, List.set_cons_zero, List.set_cons_succ]
          refine wpList_nil ?_
          have C0_2 := Lib.hid (bel_step B0.out B1.out)
          have HBV11 := Lib.hid C0_2.out
          have YHB := (HB.out.keep B1.out)
          have YHC := (HC.out.keep C0_2.out)
          have YOW := (own_keep OW.out B1.out)
          clear HB
          have HB := Lib.hid YHB
          clear YHB
          clear HC
          have HC := Lib.hid YHC
          clear YHC
          clear OW
          have OW := Lib.hid YOW
          clear YOW
          obtain ⟨VB11, rfl⟩ : ∃ VB11 : World, VB11 = V2 := ⟨_, rfl⟩
          go_upto_region 11 with fail
          refine wp_region_lit ?_
          refine wpList_mk (by kernel_rfl) #[] 50 0 0 (xo_empty (size := 1) Tryd.underlying48 (by kernel_rfl) rfl VB11) ?_
          intro g33 V1 hge h0 hb
          have hge2 := Nat.le_trans (Below.refl VB11.heap.size VB11).size hge
          have B0 := Lib.hid hb
          have Ow33 : Hid (V1.ownsRow VB11.heap.size 50 1 (.slice (some ⟨g33, 0, none⟩) 0 0) 0 (fl wdC [])) := Lib.hid (own_new h0 hge2)
          clear hge hge2 h0 hb
          simp only [ptr, Act.put, List.setIfInBounds_toArray, List.set_cons_zero, List.set_cons_succ]
          refine wpList_run (by kernel_rfl) (.slice (some ⟨g33, 0, none⟩) 0 0) V1 rfl ?_
          simp only [Act.put, List.setIfInBounds_toArray, List.set_cons_zero, List.set_cons_succ]
          refine wpList_nil ?_
          go_upto_region 12 with fail
          refine wp_region_lit ?_
          refine wpList_run (by kernel_rfl) (.int .i64 0) V1 rfl ?_
          simp only [Act.put, List.setIfInBounds_toArray, List.set_cons_zero, List.set_cons_succ]
          refine wpList_nil ?_
          obtain ⟨⟨A3, m3, c3⟩, hh⟩ : ∃ h, hs0[i]? = some h := ⟨_, List.getElem?_eq_getElem (by have := HC.out.len; omega)⟩
          have hrw := HC.out.row i _ _ hh HXS.out
          have hm3 : xs.length = m3 := hrw.len
          simp only at hrw
          have HE3 := Lib.hid hh
          have HR3 := Lib.hid hrw
          have htp3 := hrw.top
          have hcp3 := hrw.cap
          clear hh hrw
          have hNm : N = m3 := by omega
          have O12 := Ow33.out
          have O13 := B0.out
          go_wp2_with fail
          go_loopw [11, 12] (fun u p wr => ∃ j : Nat, j ≤ N ∧ p = .int .i64 j ∧ wr.ownsRow VB11.heap.size 50 1 u j (fl wdC ((xs.take j).map (fun x => x / 2 ^ k % 2))) ∧ Below VB11.heap.size VB11 wr) (fun _ p _ => N - (intOf p).toNat)
          case atStart => exact ⟨0, Nat.zero_le _, rfl, O12, O13⟩
          case round =>
            clear O13 O12
            obtain ⟨wq, rfl⟩ : ∃ wq : World, wq = wr := ⟨_, rfl⟩
            obtain ⟨j, hi, rfl, hOC, hb0⟩ := hrel
            have hbr := hb0
            clear B0
            have B0 := Lib.hid hbr
            clear hbr
            have OC := Lib.hid hOC
            clear hb0 hOC
            by_cases hlj : j < N
            · have hci15 : ((j : Int) < (m3 : Int)) := by omega
              obtain ⟨x, hx⟩ : ∃ x, xs[j]? = some x := ⟨_, List.getElem?_eq_getElem (by omega)⟩
              have hx256 := HX2.out x (List.mem_of_getElem? hx)
              have HXX := Lib.hid hx
              have HT := Lib.hid (take_map_succ (f := fun x => x / 2 ^ k % 2) hx)
              clear hx
              have hq : x / 2 ^ k ≤ x := Nat.div_le_self _ _
              go_upto_region 13 with fail
              refine wp_region_lit ?_
              refine wpList_run (by kernel_rfl) (.int .i64 (j : Int)) wq rfl ?_
              simp only [Act.put, List.setIfInBounds_toArray, List.set_cons_zero, List.set_cons_succ]
              refine wpList_run (by kernel_rfl) (.slice A5 5 c5) wq rfl ?_
              simp only [Act.put, List.setIfInBounds_toArray, List.set_cons_zero, List.set_cons_succ]
              refine wpList_run (by kernel_rfl) (.int .i64 (i : Int)) wq rfl ?_
              simp only [Act.put, List.setIfInBounds_toArray, List.set_cons_zero, List.set_cons_succ]
              refine wpList_run (by kernel_rfl) (.pointer (some (gad A5 (i * 1)))) wq (xg_idx .i64 (Cols.head (HC.out.keep B0.out)) HE3.out Tryd.underlying38 (by kernel_rfl) rfl rfl rfl) ?_
              simp only [Act.put, List.setIfInBounds_toArray, List.set_cons_zero, List.set_cons_succ]
              refine wpList_run (by kernel_rfl) (.slice A3 m3 c3) wq (xg_load1 (E := hdC) (i := i) (j := 0) (Cols.head (HC.out.keep B0.out)) HE3.out rfl rfl Tryd.underlying48 rfl rfl rfl) ?_
              simp only [Act.put, List.setIfInBounds_toArray, List.set_cons_zero, List.set_cons_succ]
              refine wpList_run (by kernel_rfl) (.int .i64 (m3 : Int)) wq (xo_len A3 m3 c3 Tryd.underlying48 rfl rfl) ?_
              simp only [Act.put, List.setIfInBounds_toArray, List.set_cons_zero, List.set_cons_succ]
              refine wpList_run (by kernel_rfl) (.bool true) wq (xo_lssT .i64 (j : Int) (m3 : Int) (by omega) rfl rfl rfl) ?_
              simp only [Act.put, List.setIfInBounds_toArray, List.set_cons_zero, List.set_cons_succ]
              refine wpList_nil ?_
              go_upto_region 15 with fail
              refine wp_region_lit ?_
              refine wpList_run (by kernel_rfl) (u11) wq rfl ?_
              simp only [Act.put, List.setIfInBounds_toArray, List.set_cons_zero, List.set_cons_succ]
              refine wpList_run (by kernel_rfl) (.slice A5 5 c5) wq rfl ?_
              simp only [Act.put, List.setIfInBounds_toArray, List.set_cons_zero, List.set_cons_succ]
              refine wpList_run (by kernel_rfl) (.int .i64 (i : Int)) wq rfl ?_
              simp only [Act.put, List.setIfInBounds_toArray, List.set_cons_zero, List.set_cons_succ]
              refine wpList_run (by kernel_rfl) (.pointer (some (gad A5 (i * 1)))) wq (xg_idx .i64 (Cols.head (HC.out.keep B0.out)) HE3.out Tryd.underlying38 (by kernel_rfl) rfl rfl rfl) ?_
              simp only [Act.put, List.setIfInBounds_toArray, List.set_cons_zero, List.set_cons_succ]
              refine wpList_run (by kernel_rfl) (.slice A3 m3 c3) wq (xg_load1 (E := hdC) (i := i) (j := 0) (Cols.head (HC.out.keep B0.out)) HE3.out rfl rfl Tryd.underlying48 rfl rfl rfl) ?_
              simp only [Act.put, List.setIfInBounds_toArray, List.set_cons_zero, List.set_cons_succ]
              refine wpList_run (by kernel_rfl) (.int .i64 (j : Int)) wq rfl ?_
              simp only [Act.put, List.setIfInBounds_toArray, List.set_cons_zero, List.set_cons_succ]
              refine wpList_run (by kernel_rfl) (.pointer (some (gad A3 (j * 1)))) wq (xg_idx .i64 (HR3.out.keep B0.out) HXX.out Tryd.underlying48 (by kernel_rfl) rfl rfl rfl) ?_
              simp only [Act.put, List.setIfInBounds_toArray, List.set_cons_zero, List.set_cons_succ]
              refine wpList_run (by kernel_rfl) (.int .u64 (x : Int)) wq (xg_load1 (E := wdC) (i := j) (j := 0) (HR3.out.keep B0.out) HXX.out rfl rfl Tryd.underlying50 rfl rfl rfl) ?_
              simp only [Act.put, List.setIfInBounds_toArray, List.set_cons_zero, List.set_cons_succ]
              refine wpList_run (by kernel_rfl) (.int .i64 (k : Int)) wq rfl ?_
              simp only [Act.put, List.setIfInBounds_toArray, List.set_cons_zero, List.set_cons_succ]
              refine wpList_run (by kernel_rfl) (.int .u64 ((x / 2 ^ k : Nat) : Int)) wq (xo_shrN .u64 .i64 x k (x / 2 ^ k) (by show k < 64; omega) rfl rfl rfl rfl) ?_
              simp only [Act.put, List.setIfInBounds_toArray, List.set_cons_zero, List.set_cons_succ]
              refine wpList_run (by kernel_rfl) (.int .u64 (((x / 2 ^ k) % 2 : Nat) : Int)) wq (xo_and .u64 (x / 2 ^ k) 1 ((x / 2 ^ k) % 2) (by show _ < 2 ^ 64; omega) (by show _ < 2 ^ 64; omega) (Nat.and_two_pow_sub_one_eq_mod (x / 2 ^ k) 1) (by rw [IntKind.wrap_u64]; omega) rfl rfl rfl) ?_
              simp only [Act.put, List.setIfInBounds_toArray, List.set_cons_zero, List.set_cons_succ]
              refine wpList_mk (by kernel_rfl) ([(x / 2 ^ k) % 2].flatMap wdC).toArray 50 1 1 (xg_lit (E := wdC) (bytes := 8) (.int .u64 0) [.tmp 53] [(x / 2 ^ k) % 2] 1 Tryd.underlying48 (by kernel_rfl) rfl (by decide) (by decide) rfl rfl) ?_
              intro g54 V2 hge h0 hb
              have Ge16 : Hid (wq.heap.size ≤ g54) := Lib.hid hge
              have B1 := Lib.hid hb
              have Fv17_54 : Hid (RowG wdC V2 g54 50 ([(x / 2 ^ k) % 2])) := Lib.hid (h0)
              have Lt18 : Hid (g54 < V2.heap.size) := Lib.hid (xp_lt Fv17_54.out)
              clear hge h0 hb
              simp only [ptr, Act.put, List.setIfInBounds_toArray, List.set_cons_zero, List.set_cons_succ]
              have C0_2 := Lib.hid (bel_step B0.out B1.out)
              refine wpList_app2 (size := 1) (by kernel_rfl) (.tmp 43) (.tmp 54) 48 rfl (.int .u64 0) 8 Tryd.underlying48 (by kernel_rfl) rfl (by decide) rfl (own_keep OC.out B1.out) (some ⟨g54, 0, none⟩) 1 1 (fl wdC ([(x / 2 ^ k) % 2])) rfl (RowG.sg Fv17_54.out (show ([(x / 2 ^ k) % 2]).length = 1 from rfl) (Nat.le_refl _) (by omega)).src (by unfold maxLen; omega) (by omega) C0_2.out.size ?_
              intro v55 X2_19 ho hb1 hg hloc
              have hox : X2_19.ownsRow VB11.heap.size 50 1 v55 (j + 1) (fl wdC (((xs.take j).map (fun x => x / 2 ^ k % 2)) ++ ([(x / 2 ^ k) % 2]))) := by rw [fl_append]; exact ho
              have hbr := C0_2.out.trans hb1
              clear B0
              have B0 := Lib.hid hbr
              clear hbr
              have Ow55_20 := Lib.hid hox
              clear ho hox hb1 hg hloc
              simp only [ptr, Act.put, List.setIfInBounds_toArray, List.set_cons_zero, List.set_cons_succ]
              refine wpList_run (by kernel_rfl) (v55) X2_19 rfl ?_
              simp only [Act.put, List.setIfInBounds_toArray, List.set_cons_zero, List.set_cons_succ]
              refine wpList_nil ?_
              have hko : X2_19.ownsRow VB11.heap.size 50 1 v55 (j + 1) (fl wdC ((xs.take (j + 1)).map (fun x => x / 2 ^ k % 2))) := by rw [HT.out]; exact Ow55_20.out
              go_upto_region 14 with fail
              refine wp_region_lit ?_
              refine wpList_run (by kernel_rfl) (.int .i64 (j : Int)) X2_19 rfl ?_
              simp only [Act.put, List.setIfInBounds_toArray, List.set_cons_zero, List.set_cons_succ]
              refine wpList_run (by kernel_rfl) (.int .i64 ((j + 1 : Nat) : Int)) X2_19 (xo_addI (j : Int) 1 ((j + 1 : Nat) : Int) (by omega) (by omega) (by omega) rfl rfl rfl) ?_
              simp only [Act.put, List.setIfInBounds_toArray, List.set_cons_zero, List.set_cons_succ]
              refine wpList_run (by kernel_rfl) (.int .i64 ((j + 1 : Nat) : Int)) X2_19 rfl ?_
              simp only [Act.put, List.setIfInBounds_toArray, List.set_cons_zero, List.set_cons_succ]
              refine wpList_nil ?_
              have hq21 := B0.out
              go_wp2_with fail
              go_roundw
              case rel => exact ⟨j + 1, by omega, by go_num, hko, hq21⟩
              case measure => simp [intOf]; omega
            · have hci15 : ¬ ((j : Int) < (m3 : Int)) := by omega
              have hjN : j = N := by omega
              go_upto_region 13 with fail
              refine wp_region_lit ?_
              refine wpList_run (by kernel_rfl) (.int .i64 (j : Int)) wq rfl ?_
              simp only [Act.put, List.setIfInBounds_toArray, List.set_cons_zero, List.set_cons_succ]
              refine wpList_run (by kernel_rfl) (.slice A5 5 c5) wq rfl ?_
              simp only [Act.put, List.setIfInBounds_toArray, List.set_cons_zero, List.set_cons_succ]
              refine wpList_run (by kernel_rfl) (.int .i64 (i : Int)) wq rfl ?_
              simp only [Act.put, List.setIfInBounds_toArray, List.set_cons_zero, List.set_cons_succ]
              refine wpList_run (by kernel_rfl) (.pointer (some (gad A5 (i * 1)))) wq (xg_idx .i64 (Cols.head (HC.out.keep B0.out)) HE3.out Tryd.underlying38 (by kernel_rfl) rfl rfl rfl) ?_
              simp only [Act.put, List.setIfInBounds_toArray, List.set_cons_zero, List.set_cons_succ]
              refine wpList_run (by kernel_rfl) (.slice A3 m3 c3) wq (xg_load1 (E := hdC) (i := i) (j := 0) (Cols.head (HC.out.keep B0.out)) HE3.out rfl rfl Tryd.underlying48 rfl rfl rfl) ?_
              simp only [Act.put, List.setIfInBounds_toArray, List.set_cons_zero, List.set_cons_succ]
              refine wpList_run (by kernel_rfl) (.int .i64 (m3 : Int)) wq (xo_len A3 m3 c3 Tryd.underlying48 rfl rfl) ?_
              simp only [Act.put, List.setIfInBounds_toArray, List.set_cons_zero, List.set_cons_succ]
              refine wpList_run (by kernel_rfl) (.bool false) wq (xo_lssF .i64 (j : Int) (m3 : Int) (by omega) rfl rfl rfl) ?_
              simp only [Act.put, List.setIfInBounds_toArray, List.set_cons_zero, List.set_cons_succ]
              refine wpList_nil ?_
              have hko := OC.out
              rw [hjN, List.take_of_length_le (by omega)] at hko
              clear OC
              have OC := Lib.hid hko
              clear hko
              have hcb := HBV11.out.trans (B0.out.mono HBV11.out.size)
              have YHB := (HB.out.keep B0.out)
              have YHC := (HC.out.keep B0.out)
              have YOW := (own_keep OW.out B0.out)
              have YOC := OC.out
              clear HB
              have HB := Lib.hid YHB
              clear YHB
              clear HC
              have HC := Lib.hid YHC
              clear YHC
              clear OW
              have OW := Lib.hid YOW
              clear YOW
              clear OC
              have OC := Lib.hid YOC
              clear YOC
              have B0 := Lib.hid hcb
              clear hcb
              obtain ⟨A9, c9, rfl⟩ := own_form OC.out
              have hvk : VB1.heap.size ≤ VB11.heap.size := HBV11.out.size
              have HPU := Lib.hid (OwnsU.push HB.out (own_mono OC.out hvk) (by rw [List.length_map]; omega))
              go_upto_region 16 with fail
              refine wp_region_lit ?_
              refine wpList_run (by kernel_rfl) (u8) wq rfl ?_
              simp only [Act.put, List.setIfInBounds_toArray, List.set_cons_zero, List.set_cons_succ]
              refine wpList_run (by kernel_rfl) (.slice A9 N c9) wq rfl ?_
              simp only [Act.put, List.setIfInBounds_toArray, List.set_cons_zero, List.set_cons_succ]
              refine wpList_mk (by kernel_rfl) ([(Hd.mk A9 N c9)].flatMap hdC).toArray 48 1 1 (xg_lit (E := hdC) (bytes := 24) (.slice none 0 0) [.tmp 57] [(Hd.mk A9 N c9)] 1 Tryd.underlying38 (by kernel_rfl) rfl (by decide) (by decide) rfl rfl) ?_
              intro g58 V2 hge h0 hb
              have Ge16 : Hid (wq.heap.size ≤ g58) := Lib.hid hge
              have B1 := Lib.hid hb
              have Fv17_58 : Hid (RowG hdC V2 g58 48 ([(Hd.mk A9 N c9)])) := Lib.hid (h0)
              have Lt18 : Hid (g58 < V2.heap.size) := Lib.hid (xp_lt Fv17_58.out)
              clear hge h0 hb
              simp only [ptr, Act.put, List.setIfInBounds_toArray, List.set_cons_zero, List.set_cons_succ]
              have C0_2 := Lib.hid (bel_step B0.out B1.out)
              refine wpList_app2 (size := 1) (by kernel_rfl) (.tmp 56) (.tmp 58) 38 rfl (.slice none 0 0) 24 Tryd.underlying38 (by kernel_rfl) rfl (by decide) rfl (own_keep OW.out B1.out) (some ⟨g58, 0, none⟩) 1 1 (fl hdC ([(Hd.mk A9 N c9)])) rfl (RowG.sg Fv17_58.out (show ([(Hd.mk A9 N c9)]).length = 1 from rfl) (Nat.le_refl _) (by omega)).src (by unfold maxLen; omega) (by omega) C0_2.out.size ?_
              intro v59 X2_19 ho hb1 hg hloc
              have hox : X2_19.ownsRow VB1.heap.size 48 1 v59 (((bitsN cols i).length + k) + 1) (fl hdC (hs ++ ([(Hd.mk A9 N c9)]))) := by rw [fl_append]; exact ho
              have YHPU : OwnsU X2_19 50 VB1.heap.size (hs ++ [Hd.mk A9 N c9]) (bitsP cols i k ++ [xs.map (fun x => x / 2 ^ k % 2)]) := OwnsU.grown (HPU.out.keep B1.out) (own_keep OW.out B1.out) hg (by decide)
              have hbr := C0_2.out.trans hb1
              clear B0
              have B0 := Lib.hid hbr
              clear hbr
              have Ow59_20 := Lib.hid hox
              clear HPU
              have HPU : Hid (OwnsU X2_19 50 VB1.heap.size (hs ++ [Hd.mk A9 N c9]) (bitsP cols i k ++ [xs.map (fun x => x / 2 ^ k % 2)])) := Lib.hid YHPU
              clear YHPU
              clear ho hox hb1 hg hloc
              simp only [ptr, Act.put, List.setIfInBounds_toArray, List.set_cons_zero, List.set_cons_succ]
              refine wpList_run (by kernel_rfl) (v59) X2_19 rfl ?_
              simp only [Act.put, List.setIfInBounds_toArray, List.set_cons_zero, List.set_cons_succ]
              refine wpList_nil ?_
              have hru : OwnsU X2_19 50 VB1.heap.size (hs ++ [Hd.mk A9 N c9]) (bitsP cols i (k + 1)) := by rw [bitsP_succ, HGD.out]; exact HPU.out
              have hko2 : X2_19.ownsRow VB1.heap.size 48 1 v59 ((bitsN cols i).length + (k + 1)) (fl hdC (hs ++ [Hd.mk A9 N c9])) := Ow59_20.out
              go_upto_region 10 with fail
              refine wp_region_lit ?_
              refine wpList_run (by kernel_rfl) (.int .i64 (k : Int)) X2_19 rfl ?_
              simp only [Act.put, List.setIfInBounds_toArray, List.set_cons_zero, List.set_cons_succ]
              refine wpList_run (by kernel_rfl) (.int .i64 ((k + 1 : Nat) : Int)) X2_19 (xo_addI (k : Int) 1 ((k + 1 : Nat) : Int) (by omega) (by omega) (by omega) rfl rfl rfl) ?_
              simp only [Act.put, List.setIfInBounds_toArray, List.set_cons_zero, List.set_cons_succ]
              refine wpList_run (by kernel_rfl) (.int .i64 ((k + 1 : Nat) : Int)) X2_19 rfl ?_
              simp only [Act.put, List.setIfInBounds_toArray, List.set_cons_zero, List.set_cons_succ]
              refine wpList_nil ?_
              have hq21 := B0.out
              go_wp2_with fail
              go_roundw
              case rel => exact ⟨k + 1, hs ++ [Hd.mk A9 N c9], by omega, by go_num, (by rw [List.length_append, hsl.out]; rfl), hko2, hru, hq21⟩
              case measure => simp [intOf]; omega
        · have hci10 : ¬ ((k : Int) < ((widN i : Nat) : Int)) := by omega
          have hkw : k = widN i := by omega
          go_upto_region 9 with fail
          refine wp_region_lit ?_
          refine wpList_run (by kernel_rfl) (.int .i64 (k : Int)) wp rfl ?_
          simp only [Act.put, List.setIfInBounds_toArray, List.set_cons_zero, List.set_cons_succ]
          refine wpList_run (by kernel_rfl) (.int .i64 (i : Int)) wp rfl ?_
          simp only [Act.put, List.setIfInBounds_toArray, List.set_cons_zero, List.set_cons_succ]
          refine wpList_call (by kernel_rfl) 34 Tryd.func34 (by kernel_rfl) (by kernel_rfl) _ _ #[.int .i64 (i : Int)] rfl (by kernel_rfl) ?_
          refine (width_any i hlt wp).mono ?_
          rintro e V2 ⟨rfl, hb⟩
          have B1 := Lib.hid hb
          clear hb 
          refine ⟨_, rfl, ?_⟩
          simp only [Act.put, List.setIfInBounds_toArray, List.set_cons_zero, List.set_cons_succ]
          refine wpList_run (by kernel_rfl) (.bool false) V2 (xo_lssF .i64 (k : Int) ((widN i : Nat) : Int) (by omega) rfl rfl rfl) ?_
          simp only [Act.put, List.setIfInBounds_toArray, List.set_cons_zero, List.set_cons_succ]
          refine wpList_nil ?_
          go_upto_region 7 with fail
          refine wp_region_lit ?_
          refine wpList_run (by kernel_rfl) (.int .i64 (i : Int)) V2 rfl ?_
          simp only [Act.put, List.setIfInBounds_toArray, List.set_cons_zero, List.set_cons_succ]
          refine wpList_run (by kernel_rfl) (.int .i64 ((i + 1 : Nat) : Int)) V2 (xo_addI (i : Int) 1 ((i + 1 : Nat) : Int) (by omega) (by omega) (by omega) rfl rfl rfl) ?_
          simp only [Act.put, List.setIfInBounds_toArray, List.set_cons_zero, List.set_cons_succ]
          refine wpList_run (by kernel_rfl) (.int .i64 ((i + 1 : Nat) : Int)) V2 rfl ?_
          simp only [Act.put, List.setIfInBounds_toArray, List.set_cons_zero, List.set_cons_succ]
          refine wpList_nil ?_
          have hru : OwnsU V2 50 VB1.heap.size hs (bitsN cols (i + 1)) := by have h0 := (HB.out.keep B1.out); rw [hkw] at h0; exact h0
          have hko := (own_keep OW.out B1.out)
          rw [hkw, ← hbi2] at hko
          have C0_2 := Lib.hid (bel_step B0.out B1.out)
          have hq11 := C0_2.out
          go_wp2_with fail
          go_roundw
          case rel => exact ⟨i + 1, hs, by omega, by go_num, (by rw [hsl.out, hbi2, hkw]), hko, hru, hq11⟩
          case measure => simp [intOf]; omega
    · have hci5 : ¬ ((i : Int) < 4) := by omega
      have hi4 : i = 4 := by omega
      go_upto_region 6 with fail
      refine wp_region_lit ?_
      refine wpList_run (by kernel_rfl) (.int .i64 (i : Int)) wo rfl ?_
      simp only [Act.put, List.setIfInBounds_toArray, List.set_cons_zero, List.set_cons_succ]
      refine wpList_run (by kernel_rfl) (.bool false) wo (xo_lssF .i64 (i : Int) 4 (by omega) rfl rfl rfl) ?_
      simp only [Act.put, List.setIfInBounds_toArray, List.set_cons_zero, List.set_cons_succ]
      refine wpList_nil ?_
      have hko := OW.out
      have hb24 : (bitsN cols 4).length = 24 := bitsN_24 cols
      rw [hi4, hb24] at hko
      obtain ⟨A2, c2, rfl, hs2⟩ := Sg.own hko
      have hkb := HB.out
      rw [hi4] at hkb
      have hsl2 := hsl.out
      rw [hi4] at hsl2
      go_upto_region 17 with fail
      refine wp_region_lit ?_
      refine wpList_run (by kernel_rfl) (.slice A2 24 c2) wo rfl ?_
      simp only [Act.put, List.setIfInBounds_toArray, List.set_cons_zero, List.set_cons_succ]
      refine wpList_run (by kernel_rfl) (.slice A2 24 c2) wo rfl ?_
      simp only [Act.put, List.setIfInBounds_toArray, List.set_cons_zero, List.set_cons_succ]
      refine wpList_run (by kernel_rfl) (.int .i64 0) wo rfl ?_
      simp only [Act.put, List.setIfInBounds_toArray, List.set_cons_zero, List.set_cons_succ]
      refine wpList_nil ?_
      go_wp2_with fail
      go_ret2
      exact ⟨A2, c2, rfl, ⟨hs, by rw [HNN.out, HCO.out]; exact ⟨hs2, hsl2, fun q h xs hh hx => hkb.sg hh hx⟩⟩, HBV1.out.trans (B0.out.mono HBV1.out.size)⟩
end Go.Proofs.YtopicjdmajlndaaDoor

