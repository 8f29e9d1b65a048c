/- Several texts in one: Trk, Trl, Trm. -/
import Derived.Test.YtcaoajeplinopaaDoorH09
import Derived.Test.YtcaoajeplinopaaDoorH04
import Derived.Test.YtcaoajeplinopaaDoorH08
namespace Go.Proofs.YtcaoajeplinopaaDoor
set_option linter.unusedVariables false
set_option linter.unusedSimpArgs false
set_option maxRecDepth 8000
open Go.RowKit Go.Maps
theorem OwZ.row {w : World} {base n c : Nat} {ad : Addr} {is : List Int} (h : OwZ w base (.slice (some ad) n c) n is) : ∃ g cur, ad = ⟨g, 0, none⟩ ∧ base ≤ g ∧ w.heap[g]? = some (.cells cur 3 (0, 0)) ∧ n ≤ c ∧ c ≤ maxLen ∧ cur.size = c ∧ cur.toList.take n = is.map (fun z => Value.int .i64 z) ∧ is.length = n := by
  have hl : is.length = n := by simpa using h.1
  rcases h.2 with ⟨h1, _⟩ | ⟨g, cap, cur, h1, hb, hg, h2, h3, h4, h5⟩
  · cases h1
  · injection h1 with e1 e2 e3
    injection e1 with e1
    subst e1 e3
    exact ⟨g, cur, rfl, hb, hg, h2, h3, by simpa using h4, by simpa using h5, hl⟩
theorem OwZ.at_ {w : World} {base n c : Nat} {ad : Addr} {is : List Int} (h : OwZ w base (.slice (some ad) n c) n is) {i : Nat} {z : Int} (hz : is[i]? = some z) : w.cell? (ad.add i) = some (.int .i64 z) := by
  obtain ⟨g, cur, rfl, _, hg, hnc, _, hs, ht, hl⟩ := h.row
  have hi := (List.getElem?_eq_some_iff.1 hz).1
  rw [ad_base]
  refine cells_at hg i ?_
  have h1 : (is.map (fun z => Value.int .i64 z))[i]? = some (.int .i64 z) := by rw [List.getElem?_map, hz]; rfl
  rw [← ht, List.getElem?_take_of_lt (by omega)] at h1
  simpa using h1
theorem OwZ.free {w : World} {base n c : Nat} {ad : Addr} {is : List Int} (h : OwZ w base (.slice (some ad) n c) n is) (i : Nat) : w.frozen? (ad.add i) = false := by
  obtain ⟨g, cur, rfl, _, hg, _⟩ := h.row
  rw [ad_base]
  exact frozen_of_row w g i _ _ hg
theorem OwZ.set {w : World} {base n c : Nat} {ad : Addr} {is : List Int} (h : OwZ w base (.slice (some ad) n c) n is) (i : Nat) (z : Int) : OwZ (w.setCell (ad.add i) (.int .i64 z)) base (.slice (some ad) n c) n (is.set i z) := by
  obtain ⟨g, cur, rfl, hb, hg, hnc, hm, hs, ht, hl⟩ := h.row
  have h1 := heap_setCell_at (i := i) hg (.int .i64 z)
  rw [ad_base]
  refine ⟨by simp [hl], .inr ⟨g, c, cur.setIfInBounds i (.int .i64 z), rfl, hb, h1, hnc, hm, by simp [hs], ?_⟩⟩
  rw [Array.toList_setIfInBounds, List.take_set, Nat.mul_one, ht, List.map_set]
theorem OwZ.setBelow {w : World} {base n c : Nat} {ad : Addr} {is : List Int} (h : OwZ w base (.slice (some ad) n c) n is) (i : Nat) (v : Value) : w.grownBy (w.setCell (ad.add i) v) (some ad.block) := by
  obtain ⟨g, cur, rfl, hb, hg, _⟩ := h.row
  rw [ad_base]
  exact ⟨rfl, rfl, rfl, by simp, fun j _ hj => Below.heap_setCell w ⟨g, i, none⟩ v j (fun e => hj (by rw [e]))⟩
/-- what the slice holds while x seeks its place -/
def shfT (t : List Nat) (k : Nat) (y : Int) : List Int := (t.take k).map (fun x : Nat => (x : Int)) ++ y :: (t.drop k).map (fun x : Nat => (x : Int))
theorem shfT_set (t : List Nat) (k : Nat) (hk : k ≤ t.length) (y z : Int) : (shfT t k y).set k z = shfT t k z := by
  unfold shfT
  rw [List.set_append_right _ _ (by simp; omega)]
  simp [Nat.min_eq_left hk]
theorem shfT_get {t : List Nat} {k j x : Nat} (hj : j < k) (hx : t[j]? = some x) (y : Int) : (shfT t k y)[j]? = some (x : Int) := by
  have := (List.getElem?_eq_some_iff.1 hx).1
  unfold shfT
  rw [List.getElem?_append_left (by simp; omega), List.getElem?_map, List.getElem?_take_of_lt hj, hx]
  rfl
theorem shfT_step {t : List Nat} {j x : Nat} (hx : t[j]? = some x) : shfT t (j + 1) (x : Int) = shfT t j (x : Int) := by
  unfold shfT
  have hl := (List.getElem?_eq_some_iff.1 hx).1
  rw [List.take_add_one, hx, Option.toList_some, List.map_append, List.append_assoc]
  congr 1
  rw [List.drop_eq_getElem_cons hl, (List.getElem?_eq_some_iff.1 hx).2]
  rfl
theorem shfT_end (t : List Nat) (y : Int) : shfT t t.length y = t.map (fun x : Nat => (x : Int)) ++ [y] := by
  unfold shfT
  rw [List.take_length, List.drop_length]
  rfl
theorem shfT_ins {t : List Nat} {k x : Nat} (h1 : ∀ y ∈ t.take k, y < x) (h2 : ∀ y ∈ t.drop k, x < y) : shfT t k (x : Int) = (insT t x).map (fun x : Nat => (x : Int)) := by
  rw [insT_cut h1 h2]
  unfold shfT
  simp
theorem sorted_eqT : ∀ {l t : List Nat}, l.Pairwise (· < ·) → t.Pairwise (· < ·) → (∀ z, z ∈ l ↔ z ∈ t) → l = t
  | [], [], _, _, _ => rfl
  | [], y :: t, _, _, h => by have := (h y).2 List.mem_cons_self; cases this
  | x :: l, [], _, _, h => by have := (h x).1 List.mem_cons_self; cases this
  | x :: l, y :: t, hl, ht, h => by
    obtain ⟨a1, a2⟩ := List.pairwise_cons.1 hl
    obtain ⟨b1, b2⟩ := List.pairwise_cons.1 ht
    have hxy : x = y := by
      rcases List.mem_cons.1 ((h x).1 List.mem_cons_self) with e | e
      · exact e
      · rcases List.mem_cons.1 ((h y).2 List.mem_cons_self) with e' | e'
        · exact e'.symm
        · have := a1 y e'; have := b1 x e; omega
    subst hxy
    rw [sorted_eqT a2 b2 fun z => ?_]
    constructor
    · intro hz
      rcases List.mem_cons.1 ((h z).1 (List.mem_cons_of_mem _ hz)) with e | e
      · subst e; exact absurd (a1 z hz) (Nat.lt_irrefl _)
      · exact e
    · intro hz
      rcases List.mem_cons.1 ((h z).2 (List.mem_cons_of_mem _ hz)) with e | e
      · subst e; exact absurd (b1 z hz) (Nat.lt_irrefl _)
      · exact e
/-- a loop over the set l under way: t has come -/
def RngM (w : World) (B r : Nat) (l t : List Nat) : Prop := ∃ (D : DataW Unit) (n : Nat) (left : Lit → Bool) (cnt : Nat), w.ranges Tryd.prog 3 (plainElem Tryd.prog 4) B r n D left cnt ∧ (∀ z : Int, left (.int .i64 z) = true ↔ ∃ x ∈ l, x ∉ t ∧ z = ((x : Nat) : Int))
theorem RngM.kept {w w' : World} {B r : Nat} {l t : List Nat} {row : Option Nat} (h : RngM w B r l t) (hg : w.grownBy w' row) (hb : some B ≠ row) (hr : some r ≠ row) : RngM w' B r l t := by
  obtain ⟨D, n, left, cnt, h1, h2⟩ := h
  exact ⟨D, n, left, cnt, h1.kept hg hb hr, h2⟩
theorem RngM.iter {w : World} {B r : Nat} {l t : List Nat} (h : RngM w B r l t) : ∃ m s a c, w.heap[r]? = some (.mapIter m s a c) := by
  obtain ⟨D, n, left, cnt, ⟨es, clock, since, seen, c0, _, _, _, _, hr, _⟩, _⟩ := h
  exact ⟨_, _, _, _, hr⟩
theorem RngM.map {w : World} {B r : Nat} {l t : List Nat} (h : RngM w B r l t) : ∃ es c, w.heap[B]? = some (.map es c) := by
  obtain ⟨D, n, left, cnt, ⟨es, clock, since, seen, c0, hb, _⟩, _⟩ := h
  exact ⟨_, _, hb⟩
/-- an own slice lies neither where the map nor where its iterator lies -/
theorem RngM.apart {w : World} {B r base n c : Nat} {ad : Addr} {l t : List Nat} {is : List Int} (h : RngM w B r l t) (ho : OwZ w base (.slice (some ad) n c) n is) : B ≠ ad.block ∧ r ≠ ad.block := by
  obtain ⟨g, cur, rfl, _, hg, _⟩ := ho.row
  obtain ⟨m, s, a, c', hr⟩ := h.iter
  obtain ⟨es, k, hb⟩ := h.map
  exact ⟨fun e => (by rw [e] at hb; rw [hg] at hb; cases hb), fun e => (by rw [e] at hr; rw [hg] at hr; cases hr)⟩
section
variable {ops : Array Oper} {rest : List Oper} {o : Oper} {a : Act} {Q : Exit → Act → World → Prop} {w : World} {B : Nat} {l t : List Nat}
theorem wpList_rangeM (hg : o.guard = none) (m : Operand) (hop : o.op = Op.range 90 m) (hm : a.eval m = .map (some B)) (h : SetM w B l)
    (hK : ∀ w', RngM w' B w.heap.size l [] → Below w.heap.size w w' → wpList Tryd.prog ops Q rest (a.put o.dst (.pointer (some ⟨w.heap.size, 0, none⟩))) w') : wpList Tryd.prog ops Q (o :: rest) a w := by
  obtain ⟨_, _, D, ho, hsz, hmem⟩ := h
  refine wpList_range_own w hg m _ hop 3 4 keyI Tryd.underlying90 _ B _ D hm ho fun w' hr hgr _ => hK w' ⟨D, _, _, _, hr, fun z => ?_⟩ ⟨hgr.os, hgr.tape, hgr.output, hgr.size, fun i hi => hgr.block i hi (by simp)⟩
  rw [hmem]
  constructor
  · rintro ⟨x, hx, e⟩; exact ⟨x, hx, List.not_mem_nil, e⟩
  · rintro ⟨x, hx, _, e⟩; exact ⟨x, hx, e⟩
theorem wpList_nextM {r : Nat} (hg : o.guard = none) (it : Operand) (hop : o.op = Op.next it false) (hit : a.eval it = .pointer (some ⟨r, 0, none⟩)) (h : RngM w B r l t)
    (hDone : (∀ x ∈ l, x ∈ t) → wpList Tryd.prog ops Q rest (a.put o.dst (.tuple #[.bool false])) w)
    (hMore : ∀ (x : Nat) (b : Bool) (w' : World), x ∈ l → x ∉ t → RngM w' B r l (insT t x) → w'.rangeLeft B r < w.rangeLeft B r → w.grownBy w' (some r) → w'.heap.size = w.heap.size → (Instr.entry (.pointer (some ⟨r, 0, none⟩))).run Tryd.prog w' = .ok (.tuple #[.int .i64 (x : Int), .bool b]) w' → wpList Tryd.prog ops Q rest (a.put o.dst (.tuple #[.bool true, .int .i64 (x : Int), .bool b])) w') : wpList Tryd.prog ops Q (o :: rest) a w := by
  obtain ⟨D, n, left, cnt, hr, hmem⟩ := h
  have hleq := hr.left_eq
  refine wpList_next_ranges (H := Unit) w hg it hop 3 keyI (plainElem Tryd.prog 4) (Value.int .i64) Value.bool (fun key kl hkey => by obtain ⟨x, rfl, _⟩ := Maps.keyOf_int_inv Tryd.underlying3 hkey; exact ⟨x, rfl⟩)
    (fun v y hv => by unfold plainElem at hv; rw [Tryd.underlying4] at hv; cases v <;> simp at hv; exact ⟨_, rfl⟩) B r n D left cnt hit hr (fun _ hl => hDone fun x hx => ?_) (fun z b kl y w' cnt' hkey hlk hv hat hrg hlt hgr hsz hen => ?_)
  · by_cases hxt : x ∈ t
    · exact hxt
    · have := (hmem (x : Int)).2 ⟨x, hx, hxt, rfl⟩
      rw [hl] at this
      cases this
  · obtain ⟨z', e1, rfl, _⟩ := Maps.keyOf_int_inv Tryd.underlying3 hkey
    injection e1 with _ e1
    subst e1
    obtain ⟨x, hx, hxt, e⟩ := (hmem z).1 hlk
    subst e
    refine hMore x b w' hx hxt ⟨D, n, _, cnt', hrg, fun z => ?_⟩ (by rw [hleq, hrg.left_eq]; exact hlt) hgr hsz hen
    rw [Bool.and_eq_true, hmem]
    constructor
    · rintro ⟨⟨y, hy, hyt, e⟩, hne⟩
      refine ⟨y, hy, fun hm => ?_, e⟩
      rcases mem_insT.1 hm with rfl | hm
      · subst e
        rw [WideAt.sameKey_self (keyI.key hkey)] at hne
        cases hne
      · exact hyt hm
    · rintro ⟨y, hy, hyt, e⟩
      refine ⟨⟨y, hy, fun hm => hyt (mem_insT.2 (Or.inr hm)), e⟩, ?_⟩
      rw [sameKey_ne (fun e' => hyt (mem_insT.2 (Or.inl (by injection e' with _ e'; omega))))]
      rfl
end
theorem run_makeZ (m : Nat) (hm : m ≤ 70000) (w : World) : (Instr.makeSlice 48 (.int .i64 0) (.int .i64 (m : Int))).run Tryd.prog w = .ok (.slice (some ⟨w.heap.size, 0, none⟩) 0 m) (w.alloc (.cells (Array.replicate m (Value.int .i64 0)) 3)) := by
  obtain ⟨i, hi, hz, hs, hb⟩ := info_parts zint_info
  have h1 : (i.bytes : Int) * (m : Int) ≤ 281474976710656 := by
    rw [hb]
    omega
  have hr := run_make (P := Tryd.prog) w 48 3 i (.int .i64 0) Tryd.underlying48 hi hz .i64 .i64 0 (m : Int) (by omega) (by omega) h1 (by omega)
  simp only [Int.toNat_natCast, Int.toNat_zero] at hr
  rw [hr, hs]
  have e : madeCells #[Value.int .i64 0] (m * 1) = Array.replicate m (Value.int .i64 0) := by
    apply Array.ext
    · rw [size_madeCells, Array.size_replicate, Nat.mul_one]
    · intro i h1 h2
      rw [size_madeCells, Nat.mul_one] at h1
      simp [madeCells, Nat.mod_one]
  rw [← e]
  rfl
theorem OwZ.fresh (w : World) (m : Nat) (hm : m ≤ 70000) : OwZ (w.alloc (.cells (Array.replicate m (Value.int .i64 0)) 3)) w.heap.size (.slice (some ⟨w.heap.size, 0, none⟩) 0 m) 0 [] :=
  ⟨rfl, .inr ⟨w.heap.size, m, _, rfl, Nat.le_refl _, heap_new w _, Nat.zero_le _, by unfold maxLen; omega, by simp, by simp⟩⟩
theorem OwZ.form {w : World} {base n : Nat} {v : Value} {is : List Int} (h : OwZ w base v n is) (hn : 0 < n) : ∃ ad c, v = .slice (some ad) n c := by
  rcases h.2 with ⟨_, h1⟩ | ⟨g, cap, cur, rfl, _⟩
  · omega
  · exact ⟨_, _, rfl⟩
theorem grown_left {w w' : World} {B r : Nat} {row : Option Nat} (hg : w.grownBy w' row) (hb : some B ≠ row) (hr : some r ≠ row) (h1 : B < w.heap.size) (h2 : r < w.heap.size) : w'.rangeLeft B r = w.rangeLeft B r := by
  unfold World.rangeLeft
  rw [hg.block B h1 hb, hg.block r h2 hr]
theorem RngM.lts {w : World} {B r : Nat} {l t : List Nat} (h : RngM w B r l t) : B < w.heap.size ∧ r < w.heap.size := by
  obtain ⟨D, n, left, cnt, h1, _⟩ := h
  exact ⟨h1.owns.lt, h1.lt⟩
theorem grown_below {w0 w w' : World} {row : Option Nat} (h : Below w0.heap.size w0 w) (hg : w.grownBy w' row) (hr : ∀ k, row = some k → w0.heap.size ≤ k) : Below w0.heap.size w0 w' :=
  ⟨hg.os.trans h.os, hg.tape.trans h.tape, hg.output.trans h.output, Nat.le_trans h.size hg.size, fun k hk => (hg.block k (Nat.lt_of_lt_of_le hk h.size) (fun e => by have := hr k e.symm; omega)).trans (h.block k hk)⟩
theorem exec_entry {ev : Operand → Value} {o : Oper} {x : Operand} {p v : Value} {w : World} (ho : o.op = .entry x) (hx : ev x = p) (h : (Instr.entry p).run Tryd.prog w = .ok v w) : (execOp ev o).run Tryd.prog w = .ok (.value v) w := by
  unfold execOp
  simp [ho, hx, h, Result.andThen]
attribute [local irreducible] wpList
set_option maxHeartbeats 4000000 in
theorem increasing_any' (B : Nat) (l : List Nat) (w : World) (h : SetM w B l) :
    Calls Tryd.prog 60 #[.map (some B)] w fun e w' => ∃ v, e = .returned v ∧ OwZ w' w.heap.size v l.length (l.map fun x : Nat => (x : Int)) ∧ Below w.heap.size w w' := by
  have hs := h.1
  have hll := sorted_leT 65536 l (sorted_nodupT hs) h.2.1
  have HM := Lib.hid h
  have hBlt := h.lt
  have HS := Lib.hid hs
  clear h hs
  obtain ⟨m, hml⟩ : ∃ m, l.length = m := ⟨_, rfl⟩
  rw [hml] at hll ⊢
  have hmk := run_makeZ m (by omega)
  go_enter Tryd.func60, Tryd.ntmps60
  go_upto_region 2 with (at_len; refine wpList_lenM m hml rfl (.tmp 6) rfl rfl HM.out ?_)
  clear hmk
  have HO := Lib.hid (OwZ.fresh w m (by omega))
  have HB := Lib.hid ((Below.refl w.heap.size w).alloc (Nat.le_refl _) (.cells (Array.replicate m (Value.int .i64 0)) 3))
  have HM1 := Lib.hid (HM.out.keep HB.out)
  generalize hv0 : Value.slice (some ⟨w.heap.size, 0, none⟩) 0 m = v0 at *
  generalize w.alloc (.cells (Array.replicate m (Value.int .i64 0)) 3) = w1 at *
  refine wp_region_lit ?_
  refine wpList_run (by kernel_rfl) (.map (some B)) w1 rfl ?_
  simp only [Act.put, List.setIfInBounds_toArray, List.set_cons_zero, List.set_cons_succ]
  refine wpList_rangeM rfl (.tmp 9) rfl rfl HM1.out ?_
  intro w2 hr2 hb2
  have HR := Lib.hid hr2
  have HO2 := Lib.hid (HO.out.keep hb2)
  have HB2 := Lib.hid (bel_step HB.out hb2)
  have hr0 : w.heap.size ≤ w1.heap.size := HB.out.size
  clear hr2 hb2 HO HB HM1 hv0
  generalize w1.heap.size = r at *
  simp only [Act.put, List.setIfInBounds_toArray, List.set_cons_zero, List.set_cons_succ]
  refine wpList_nil ?_
  go_wp2_with fail
  go_loopw [3, 4, 5] (fun v x k wr => ∃ t : List Nat, t.Pairwise (· < ·) ∧ (∀ z ∈ t, z ∈ l) ∧ OwZ wr w.heap.size v t.length (t.map fun x : Nat => (x : Int)) ∧ RngM wr B r l t ∧ Below w.heap.size w wr) (fun _ _ _ wr => wr.rangeLeft B r)
  case atStart => exact ⟨[], List.Pairwise.nil, (fun z hz => by cases hz), HO2.out, HR.out, HB2.out⟩
  case round =>
    clear HO2 HR HB2
    obtain ⟨t, hst, htl, ho, hr, hb⟩ := hrel
    have HO := Lib.hid ho
    have HR := Lib.hid hr
    have HB := Lib.hid hb
    have HST := Lib.hid hst
    have HTL := Lib.hid htl
    have hz := hb.size
    have htm : t.length ≤ 65536 := sorted_leT 65536 t (sorted_nodupT hst) (fun z hz => HM.out.2.1 z (htl z hz))
    obtain ⟨A, c, rfl, _⟩ := ho.ib
    clear ho hr hb hst htl
    go_upto_region 3 with fail
    refine wp_region_lit ?_
    refine wpList_nextM rfl (.tmp 10) rfl rfl HR.out (fun hall => ?_) (fun x b w2 hxl hxt hr2 hlt2 hg2 hsz2 hen => ?_)
    · simp only [Act.put, List.setIfInBounds_toArray, List.set_cons_zero, List.set_cons_succ]
      refine wpList_run (by kernel_rfl) (.bool false) wr rfl ?_
      simp only [Act.put, List.setIfInBounds_toArray, List.set_cons_zero, List.set_cons_succ]
      refine wpList_nil ?_
      have he : t = l := sorted_eqT HST.out HS.out fun z => ⟨HTL.out z, hall z⟩
      have HOE := HO.out
      rw [he, hml] at HOE
      have HOF := Lib.hid HOE
      have htlm : t.length = m := by rw [he, hml]
      clear HOE hall
      go_wp2_with fail
      go_ret
      exact ⟨_, by rw [htlm]; rfl, HOF.out, HB.out⟩
    · have HX := Lib.hid hxt
      have HXL := Lib.hid hxl
      have HR2 := Lib.hid hr2
      have HLT := Lib.hid hlt2
      have hrs : r ≠ B := fun e => by
        obtain ⟨mm, ss, aa, cc, h1⟩ := HR.out.iter
        obtain ⟨es, kk, h2⟩ := HR.out.map
        rw [e, h2] at h1
        cases h1
      have HO2 : Hid (OwZ w2 w.heap.size (.slice A t.length c) t.length (t.map fun x : Nat => (x : Int))) := Lib.hid (by
        cases A with
        | none =>
          refine ⟨HO.out.1, ?_⟩
          rcases HO.out.2 with h1 | ⟨g, cap, cur, h1, _⟩
          · exact .inl h1
          · cases h1
        | some ad =>
          obtain ⟨a1, a2⟩ := HR.out.apart HO.out
          obtain ⟨g, cur, rfl, k1, k2, k3, k4, k5, k6, k7⟩ := HO.out.row
          refine ⟨HO.out.1, .inr ⟨g, c, cur, rfl, k1, ?_, k3, k4, by simpa using k5, by simpa using k6⟩⟩
          rw [hg2.block g (Array.getElem?_eq_some_iff.1 k2).1 (fun e => a2 (by injection e with e; exact e.symm))]
          exact k2)
      have HB2 := Lib.hid (grown_below HB.out hg2 (fun k e => by injection e with e; omega))
      have hz2 : w.heap.size ≤ w2.heap.size := by rw [hsz2]; exact hz
      clear hxt hxl hr2 hlt2 hg2
      simp only [Act.put, List.setIfInBounds_toArray, List.set_cons_zero, List.set_cons_succ]
      refine wpList_run (by kernel_rfl) (.bool true) w2 rfl ?_
      simp only [Act.put, List.setIfInBounds_toArray, List.set_cons_zero, List.set_cons_succ]
      refine wpList_nil ?_
      go_upto_region 4 with fail
      refine wp_region_lit ?_
      refine wpList_run (by kernel_rfl) (.tuple #[.int .i64 (x : Int), .bool b]) w2 (exec_entry rfl rfl hen) ?_
      simp only [Act.put, List.setIfInBounds_toArray, List.set_cons_zero, List.set_cons_succ]
      refine wpList_run (by kernel_rfl) (.int .i64 (x : Int)) w2 rfl ?_
      simp only [Act.put, List.setIfInBounds_toArray, List.set_cons_zero, List.set_cons_succ]
      refine wpList_run (by kernel_rfl) (.int .i64 (x : Int)) w2 rfl ?_
      simp only [Act.put, List.setIfInBounds_toArray, List.set_cons_zero, List.set_cons_succ]
      refine wpList_nil ?_
      clear hen
      go_upto_region 5 with fail
      refine wp_region_lit ?_
      refine wpList_run (by kernel_rfl) (.slice A t.length c) w2 rfl ?_
      simp only [Act.put, List.setIfInBounds_toArray, List.set_cons_zero, List.set_cons_succ]
      refine wpList_run (by kernel_rfl) (.int .i64 (x : Int)) w2 rfl ?_
      simp only [Act.put, List.setIfInBounds_toArray, List.set_cons_zero, List.set_cons_succ]
      refine wpList_run (by kernel_rfl) (.slice (some ⟨w2.heap.size, 0, none⟩) 1 1) (w2.alloc (.cells #[.int .i64 (x : Int)] 3)) (run_buildI1 (x : Int) rfl rfl w2) ?_
      simp only [Act.put, List.setIfInBounds_toArray, List.set_cons_zero, List.set_cons_succ]
      have hb3 : Below w2.heap.size w2 (w2.alloc (.cells #[.int .i64 (x : Int)] 3)) := (Below.refl _ _).alloc (Nat.le_refl _) _
      have HR3 := Lib.hid (HR2.out.kept (below_grown hb3) (by simp) (by simp))
      have HO3 := Lib.hid (HO2.out.keep hb3)
      have HB3 := Lib.hid (bel_step HB2.out hb3)
      have HL3 := Lib.hid (grown_left (below_grown hb3) (by simp) (by simp) HR2.out.lts.1 HR2.out.lts.2)
      have hone : One (w2.alloc (.cells #[.int .i64 (x : Int)] 3)) w2.heap.size 3 (.int .i64 (x : Int)) := One.new w2 _ _
      have hz3 := HB3.out.size
      clear hb3
      generalize w2.alloc (.cells #[.int .i64 (x : Int)] 3) = w3 at *
      refine wpList_appendZ rfl (.tmp 15) (.tmp 17) rfl w.heap.size _ t.length _ rfl HO3.out w2.heap.size 1 (x : Int) rfl hone (by omega) hz3 ?_
      intro v4 w4 ho4 hg4
      obtain ⟨ad, c4, rfl⟩ := ho4.form (by omega)
      have hap : some B ≠ (Value.slice A t.length c).ownBlock ∧ some r ≠ (Value.slice A t.length c).ownBlock := by
        cases A with
        | none => exact ⟨fun e => (by cases e), fun e => (by cases e)⟩
        | some ad =>
          obtain ⟨a1, a2⟩ := HR3.out.apart HO3.out
          exact ⟨fun e => a1 (by injection e), fun e => a2 (by injection e)⟩
      have HR4 := Lib.hid (HR3.out.kept hg4 hap.1 hap.2)
      have HL4 := Lib.hid (grown_left hg4 hap.1 hap.2 HR3.out.lts.1 HR3.out.lts.2)
      have HB4 := Lib.hid (grown_below HB3.out hg4 (fun k e => by have := World.ownsRow.lt HO3.out k e; exact this.1))
      rw [← shfT_end] at ho4
      have HO4 := Lib.hid ho4
      clear ho4 hg4 hap hone HR3 HO3 HB3
      simp only [Act.put, List.setIfInBounds_toArray, List.set_cons_zero, List.set_cons_succ]
      refine wpList_run (by kernel_rfl) (.slice (some ad) (t.length + 1) c4) w4 rfl ?_
      simp only [Act.put, List.setIfInBounds_toArray, List.set_cons_zero, List.set_cons_succ]
      refine wpList_nil ?_
      have HLL := Lib.hid (show w4.rangeLeft B r < wr.rangeLeft B r by rw [HL4.out, HL3.out]; exact HLT.out)
      clear HL3 HL4 HLT HR2 HO2 HB2 HO HR HB
      obtain ⟨N, hN⟩ : ∃ N, t.length = N := ⟨_, rfl⟩
      rw [hN] at HO4 htm ⊢
      have HN := Lib.hid hN
      have hn1 : ((N + 1 : Nat) : Int) - 1 = (N : Int) := by omega
      clear hN hsz2
      obtain ⟨M0, hM0⟩ : ∃ M, wr.rangeLeft B r = M := ⟨_, rfl⟩
      rw [hM0] at HLL
      have HM0 := Lib.hid hM0
      clear hM0
      go_wp2_with fail
      go_loopw [5] (fun s wx => ∃ (k : Nat) (y : Int), k ≤ N ∧ s = .int .i64 k ∧ OwZ wx w.heap.size (.slice (some ad) (N + 1) c4) (N + 1) (shfT t k y) ∧ RngM wx B r l (insT t x) ∧ wx.rangeLeft B r < M0 ∧ Below w.heap.size w wx ∧ ∀ z ∈ t.drop k, x < z) (fun s _ => (intOf s).toNat)
      case atStart => exact ⟨N, _, Nat.le_refl _, by first | rfl | (congr 1), by rw [← HN.out]; have h5 := HO4.out; rw [← HN.out] at h5; exact h5, HR4.out, HLL.out, HB4.out, fun z hz => by rw [List.drop_of_length_le (by have := HN.out; omega)] at hz; cases hz⟩
      case round =>
        clear HO4 HR4 HLL HB4
        rename_i wo
        obtain ⟨k, y, hk, rfl, ho, hr, hl, hb, hd⟩ := hrel
        have HO := Lib.hid ho
        have HR := Lib.hid hr
        have HLL := Lib.hid hl
        have HB := Lib.hid hb
        have HDR := Lib.hid hd
        obtain ⟨a1, a2⟩ := hr.apart ho
        have hgr : ∀ (i : Nat) (v : Value), RngM (wr.setCell (ad.add i) v) B r l (insT t x) ∧ (wr.setCell (ad.add i) v).rangeLeft B r < M0 ∧ Below w.heap.size w (wr.setCell (ad.add i) v) := fun i v => by
          have hs := HO.out.setBelow i v
          have n1 : some B ≠ some ad.block := fun e => a1 (by injection e)
          have n2 : some r ≠ some ad.block := fun e => a2 (by injection e)
          refine ⟨HR.out.kept hs n1 n2, by rw [grown_left hs n1 n2 HR.out.lts.1 HR.out.lts.2]; exact HLL.out, grown_below HB.out hs (fun k e => ?_)⟩
          obtain ⟨g, cur, rfl, hbg, _⟩ := HO.out.row
          injection e with e
          subst e
          exact hbg
        have HGR := Lib.hid hgr
        clear ho hr hl hb hd a1 a2 hgr
        have hlen : (insT t x).length = N + 1 := by rw [insT_length HST.out HX.out, HN.out]
        have HLEN := Lib.hid hlen
        have fin : ∀ (_ : ∀ z ∈ t.take k, z < x), OwZ (wr.setCell (ad.add k) (.int .i64 (x : Int))) w.heap.size (.slice (some ad) (N + 1) c4) (N + 1) ((insT t x).map fun x : Nat => (x : Int)) := fun hlo => by
          have h1 := HO.out.set k (x : Int)
          rwa [shfT_set t k (by rw [HN.out]; exact hk), shfT_ins hlo HDR.out] at h1
        have FIN := Lib.hid fin
        have INS := Lib.hid (show (insT t x).Pairwise (· < ·) ∧ ∀ z ∈ insT t x, z ∈ l from ⟨insT_sorted HST.out, fun z hz => (mem_insT.1 hz).elim (fun e => e ▸ HXL.out) (HTL.out z)⟩)
        have ck : wr.cell? (ad.add k) = some (.int .i64 y) := HO.out.at_ (by
          unfold shfT
          have := HN.out
          rw [List.getElem?_append_right (by simp; omega)]
          simp [show min k t.length = k by omega])
        have fk := HO.out.free k
        clear hlen fin
        by_cases hk0 : 0 < k
        · obtain ⟨j, rfl⟩ : ∃ j, k = j + 1 := ⟨k - 1, by omega⟩
          have e1 : ((j + 1 : Nat) : Int) - 1 = (j : Int) := by omega
          have hk1 : (0 : Int) < ((j + 1 : Nat) : Int) := by omega
          have hk2 : ((j + 1 : Nat) : Int) < ((N + 1 : Nat) : Int) := by omega
          have hk3 : (j : Int) < ((N + 1 : Nat) : Int) := by omega
          have hk4 : (0 : Int) ≤ (j : Int) := by omega
          have hk5 : (0 : Int) ≤ ((j + 1 : Nat) : Int) := by omega
          obtain ⟨z, hz⟩ : ∃ z, t[j]? = some z := ⟨t[j]'(by have := HN.out; omega), List.getElem?_eq_getElem _⟩
          have c0 := HO.out.at_ (shfT_get (k := j + 1) (by omega) hz y)
          have hadd : ad.add (j + 1) = ⟨ad.block, ad.off + (j + 1), none⟩ := by simp [Addr.add]
          rw [hadd] at ck fk
          by_cases hlt : x < z
          · have hlt1 : (x : Int) < (z : Int) := by omega
            have HNX := Lib.hid (HO.out.set (j + 1) (z : Int))
            have HGX := Lib.hid (HGR.out (j + 1) (.int .i64 (z : Int)))
            rw [hadd] at HNX HGX
            go_wp2_with fail
            go_roundw
            case rel =>
              obtain ⟨q1, q2, q3⟩ := HGX.out
              refine ⟨j, (z : Int), by omega, rfl, ?_, q1, q2, q3, fun u hu => ?_⟩
              · have h1 := HNX.out
                rwa [shfT_set t (j + 1) (by rw [HN.out]; exact hk), shfT_step hz] at h1
              · rw [List.drop_eq_getElem_cons (List.getElem?_eq_some_iff.1 hz).1, (List.getElem?_eq_some_iff.1 hz).2] at hu
                rcases List.mem_cons.1 hu with rfl | hu
                · exact hlt
                · exact HDR.out u hu
            case measure => simp [intOf]
          · have hlt1 : ¬ (x : Int) < (z : Int) := by omega
            have hfin : ∀ u ∈ t.take (j + 1), u < x := fun u hu => by
              have hzx : z ≠ x := fun e => HX.out (e ▸ List.mem_of_getElem? hz)
              rw [List.take_add_one, hz, Option.toList_some] at hu
              rcases List.mem_append.1 hu with hu | hu
              · obtain ⟨i, hi⟩ := List.getElem?_of_mem hu
                have hil := (List.getElem?_eq_some_iff.1 hi).1
                rw [List.length_take] at hil
                rw [List.getElem?_take_of_lt (by omega)] at hi
                have := List.pairwise_iff_getElem.1 HST.out i j (List.getElem?_eq_some_iff.1 hi).1 (List.getElem?_eq_some_iff.1 hz).1 (by omega)
                rw [(List.getElem?_eq_some_iff.1 hi).2, (List.getElem?_eq_some_iff.1 hz).2] at this
                omega
              · rw [List.mem_singleton.1 hu]
                omega
            have HNX := Lib.hid (FIN.out hfin)
            have HGX := Lib.hid (HGR.out (j + 1) (.int .i64 (x : Int)))
            rw [hadd] at HNX HGX
            clear hfin
            go_wp2_with fail
            go_roundw
            case rel =>
              obtain ⟨q1, q2, q3⟩ := HGX.out
              exact ⟨insT t x, INS.out.1, INS.out.2, by rw [HLEN.out]; exact HNX.out, q1, q3⟩
            case measure => rw [HM0.out]; exact HGX.out.2.1
        · obtain rfl : k = 0 := by omega
          have hadd : ad.add 0 = ad := by simp [Addr.add]
          rw [hadd] at ck fk
          have HNX := Lib.hid (FIN.out (fun u hu => by rw [List.take_zero] at hu; cases hu))
          have HGX := Lib.hid (HGR.out 0 (.int .i64 (x : Int)))
          rw [hadd] at HNX HGX
          have hk2 : ((0 : Nat) : Int) < ((N + 1 : Nat) : Int) := by omega
          go_wp2_with fail
          go_roundw
          case rel =>
            obtain ⟨q1, q2, q3⟩ := HGX.out
            exact ⟨insT t x, INS.out.1, INS.out.2, by rw [HLEN.out]; exact HNX.out, q1, q3⟩
          case measure => rw [HM0.out]; exact HGX.out.2.1
end Go.Proofs.YtcaoajeplinopaaDoor

namespace Go.Proofs.YtcaoajeplinopaaDoor
set_option linter.unusedVariables false
set_option linter.unusedSimpArgs false
set_option maxRecDepth 8000
open Go.RowKit
open Go.Shelf

/-- what a round of the loop leaves -/
def brkEnd (id : Nat) (N : Nat) (J1 : World → Prop) (Jx : World → Prop) (A : World) : Exit → Act → World → Prop
  | .normal, _, B => KeepA N A B ∧ J1 B
  | .exit j, _, B => j = id ∧ KeepA N A B ∧ Jx B
  | _, _, _ => False

theorem wpIn_rangeBrk (id : Nat) {P : Program} {α : Type} {g : Operand} {ps : Array Tmp} {assign body : Code} {Q : Exit → Act → World → Prop} {a : Act} {w : World} {gf : Nat} {lb : Array Value}
    (hg : a.eval g = .func (.func gf) #[] lb) (eg : ∀ args w, (callFunc gf args).run P w = .ok (.enter gf args) w) (encs : α → Array Value) (hps : ∀ x, (encs x).size = ps.size)
    (n : Nat) (J : Nat → World → Prop) (Jx : Nat → World → Prop) (X : Nat → α → World → Prop) (hJ : ∀ i A B, J i A → Below w.heap.size A B → J i B) (hJx : ∀ i A B, Jx i A → Below w.heap.size A B → Jx i B) (h0 : J 0 w)
    (hiter : ∀ (l : Nat) (W : World) (J' Jx' : Nat → World → Prop), (∀ i A B, J' i A → Below W.heap.size A B → J' i B) → (∀ i A, J' i A → J i A ∧ W.heap.size ≤ A.heap.size) → w.heap.size ≤ W.heap.size →
      (∀ i x A, i < n → J' i A → X i x A → YieldAt Fence.wide 1 P l (encs x) A fun e B => (e = .returned (.bool true) ∧ J' (i + 1) B ∧ KeepA W.heap.size A B) ∨ (e = .returned (.bool false) ∧ Jx' i B)) → J' 0 W →
      CallsIn Fence.wide 2 P gf (#[.func (.yield l) #[] #[]] ++ lb) W fun e B => (∃ v, e = .returned v) ∧ (J' n B ∨ ∃ i, i < n ∧ Jx' i B))
    (hround : ∀ (l i : Nat) (x : α) (A : World), i < n → w.heap.size ≤ l → l < A.heap.size → (∃ L, A.heap[l]? = some (.loop L)) → J i A → X i x A →
      assign.wpIn (Fence.wide.inRound l) 1 P (Exit.then (fun a' B => KeepA w.heap.size A B ∧ J i B ∧ ∀ B2, KeepA (l + 1) B B2 → Below w.heap.size B B2 → (∀ b o, b ≠ l → B.heap[b]? = some o → B2.heap[b]? = some o) → body.wpIn (Fence.wide.inRound l) 1 P (brkEnd id w.heap.size (J (i + 1)) (Jx i) B2) a' B2) (fun _ _ _ => False))
        { tmps := (ps.zip (encs x)).foldl (fun t (p, v) => t.setIfInBounds p v) a.tmps, defers := [] } A)
    (hdone : ∀ (D : Nat) (B : World), w.heap.size ≤ D → J n B → B.heap[D]? = some (.deferred (some [])) → Q .normal { a with defers := { target := .collected D, args := #[] } :: a.defers } B)
    (hstop : ∀ (D i : Nat) (B : World), w.heap.size ≤ D → i < n → Jx i B → B.heap[D]? = some (.deferred (some [])) → (Code.exit id).wpIn Fence.wide 3 P Q { a with defers := { target := .collected D, args := #[] } :: a.defers } B) :
    (Code.rangeFunc g ps assign body).wpIn Fence.wide 3 P Q a w := by
  refine wpIn_rangeFunc fun fn hfn => ?_
  let R : LoopState → Option Code → Loop := fun st pe => { state := st, pending := pe, fn := fn, tmps := a.tmps, params := ps, assign := assign, body := body, defers := w.heap.size }
  let W : World := (w.alloc (.deferred (some []))).alloc (.loop (R .ready none))
  have hsz : W.heap.size = w.heap.size + 1 + 1 := by simp [W]
  have hbW : Below w.heap.size w W := ((Below.refl _ w).alloc (Nat.le_refl _) _).alloc (by simp) _
  have hWL : W.heap[w.heap.size + 1]? = some (.loop (R .ready none)) := by
    have h := World.alloc_heap_new (w.alloc (.deferred (some []))) (.loop (R .ready none))
    rwa [World.size_alloc] at h
  have hWD : W.heap[w.heap.size]? = some (.deferred (some [])) := heap_old _ (heap_new w _)
  have put : ∀ (A : World) (o o' : Obj), A.heap[w.heap.size + 1]? = some o → Below w.heap.size A (A.putObj (w.heap.size + 1) o') ∧ KeepA (w.heap.size + 1 + 1) A (A.putObj (w.heap.size + 1) o') ∧ (A.putObj (w.heap.size + 1) o').heap[w.heap.size + 1]? = some o' ∧ ∀ b q, b ≠ w.heap.size + 1 → A.heap[b]? = some q → (A.putObj (w.heap.size + 1) o').heap[b]? = some q := fun A o o' h =>
    ⟨⟨rfl, rfl, rfl, by simp, fun k hk => World.putObj_heap_other (by omega)⟩, ⟨by simp, fun b q hb hq => (World.putObj_heap_other (by omega)).trans hq⟩, World.putObj_heap_same (Array.getElem?_eq_some_iff.1 h).1, fun b q hb hq => (World.putObj_heap_other hb).trans hq⟩
  refine ⟨w.heap.size + 1, [{ target := .collected w.heap.size, args := #[] }], W, { target := .fn (.func gf) lb, args := #[.func (.yield (w.heap.size + 1)) #[] #[]] }, W, gf, #[.func (.yield (w.heap.size + 1)) #[] #[]] ++ lb, W, run_enterLoop_outer _ _ _ _ _, ?_, fun _ _ => trivial, ?_, fun _ => by omega, ?_⟩
  · simp only [resolve, hg]
    simp [go_sem]
  · simp [invoke, go_sem, eg]
  · refine (hiter (w.heap.size + 1) W
      (fun i A => J i A ∧ W.heap.size ≤ A.heap.size ∧ A.heap[w.heap.size + 1]? = some (.loop (R .ready none)) ∧ A.heap[w.heap.size]? = some (.deferred (some [])))
      (fun i A => Jx i A ∧ A.heap[w.heap.size + 1]? = some (.loop (R .done (some (.exit id)))) ∧ A.heap[w.heap.size]? = some (.deferred (some [])))
      (fun i A B h hb => ⟨hJ i A B h.1 (hb.mono hbW.size), Nat.le_trans h.2.1 hb.size, (hb.block _ (by omega)).trans h.2.2.1, (hb.block _ (by omega)).trans h.2.2.2⟩)
      (fun i A h => ⟨h.1, h.2.1⟩) hbW.size ?_ ⟨hJ 0 w W h0 hbW, Nat.le_refl _, hWL, hWD⟩).mono ?_
    · intro i x A hin ⟨hj, hs, hl, hd⟩ hx
      refine ⟨fn, _, assign, body, run_yield hl (hps x), roundIn_of_wpIn hfn ?_⟩
      refine wpIn_mono (hround (w.heap.size + 1) i x A hin (Nat.le_succ _) (Array.getElem?_eq_some_iff.1 hl).1 ⟨_, hl⟩ hj hx) ?_
      rintro e a' B hp
      cases e with
      | normal =>
        obtain ⟨hk, hjB, hbody⟩ := hp
        have hl2 := hk.2 _ _ (Nat.le_succ _) hl
        have hd2 := hk.2 _ _ (Nat.le_refl _) hd
        obtain ⟨p1, p2, p3, p4⟩ := put B _ (.loop (R .busy none)) hl2
        refine ⟨_, run_beginRound hl2 rfl, ?_⟩
        refine wpIn_mono (hbody _ p2 p1 p4) ?_
        rintro e2 a3 C hp2
        cases e2 with
        | normal =>
          obtain ⟨hk3, hj3⟩ := hp2
          have hl3 := hk3.2 _ _ (Nat.le_succ _) p3
          have hd3 := hk3.2 _ _ (Nat.le_refl _) (p4 _ _ (by omega) hd2)
          obtain ⟨q1, q2, q3, q4⟩ := put C _ (.loop (R .ready none)) hl3
          refine ⟨_, _, run_endRound none hl3, .inl ⟨rfl, ⟨hJ _ _ _ hj3 q1, ?_, q3, q4 _ _ (by omega) hd3⟩, ?_⟩⟩
          · exact Nat.le_trans hs (Nat.le_trans hk.1 (Nat.le_trans p2.1 (Nat.le_trans hk3.1 q2.1)))
          · rw [hsz]
            exact ((hk.mono (by omega)).trans p2).trans ((hk3.mono (by omega)).trans q2)
        | ret => exact hp2.elim
        | exit j =>
          obtain ⟨rfl, hk3, hj3⟩ := hp2
          have hl3 := hk3.2 _ _ (Nat.le_succ _) p3
          have hd3 := hk3.2 _ _ (Nat.le_refl _) (p4 _ _ (by omega) hd2)
          obtain ⟨q1, q2, q3, q4⟩ := put C _ (.loop (R .done (some (.exit j)))) hl3
          exact ⟨_, _, run_endRound (some (.exit j)) hl3, .inr ⟨rfl, hJx _ _ _ hj3 q1, q3, q4 _ _ (by omega) hd3⟩⟩
        | goto t => exact hp2.elim
        | panic ch => exact hp2.elim
        | outgrown => exact hp2.elim
      | _ => exact hp.elim
    · rintro e B ⟨⟨v, rfl⟩, (⟨hj, _, hl, hd⟩ | ⟨i, hin, hj, hl, hd⟩)⟩
      · obtain ⟨q1, q2, q3, q4⟩ := put B _ (.loop (R .exhausted none)) hl
        exact ⟨none, _, run_endLoop hl (by simp [R]), hdone _ _ (Nat.le_refl _) (hJ _ _ _ hj q1) (q4 _ _ (by omega) hd)⟩
      · obtain ⟨q1, q2, q3, q4⟩ := put B _ (.loop (R .exhausted (some (.exit id)))) hl
        exact ⟨some (.exit id), _, run_endLoop hl (by simp [R]), hstop _ i _ (Nat.le_refl _) hin (hJx _ _ _ hj q1) (q4 _ _ (by omega) hd)⟩

end Go.Proofs.YtcaoajeplinopaaDoor

namespace Go.Proofs.YtcaoajeplinopaaDoor
set_option linter.unusedVariables false
set_option linter.unusedSimpArgs false
set_option maxRecDepth 8000
open Go.RowKit
section
variable {P : Program} {Q : Exit → Act → World → Prop}
/-- one operation, a round of the caller's loop among them -/
def heldUponI (P : Program) (K : Value → World → Prop) : Result Next → Prop
  | .ok (.value u) w' => K u w'
  | .ok .skip w' => K undef w'
  | .ok (.enter f args) w' => Calls P f args w' (fun e w'' => ∃ v, e = .returned v ∧ K v w'')
  | .ok (.round l f tmps assign body) w' => RoundIn Fence.wide 1 P l f tmps assign body w' (fun e w'' => ∃ v, e = .returned v ∧ K v w'')
  | _ => False
def hOpI (P : Program) (o : Oper) (K : Value → World → Prop) (a : Act) (w : World) : Prop := heldUponI P K ((execOp a.eval o).run P w)
theorem hOpI_of {o : Oper} {K : Value → World → Prop} {a : Act} {w : World} (h : hOp P o K a w) : hOpI P o K a w := by
  unfold hOp at h
  unfold hOpI
  generalize (execOp a.eval o).run P w = r at *
  cases r with
  | ok n w' => cases n <;> simp only [heldUpon] at h <;> simp only [heldUponI] <;> exact h
  | halt x w' => exact h
theorem hOpI_mono {o : Oper} {K K' : Value → World → Prop} {a : Act} {w : World} (h : ∀ v w', K v w' → K' v w') (hh : hOpI P o K a w) : hOpI P o K' a w := by
  unfold hOpI at *
  generalize (execOp a.eval o).run P w = r at *
  cases r with
  | ok n w' =>
    cases n <;> simp only [heldUponI] at hh ⊢ <;> first | exact h _ _ hh | exact hh.mono fun _ _ ⟨v, he, hk⟩ => ⟨v, he, h _ _ hk⟩
  | halt x w' => exact hh
theorem wpOpIn_of_hOpI {ops : Array Oper} {i : Nat} {o : Oper} {K : Act → World → Prop} {a : Act} {w : World} (hi : ops[i]? = some o) (hg : o.guard = none) (h : hOpI P o (fun v w' => K (a.put o.dst v) w') a w) : wpOpIn Fence.wide 2 P ops Q i K a w := by
  unfold wpOpIn
  rw [hi]
  simp only [show Region.wanted o (yielded ops a.tmps) = true by unfold Region.wanted; rw [hg], if_true]
  refine ⟨fun _ _ => trivial, ?_⟩
  show Oper.uponIn Fence.wide 2 P o a K Q ((o.semAt none a.eval).run P w)
  rw [Oper.semAt_none]
  unfold hOpI at h
  generalize (execOp a.eval o).run P w = r at *
  cases r with
  | ok n w' =>
    cases n <;> simp only [heldUponI] at h <;> unfold Oper.uponIn
    case value u => exact h
    case skip => exact h
    case enter f args =>
      refine ⟨fun h => (by cases h), callsIn_wide.2 (h.mono ?_)⟩
      rintro e w2 ⟨v, rfl, hk⟩
      exact hk
    case round l f tmps assign body =>
      refine ⟨fun h => (by cases h), h.mono ?_⟩
      rintro e w2 ⟨v, rfl, hk⟩
      exact hk
  | halt x w' => exact h.elim
def setT (m : Nat → Bool) (i : Nat) : Nat → Bool := fun j => if j = i then true else m j
def setV (vs : Nat → Value) (i : Nat) (v : Value) : Nat → Value := fun j => if j = i then v else vs j
/-- what is done is done with all that it waits for -/
def ClosT (l : List Oper) (m : Nat → Bool) : Prop := ∀ j o, l[j]? = some o → m j = true → ∀ k, depB o k = true → m k = true
def oblM (P : Program) (l0 : List Oper) (I : (Nat → Bool) → (Nat → Value) → World → Prop) : List Oper → Nat → ((Nat → Value) → Act) → Prop
  | [], _, _ => True
  | o :: r, i, A => (∀ m vs W, ClosT l0 m → m i = false → (∀ k, depB o k = true → m k = true) → I m vs W → hOpI P o (fun v W' => I (setT m i) (setV vs i v) W') (A vs) W) ∧ oblM P l0 I r (i + 1) (fun vs => (A vs).put o.dst (vs i))
theorem oblM_get {l0 : List Oper} {I : (Nat → Bool) → (Nat → Value) → World → Prop} : ∀ (l : List Oper) (k : Nat) (A : (Nat → Value) → Act), oblM P l0 I l k A → ∀ i o, l[i]? = some o → ∀ m vs W, ClosT l0 m → m (k + i) = false → (∀ j, depB o j = true → m j = true) → I m vs W →
    hOpI P o (fun v W' => I (setT m (k + i)) (setV vs (k + i) v) W') (putsT vs (l.take i) k (A vs)) W
  | [], _, _, _, i, o, hi => by simp at hi
  | x :: r, k, A, h, 0, o, hi => by
    obtain rfl : x = o := by simpa using hi
    exact h.1
  | x :: r, k, A, h, i + 1, o, hi => by
    have := oblM_get r (k + 1) _ h.2 i o (by simpa using hi)
    rw [show k + (i + 1) = k + 1 + i by omega]
    exact this
theorem wpIn_freeM_any {I : (Nat → Bool) → (Nat → Value) → World → Prop} {a0 : Act} {l : List Oper} (hx : LexOK l.toArray) (hd : dstOK l a0.tmps.size = true) (hp : depsOK l = true) (hg : (l.all fun o => o.guard.isNone) = true) (ho : oblM P l I l 0 (fun _ => a0))
    (hext : ∀ m m' vs W, (∀ i, i < l.length → m i = m' i) → I m vs W → I m' vs W)
    (hfin : ∀ m vs W, (∀ i, i < l.length → m i = true) → I m vs W → Q .normal (putsT vs l 0 a0) W) : ∀ (fuel : Nat) (listed : Array Bool) (vs : Nat → Value) (W : World), listed.size = l.length → ((List.range l.length).filter fun i => !listed.getD i true).length ≤ fuel → ClosT l (fun j => listed.getD j false) → I (fun j => listed.getD j false) vs W →
    wpAnyIn Fence.wide 2 P .any l.toArray Q fuel listed (frameF l a0 (fun j => listed.getD j false) vs) W := by
  have h0 : frameF l a0 (fun j => decide (j < 0)) = fun _ => a0 := by funext vs; exact frameF_none (fun i => by simp) vs
  have hall : ∀ (listed : Array Bool), listed.size = l.length → Region.ready .any l.toArray listed = [] → ∀ j, j < l.length → listed.getD j false = true := fun listed hsz hr j => by
    induction j using Nat.strongRecOn with
    | _ j ih =>
      intro hj
      cases hl : listed.getD j false with
      | true => rfl
      | false =>
        have hmem : j ∈ Region.ready .any l.toArray listed := mem_ready.2 ⟨getD_in (by omega) hl, l[j], by simp [hj], fun e he hb => by
          have := hx.edge j l[j] (by simp [hj]) e he hb
          exact ih e.on this (by omega)⟩
        rw [hr] at hmem
        cases hmem
  have hend : ∀ (listed : Array Bool) (vs : Nat → Value) (W : World), listed.size = l.length → Region.ready .any l.toArray listed = [] → I (fun j => listed.getD j false) vs W → Q .normal (frameF l a0 (fun j => listed.getD j false) vs) W := fun listed vs W hsz hr hI => by
    have hA : frameF l a0 (fun j => listed.getD j false) vs = putsT vs l 0 a0 := by
      have h1 := putsT_frame (vs := vs) hd l 0 (fun j o h => by rwa [Nat.zero_add])
      rw [h0] at h1
      rw [h1, Nat.zero_add]
      refine congrArg (fun m => frameF l a0 m vs) ?_
      funext j
      by_cases hj : j < l.length
      · rw [hall listed hsz hr j hj, decide_eq_true hj]
      · rw [decide_eq_false hj]
        simp [show listed.size ≤ j by omega]
    rw [hA]
    exact hfin _ vs W (fun i hi => hall listed hsz hr i hi) hI
  intro fuel
  induction fuel with
  | zero =>
    intro listed vs W hsz hc hcl hI
    have hr : Region.ready .any l.toArray listed = [] := by
      refine List.eq_nil_iff_forall_not_mem.2 fun j hj => ?_
      obtain ⟨h1, o, h2, _⟩ := mem_ready.1 hj
      have hjl : j < l.length := by have := (Array.getElem?_eq_some_iff.1 h2).1; simpa using this
      have : j ∈ (List.range l.length).filter fun i => !listed.getD i true := List.mem_filter.2 ⟨List.mem_range.2 hjl, by rw [h1]; rfl⟩
      rw [List.eq_nil_of_length_eq_zero (Nat.le_zero.1 hc)] at this
      cases this
    exact wpAnyIn_done hr (hend listed vs W hsz hr hI) 0
  | succ fuel ih =>
    intro listed vs W hsz hc hcl hI
    by_cases hr : Region.ready .any l.toArray listed = []
    · exact wpAnyIn_done hr (hend listed vs W hsz hr hI) _
    · refine wpAnyIn_all rfl hr fun i hi => ?_
      obtain ⟨h1, o, h2, h3⟩ := mem_ready.1 hi
      have hil : i < l.length := by have := (Array.getElem?_eq_some_iff.1 h2).1; simpa using this
      have hlo : l[i]? = some o := by simpa using h2
      have hsel := Region.noSelect_spec hx.sel i o
      have hdep : ∀ j, depB o j = true → listed.getD j false = true := fun j hj => by
        unfold depB at hj
        obtain ⟨e, he, hb⟩ := Array.any_eq_true'.1 hj
        rw [Bool.and_eq_true] at hb
        obtain rfl : e.on = j := by simpa using hb.2
        exact h3 e he hb.1
      have hob := oblM_get l 0 _ ho i o hlo (fun j => listed.getD j false) vs W hcl (by rw [Nat.zero_add]; exact getD_both h1) hdep hI
      have hgo : o.guard = none := by
        have := List.all_eq_true.1 hg o (List.mem_of_getElem? hlo)
        simpa using this
      have hset : ∀ j, j < l.length → setT (fun j => listed.getD j false) i j = (listed.setIfInBounds i true).getD j false := fun j hj => by
        unfold setT
        by_cases e : j = i
        · subst e; simp [hsz, hil]
        · rw [if_neg e, getD_set_ne false (Ne.symm e)]
      refine wpOpIn_of_hOpI h2 hgo ?_
      have hfr : hOpI P o (fun v W' => I (setT (fun j => listed.getD j false) (0 + i)) (setV vs (0 + i) v) W') (frameF l a0 (fun j => listed.getD j false) vs) W := by
        unfold hOpI at hob ⊢
        have e2 : execOp (frameF l a0 (fun j => listed.getD j false) vs).eval o = execOp (putsT vs (l.take i) 0 a0).eval o := by
          refine execOp_congr o (fun cs b => hsel cs b h2) fun x hxm => ?_
          have e1 := putsT_frame (vs := vs) hd (l.take i) 0 (fun j o' h => by
            rw [Nat.zero_add]
            have hj : j < i := by have := (List.getElem?_eq_some_iff.1 h).1; rw [List.length_take] at this; omega
            rwa [List.getElem?_take_of_lt hj] at h)
          rw [h0] at e1
          rw [e1]
          refine frameF_eval fun t j hxt hown => ?_
          have hdp := List.all_eq_true.1 hp o (List.mem_of_getElem? hlo)
          have hdx := Array.all_eq_true_iff_forall_mem.1 hdp x hxm
          subst hxt
          simp only [hown] at hdx
          unfold depB at hdx
          obtain ⟨e, he, hb⟩ := Array.any_eq_true'.1 hdx
          rw [Bool.and_eq_true] at hb
          obtain rfl : e.on = j := by simpa using hb.2
          have hlt := hx.edge i o h2 e he hb.1
          rw [h3 e he hb.1, Nat.zero_add, List.length_take, Nat.min_eq_left (by omega), decide_eq_true hlt]
        rw [e2]
        exact hob
      refine hOpI_mono (fun v W' hk => ?_) hfr
      rw [Nat.zero_add] at hk
      rw [frameF_put (m' := fun j => (listed.setIfInBounds i true).getD j false) (vs' := setV vs i v) hd hlo (fun j hj => getD_set_ne false (Ne.symm hj)) (by simp [hsz, hil]) (fun j hj => by unfold setV; rw [if_neg hj]) (by unfold setV; rw [if_pos rfl])]
      refine ih _ _ W' (by simp [hsz]) ?_ (fun j o' hj hm k hk2 => ?_) (hext _ _ _ _ hset hk)
      · have hlt := filter_lt (fun j => !listed.getD j true) (fun j => !(listed.setIfInBounds i true).getD j true) (fun j hj => by
          by_cases e : i = j
          · subst e; rw [h1]; rfl
          · rwa [getD_set_ne true e] at hj) i (by rw [h1]; rfl) (by simp [hsz, hil]) (List.range l.length) (List.mem_range.2 hil)
        omega
      · have hjl := (List.getElem?_eq_some_iff.1 hj).1
        have hm : (listed.setIfInBounds i true).getD j false = true := hm
        rw [← hset j hjl] at hm
        unfold setT at hm
        refine getD_set_true ?_
        by_cases e : j = i
        · subst e
          rw [hlo] at hj
          injection hj with hj
          subst hj
          exact hdep k hk2
        · rw [if_neg e] at hm
          exact hcl j o' hj hm k hk2
theorem wpIn_freeM (I : (Nat → Bool) → (Nat → Value) → World → Prop) {id : Nat} {a0 : Act} {w : World} {l : List Oper} (hm : P.follows .mixedOrders = true) (hx : LexOK l.toArray) (hd : dstOK l a0.tmps.size = true) (hp : depsOK l = true) (hg : (l.all fun o => o.guard.isNone) = true) (hI : I (fun _ => false) (fun _ => undef) w.drew) (ho : oblM P l I l 0 (fun _ => a0))
    (hext : ∀ m m' vs W, (∀ i, i < l.length → m i = m' i) → I m vs W → I m' vs W)
    (hfin : ∀ m vs W, (∀ i, i < l.length → m i = true) → I m vs W → Q .normal (putsT vs l 0 a0) W) : (Code.region id l.toArray true).wpIn Fence.wide 2 P Q a0 w := by
  refine wpIn_region_any hm ?_
  have hf : (fun j => (Array.replicate l.toArray.size false).getD j false) = fun _ => false := funext fun i => getD_replicate_false _ _
  have h := wpIn_freeM_any (Q := Q) hx hd hp hg ho hext hfin l.length (Array.replicate l.toArray.size false) (fun _ => undef) w.drew (by simp) (Nat.le_trans (List.length_filter_le _ _) (by simp)) (by rw [hf]; intro j o _ hm; cases hm) (by rw [hf]; exact hI)
  rw [frameF_none (fun i => getD_replicate_false _ _)] at h
  simpa using h
end
end Go.Proofs.YtcaoajeplinopaaDoor

