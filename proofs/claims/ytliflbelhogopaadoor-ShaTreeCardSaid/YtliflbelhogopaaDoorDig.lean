/- Slices of digests: those of the call's own that grow, an element read, an element appended; no conditions but lengths. -/
import Derived.Test.YtliflbelhogopaaDoorShf1
import Derived.Test.YtliflbelhogopaaDoorFlp
import Derived.ArgAppend
import Derived.Deep.MidRow
import Derived.Great.BuildSlice
namespace Go.Proofs.YtliflbelhogopaaDoor
set_option maxRecDepth 8000
open Go.RowKit
attribute [local simp] z32_ne z32_run
attribute [-simp] Tryd.zeroValue26 Tryd.isAgg26 Tryd.sizeOf26
theorem dig_info : (Tryd.prog.info? 26).map (fun i => (i.zero, i.size, i.bytes)) = some (some (.agg z32), 32, 32) := by kernel_rfl
/-- the cells of the digests, one after the other -/
def celD (Ds : List (List Nat)) : List Value := celB Ds.flatten
theorem celD_append (Ds : List (List Nat)) (d : List Nat) : celD (Ds ++ [d]) = celD Ds ++ celB d := by unfold celD celB; simp
/-- a slice of digests of the call's own -/
def OwD (w : World) (base : Nat) (v : Value) (n : Nat) (Ds : List (List Nat)) : Prop := w.ownsRow base 26 32 v n (celD Ds) ∧ (∀ d ∈ Ds, d.length = 32)
section
variable {w w' : World} {base : Nat} {v : Value} {n : Nat} {Ds : List (List Nat)}
theorem OwD.keep (h : OwD w base v n Ds) (hb : Below w.heap.size w w') : OwD w' base v n Ds := by
  refine ⟨⟨h.1.1, ?_⟩, h.2⟩
  rcases h.1.2 with hn | ⟨g, cap, cur, rfl, hbs, hgg, rest⟩
  · exact .inl hn
  · exact .inr ⟨g, cap, cur, rfl, hbs, heap_keep hgg hb, rest⟩
theorem OwD.below (h : OwD w base v n Ds) (hg : w.grownBy w' v.ownBlock) (hbase : base ≤ w.heap.size) : Below base w w' :=
  ⟨hg.os, hg.tape, hg.output, hg.size, fun k hk => hg.block k (by omega) (fun e => by have := (World.ownsRow.lt h.1 k e.symm).1; omega)⟩
theorem OwD.nil1 {g : Nat} (h : w.heap[g]? = some (.cells #[] 26 (0, 0))) (hb : base ≤ g) : OwD w base (.slice (some ⟨g, 0, none⟩) 0 0) 0 [] :=
  ⟨⟨rfl, .inr ⟨g, 0, #[], rfl, hb, h, Nat.le_refl _, by unfold maxLen; omega, rfl, rfl⟩⟩, fun _ h => by cases h⟩
theorem celD_at : ∀ (Ds : List (List Nat)) (i : Nat) (d : List Nat), (∀ d ∈ Ds, d.length = 32) → Ds[i]? = some d → ∀ j, j < 32 → (celD Ds)[32 * i + j]? = (celB d)[j]?
  | c :: Ds, 0, d, hl, hi, j, hj => by
    simp only [List.getElem?_cons_zero, Option.some.injEq] at hi
    subst hi
    have hc : c.length = 32 := hl c List.mem_cons_self
    unfold celD celB
    rw [List.flatten_cons, List.map_append, Nat.mul_zero, Nat.zero_add, List.getElem?_append_left (by rw [List.length_map]; omega)]
  | c :: Ds, i + 1, d, hl, hi, j, hj => by
    have hc : c.length = 32 := hl c List.mem_cons_self
    have := celD_at Ds i d (fun x hx => hl x (List.mem_cons_of_mem _ hx)) (by simpa using hi) j hj
    rw [← this]
    unfold celD celB
    rw [List.flatten_cons, List.map_append, List.getElem?_append_right (by rw [List.length_map]; omega), List.length_map, hc]
    congr 1
    omega
theorem OwD.range {g c i : Nat} {d : List Nat} (h : OwD w base (.slice (some ⟨g, 0, none⟩) n c) n Ds) (hi : Ds[i]? = some d) : w.rangeAt g (32 * i) (celB d) := by
  intro j v hj
  have hd : d.length = 32 := h.2 d (List.mem_of_getElem? hi)
  have hjl := (List.getElem?_eq_some_iff.1 hj).1
  rw [celB_length, hd] at hjl
  have e := celD_at Ds i d h.2 hi j hjl
  rw [hj] at e
  have hlen := (List.getElem?_eq_some_iff.1 e).1
  rw [h.1.1] at hlen
  rw [World.ownsRow.cellAt h.1 _ hlen, e]
theorem OwD.form (h : OwD w base v n Ds) (hn : 0 < n) : ∃ g c, v = .slice (some ⟨g, 0, none⟩) n c ∧ n ≤ c ∧ c ≤ 9223372036854775807 := by
  rcases h.1.2 with ⟨_, h0⟩ | ⟨g, cap, cur, rfl, _, _, h1, h2, _⟩
  · omega
  · unfold maxLen at h2
    exact ⟨g, cap, rfl, h1, by omega⟩
end
theorem rangeAt_keep {w w' : World} {g o : Nat} {cs : List Value} (h : w.rangeAt g o cs) (hb : Below w.heap.size w w') : w'.rangeAt g o cs := fun j v hj => cell_keep (h j v hj) hb
theorem exec_loadM {ev : Operand → Value} {o : Oper} {w : World} {x : Operand} (g k : Nat) {bs : List Nat} (hl : bs.length = 32) (h : w.rangeAt g k (celB bs)) (ho : o.op = .load 26 x) (hx : ev x = .pointer (some ⟨g, k, none⟩)) :
    (execOp ev o).run Tryd.prog w = .ok (.value (.agg (celB bs).toArray)) w := by
  unfold execOp
  simp only [ho, hx, Sem.run_bind, run_loadAt_mid w g k 26 (celB bs) _ h Tryd.underlying26 rfl (by rw [celB_length, hl]; kernel_rfl), Result.andThen_ok, Sem.run_pure]
theorem exec_idxD {ev : Operand → Value} {o : Oper} {x y : Operand} (w : World) (g n c i : Nat) (hi : i < n) (ho : o.op = .indexAddr 46 x y) (hx : ev x = .slice (some ⟨g, 0, none⟩) n c) (hy : ev y = .int .i64 ((i : Nat) : Int)) :
    (execOp ev o).run Tryd.prog w = .ok (.value (.pointer (some ⟨g, 32 * i, none⟩))) w := by
  have h0 : (0 : Int) ≤ (i : Int) := by omega
  have h1 : (i : Int) < (n : Int) := by omega
  have hm : i * 32 = 32 * i := Nat.mul_comm _ _
  unfold execOp
  simp only [ho, hx, hy]
  go_simp
  simp only [Tryd.sizeOf26, Result.andThen]
  rw [hm]
theorem row_cells {w : World} {g : Nat} {d : List Nat} (h : RowB w 26 g d) (j : Nat) (u : Value) (hj : (celB d)[j]? = some u) : w.cell? ((⟨g, 0, none⟩ : Addr).add j) = some u := by
  rw [ad_base]
  unfold RowB at h
  simpa [World.cell?, h] using hj
theorem fold32 {d : List Nat} (hdl : d.length = 32) : List.foldl (fun cs x => cs.setIfInBounds x.snd x.fst) (Array.map (fun x => z32[x % z32.size]!) (Array.range 32)) (celB d).zipIdx = (celB d).toArray := by
  have h2 := Go.Great.fill_whole (s := 32) (by omega) [.agg (celB d).toArray] (Array.map (fun x => z32[x % z32.size]!) (Array.range 32)) (fun v hv => by rw [List.mem_singleton.1 hv]; show (celB d).toArray.size = 32; rw [List.size_toArray, celB_length, hdl]) (by simp)
  simpa [Instr.fill, Value.cells, celB_length, hdl] using h2
/-- []api.Digest{d} -/
theorem run_buildS1 {ev : Operand → Value} {o : Oper} {x : Operand} {d : List Nat} (hdl : d.length = 32) (ho : o.op = .buildSlice 46 1 #[(0, x)]) (hx : ev x = .agg (celB d).toArray) (w : World) :
    (execOp ev o).run Tryd.prog w = .ok (.value (.slice (some ⟨w.heap.size, 0, none⟩) 1 1)) (w.alloc (.cells (celB d).toArray 26)) := by
  obtain ⟨i, hi, hz, hs2, hb⟩ := info_parts dig_info
  unfold execOp
  simp only [ho, List.map_toArray, List.map_cons, List.map_nil, hx, Sem.run_bind]
  have hz2 : (Value.agg z32).cells.size = 32 := rfl
  have hf : Instr.fill (fun k => some (k * i.size, i.size)) ((Array.range (1 * i.size)).map ((Value.agg z32).cells[· % (Value.agg z32).cells.size]!)) #[(0, .agg (celB d).toArray)].toList = some (celB d).toArray := by
    rw [hs2]
    have h2 := Go.Great.fill_whole (s := 32) (by omega) [.agg (celB d).toArray] ((Array.range (1 * 32)).map ((Value.agg z32).cells[· % (Value.agg z32).cells.size]!)) (fun v hv => by rw [List.mem_singleton.1 hv]; show (celB d).toArray.size = 32; rw [List.size_toArray, celB_length, hdl]) (by simp)
    simpa [Value.cells] using h2
  rw [run_buildSlice (P := Tryd.prog) w 46 26 1 #[(0, .agg (celB d).toArray)] (celB d).toArray i (.agg z32) Tryd.underlying46 hi hz (by rw [hs2]; omega) (by rw [hs2]; omega) hf]
  rfl
/-- append(s, d): where the new slice lies -/
theorem wpList_appendD {ops : Array Oper} {rest : List Oper} {o : Oper} {a : Act} {Q : Exit → Act → World → Prop} {w : World} (hgd : o.guard = none) (s x : Operand)
    (ho : o.op = .call { callee := .builtin .append, args := #[s, x], argTypes := #[46, 46] }) (base : Nat) (v : Value) (n : Nat) (Ds : List (List Nat)) (hs : a.eval s = v) (hown : OwD w base v n Ds)
    (g c : Nat) (d : List Nat) (hx : a.eval x = .slice (some ⟨g, 0, none⟩) 1 c) (hd : RowB w 26 g d) (hdl : d.length = 32) (hn : n ≤ 65536) (hbase : base ≤ w.heap.size)
    (h : ∀ v' w', OwD w' base v' (n + 1) (Ds ++ [d]) → w.grownBy w' v.ownBlock → (∀ k, v'.ownBlock = some k → v.ownBlock = some k ∨ w.heap.size ≤ k) → wpList Tryd.prog ops Q rest (a.put o.dst v') w') : wpList Tryd.prog ops Q (o :: rest) a w := by
  refine wpList_plain hgd fun K hK => ?_
  obtain ⟨i, hi, hz, hs2, hb⟩ := info_parts dig_info
  have hcl : (celB d).length = 1 * 32 := by rw [celB_length, hdl]
  obtain ⟨v', w', hrun, hown', hg, _⟩ := run_append_own (P := Tryd.prog) w base 46 o.type 26 i (.agg z32) 32 32 Tryd.underlying46 hi hz hs2 hb rfl (by omega) v n (celD Ds) hown.1 ⟨g, 0, none⟩ 1 c (celB d) hcl (row_cells hd) (fun u hu => celB_one' hu) (by unfold maxLen; omega) (by omega) hbase
  have hw : ∀ k, v'.ownBlock = some k → v.ownBlock = some k ∨ w.heap.size ≤ k := by
    intro k hk
    rcases hown.1.2 with ⟨rfl, rfl⟩ | ⟨g1, cap, cur, rfl, hb1, hg1, hcap, hmax, hsz, htake⟩
    · obtain ⟨v2, w2, hrun2, hown2, _⟩ := run_append_own (P := Tryd.prog) w w.heap.size 46 o.type 26 i (.agg z32) 32 32 Tryd.underlying46 hi hz hs2 hb rfl (by omega) (.slice none 0 0) 0 [] (World.ownsRow_nil w _ _ _) ⟨g, 0, none⟩ 1 c (celB d) hcl (row_cells hd) (fun u hu => celB_one' hu) (by unfold maxLen; omega) (by omega) (Nat.le_refl _)
      rw [hrun] at hrun2
      injection hrun2 with e1 e2
      subst e1
      subst e2
      exact .inr (World.ownsRow.lt hown2 k hk).1
    · by_cases hr : n + 1 ≤ cap
      · have hcell : ∀ j, j < cap * 32 → (w.cell? ⟨g1, j, none⟩).isSome = true := by
          intro j hj
          simp [World.cell?, hg1]
          rw [hsz]
          exact hj
        have hrun2 := run_append_room_cells (P := Tryd.prog) w 46 o.type 26 i Tryd.underlying46 hi g1 0 n cap ⟨g, 0, none⟩ 1 c (celB d) (by rw [hs2, hcl]) (row_cells hd) (fun u hu => celB_one' hu) hr
          (fun j hj => hcell _ (by rw [hs2]; rw [hcl] at hj; omega)) (fun j hj => by simp [World.frozen?, hg1])
        rw [hrun] at hrun2
        injection hrun2 with e1 e2
        subst e1
        exact .inl hk
      · obtain ⟨v2, w2, hrun2, hown2, _⟩ := run_append_arg_grows (P := Tryd.prog) w 46 o.type 26 i (.agg z32) 32 32 Tryd.underlying46 hi hz hs2 hb rfl (by omega) ⟨g1, 0, none⟩ n cap (celD Ds) hown.1.1
          (fun j u hj => by
            rw [ad_base]
            rw [← htake] at hj
            have hk := (List.getElem?_eq_some_iff.1 hj).1
            rw [List.getElem?_take_of_lt (by simp at hk; omega)] at hj
            simpa [World.cell?, hg1] using hj) ⟨g, 0, none⟩ 1 c (celB d) hcl (row_cells hd) (by omega) (by unfold maxLen; omega) (by omega)
        rw [hrun] at hrun2
        injection hrun2 with e1 e2
        subst e1
        subst e2
        exact .inr (World.ownsRow.lt hown2 k hk).1
  unfold Oper.wp
  simp [execOp, ho, resolve, invoke, builtin, hs, hx, hrun, Result.andThen]
  refine hK _ _ (h v' w' ⟨?_, fun z hz => ?_⟩ hg hw)
  · rw [celD_append]
    exact hown'
  · rcases List.mem_append.1 hz with hz | hz
    · exact hown.2 z hz
    · rw [List.mem_singleton.1 hz]; exact hdl
end Go.Proofs.YtliflbelhogopaaDoor
