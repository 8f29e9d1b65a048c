/- Several texts in one: Qr, Qs, Qt, Qu. -/
import Derived.Test.YtopicjdmajlndaaDoorL09
namespace Go.Proofs.YtopicjdmajlndaaDoor
set_option linter.unusedVariables false
set_option linter.unusedSimpArgs false
set_option linter.unusedSectionVars false
set_option maxRecDepth 8000
open Go.RowKit Go.Proofs.YtopicjdmajlndaaDoor.K
attribute [local irreducible] wpList wpQuiet
section
variable {ev : Operand → Value} {o : Oper} {w : World} {x y : Operand}
theorem exec_buildEnt (r : Rd) (b : Bool) (ho : o.op = .build 83 #[(0, x), (1, y)]) (hx : ev x = .agg #[.int .i64 r.who, .int .i64 r.when_, .int .i64 r.kind, .int .i64 r.value]) (hy : ev y = .bool b) :
    (execOp ev o).run Tryd.prog w = .ok (.value (.agg #[.int .i64 r.who, .int .i64 r.when_, .int .i64 r.kind, .int .i64 r.value, .bool b])) w := by
  unfold execOp
  rw [ho]
  simp only [List.map_toArray, List.map_cons, List.map_nil, hx, hy]
  go_simp
end
set_option maxRecDepth 100000 in
set_option maxHeartbeats 8000000 in
theorem entries_iter (b : Nat) (A : Option Addr) (n c : Nat) (rs : List Rd) (B : Option Addr) (d : Nat) (gs : List Bool) (hn : n ≤ 1000000) :
    IterC Tryd.prog 62 #[.pointer (some ⟨b, 0, none⟩)] entV (entL rs gs) (EntG b A n c rs B d gs) := by
  intro l W J hJG hJA hY h0
  have HJG := Lib.hid hJG
  have HJA := Lib.hid hJA
  have HY := Lib.hid hY
  have H0 := Lib.hid h0
  clear hJG hJA hY h0
  refine callsIn_of_wp Tryd.func62 rfl trivial ?_ rfl
  simp only [Tryd.ntmps62, List.size_toArray, List.length_cons, List.length_nil, Nat.reduceAdd, Nat.reduceSub, Array.replicate_succ, Array.replicate_zero, List.push_toArray, List.append_toArray, List.nil_append, List.cons_append]
  refine wpIn_wide.2 ?_
  obtain ⟨⟨hbx, hL, hG⟩, hsz⟩ := HJG.out 0 W H0.out
  have hln := hL.len
  have hgn := hG.len
  have HL := Lib.hid hL
  have HG := Lib.hid hG
  have HBX := Lib.hid hbx
  clear hL hG hbx
  go_upto_region 0 with fail
  refine wp_region_lit ?_
  refine wpList_run (by kernel_rfl) (.pointer (some ⟨b, 0, none⟩)) W (xo_fld0 0 b 0 (by kernel_rfl) rfl rfl) ?_
  simp only [Act.put, List.setIfInBounds_toArray, List.set_cons_zero, List.set_cons_succ]
  refine wpList_run (by kernel_rfl) (.slice A n c) W (xo_load1 ⟨b, 0, none⟩ _ (cells_at HBX.out 0 rfl) Tryd.underlying27 rfl rfl rfl) ?_
  simp only [Act.put, List.setIfInBounds_toArray, List.set_cons_zero, List.set_cons_succ]
  refine wpList_run (by kernel_rfl) (.int .i64 (n : Int)) W (xo_len A n c Tryd.underlying27 rfl rfl) ?_
  simp only [Act.put, List.setIfInBounds_toArray, List.set_cons_zero, List.set_cons_succ]
  refine wpList_run (by kernel_rfl) (.int .i64 0) W rfl ?_
  simp only [Act.put, List.setIfInBounds_toArray, List.set_cons_zero, List.set_cons_succ]
  refine wpList_nil ?_
  clear HL HG HBX
  go_wp2_with fail
  go_loopw [8] (fun p wr => ∃ i : Nat, i ≤ n ∧ p = .int .i64 i ∧ J i wr) (fun p _ => n - (intOf p).toNat)
  case atStart => exact ⟨0, Nat.zero_le _, rfl, H0.out⟩
  case round =>
    clear hsz H0
    obtain ⟨wo, rfl⟩ : ∃ wo : World, wo = wr := ⟨_, rfl⟩
    obtain ⟨i, hi, rfl, hj⟩ := hrel
    obtain ⟨⟨hbx, hL, hG⟩, hsz⟩ := HJG.out i wo hj
    have HJ := Lib.hid hj
    clear hj
    have HL := Lib.hid hL
    have HG := Lib.hid hG
    have HBX := Lib.hid hbx
    clear hL hG hbx
    by_cases hlt : i < n
    · have hci0 : ((i : Int) < (n : Int)) := by omega
      obtain ⟨r, hr⟩ : ∃ r, rs[i]? = some r := ⟨_, List.getElem?_eq_getElem (by omega)⟩
      obtain ⟨g, hg⟩ : ∃ g, gs[i]? = some g := ⟨_, List.getElem?_eq_getElem (by omega)⟩
      have HEN := Lib.hid (entL_get hr hg)
      have HE := Lib.hid hr
      have HE2 := Lib.hid hg
      clear hr hg
      go_upto_region 1 with fail
      refine wp_region_lit ?_
      refine wpList_run (by kernel_rfl) (.bool true) wo (xo_lssT .i64 (i : Int) (n : Int) (by omega) rfl rfl rfl) ?_
      simp only [Act.put, List.setIfInBounds_toArray, List.set_cons_zero, List.set_cons_succ]
      refine wpList_nil ?_
      go_upto_region 2 with fail
      refine wp_region_lit ?_
      refine wpList_run (by kernel_rfl) (.int .i64 (i : Int)) wo rfl ?_
      simp only [Act.put, List.setIfInBounds_toArray, List.set_cons_zero, List.set_cons_succ]
      refine wpList_run (by kernel_rfl) (.pointer (some (gad A (i * 4)))) wo (xg_idx .i64 HL.out HE.out Tryd.underlying27 (by kernel_rfl) rfl rfl rfl) ?_
      simp only [Act.put, List.setIfInBounds_toArray, List.set_cons_zero, List.set_cons_succ]
      refine wpList_run (by kernel_rfl) (.agg #[.int .i64 r.who, .int .i64 r.when_, .int .i64 r.kind, .int .i64 r.value]) wo (xg_loadE (E := rdC) HL.out HE.out Tryd.underlying24 rfl (by kernel_rfl) rfl rfl) ?_
      simp only [Act.put, List.setIfInBounds_toArray, List.set_cons_zero, List.set_cons_succ]
      refine wpList_new #[.int .i64 0, .int .i64 0, .int .i64 0, .int .i64 0] 24 (by kernel_rfl) (xo_alloc #[.int .i64 0, .int .i64 0, .int .i64 0, .int .i64 0] (by kernel_rfl) rfl) ?_
      intro b4 V1 hge h0 hb
      have N1_0 : Hid (b ≠ b4) := Lib.hid (xp_lt0 HBX.out hge)
      have Ge2 : Hid (wo.heap.size ≤ b4) := Lib.hid hge
      have B0 := Lib.hid hb
      have Fv3_4 : Hid (V1.heap[b4]? = some (.cells #[.int .i64 0, .int .i64 0, .int .i64 0, .int .i64 0] 24 (0, 0))) := Lib.hid (h0)
      have Lt4 : Hid (b4 < V1.heap.size) := Lib.hid (xp_lt Fv3_4.out)
      clear hge h0 hb
      simp only [ptr, Act.put, List.setIfInBounds_toArray, List.set_cons_zero, List.set_cons_succ]
      refine wpList_run (by kernel_rfl) (.int .i64 (i : Int)) V1 rfl ?_
      simp only [Act.put, List.setIfInBounds_toArray, List.set_cons_zero, List.set_cons_succ]
      refine wpList_storeW b4 #[.int .i64 0, .int .i64 0, .int .i64 0, .int .i64 0] #[.int .i64 r.who, .int .i64 r.when_, .int .i64 r.kind, .int .i64 r.value] 24 (by kernel_rfl) Fv3_4.out (xo_storeW b4 #[.int .i64 0, .int .i64 0, .int .i64 0, .int .i64 0] #[.int .i64 r.who, .int .i64 r.when_, .int .i64 r.kind, .int .i64 r.value] Fv3_4.out (by kernel_rfl) rfl (by simp [Value.oneCell']) rfl rfl rfl) ?_
      intro X1_5 h1 hfar hbel hsz
      have hbr := hbel _ _ Ge2.out B0.out
      clear B0
      have B0 := Lib.hid hbr
      clear hbr
      clear Fv3_4
      have Fv3_4 : Hid (X1_5.heap[b4]? = some (.cells #[.int .i64 r.who, .int .i64 r.when_, .int .i64 r.kind, .int .i64 r.value] 24 (0, 0))) := Lib.hid (h1)
      have HszX1_5 := Lib.hid hsz
      clear h1 hfar hbel hsz
      simp only [ptr, Act.put, List.setIfInBounds_toArray, List.set_cons_zero, List.set_cons_succ]
      refine wpList_nil ?_
      have HBV := Lib.hid (B0.out.drew)
      have hvs := HBV.out.size
      have HJV := Lib.hid (HJA.out i wo X1_5.drew HJ.out (Abide.of_below HBV.out hsz))
      have F4 : Hid (X1_5.drew.heap[b4]? = some (.cells #[.int .i64 r.who, .int .i64 r.when_, .int .i64 r.kind, .int .i64 r.value] 24 (0, 0))) := Lib.hid Fv3_4.out
      have FB : Hid (X1_5.drew.heap[b]? = some (.cells #[.slice A n c, .slice B n d] 30 (0, 0))) := Lib.hid (heap_keep HBX.out HBV.out)
      have FG : Hid (Sg boC 1 X1_5.drew B n d gs) := Lib.hid (HG.out.keep HBV.out)
      go_upto_region 3 with fail
      refine (wpIn_wide (n := 2)).1 ?_
      refine wpIn_freeM (YJ 8 (fun q v => match q with
        | 0 => v = .func (.yield l) #[] #[]
        | 1 => v = .int .i64 (i : Int)
        | 2 => v = .agg #[.int .i64 r.who, .int .i64 r.when_, .int .i64 r.kind, .int .i64 r.value]
        | 3 => v = .agg #[.slice A n c, .slice B n d]
        | 4 => v = .int .i64 (i : Int)
        | 5 => v = .bool g
        | 6 => v = .bool (!g)
        | _ => v = .agg #[.int .i64 r.who, .int .i64 r.when_, .int .i64 r.kind, .int .i64 r.value, .bool (!g)]
        ) X1_5.drew (fun t B => t = true ∧ J (i + 1) B)) (by kernel_rfl) (lexOK_of (by kernel_rfl) (by kernel_rfl)) (by kernel_rfl) (by kernel_rfl) (by kernel_rfl)
        ⟨fun i _ h => (by cases h), fun _ => ⟨rfl, Below.refl _ _⟩, fun h => (by cases h)⟩ ?obl (fun m m' vs W he h => h.ext he) ?fin
      case obl =>
        refine oblM_cons (fun m vs W0 hcs hm hdp hI => ?_) ?_
        · try simp only [Nat.zero_add, Nat.reduceAdd, Act.put, List.setIfInBounds_toArray, List.set_cons_zero, List.set_cons_succ]
          have h8 := notp hcs 8 9 (by kernel_rfl) (by decide) hm
          exact hOpI_val (.func (.yield l) #[] #[]) rfl (hI.step h8 (by decide) rfl (Below.refl _ _))
        refine oblM_cons (fun m vs W0 hcs hm hdp hI => ?_) ?_
        · simp only [Nat.zero_add, Nat.reduceAdd, Act.put, List.setIfInBounds_toArray, List.set_cons_zero, List.set_cons_succ]
          have h8 := notp hcs 8 9 (by kernel_rfl) (by decide) hm
          exact hOpI_val (.int .i64 (i : Int)) rfl (hI.step h8 (by decide) rfl (Below.refl _ _))
        refine oblM_cons (fun m vs W0 hcs hm hdp hI => ?_) ?_
        · simp only [Nat.zero_add, Nat.reduceAdd, Act.put, List.setIfInBounds_toArray, List.set_cons_zero, List.set_cons_succ]
          have h8 := notp hcs 8 9 (by kernel_rfl) (by decide) hm
          have hbW := (hI.2.1 h8).2
          exact hOpI_val (.agg #[.int .i64 r.who, .int .i64 r.when_, .int .i64 r.kind, .int .i64 r.value]) (xo_loadW b4 _ (heap_keep F4.out hbW) Tryd.underlying24 rfl (by kernel_rfl) rfl rfl) (hI.step h8 (by decide) rfl (Below.refl _ _))
        refine oblM_cons (fun m vs W0 hcs hm hdp hI => ?_) ?_
        · simp only [Nat.zero_add, Nat.reduceAdd, Act.put, List.setIfInBounds_toArray, List.set_cons_zero, List.set_cons_succ]
          have h8 := notp hcs 8 9 (by kernel_rfl) (by decide) hm
          have hbW := (hI.2.1 h8).2
          exact hOpI_val (.agg #[.slice A n c, .slice B n d]) (xo_loadW b _ (heap_keep FB.out hbW) Tryd.underlying30 rfl (by kernel_rfl) rfl rfl) (hI.step h8 (by decide) rfl (Below.refl _ _))
        refine oblM_cons (fun m vs W0 hcs hm hdp hI => ?_) ?_
        · simp only [Nat.zero_add, Nat.reduceAdd, Act.put, List.setIfInBounds_toArray, List.set_cons_zero, List.set_cons_succ]
          have h8 := notp hcs 8 9 (by kernel_rfl) (by decide) hm
          exact hOpI_val (.int .i64 (i : Int)) rfl (hI.step h8 (by decide) rfl (Below.refl _ _))
        refine oblM_cons (fun m vs W0 hcs hm hdp hI => ?_) ?_
        · simp only [Nat.zero_add, Nat.reduceAdd, Act.put, List.setIfInBounds_toArray, List.set_cons_zero, List.set_cons_succ]
          have h8 := notp hcs 8 9 (by kernel_rfl) (by decide) hm
          have hbW := (hI.2.1 h8).2
          have h3 : vs 3 = .agg #[.slice A n c, .slice B n d] := hI.1 3 (by decide) (hdp 3 (by kernel_rfl))
          have h4 : vs 4 = .int .i64 (i : Int) := hI.1 4 (by decide) (hdp 4 (by kernel_rfl))
          refine hOpI_of (hOp_call 43 Tryd.func43 (by kernel_rfl) (by kernel_rfl) _ _ #[.agg #[.slice A n c, .slice B n d], .int .i64 (i : Int)] rfl (by simp [Act.eval, h3, h4]) ?_)
          refine (gone_any A n c B n d gs i g HE2.out W0 (FG.out.keep hbW)).mono ?_
          rintro e W1 ⟨rfl, hb⟩
          exact ⟨_, rfl, hI.step h8 (by decide) rfl hb⟩
        refine oblM_cons (fun m vs W0 hcs hm hdp hI => ?_) ?_
        · simp only [Nat.zero_add, Nat.reduceAdd, Act.put, List.setIfInBounds_toArray, List.set_cons_zero, List.set_cons_succ]
          have h8 := notp hcs 8 9 (by kernel_rfl) (by decide) hm
          have h5 : vs 5 = .bool g := hI.1 5 (by decide) (hdp 5 (by kernel_rfl))
          exact hOpI_val (.bool (!g)) (xo_not (x := .tmp 18) g rfl (by rw [h5]; rfl)) (hI.step h8 (by decide) rfl (Below.refl _ _))
        refine oblM_cons (fun m vs W0 hcs hm hdp hI => ?_) ?_
        · simp only [Nat.zero_add, Nat.reduceAdd, Act.put, List.setIfInBounds_toArray, List.set_cons_zero, List.set_cons_succ]
          have h8 := notp hcs 8 9 (by kernel_rfl) (by decide) hm
          have h2 : vs 2 = .agg #[.int .i64 r.who, .int .i64 r.when_, .int .i64 r.kind, .int .i64 r.value] := hI.1 2 (by decide) (hdp 2 (by kernel_rfl))
          have h6 : vs 6 = .bool (!g) := hI.1 6 (by decide) (hdp 6 (by kernel_rfl))
          exact hOpI_val (.agg #[.int .i64 r.who, .int .i64 r.when_, .int .i64 r.kind, .int .i64 r.value, .bool (!g)]) (exec_buildEnt (x := .tmp 15) (y := .tmp 19) r (!g) rfl (by rw [h2]; rfl) (by rw [h6]; rfl)) (hI.step h8 (by decide) rfl (Below.refl _ _))
        refine oblM_cons (fun m vs W0 hcs hm hdp hI => ?_) ?_
        · simp only [Nat.zero_add, Nat.reduceAdd, Act.put, List.setIfInBounds_toArray, List.set_cons_zero, List.set_cons_succ]
          have hbW := (hI.2.1 hm).2
          have h0 : vs 0 = .func (.yield l) #[] #[] := hI.1 0 (by decide) (hdp 0 (by kernel_rfl))
          have h1 : vs 1 = .int .i64 (i : Int) := hI.1 1 (by decide) (hdp 1 (by kernel_rfl))
          have h7 : vs 7 = .agg #[.int .i64 r.who, .int .i64 r.when_, .int .i64 r.kind, .int .i64 r.value, .bool (!g)] := hI.1 7 (by decide) (hdp 7 (by kernel_rfl))
          have hjW := HJA.out i _ W0 HJV.out (Abide.of_below hbW (Nat.le_trans hsz hvs))
          refine hOpI_yield 13 l _ _ #[.int .i64 (i : Int), .agg #[.int .i64 r.who, .int .i64 r.when_, .int .i64 r.kind, .int .i64 r.value, .bool (!g)]] rfl (by rw [h0]; rfl) (by simp [Act.eval, h1, h7]) (HY.out i _ W0 HEN.out hjW) ?_
          rintro e W' ⟨rfl, hj, hk⟩
          exact ⟨_, rfl, hI.yield hm ⟨rfl, hj⟩⟩
        refine oblM_cons (fun m vs W0 hcs hm hdp hI => ?_) ?_
        · simp only [Nat.zero_add, Nat.reduceAdd, Act.put, List.setIfInBounds_toArray, List.set_cons_zero, List.set_cons_succ]
          have m8 : m 8 = true := hdp 8 (by kernel_rfl)
          obtain ⟨t, e, _, _⟩ := hI.2.2 m8
          exact hOpI_val (.bool (!t)) (xo_not (x := .tmp 21) t rfl (by rw [e]; rfl)) (hI.last m8 (fun t' e' => by rw [e] at e'; injection e' with e'; rw [e']))
        trivial
      case fin =>
        intro m vs W0 hall hI
        obtain ⟨t, e8, e9, rfl, hj⟩ := hI.2.2 (hall 8 (by decide))
        have e9 := e9 (hall 9 (by decide))
        clear hI hall
        simp only [putsT, Nat.zero_add, Nat.reduceAdd, Act.put, List.setIfInBounds_toArray, List.set_cons_zero, List.set_cons_succ, e8, e9]
        generalize vs 0 = v0, vs 1 = v1, vs 2 = v2, vs 3 = v3, vs 4 = v4, vs 5 = v5, vs 6 = v6, vs 7 = v7
        have HJn := Lib.hid hj
        clear hj e8 e9
        go_upto_region 4 with fail
        refine wp_region_lit ?_
        refine wpList_run (by kernel_rfl) (.int .i64 ((i + 1 : Nat) : Int)) W0 (xo_addI (i : Int) 1 ((i + 1 : Nat) : Int) (by omega) (by omega) (by omega) rfl rfl rfl) ?_
        simp only [Act.put, List.setIfInBounds_toArray, List.set_cons_zero, List.set_cons_succ]
        refine wpList_run (by kernel_rfl) (.int .i64 ((i + 1 : Nat) : Int)) W0 rfl ?_
        simp only [Act.put, List.setIfInBounds_toArray, List.set_cons_zero, List.set_cons_succ]
        refine wpList_nil ?_
        go_wp2_with fail
        go_roundw
        case rel => exact ⟨i + 1, by omega, by go_num, HJn.out⟩
        case measure => simp [intOf]; omega
    · have hci0 : ¬ ((i : Int) < (n : Int)) := by omega
      have hin : i = n := by omega
      have hj2 := HJ.out
      rw [hin] at hj2
      go_upto_region 1 with fail
      refine wp_region_lit ?_
      refine wpList_run (by kernel_rfl) (.bool false) wo (xo_lssF .i64 (i : Int) (n : Int) (by omega) rfl rfl rfl) ?_
      simp only [Act.put, List.setIfInBounds_toArray, List.set_cons_zero, List.set_cons_succ]
      refine wpList_nil ?_
      go_wp2_with fail
      (try simp only [Exit.inBlock, Exit.then])
      refine ⟨rfl, .tuple #[], results_none rfl _ _ _, ⟨_, rfl⟩, ?_⟩
      rw [entL_length (by rw [hgn, hln]), hln]
      exact hj2
end Go.Proofs.YtopicjdmajlndaaDoor

namespace Go.Proofs.YtopicjdmajlndaaDoor
set_option linter.unusedVariables false
set_option linter.unusedSimpArgs false
set_option linter.unusedSectionVars false
set_option maxRecDepth 8000
open Go.RowKit Go.Proofs.YtopicjdmajlndaaDoor.K
attribute [local irreducible] wpList wpQuiet
theorem Sg.abide {α : Type} {E : α → List Value} {k N : Nat} {w w' : World} {A : Option Addr} {n c : Nat} {xs : List α} (h : Sg E k w A n c xs) (hb : Abide N w w') : Sg E k w' A n c xs :=
  ⟨h.len, h.cap, h.top, h.nil, fun i x hx => by obtain ⟨g, off, e, hr⟩ := h.at_ i x hx; exact ⟨g, off, e, fun j v hv => hb.cell (hr j v hv)⟩⟩
theorem own_abide {w w' : World} {base N : Nat} {e : TypeId} {size n : Nat} {v : Value} {cs : List Value} (h : w.ownsRow base e size v n cs) (hb : Abide N w w') : w'.ownsRow base e size v n cs := by
  refine ⟨h.1, ?_⟩
  rcases h.2 with hn | ⟨g, cap, cur, rfl, hbs, hgg, rest⟩
  · exact .inl hn
  · exact .inr ⟨g, cap, cur, rfl, hbs, hb.cells _ _ hgg rfl, rest⟩
/-- what holds between two rounds of Live -/
def LiveJ (w : World) (N b b3 : Nat) (A : Option Addr) (n c : Nat) (rs : List Rd) (B : Option Addr) (d : Nat) (gs : List Bool) (i : Nat) (W : World) : Prop :=
  Below w.heap.size w W ∧ N ≤ W.heap.size ∧ W.heap[b]? = some (.cells #[.slice A n c, .slice B n d] 30 (0, 0)) ∧
    ∃ v, W.heap[b3]? = some (.cells #[v] 27 (0, 0)) ∧ W.ownsRow N 24 4 v (liveL (rs.take i) (gs.take i)).length (fl rdC (liveL (rs.take i) (gs.take i)))
set_option maxRecDepth 100000 in
set_option maxHeartbeats 8000000 in
theorem live_any (A : Option Addr) (n c : Nat) (rs : List Rd) (B : Option Addr) (d : Nat) (gs : List Bool) (hn : n ≤ 65536) (w : World) (hL : Sg rdC 4 w A n c rs) (hG : Sg boC 1 w B n d gs) :
    Calls Tryd.prog 31 #[.agg #[.slice A n c, .slice B n d]] w fun e w' => ∃ A2 c2, e = .returned (.slice A2 (liveL rs gs).length c2) ∧ Sg rdC 4 w' A2 (liveL rs gs).length c2 (liveL rs gs) ∧ Below w.heap.size w w' := by
  have HL := Lib.hid hL
  have HG := Lib.hid hG
  have hln := hL.len
  have hgn := hG.len
  clear hL hG
  refine (callsIn_wide (n := 3)).1 ?_
  refine callsIn_of_wp_marks Tryd.func31 rfl trivial ?_ rfl
  simp only [Tryd.ntmps31, List.size_toArray, List.length_cons, List.length_nil, Nat.reduceAdd, Nat.reduceSub, Array.replicate_succ, Array.replicate_zero, List.push_toArray, List.append_toArray, List.nil_append, List.cons_append]
  refine wpIn_wide.2 ?_
  go_upto_region 1 with fail
  refine wp_named1 (fun V1 hb g0 hlt => ?_)
  have B0 := Lib.hid hb
  have F1 := Lib.hid g0
  clear hb g0 hlt
  refine wp_region_lit ?_
  refine wpList_new #[.slice none 0 0] 27 (by kernel_rfl) (xo_alloc1 (.slice none 0 0) rfl (by kernel_rfl) rfl) ?_
  intro b3 V2 hge h0 hb
  have F3 := Lib.hid h0
  have B1 := Lib.hid hb
  have hn3 := Nat.le_trans B0.out.size hge
  clear hge h0 hb
  simp only [ptr, Act.put, List.setIfInBounds_toArray, List.set_cons_zero, List.set_cons_succ]
  refine wpList_nil ?_
  go_upto_region 2 with fail
  refine wp_region_lit ?_
  refine wpList_run (by kernel_rfl) (.agg #[.slice A n c, .slice B n d]) V2 (xo_loadW w.heap.size _ (heap_keep F1.out B1.out) Tryd.underlying30 rfl (by kernel_rfl) rfl rfl) ?_
  simp only [ptr, Act.put, List.setIfInBounds_toArray, List.set_cons_zero, List.set_cons_succ]
  refine wpList_call (by kernel_rfl) 46 Tryd.func46 (by kernel_rfl) (by kernel_rfl) _ _ #[.agg #[.slice A n c, .slice B n d]] rfl (by kernel_rfl) ?_
  refine (entries_any A n c B d V2).mono ?_
  rintro e V3 ⟨b, rfl, hb0, hbg, hb⟩
  have HJ0 : Hid (LiveJ w V3.heap.size b b3 A n c rs B d gs 0 V3) := Lib.hid ⟨bel_step (bel_step B0.out B1.out) hb, Nat.le_refl _, hb0, _, heap_keep F3.out hb, ⟨rfl, .inl ⟨rfl, rfl⟩⟩⟩
  have hb3 : b3 < V3.heap.size := Nat.lt_of_lt_of_le (xp_lt F3.out) hb.size
  have hwN : w.heap.size ≤ V3.heap.size := Nat.le_trans hn3 (Nat.le_of_lt hb3)
  clear hb0 hbg hb F1 F3 B0 B1
  refine ⟨_, rfl, ?_⟩
  simp only [ptr, Act.put, List.setIfInBounds_toArray, List.set_cons_zero, List.set_cons_succ]
  refine wpList_nil ?_
  generalize hNN : V3.heap.size = N at *
  go_wp2_with fail
  refine (wpIn_wide (n := 3)).1 ?_
  refine wpIn_rangeAll (gf := 62) (lb := #[.pointer (some ⟨b, 0, none⟩)]) rfl (enters_of Tryd.func62 (by kernel_rfl) rfl) entV (fun _ => rfl) (entL rs gs) (EntG b A n c rs B d gs) (entries_iter b A n c rs B d gs (by omega)) (LiveJ w N b b3 A n c rs B d gs) ?jg ?jj HJ0.out 3 ?round ?fin
  case jg => exact fun i W h => ⟨h.2.2.1, HL.out.keep h.1, HG.out.keep h.1⟩
  case jj =>
    rintro i W W2 ⟨h1, h2, h3, v, h4, h5⟩ hb
    rw [hNN] at hb
    exact ⟨h1.trans (hb.below.mono hwN), Nat.le_trans h2 hb.below.size, hb.cells _ _ h3 rfl, v, hb.cells _ _ h4 rfl, own_abide h5 hb⟩
  case round =>
    intro l i x W hx hl2 hj
    obtain ⟨r, g, hr, hg, rfl⟩ := entL_of hx
    have HT := Lib.hid (liveL_take hr hg)
    have HIN := (List.getElem?_eq_some_iff.1 hr).1
    have hlv := liveL_le (rs.take i) (gs.take i)
    have htl : (rs.take i).length ≤ n := by rw [List.length_take]; omega
    clear hx hr hg HJ0
    simp only [entV]
    rw [zip2]
    simp only [List.setIfInBounds_toArray, List.set_cons_zero, List.set_cons_succ]
    obtain ⟨h1, h2, h3, v, h4, h5⟩ := hj
    refine wpR_plain (by kernel_rfl) (by simp [LetsOut, Exit.then]) ?_
    refine wpList_decl #[.int .i64 0, .int .i64 0, .int .i64 0, .int .i64 0, .bool false] #[.int .i64 r.who, .int .i64 r.when_, .int .i64 r.kind, .int .i64 r.value, .bool (!g)] 83 (by kernel_rfl) (xo_alloc _ (by kernel_rfl) rfl) (fun _ => by kernel_rfl) (fun b W h0 => xo_storeW b _ _ h0 (by kernel_rfl) rfl (by simp [Value.oneCell']) rfl rfl rfl) ?_
    intro b5 W1 hge h0 hb
    simp only [ptr, Act.put, List.setIfInBounds_toArray, List.set_cons_zero, List.set_cons_succ]
    refine wpList_nil ?_
    simp only [Exit.then]
    refine ⟨(Kin.of_below hb).keep _, fun B2 hB2 => ?_⟩
    rw [hNN] at hB2
    have e5 := Lib.hid (hB2.cells _ _ h0 rfl)
    have e3 := Lib.hid (hB2.cells _ _ (heap_keep h3 hb) rfl)
    have e4 := Lib.hid (hB2.cells _ _ (heap_keep h4 hb) rfl)
    have eo := Lib.hid (own_abide (own_keep h5 hb) hB2)
    have eb := Lib.hid ((h1.trans (hb.mono (Nat.le_trans hwN h2))).trans (hB2.below.mono hwN))
    have es := Nat.le_trans h2 (Nat.le_trans hb.size hB2.below.size)
    clear h0 h3 h4 h5 h1 h2 hb hB2 hge
    refine wpIn_block ?_
    refine wpIn_seq ?_
    refine wpR_plain (by kernel_rfl) (by simp [LetsOut, Exit.then, Exit.inBlock, endAll]) ?_
    refine wpList_run (by kernel_rfl) (.pointer (some ⟨b5, 4, none⟩)) B2 (xo_fld0 1 b5 4 (by kernel_rfl) rfl rfl) ?_
    simp only [ptr, Act.put, List.setIfInBounds_toArray, List.set_cons_zero, List.set_cons_succ]
    refine wpList_run (by kernel_rfl) (.bool (!g)) B2 (xo_load1 ⟨b5, 4, none⟩ _ (cells_at e5.out 4 rfl) Tryd.underlying4 rfl rfl rfl) ?_
    simp only [ptr, Act.put, List.setIfInBounds_toArray, List.set_cons_zero, List.set_cons_succ]
    refine wpList_nil ?_
    simp only [Exit.then]
    cases g with
    | true =>
      refine wpIn_cond_false rfl (wpIn_skip ?_)
      have hlv2 := HT.out
      simp only [if_true, List.append_nil] at hlv2
      simp only [Exit.inBlock, endAll]
      exact ⟨(Kin.refl _).keep _, eb.out, es, e3.out, v, e4.out, by rw [hlv2]; exact eo.out⟩
    | false =>
      refine wpIn_cond_true rfl ?_
      refine wpR_plain (by kernel_rfl) (by simp [LetsOut, Exit.then, Exit.inBlock, endAll]) ?_
      refine wpList_run (by kernel_rfl) v B2 (xo_load1 ⟨b3, 0, none⟩ _ (cells_at e4.out 0 rfl) Tryd.underlying27 rfl rfl rfl) ?_
      simp only [ptr, Act.put, List.setIfInBounds_toArray, List.set_cons_zero, List.set_cons_succ]
      refine wpList_run (by kernel_rfl) (.pointer (some ⟨b5, 0, none⟩)) B2 (xo_fld0 0 b5 0 (by kernel_rfl) rfl rfl) ?_
      simp only [ptr, Act.put, List.setIfInBounds_toArray, List.set_cons_zero, List.set_cons_succ]
      refine wpList_run (by kernel_rfl) (.agg #[.int .i64 r.who, .int .i64 r.when_, .int .i64 r.kind, .int .i64 r.value]) B2 (xo_loadR b5 0 [.int .i64 r.who, .int .i64 r.when_, .int .i64 r.kind, .int .i64 r.value] (rng_of e5.out 0 _ (fun j v hv => by rcases j with _ | _ | _ | _ | j <;> first | exact hv | cases hv)) Tryd.underlying24 rfl (by kernel_rfl) rfl rfl) ?_
      simp only [ptr, Act.put, List.setIfInBounds_toArray, List.set_cons_zero, List.set_cons_succ]
      refine wpList_mk (by kernel_rfl) (([r] : List Rd).flatMap rdC).toArray 24 1 1 (xg_lit (E := rdC) (bytes := 32) (.agg #[.int .i64 0, .int .i64 0, .int .i64 0, .int .i64 0]) [.tmp 14] [r] 1 Tryd.underlying27 (by kernel_rfl) rfl (by decide) (by decide) rfl rfl) ?_
      intro g15 W3 hge h0 hb
      have el : Sg rdC 4 W3 (some ⟨g15, 0, none⟩) 1 1 [r] := RowG.sg h0 rfl (Nat.le_refl _) (by omega)
      have k3 := heap_keep e3.out hb
      have k4 := heap_keep e4.out hb
      have ko := own_keep eo.out hb
      have kk := Kin.of_below hb
      have kb := eb.out.trans (hb.mono (Nat.le_trans hwN es))
      have ks := Nat.le_trans es hb.size
      clear e3 e4 eo eb es e5 hge h0 hb
      simp only [ptr, Act.put, List.setIfInBounds_toArray, List.set_cons_zero, List.set_cons_succ]
      refine wpList_op (by kernel_rfl) ?_
      refine hOp_app (size := 4) (.tmp 12) (.tmp 15) 27 rfl (.agg #[.int .i64 0, .int .i64 0, .int .i64 0, .int .i64 0]) 32 Tryd.underlying27 (by kernel_rfl) rfl (by decide) rfl ko (some ⟨g15, 0, none⟩) 1 1 (fl rdC [r]) rfl el.src (by unfold maxLen; omega) (by omega) ks ?_
      intro v' W4 ho hg hloc
      have j3 := own_rowkeep ko hg k3 (by decide)
      have j4 := own_rowkeep ko hg k4 (by decide)
      have jb := kb.trans ((own_below ko hg ks).mono hwN)
      have jk := kk.trans (Kin.grown ko hg)
      have js := Nat.le_trans ks hg.size
      clear k3 k4 ko kk kb ks el hg hloc
      obtain ⟨A9, c9, rfl⟩ := own_form ho
      simp only [ptr, Act.put, List.setIfInBounds_toArray, List.set_cons_zero, List.set_cons_succ]
      refine wpList_store1 b3 0 _ (.slice A9 ((liveL (rs.take i) (gs.take i)).length + 1) c9) 27 (by kernel_rfl) j4 (xo_store1 b3 0 _ _ (.slice A9 ((liveL (rs.take i) (gs.take i)).length + 1) c9) j4 rfl (by kernel_rfl) rfl rfl rfl rfl) ?_
      intro W5 q1 hfar hbel hsz
      simp only [ptr, Act.put, List.setIfInBounds_toArray, List.set_cons_zero, List.set_cons_succ]
      refine wpList_nil ?_
      simp only [Exit.inBlock, endAll]
      have hk : Kin W4 W5 := Kin.far j4 rfl (Nat.le_of_eq hsz.symm) hfar
      have hbne : b ≠ b3 := ne_types j3 j4 (by decide)
      have hlv2 := HT.out
      simp only [Bool.false_eq_true, if_false] at hlv2
      refine ⟨(jk.trans hk).keep _, hbel _ _ hn3 jb, by omega, hfar _ _ hbne j3, _, q1, ?_⟩
      rw [hlv2, List.length_append, fl_append]
      exact own_farB ho hb3 hfar
  case fin =>
    intro D W hD hj hd
    rw [entL_length (by omega), hln] at hj
    obtain ⟨h1, h2, h3, v, h4, h5⟩ := hj
    rw [List.take_of_length_le (by omega), List.take_of_length_le (by omega)] at h5
    obtain ⟨A2, c2, rfl, hs⟩ := Sg.own h5
    simp only [Exit.inBlock, Exit.then]
    go_upto_region 6 with fail
    refine wp_region_lit ?_
    refine wpList_run (by kernel_rfl) (.slice A2 (liveL rs gs).length c2) W (xo_load1 ⟨b3, 0, none⟩ _ (cells_at h4 0 rfl) Tryd.underlying27 rfl rfl rfl) ?_
    simp only [ptr, Act.put, List.setIfInBounds_toArray, List.set_cons_zero, List.set_cons_succ]
    refine wpList_run (by kernel_rfl) (.slice A2 (liveL rs gs).length c2) W rfl ?_
    simp only [ptr, Act.put, List.setIfInBounds_toArray, List.set_cons_zero, List.set_cons_succ]
    refine wpList_nil ?_
    rw [hNN] at hD
    go_wp2_with fail
    refine ⟨by simp, .inl ⟨_, _, rfl, run_takeDeferred hd, ?_⟩⟩
    refine ⟨.slice A2 (liveL rs gs).length c2, ?_, ⟨A2, c2, rfl, Sg.abide hs (Abide.putObj _ hd rfl hD), h1.trans ((Abide.putObj (N := N) _ hd rfl hD).below.mono hwN)⟩⟩
    exact results_tmp (t := 2) rfl _ _ _
end Go.Proofs.YtopicjdmajlndaaDoor

namespace Go.Proofs.YtopicjdmajlndaaDoor
set_option linter.unusedVariables false
set_option linter.unusedSimpArgs false
set_option linter.unusedSectionVars false
set_option maxRecDepth 8000
open Go.RowKit Go.Proofs.YtopicjdmajlndaaDoor.K
attribute [local irreducible] wpList wpQuiet
theorem widN_le (i : Nat) : 2 ^ widN i ≤ 256 := by
  have : widN i ≤ 8 := by unfold widN; split <;> omega
  exact Nat.pow_le_pow_right (by omega) this
/-- a column's elements, as many as readings -/
def colV (rs : List Rd) (gs : List Bool) (j : Nat) : List Nat := if j < 4 then rs.map (fun r => (fldI r j).toNat) else gs.map (fun g => if g then 0 else 1)
theorem colV_length {rs : List Rd} {gs : List Bool} {n j : Nat} (h1 : rs.length = n) (h2 : gs.length = n) : (colV rs gs j).length = n := by
  unfold colV
  split <;> simp [h1, h2]
theorem colV_lt {rs : List Rd} {gs : List Bool} {i j : Nat} {r : Rd} (hi : i < 4) (h : rs[j]? = some r) : (colV rs gs i)[j]? = some (fldI r i).toNat := by
  unfold colV
  rw [if_pos hi, List.getElem?_map, h]
  rfl
theorem colV_live {rs : List Rd} {gs : List Bool} {i j : Nat} {g : Bool} (hi : ¬ i < 4) (h : gs[j]? = some g) : (colV rs gs i)[j]? = some (if g then 0 else 1) := by
  unfold colV
  rw [if_neg hi, List.getElem?_map, h]
  rfl
/-- the first j elements of a list, filled up by zeros -/
def fillP (l : List Nat) (N j : Nat) : List Nat := l.take j ++ List.replicate (N - j) 0
theorem fillP_zero (l : List Nat) (N : Nat) : fillP l N 0 = List.replicate N 0 := by simp [fillP]
theorem fillP_length {l : List Nat} {N j : Nat} (h1 : j ≤ l.length) (h2 : j ≤ N) : (fillP l N j).length = N := by simp [fillP]; omega
theorem fillP_set {l : List Nat} {N j x : Nat} (h : l[j]? = some x) (hN : j < N) : (fillP l N j).set j x = fillP l N (j + 1) := by
  obtain ⟨hj, rfl⟩ := List.getElem?_eq_some_iff.1 h
  have h2 := set_fill (l.take j) l[j] 0 (N - (j + 1))
  have h3 : (l.take j).length = j := by simp; omega
  rw [h3] at h2
  unfold fillP
  rw [show N - j = (N - (j + 1)) + 1 by omega, h2, List.take_succ_eq_append_getElem hj]
theorem fillP_skip {l : List Nat} {N j : Nat} (h : l[j]? = some 0) (hN : j < N) : fillP l N j = fillP l N (j + 1) := by
  obtain ⟨hj, h0⟩ := List.getElem?_eq_some_iff.1 h
  unfold fillP
  rw [List.take_succ_eq_append_getElem hj, h0, show N - j = (N - (j + 1)) + 1 by omega, List.replicate_succ, List.append_assoc]
  rfl
theorem fillP_all {rs : List Rd} {gs : List Bool} {n N i : Nat} (h1 : rs.length = n) (h2 : gs.length = n) : fillP (colV rs gs i) N n = colN rs gs N i := by
  unfold fillP
  rw [List.take_of_length_le (by rw [colV_length h1 h2]; omega)]
  unfold colV colN
  split <;> simp [h1, h2]
theorem colN_length {rs : List Rd} {gs : List Bool} {n N i : Nat} (h1 : rs.length = n) (h2 : gs.length = n) (h : n ≤ N) : (colN rs gs N i).length = N := by
  rw [← fillP_all h1 h2, fillP_length (by rw [colV_length h1 h2]; omega) h]
theorem RowsU.grown {w w' : World} {t : TypeId} {base b0 : Nat} {bs : List Nat} {xss : List (List Nat)} {e : TypeId} {size n : Nat} {v : Value} {cs : List Value} (h : RowsU w t base bs xss) (ho : w.ownsRow b0 e size v n cs) (hg : w.grownBy w' v.ownBlock) (hne : t ≠ e) : RowsU w' t base bs xss :=
  ⟨h.len, h.ge, h.nd, fun i b xs hi hx => own_rowkeep ho hg (h.row i b xs hi hx) hne⟩
theorem RowsU.hdrow {w : World} {t : TypeId} {base N : Nat} {bs : List Nat} {xss : List (List Nat)} (h : RowsU w t base bs xss) (hN : ∀ xs ∈ xss, xs.length = N) (hN2 : N ≤ 9223372036854775807) {i : Nat} {d : Hd} {xs : List Nat} (hi : (bs.map (mkH N))[i]? = some d) (hx : xss[i]? = some xs) : Sg wdC 1 w d.A d.n d.c xs := by
  rw [List.getElem?_map] at hi
  cases hb : bs[i]? with
  | none => rw [hb] at hi; cases hi
  | some b =>
    rw [hb] at hi
    injection hi with hi
    subst hi
    exact RowG.sg (h.row i b xs hb hx) (hN xs (List.mem_of_getElem? hx)) (Nat.le_refl _) hN2
end Go.Proofs.YtopicjdmajlndaaDoor

namespace Go.Proofs.YtopicjdmajlndaaDoor
set_option linter.unusedVariables false
set_option linter.unusedSimpArgs false
set_option linter.unusedSectionVars false
set_option maxRecDepth 8000
open Go.RowKit Go.Proofs.YtopicjdmajlndaaDoor.K
attribute [local irreducible] wpList wpQuiet
/-- own slices of words, under heads -/
structure OwnsU (w : World) (t : TypeId) (base : Nat) (hs : List Hd) (xss : List (List Nat)) : Prop where
  len : hs.length = xss.length
  row : ∀ (i : Nat) (h : Hd) (xs : List Nat), hs[i]? = some h → xss[i]? = some xs → xs.length = h.n ∧ w.ownsRow base t 1 (.slice h.A h.n h.c) h.n (fl wdC xs)
theorem OwnsU.keep {w w' : World} {t : TypeId} {base : Nat} {hs : List Hd} {xss : List (List Nat)} (h : OwnsU w t base hs xss) (hb : Below w.heap.size w w') : OwnsU w' t base hs xss := ⟨h.len, fun i d xs hi hx => ⟨(h.row i d xs hi hx).1, own_keep (h.row i d xs hi hx).2 hb⟩⟩
theorem own_growT {w w' : World} {b1 b2 : Nat} {e1 e2 : TypeId} {s1 s2 n1 n2 : Nat} {v1 v2 : Value} {c1 c2 : List Value} (h : w.ownsRow b1 e1 s1 v1 n1 c1) (ho : w.ownsRow b2 e2 s2 v2 n2 c2) (hg : w.grownBy w' v2.ownBlock) (hne : e1 ≠ e2) : w'.ownsRow b1 e1 s1 v1 n1 c1 := by
  refine ⟨h.1, ?_⟩
  rcases h.2 with hn | ⟨g, cap, cur, rfl, hbs, hgg, rest⟩
  · exact .inl hn
  · exact .inr ⟨g, cap, cur, rfl, hbs, own_rowkeep ho hg hgg hne, rest⟩
theorem OwnsU.grown {w w' : World} {t : TypeId} {base b0 : Nat} {hs : List Hd} {xss : List (List Nat)} {e : TypeId} {size n : Nat} {v : Value} {cs : List Value} (h : OwnsU w t base hs xss) (ho : w.ownsRow b0 e size v n cs) (hg : w.grownBy w' v.ownBlock) (hne : t ≠ e) : OwnsU w' t base hs xss :=
  ⟨h.len, fun i d xs hi hx => ⟨(h.row i d xs hi hx).1, own_growT (h.row i d xs hi hx).2 ho hg hne⟩⟩
theorem OwnsU.nil {w : World} {t : TypeId} {base : Nat} : OwnsU w t base [] [] := ⟨rfl, fun i h xs hi => by simp at hi⟩
theorem OwnsU.push {w : World} {t : TypeId} {base n c : Nat} {A : Option Addr} {hs : List Hd} {xss : List (List Nat)} {xs : List Nat} (h : OwnsU w t base hs xss) (ho : w.ownsRow base t 1 (.slice A n c) n (fl wdC xs)) (hl : xs.length = n) : OwnsU w t base (hs ++ [Hd.mk A n c]) (xss ++ [xs]) :=
  ⟨by simp [h.len], fun i d ys hi hx => by
    rw [List.getElem?_append] at hi hx
    rw [h.len] at hi
    split at hi
    · next hlt => rw [if_pos hlt] at hx; exact h.row i d ys hi hx
    · next hlt =>
      rw [if_neg hlt] at hx
      have h0 : i - xss.length = 0 := by have := (List.getElem?_eq_some_iff.1 hi).1; simp at this; omega
      rw [h0] at hi hx
      simp at hi hx
      subst hi hx
      exact ⟨hl, ho⟩⟩
theorem OwnsU.sg {w : World} {t : TypeId} {base : Nat} {hs : List Hd} {xss : List (List Nat)} (h : OwnsU w t base hs xss) {i : Nat} {d : Hd} {xs : List Nat} (hi : hs[i]? = some d) (hx : xss[i]? = some xs) : Sg wdC 1 w d.A d.n d.c xs := Sg.ownS (h.row i d xs hi hx).2
/-- the bits of the first i fields and k of the next -/
def bitsP (cols : List (List Nat)) (i k : Nat) : List (List Nat) := bitsN cols i ++ (List.range k).map (bitN (cols.getD i []))
theorem bitsP_zero (cols : List (List Nat)) (i : Nat) : bitsP cols i 0 = bitsN cols i := by simp [bitsP]
theorem bitsP_succ (cols : List (List Nat)) (i k : Nat) : bitsP cols i (k + 1) = bitsP cols i k ++ [(cols.getD i []).map fun x => x / 2 ^ k % 2] := by
  unfold bitsP
  rw [List.range_succ, List.map_append, List.append_assoc]
  rfl
theorem bitsN_24 (cols : List (List Nat)) : (bitsN cols 4).length = 24 := by simp [bitsN, widN]
theorem bitsN_len (cols : List (List Nat)) (j : Nat) (h : j ≤ 4) : (bitsN cols j).length ≤ 24 := by
  have : j = 0 ∨ j = 1 ∨ j = 2 ∨ j = 3 ∨ j = 4 := by omega
  rcases this with rfl | rfl | rfl | rfl | rfl <;> simp [bitsN, widN]
theorem colsN_ok {rs : List Rd} {gs : List Bool} {n N : Nat} (h1 : rs.length = n) (h2 : gs.length = n) (hN : n ≤ N) (hv : ∀ r ∈ rs, vR r = true) : ∀ xs ∈ colsN rs gs N, xs.length = N ∧ ∀ x ∈ xs, x < 256 := by
  intro xs hxs
  obtain ⟨i, hi, rfl⟩ := List.mem_map.1 hxs
  refine ⟨colN_length h1 h2 hN, fun x hx => ?_⟩
  rw [← fillP_all (i := i) (N := N) h1 h2] at hx
  unfold fillP at hx
  rcases List.mem_append.1 hx with hx | hx
  · have hx := List.mem_of_mem_take hx
    unfold colV at hx
    split at hx
    · next h4 =>
      obtain ⟨r, hr, rfl⟩ := List.mem_map.1 hx
      have hf := fok_of (hv r hr) i h4
      simp only [fokB, decide_eq_true_eq] at hf
      have hw := widN_le i
      have h3 := hf.2
      omega
    · obtain ⟨g, _, rfl⟩ := List.mem_map.1 hx
      split <;> omega
  · rw [List.mem_replicate] at hx
    omega
end Go.Proofs.YtopicjdmajlndaaDoor

