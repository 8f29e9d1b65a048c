/- Several texts in one: Yak, Yat, Ys. -/
import Derived.Test.YtlicfidcfhbmpaaDoorTp15
import Derived.Test.YtlicfidcfhbmpaaDoorTp14
set_option linter.unusedVariables false
set_option linter.unusedSimpArgs false
set_option linter.unusedSectionVars false
namespace Go.Proofs.YtlicfidcfhbmpaaDoor
set_option maxRecDepth 8000
theorem ftW_can : ∀ (w : List UInt8) (l : List Qu.Cd), Qu.ftG ([32] ++ w ++ [32]) l = Qu.ftW [32] [] [] w l
 | _, [] => rfl
 | w, c :: l => by
  have h := ftW_can [97, 110, 100] l
  show Qu.condT ([32] ++ w ++ [32]) c ++ Qu.ftG Qu.andT l = Qu.condW [32] [] [] w c ++ Qu.ftW [32] [] [] [97, 110, 100] l
  rw [← h]
  simp [Qu.condT, Qu.condW, Qu.inT, Qu.dotT, Qu.andT]
theorem fmtN_can (q : Qu.Qy) (h : q.fs.length = Qu.numF q.kind) : Qu.fmtN q = Qu.qyW [32] [] [] q := by
 obtain ⟨kind, col, k, fs⟩ := q
 replace h : fs.length = Qu.numF kind := h
 have hf : ∀ l, Qu.ftN l = Qu.ftW [32] [] [] Qu.whereN l := fun l => ftW_can Qu.whereN l
 have hfs : Qu.fsN fs = Qu.fsW [32] [] [] fs := by
  have hn2 : Qu.numF kind = 1 ∨ Qu.numF kind = 2 := by unfold Qu.numF; split <;> simp
  rcases hn2 with e | e
  ·rw [e] at h
   obtain ⟨l, rfl⟩ := List.length_eq_one_iff.1 h
   simp [Qu.fsN, Qu.fsG, Qu.fsW, hf]
  ·rw [e] at h
   obtain ⟨l, m, rfl⟩ : ∃ l m, fs = [l, m] := by
    match fs, h with
    | [l, m], _ => exact ⟨l, m, rfl⟩
   simp [Qu.fsN, Qu.fsG, Qu.fsW, hf, Qu.withT, Qu.withN]
 show Qu.hdN kind col k ++ Qu.fsN fs = _
 rw [hfs]
 simp only [Qu.hdN, Qu.qyW]
 split <;> split <;> simp
theorem fmtN_len (q : Qu.Qy) (h : OkQ q) : (Qu.fmtN q).length ≤ 400 := by
 obtain ⟨kind, col, k, fs⟩ := q
 have h1 := Qu.kwN_le kind
 have h2 := Qu.nameN_le col
 have h3 := Qu.decF_le 6 k
 have h4 := fsG_len true fs (fun l hl => (h.ok l hl).1)
 have h5 : fs.length ≤ 2 := by rw [show fs.length = Qu.numF kind from h.nf]; exact Qu.numF_le _
 show (Qu.hdN kind col k ++ Qu.fsG true fs).length ≤ 400
 rw [List.length_append]
 have h6 : (Qu.hdN kind col k).length ≤ 30 := by
  unfold Qu.hdN Qu.decN
  split <;> split <;> simp only [List.length_append, List.length_cons, List.length_nil] <;> omega
 omega
/-- the round trip -/
theorem parse_fmt (q : Qu.Qy) (h : OkQ q) : Qu.parseN (Qu.fmtN q) = (q, 0, 0) :=
 Qu.parse_at (a := [32]) (b := []) (d := []) (e := []) (s0 := []) rfl rfl rfl (List.cons_ne_nil _ _) rfl h rfl (by rw [fmtN_can q h.nf]; simp) (fmtN_len q h)
end Go.Proofs.YtlicfidcfhbmpaaDoor

namespace Go.Proofs.YtlicfidcfhbmpaaDoor
set_option maxRecDepth 8000
/-- a state: at the end if and only if the token is the end's -/
structure Gd (s : List UInt8) (st : Qu.St) : Prop where
 ok : Qu.Ok s st
 fin : st.tok.cls = 0 → st.off = s.length ∧ st.tok = ⟨0, []⟩
 inn : st.tok.cls ≠ 0 → st.off < s.length
/-- an error and its place -/
def Ebad (s : List UInt8) (e off : Nat) : Prop := (e = 131 ∧ off = s.length) ∨ ((e = 130 ∨ e = 1) ∧ off < s.length)
theorem Gd.nxt {s : List UInt8} {q : Nat} (h : q ≤ s.length) : Gd s (Qu.nxt s q) := by
 have h1 : Qu.runE Qu.isSp s q ≤ s.length := Qu.runE_le h
 refine ⟨Qu.nxt_ok h, ?_, ?_⟩
 ·unfold Qu.nxt
  split
  ·next hn =>
   intro _
   have := List.getElem?_eq_none_iff.1 hn
   exact ⟨by show Qu.runE Qu.isSp s q = s.length; omega, rfl⟩
  ·split
   ·intro h0; cases h0
   ·split
    ·intro h0; cases h0
    ·split
     ·intro h0; cases h0
     ·split <;> (intro h0; cases h0)
 ·unfold Qu.nxt
  split
  ·intro h0; exact absurd rfl h0
  ·next b hb =>
   have hlt := (List.getElem?_eq_some_iff.1 hb).1
   split
   ·intro _; exact hlt
   ·split
    ·intro _; exact hlt
    ·split
     ·intro _; exact hlt
     ·split <;> (intro _; exact hlt)
section
variable {s : List UInt8} {st : Qu.St}
theorem Gd.adv (h : Gd s st) : Gd s (Qu.adv s st) := Gd.nxt h.ok.1
theorem Gd.acc (h : Gd s st) (t : Qu.Tk) : Gd s (Qu.accS s t st) := by
 unfold Qu.accS
 split
 ·exact h.adv
 ·exact h
theorem Gd.ref (h : Gd s st) : Ebad s (Qu.refN st) st.off := by
 unfold Qu.refN
 by_cases h0 : st.tok = ⟨0, []⟩
 ·rw [if_pos h0]
  exact .inl ⟨rfl, (h.fin (by rw [h0])).1⟩
 ·rw [if_neg h0]
  exact .inr ⟨.inl rfl, h.inn fun e => h0 (h.fin e).2⟩
theorem Gd.cls (h : Gd s st) {c : Nat} (hc : st.tok.cls = c) (h0 : c ≠ 0) : st.off < s.length := h.inn (by rw [hc]; exact h0)
/-- a result that is fine: the state behind, the value, the error's place -/
structure Fine {α : Type} (s : List UInt8) (P : α → Prop) (r : Qu.Rs α) : Prop where
 g : Gd s r.st
 v : r.err = 0 → P r.val
 e : r.err ≠ 0 → Ebad s r.err r.st.off
theorem Fine.bad {α : Type} {P : α → Prop} {v : α} {e : Nat} (g : Gd s st) (h : e ≠ 0) (b : Ebad s e st.off) : Fine s P ⟨v, e, st⟩ := ⟨g, fun h0 => absurd h0 h, fun _ => b⟩
theorem Fine.good {α : Type} {P : α → Prop} {v : α} (g : Gd s st) (h : P v) : Fine s P ⟨v, 0, st⟩ := ⟨g, fun _ => h, fun h0 => absurd rfl h0⟩
theorem Fine.bad' {α β : Type} {P : α → Prop} {Q : β → Prop} {v : β} {r : Qu.Rs α} (f : Fine s P r) (h : ¬ r.err = 0) : Fine s Q ⟨v, r.err, r.st⟩ := .bad f.g h (f.e h)
theorem fine_num (h : Gd s st) (lo hi : Nat) : Fine s (fun v => lo ≤ v ∧ v ≤ hi) (Qu.numN s lo hi st) := by
 unfold Qu.numN
 split
 ·next hc =>
  split
  ·exact .bad h (by decide) (.inr ⟨.inr rfl, h.cls hc (by decide)⟩)
  ·exact .good h.adv (by omega)
 ·exact .bad h (Qu.refN_ne _) h.ref
theorem fine_pick (h : Gd s st) (f : Nat → List UInt8) (i n : Nat) : Fine s (fun v => i ≤ v ∧ v < i + n) (Qu.pickT s f i n st) := by
 unfold Qu.pickT
 split
 ·next j hj => exact .good h.adv (Qu.findT_lt hj)
 ·exact .bad h (Qu.refN_ne _) h.ref
theorem fine_single (h : Gd s st) {c : Nat} (hc : c < 4) : Fine s OkC (Qu.singleN s c st) := by
 unfold Qu.singleN
 have f := fine_num h 0 (Qu.maxN c)
 split
 ·next he => exact .good f.g ⟨hc, Nat.le_refl _, (f.v he).2⟩
 ·next he => exact f.bad' he
theorem fine_range (h : Gd s st) {c : Nat} (hc : c < 4) : Fine s OkC (Qu.rangeN s c st) := by
 unfold Qu.rangeN
 have f := fine_num h 0 (Qu.maxN c)
 simp only
 split
 ·next he =>
  split
  ·have f2 := fine_num (f.g.acc ⟨4, []⟩) (Qu.numN s 0 (Qu.maxN c) st).val (Qu.maxN c)
   split
   ·next he2 => exact .good f2.g ⟨hc, (f2.v he2).1, (f2.v he2).2⟩
   ·next he2 => exact f2.bad' he2
  ·next hx =>
   have hn : ¬ (Qu.numN s 0 (Qu.maxN c) st).st.tok = ⟨4, []⟩ := fun e => hx (by unfold Qu.expN; rw [if_pos e])
   unfold Qu.expN Qu.accS
   rw [if_neg hn, if_neg hn]
   exact .bad f.g (Qu.refN_ne _) f.g.ref
 ·next he => exact f.bad' he
theorem fine_cond (h : Gd s st) : Fine s OkC (Qu.condN s st) := by
 unfold Qu.condN
 have f : Fine s (fun v => 0 ≤ v ∧ v < 0 + 4) (Qu.colN s st) := fine_pick h _ _ _
 simp only
 split
 ·next he =>
  have hv := (f.v he).2
  split
  ·exact fine_single f.g.adv (by omega)
  ·split
   ·exact fine_range (f.g.acc _) (by omega)
   ·next hx =>
    have hn : ¬ (Qu.colN s st).st.tok = ⟨2, [105, 110]⟩ := fun e => hx (by unfold Qu.expN; rw [if_pos e])
    unfold Qu.expN Qu.accS
    rw [if_neg hn, if_neg hn]
    exact .bad f.g (Qu.refN_ne _) f.g.ref
 ·next he => exact f.bad' he
/-- a filter of at most m conditions -/
def OkF (m : Nat) (l : List Qu.Cd) : Prop := l.length ≤ m ∧ ∀ c ∈ l, OkC c
theorem fine_filter (m : Nat) : ∀ (n : Nat) (w : List UInt8) (l : List Qu.Cd) {st : Qu.St}, Gd s st → l.length + n ≤ m → (∀ c ∈ l, OkC c) → Fine s (OkF m) (Qu.filterN s n w l st)
 | 0, _, l, st, h, hl, ho => by
  unfold Qu.filterN
  exact .good h ⟨by omega, ho⟩
 | n + 1, w, l, st, h, hl, ho => by
  unfold Qu.filterN
  split
  ·have f := fine_cond h.adv
   simp only
   split
   ·next he =>
    refine fine_filter m n _ _ f.g (by rw [List.length_append]; simp only [List.length_cons, List.length_nil]; omega) fun c hc => ?_
    rcases List.mem_append.1 hc with h1 | h1
    ·exact ho c h1
    ·rw [List.mem_singleton.1 h1]
     exact f.v he
   ·next he => exact f.bad' he
  ·exact .good h ⟨by omega, ho⟩
theorem fine_filters (m : Nat) : ∀ (n : Nat) (fs : List (List Qu.Cd)) {st : Qu.St}, Gd s st → fs.length + n = m → (∀ l ∈ fs, OkF 3 l) → Fine s (fun r => r.length = m ∧ ∀ l ∈ r, OkF 3 l) (Qu.filtersN s n fs st)
 | 0, fs, st, h, hl, ho => by
  unfold Qu.filtersN
  exact .good h ⟨by omega, ho⟩
 | n + 1, fs, st, h, hl, ho => by
  have step : ∀ {st2 : Qu.St}, Gd s st2 → Fine s (fun r => r.length = m ∧ ∀ l ∈ r, OkF 3 l) (if (Qu.filterN s 3 Qu.whereN [] st2).err = 0 then Qu.filtersN s n (fs ++ [(Qu.filterN s 3 Qu.whereN [] st2).val]) (Qu.filterN s 3 Qu.whereN [] st2).st else ⟨[], (Qu.filterN s 3 Qu.whereN [] st2).err, (Qu.filterN s 3 Qu.whereN [] st2).st⟩) := fun {st2} g2 => by
   have f := fine_filter 3 3 Qu.whereN [] g2 (by decide) (fun c hc => by cases hc)
   split
   ·next he =>
    refine fine_filters m n _ f.g (by rw [List.length_append]; simp only [List.length_cons, List.length_nil]; omega) fun l hl => ?_
    rcases List.mem_append.1 hl with h1 | h1
    ·exact ho l h1
    ·rw [List.mem_singleton.1 h1]
     exact f.v he
   ·next he => exact f.bad' he
  unfold Qu.filtersN
  split
  ·exact step h
  ·split
   ·exact step (h.acc _)
   ·next hx =>
    have hn : ¬ st.tok = ⟨2, Qu.withN⟩ := fun e => hx (by unfold Qu.expN; rw [if_pos e])
    unfold Qu.expN Qu.accS
    rw [if_neg hn, if_neg hn]
    exact .bad h (Qu.refN_ne _) h.ref
theorem fine_query (h : Gd s st) : Gd s (Qu.queryN s st).st ∧ ((Qu.queryN s st).err = 0 → OkQ (Qu.queryN s st).val) ∧ ((Qu.queryN s st).err ≠ 0 → Ebad s (Qu.queryN s st).err (Qu.queryN s st).st.off) := by
 have F : Fine s OkQ (Qu.queryN s st) := by
  unfold Qu.queryN
  have fa : Fine s (fun v => 1 ≤ v ∧ v < 1 + 7) (Qu.kindN s st) := fine_pick h _ _ _
  simp only
  generalize Qu.kindN s st = a at fa
  split
  ·next hea =>
   have ha := fa.v hea
   have fb : Fine s (fun v => (Qu.hasC a.val = true → v < 4) ∧ (Qu.hasC a.val = false → v = 0)) (if Qu.hasC a.val = true then Qu.colN s a.st else ⟨0, 0, a.st⟩) := by
    split
    ·next hc =>
     have f : Fine s (fun v => 0 ≤ v ∧ v < 0 + 4) (Qu.colN s a.st) := fine_pick fa.g _ _ _
     exact ⟨f.g, fun e => ⟨fun _ => by have := (f.v e).2; omega, fun e2 => by rw [hc] at e2; cases e2⟩, f.e⟩
    ·next hc => exact .good fa.g ⟨fun e => absurd e hc, fun _ => rfl⟩
   generalize (if Qu.hasC a.val = true then Qu.colN s a.st else ⟨0, 0, a.st⟩) = b at fb
   split
   ·next heb =>
    have fc : Fine s (fun v => (0 < Qu.maxK a.val → 1 ≤ v ∧ v ≤ Qu.maxK a.val) ∧ (¬ 0 < Qu.maxK a.val → v = 0)) (if 0 < Qu.maxK a.val then Qu.numN s 1 (Qu.maxK a.val) b.st else ⟨0, 0, b.st⟩) := by
     split
     ·next hc =>
      have f := fine_num fb.g 1 (Qu.maxK a.val)
      exact ⟨f.g, fun e => ⟨fun _ => f.v e, fun e2 => absurd hc e2⟩, f.e⟩
     ·next hc => exact .good fb.g ⟨fun e => absurd e hc, fun _ => rfl⟩
    generalize (if 0 < Qu.maxK a.val then Qu.numN s 1 (Qu.maxK a.val) b.st else ⟨0, 0, b.st⟩) = c at fc
    split
    ·next hec =>
     have fd := fine_filters (Qu.numF a.val) (Qu.numF a.val) [] fc.g (by simp) (fun l hl => by cases hl)
     generalize Qu.filtersN s (Qu.numF a.val) [] c.st = d at fd
     split
     ·next hed =>
      have vd := fd.v hed
      have hq : OkQ ⟨a.val, b.val, c.val, d.val⟩ := ⟨ha.1, by show a.val ≤ 7; omega, (fb.v heb).1, (fb.v heb).2, (fc.v hec).1, (fc.v hec).2, vd.1, vd.2⟩
      by_cases ht : d.st.tok = ⟨0, []⟩
      ·unfold Qu.expN Qu.accS
       rw [if_pos ht, if_pos ht]
       exact .good fd.g.adv hq
      ·unfold Qu.expN Qu.accS
       rw [if_neg ht, if_neg ht]
       exact .bad fd.g (Qu.refN_ne _) fd.g.ref
     ·next hed => exact fd.bad' hed
    ·next hec => exact fc.bad' hec
   ·next heb => exact fb.bad' heb
  ·next hea => exact fa.bad' hea
 exact ⟨F.g, F.v, F.e⟩
/-- what Parse answers -/
theorem parseN_cases (s : List UInt8) (q : Qu.Qy) (off er : Nat) (h : Qu.parseN s = (q, off, er)) :
  (er = 0 ∧ OkQ q ∧ off = 0 ∧ s.length ≤ 400) ∨ (q = Qu.zeroQ ∧ ((er = 131 ∧ off = s.length) ∨ ((er = 130 ∨ er = 1) ∧ off < s.length) ∨ (er = 2 ∧ off = 0 ∧ 400 < s.length))) := by
 have F := fine_query (Gd.nxt (s := s) (Nat.zero_le _))
 unfold Qu.parseN at h
 split at h
 ·next hl =>
  injection h with h1 h2
  injection h2 with h2 h3
  exact .inr ⟨h1.symm, .inr (.inr ⟨h3.symm, h2.symm, hl⟩)⟩
 ·next hl =>
  split at h
  ·next he =>
   injection h with h1 h2
   injection h2 with h2 h3
   exact .inl ⟨h3.symm, by rw [← h1]; exact F.2.1 he, h2.symm, by omega⟩
  ·next he =>
   injection h with h1 h2
   injection h2 with h2 h3
   have hb := F.2.2 he
   rw [h2, h3] at hb
   exact .inr ⟨h1.symm, hb.elim .inl fun x => .inr (.inl x)⟩
end
end Go.Proofs.YtlicfidcfhbmpaaDoor

namespace Go.Proofs.YtlicfidcfhbmpaaDoor
set_option maxRecDepth 8000
open Go.RowKit Go.Proofs.YtlicfidcfhbmpaaDoor.K
attribute [local irreducible] wpList wpQuiet
theorem xc_ne {ev : Operand → Value} {o : Oper} {w : World} {x y : Operand} {t : TypeId} (a b c : Int) (ho : o.op = .binOp .neq 46 x y t) (hx : ev x = .agg #[.int .i64 a, .int .i64 b, .int .i64 c]) (hy : ev y = .agg #[.int .i64 a, .int .i64 b, .int .i64 c]) : (execOp ev o).run Tryd.prog w = .ok (.value (.bool false)) w := by
 unfold execOp
 simp [ho, hx, hy, go_sem, Tryd.underlying46, Tryd.underlying3]
theorem fl_ci (xs : List Qu.Cd) : fl ciC (xs.map Qu.Cd.ci) = fl cdC xs := by
 unfold fl
 rw [List.flatMap_map]
 rfl
theorem FsOwn.fsR {w : World} {base : Nat} {A : Option Addr} {n c : Nat} {fs : List (List Qu.Cd)} (h : FsOwn w base (.slice A n c) fs) : n = fs.length ∧ ∃ hs, FsR w A n c hs (fs.map (List.map Qu.Cd.ci)) := by
 obtain ⟨A2, c2, hs, he, ho, hc⟩ := h
 injection he with e1 e2 e3
 subst e1 e2 e3
 refine ⟨rfl, hs, Sg.ownS ho, by rw [List.length_map]; exact hc.len, fun i d xs hi hx => ?_⟩
 rw [List.getElem?_map] at hx
 obtain ⟨ys, hy, rfl⟩ := Option.map_eq_some_iff.1 hx
 have h2 := (hc.row i d ys hi hy).2
 rw [← fl_ci] at h2
 exact Sg.ownS h2
theorem fsR_nil {w : World} : FsR w none 0 0 [] [] := ⟨Sg.ownS (base := 0) (e := 0) own_nil, rfl, fun i h xs hi => by simp at hi⟩
set_option maxRecDepth 100000 in
set_option maxHeartbeats 32000000 in
theorem same_yes (kind col k : Int) (A : Option Addr) (n c : Nat) (hs : List Hd) (A2 : Option Addr) (c2 : Nat) (hs2 : List Hd) (fs : List (List Qu.Ci)) (w : World) (hF1 : FsR w A n c hs fs) (hF2 : FsR w A2 n c2 hs2 fs) :
  Calls Tryd.prog 22 #[.agg #[.int .i64 kind, .int .i64 col, .int .i64 k, .slice A n c], .agg #[.int .i64 kind, .int .i64 col, .int .i64 k, .slice A2 n c2]] w fun e w' => e = .returned (.bool true) ∧ Below w.heap.size w w' := by
 have HF1 := Lib.hid hF1
 have HF2 := Lib.hid hF2
 have hln := hF1.sg.len
 have hln2 := hF2.sg.len
 have hlc := hF1.sg.cap
 have hlt := hF1.sg.top
 have hlc2 := hF2.sg.cap
 have hlt2 := hF2.sg.top
 have hfl := hF1.len
 clear hF1 hF2
 go_enter Tryd.func22, Tryd.ntmps22
 go_upto_region 1 with fail
 refine wp_named2 (fun V1 hb g0 g1 hlt => ?_)
 have B0 := Lib.hid hb
 have Fv0_2 : Hid (V1.heap[w.heap.size]? = some (.cells #[.int .i64 kind, .int .i64 col, .int .i64 k, .slice A n c] 24 (0, 0))) := Lib.hid (g0)
 have Fv1_3 : Hid (V1.heap[(w.heap.size + 1)]? = some (.cells #[.int .i64 kind, .int .i64 col, .int .i64 k, .slice A2 n c2] 24 (0, 0))) := Lib.hid (g1)
 have Nb0_1 : Hid (w.heap.size ≠ (w.heap.size + 1)) := Lib.hid (by omega)
 have Gb0 : Hid (w.heap.size ≤ w.heap.size) := Lib.hid (by omega)
 have Gb1 : Hid (w.heap.size ≤ (w.heap.size + 1)) := Lib.hid (by omega)
 clear hb g0 g1 hlt
 have Lt0 : Hid (w.heap.size < V1.heap.size) := Lib.hid (xp_lt Fv0_2.out)
 have Lt1 : Hid ((w.heap.size + 1) < V1.heap.size) := Lib.hid (xp_lt Fv1_3.out)
 have hci2 : ¬ ((n : Int) ≠ (n : Int)) := by omega
 refine wp_region_lit ?_
 refine zr (.pointer (some ⟨w.heap.size, 0, none⟩)) V1 (xo_fld0 0 w.heap.size 0 (by kernel_rfl) rfl rfl) ?_
 simp only [Act.put, zA, zB, zC]
 refine zr (.int .i64 kind) V1 (xo_load1 ⟨w.heap.size, 0, none⟩ _ (cells_at Fv0_2.out 0 rfl) Tryd.underlying3 rfl rfl rfl) ?_
 simp only [Act.put, zA, zB, zC]
 refine zr (.pointer (some ⟨(w.heap.size + 1), 0, none⟩)) V1 (xo_fld0 0 (w.heap.size + 1) 0 (by kernel_rfl) rfl rfl) ?_
 simp only [Act.put, zA, zB, zC]
 refine zr (.int .i64 kind) V1 (xo_load1 ⟨(w.heap.size + 1), 0, none⟩ _ (cells_at Fv1_3.out 0 rfl) Tryd.underlying3 rfl rfl rfl) ?_
 simp only [Act.put, zA, zB, zC]
 refine zr (.bool false) V1 (xo_neqF .i64 kind kind (by omega) rfl rfl rfl) ?_
 simp only [Act.put, zA, zB, zC]
 refine zr (.bool false) V1 rfl ?_
 simp only [Act.put, zA, zB, zC]
 refine zr (.pointer (some ⟨w.heap.size, 1, none⟩)) V1 (xo_fld0 1 w.heap.size 1 (by kernel_rfl) rfl rfl) ?_
 simp only [Act.put, zA, zB, zC]
 refine zr (.int .i64 col) V1 (xo_load1 ⟨w.heap.size, 1, none⟩ _ (cells_at Fv0_2.out 1 rfl) Tryd.underlying3 rfl rfl rfl) ?_
 simp only [Act.put, zA, zB, zC]
 refine zr (.pointer (some ⟨(w.heap.size + 1), 1, none⟩)) V1 (xo_fld0 1 (w.heap.size + 1) 1 (by kernel_rfl) rfl rfl) ?_
 simp only [Act.put, zA, zB, zC]
 refine zr (.int .i64 col) V1 (xo_load1 ⟨(w.heap.size + 1), 1, none⟩ _ (cells_at Fv1_3.out 1 rfl) Tryd.underlying3 rfl rfl rfl) ?_
 simp only [Act.put, zA, zB, zC]
 refine zr (.bool false) V1 (xo_neqF .i64 col col (by omega) rfl rfl rfl) ?_
 simp only [Act.put, zA, zB, zC]
 refine zr (.bool false) V1 rfl ?_
 simp only [Act.put, zA, zB, zC]
 refine zr (.bool false) V1 rfl ?_
 simp only [Act.put, zA, zB, zC]
 refine zr (.pointer (some ⟨w.heap.size, 2, none⟩)) V1 (xo_fld0 2 w.heap.size 2 (by kernel_rfl) rfl rfl) ?_
 simp only [Act.put, zA, zB, zC]
 refine zr (.int .i64 k) V1 (xo_load1 ⟨w.heap.size, 2, none⟩ _ (cells_at Fv0_2.out 2 rfl) Tryd.underlying3 rfl rfl rfl) ?_
 simp only [Act.put, zA, zB, zC]
 refine zr (.pointer (some ⟨(w.heap.size + 1), 2, none⟩)) V1 (xo_fld0 2 (w.heap.size + 1) 2 (by kernel_rfl) rfl rfl) ?_
 simp only [Act.put, zA, zB, zC]
 refine zr (.int .i64 k) V1 (xo_load1 ⟨(w.heap.size + 1), 2, none⟩ _ (cells_at Fv1_3.out 2 rfl) Tryd.underlying3 rfl rfl rfl) ?_
 simp only [Act.put, zA, zB, zC]
 refine zr (.bool false) V1 (xo_neqF .i64 k k (by omega) rfl rfl rfl) ?_
 simp only [Act.put, zA, zB, zC]
 refine zr (.bool false) V1 rfl ?_
 simp only [Act.put, zA, zB, zC]
 refine zr (.bool false) V1 rfl ?_
 simp only [Act.put, zA, zB, zC]
 refine zr (.pointer (some ⟨w.heap.size, 3, none⟩)) V1 (xo_fld0 3 w.heap.size 3 (by kernel_rfl) rfl rfl) ?_
 simp only [Act.put, zA, zB, zC]
 refine zr (.slice A n c) V1 (xo_load1 ⟨w.heap.size, 3, none⟩ _ (cells_at Fv0_2.out 3 rfl) Tryd.underlying22 rfl rfl rfl) ?_
 simp only [Act.put, zA, zB, zC]
 refine zr (.int .i64 (n : Int)) V1 (xo_len A n c Tryd.underlying22 rfl rfl) ?_
 simp only [Act.put, zA, zB, zC]
 refine zr (.pointer (some ⟨(w.heap.size + 1), 3, none⟩)) V1 (xo_fld0 3 (w.heap.size + 1) 3 (by kernel_rfl) rfl rfl) ?_
 simp only [Act.put, zA, zB, zC]
 refine zr (.slice A2 n c2) V1 (xo_load1 ⟨(w.heap.size + 1), 3, none⟩ _ (cells_at Fv1_3.out 3 rfl) Tryd.underlying22 rfl rfl rfl) ?_
 simp only [Act.put, zA, zB, zC]
 refine zr (.int .i64 (n : Int)) V1 (xo_len A2 n c2 Tryd.underlying22 rfl rfl) ?_
 simp only [Act.put, zA, zB, zC]
 refine zr (.bool false) V1 (xo_neqF .i64 (n : Int) (n : Int) (by omega) rfl rfl rfl) ?_
 simp only [Act.put, zA, zB, zC]
 refine zr (.bool false) V1 rfl ?_
 simp only [Act.put, zA, zB, zC]
 refine wpList_nil ?_
 go_upto_region 3 with fail
 refine wp_region_lit ?_
 refine zr (.int .i64 0) V1 rfl ?_
 simp only [Act.put, zA, zB, zC]
 refine wpList_nil ?_
 have O3 := Fv0_2.out
 have O4 := Fv1_3.out
 have O5 := B0.out
 go_wp2_with fail
 go_loopw [5] (fun p wr => ∃ i : Nat, i ≤ n ∧ p = .int .i64 i ∧ wr.heap[w.heap.size]? = some (.cells #[.int .i64 kind, .int .i64 col, .int .i64 k, .slice A n c] 24 (0, 0)) ∧ wr.heap[(w.heap.size + 1)]? = some (.cells #[.int .i64 kind, .int .i64 col, .int .i64 k, .slice A2 n c2] 24 (0, 0)) ∧ Below w.heap.size w wr) (fun p _ => n - (intOf p).toNat)
 case atStart => exact ⟨0, Nat.zero_le _, rfl, O3, O4, O5⟩
 case round =>
  clear O3 O4 O5
  obtain ⟨wo, rfl⟩ : ∃ wo : World, wo = wr := ⟨_, rfl⟩
  obtain ⟨i, hi, rfl, hr0, hr1, hb0⟩ := hrel
  have hbr := hb0
  clear B0
  have B0 := Lib.hid hbr
  clear hbr
  clear Fv0_2
  have Fv0_2 : Hid (wo.heap[w.heap.size]? = some (.cells #[.int .i64 kind, .int .i64 col, .int .i64 k, .slice A n c] 24 (0, 0))) := Lib.hid (hr0)
  clear Fv1_3
  have Fv1_3 : Hid (wo.heap[(w.heap.size + 1)]? = some (.cells #[.int .i64 kind, .int .i64 col, .int .i64 k, .slice A2 n c2] 24 (0, 0))) := Lib.hid (hr1)
  clear hb0 hr0 hr1
  by_cases hi2 : i < n
  ·have hci7 : ((i : Int) < (n : Int)) := by omega
   obtain ⟨h, hh⟩ : ∃ h, hs[i]? = some h := ⟨_, List.getElem?_eq_getElem (by omega)⟩
   obtain ⟨h2, hh2⟩ : ∃ h, hs2[i]? = some h := ⟨_, List.getElem?_eq_getElem (by omega)⟩
   obtain ⟨xs, hxs⟩ : ∃ x, fs[i]? = some x := ⟨_, List.getElem?_eq_getElem (by omega)⟩
   have HH := Lib.hid hh
   have HH2 := Lib.hid hh2
   have HX := Lib.hid hxs
   clear hh hh2 hxs
   have hr1 := (HF1.out.keep B0.out).row i h xs HH.out HX.out
   have hr2 := (HF2.out.keep B0.out).row i h2 xs HH2.out HX.out
   obtain ⟨hA, m, hc⟩ := h
   obtain ⟨hA2, m2, hc2⟩ := h2
   have hm1 : xs.length = m := hr1.len
   obtain rfl : m = m2 := hm1.symm.trans hr2.len
   have hmc : m ≤ hc := hr1.cap
   have hmt : hc ≤ 9223372036854775807 := hr1.top
   have hmc2 : m ≤ hc2 := hr2.cap
   have hmt2 : hc2 ≤ 9223372036854775807 := hr2.top
   clear hr1 hr2
   have hci8 : ¬ ((m : Int) ≠ (m : Int)) := by omega
   go_upto_region 4 with fail
   refine wp_region_lit ?_
   refine zr (.int .i64 (i : Int)) wo rfl ?_
   simp only [Act.put, zA, zB, zC]
   refine zr (.pointer (some ⟨w.heap.size, 3, none⟩)) wo (xo_fld0 3 w.heap.size 3 (by kernel_rfl) rfl rfl) ?_
   simp only [Act.put, zA, zB, zC]
   refine zr (.slice A n c) wo (xo_load1 ⟨w.heap.size, 3, none⟩ _ (cells_at Fv0_2.out 3 rfl) Tryd.underlying22 rfl rfl rfl) ?_
   simp only [Act.put, zA, zB, zC]
   refine zr (.int .i64 (n : Int)) wo (xo_len A n c Tryd.underlying22 rfl rfl) ?_
   simp only [Act.put, zA, zB, zC]
   refine zr (.bool true) wo (xo_lssT .i64 (i : Int) (n : Int) (by omega) rfl rfl rfl) ?_
   simp only [Act.put, zA, zB, zC]
   refine wpList_nil ?_
   go_upto_region 6 with fail
   refine wp_later_lex (by kernel_rfl) (lexOK_of (by kernel_rfl) (by kernel_rfl)) ?_
   refine zv (.pointer (some ⟨w.heap.size, 3, none⟩)) (fun v hv => (xo_fld0 3 w.heap.size 3 (by kernel_rfl) rfl rfl)) ?_
   simp only [Act.put, zA, zB, zC]
   refine zv (.slice A n c) (fun v hv => (xo_load1 ⟨w.heap.size, 3, none⟩ _ (cells_at (heap_keep Fv0_2.out (later_bel hv)) 3 rfl) Tryd.underlying22 rfl rfl rfl)) ?_
   simp only [Act.put, zA, zB, zC]
   refine zv (.int .i64 (i : Int)) (fun v hv => rfl) ?_
   simp only [Act.put, zA, zB, zC]
   refine zv (.pointer (some (gad A (i * 1)))) (fun v hv => (xg_idx .i64 ((HF1.out.keep B0.out).keep (later_bel hv)).sg HH.out Tryd.underlying22 (by kernel_rfl) rfl rfl rfl)) ?_
   simp only [Act.put, zA, zB, zC]
   refine zv (.slice hA m hc) (fun v hv => (xg_load1 (E := hdC) (i := i) (j := 0) ((HF1.out.keep B0.out).keep (later_bel hv)).sg HH.out rfl rfl Tryd.underlying28 rfl rfl rfl)) ?_
   simp only [Act.put, zA, zB, zC]
   refine zv (.int .i64 (m : Int)) (fun v hv => (xo_len hA m hc Tryd.underlying28 rfl rfl)) ?_
   simp only [Act.put, zA, zB, zC]
   refine zv (.pointer (some ⟨(w.heap.size + 1), 3, none⟩)) (fun v hv => (xo_fld0 3 (w.heap.size + 1) 3 (by kernel_rfl) rfl rfl)) ?_
   simp only [Act.put, zA, zB, zC]
   refine zv (.slice A2 n c2) (fun v hv => (xo_load1 ⟨(w.heap.size + 1), 3, none⟩ _ (cells_at (heap_keep Fv1_3.out (later_bel hv)) 3 rfl) Tryd.underlying22 rfl rfl rfl)) ?_
   simp only [Act.put, zA, zB, zC]
   refine zv (.int .i64 (i : Int)) (fun v hv => rfl) ?_
   simp only [Act.put, zA, zB, zC]
   refine zv (.pointer (some (gad A2 (i * 1)))) (fun v hv => (xg_idx .i64 ((HF2.out.keep B0.out).keep (later_bel hv)).sg HH2.out Tryd.underlying22 (by kernel_rfl) rfl rfl rfl)) ?_
   simp only [Act.put, zA, zB, zC]
   refine zv (.slice hA2 m hc2) (fun v hv => (xg_load1 (E := hdC) (i := i) (j := 0) ((HF2.out.keep B0.out).keep (later_bel hv)).sg HH2.out rfl rfl Tryd.underlying28 rfl rfl rfl)) ?_
   simp only [Act.put, zA, zB, zC]
   refine zv (.int .i64 (m : Int)) (fun v hv => (xo_len hA2 m hc2 Tryd.underlying28 rfl rfl)) ?_
   simp only [Act.put, zA, zB, zC]
   refine zv (.bool false) (fun v hv => (xo_neqF .i64 (m : Int) (m : Int) (by omega) rfl rfl rfl)) ?_
   simp only [Act.put, zA, zB, zC]
   refine wpQuiet_nil ?_
   intro X1_9
   have hb := X1_9.below
   generalize X1_9.at = V2 at *
   have B1 := Lib.hid hb
   clear hb
   go_upto_region 8 with fail
   refine wp_region_lit ?_
   refine zr (.int .i64 0) V2 rfl ?_
   simp only [Act.put, zA, zB, zC]
   refine wpList_nil ?_
   have O10 := (heap_keep Fv0_2.out B1.out)
   have O11 := (heap_keep Fv1_3.out B1.out)
   have C0_2 := zb B0 B1
   have O12 := C0_2.out
   go_wp2_with fail
   go_loopw [6] (fun p wr => ∃ j : Nat, j ≤ m ∧ p = .int .i64 j ∧ wr.heap[w.heap.size]? = some (.cells #[.int .i64 kind, .int .i64 col, .int .i64 k, .slice A n c] 24 (0, 0)) ∧ wr.heap[(w.heap.size + 1)]? = some (.cells #[.int .i64 kind, .int .i64 col, .int .i64 k, .slice A2 n c2] 24 (0, 0)) ∧ Below w.heap.size w wr) (fun p _ => m - (intOf p).toNat)
   case atStart => exact ⟨0, Nat.zero_le _, rfl, O10, O11, O12⟩
   case round =>
    clear O10 O11 O12
    obtain ⟨wq, rfl⟩ : ∃ wq : World, wq = wr := ⟨_, rfl⟩
    obtain ⟨j, hi, rfl, hr0, hr1, hb0⟩ := hrel
    have hbr := hb0
    clear B0
    have B0 := Lib.hid hbr
    clear hbr
    clear Fv0_2
    have Fv0_2 : Hid (wq.heap[w.heap.size]? = some (.cells #[.int .i64 kind, .int .i64 col, .int .i64 k, .slice A n c] 24 (0, 0))) := Lib.hid (hr0)
    clear Fv1_3
    have Fv1_3 : Hid (wq.heap[(w.heap.size + 1)]? = some (.cells #[.int .i64 kind, .int .i64 col, .int .i64 k, .slice A2 n c2] 24 (0, 0))) := Lib.hid (hr1)
    clear hb0 hr0 hr1
    by_cases hj2 : j < m
    ·have hci14 : ((j : Int) < (m : Int)) := by omega
     obtain ⟨e0, hx⟩ : ∃ e, xs[j]? = some e := ⟨_, List.getElem?_eq_getElem (by omega)⟩
     obtain ⟨ca, cb, cc⟩ := e0
     have HE := Lib.hid hx
     clear hx
     go_upto_region 9 with fail
     refine wp_region_lit ?_
     refine zr (.int .i64 (j : Int)) wq rfl ?_
     simp only [Act.put, zA, zB, zC]
     refine zr (.pointer (some ⟨w.heap.size, 3, none⟩)) wq (xo_fld0 3 w.heap.size 3 (by kernel_rfl) rfl rfl) ?_
     simp only [Act.put, zA, zB, zC]
     refine zr (.slice A n c) wq (xo_load1 ⟨w.heap.size, 3, none⟩ _ (cells_at Fv0_2.out 3 rfl) Tryd.underlying22 rfl rfl rfl) ?_
     simp only [Act.put, zA, zB, zC]
     refine zr (.int .i64 (i : Int)) wq rfl ?_
     simp only [Act.put, zA, zB, zC]
     refine zr (.pointer (some (gad A (i * 1)))) wq (xg_idx .i64 (HF1.out.keep B0.out).sg HH.out Tryd.underlying22 (by kernel_rfl) rfl rfl rfl) ?_
     simp only [Act.put, zA, zB, zC]
     refine zr (.slice hA m hc) wq (xg_load1 (E := hdC) (i := i) (j := 0) (HF1.out.keep B0.out).sg HH.out rfl rfl Tryd.underlying28 rfl rfl rfl) ?_
     simp only [Act.put, zA, zB, zC]
     refine zr (.int .i64 (m : Int)) wq (xo_len hA m hc Tryd.underlying28 rfl rfl) ?_
     simp only [Act.put, zA, zB, zC]
     refine zr (.bool true) wq (xo_lssT .i64 (j : Int) (m : Int) (by omega) rfl rfl rfl) ?_
     simp only [Act.put, zA, zB, zC]
     refine wpList_nil ?_
     go_upto_region 11 with fail
     refine wp_later_lex (by kernel_rfl) (lexOK_of (by kernel_rfl) (by kernel_rfl)) ?_
     refine zv (.pointer (some ⟨w.heap.size, 3, none⟩)) (fun v hv => (xo_fld0 3 w.heap.size 3 (by kernel_rfl) rfl rfl)) ?_
     simp only [Act.put, zA, zB, zC]
     refine zv (.slice A n c) (fun v hv => (xo_load1 ⟨w.heap.size, 3, none⟩ _ (cells_at (heap_keep Fv0_2.out (later_bel hv)) 3 rfl) Tryd.underlying22 rfl rfl rfl)) ?_
     simp only [Act.put, zA, zB, zC]
     refine zv (.int .i64 (i : Int)) (fun v hv => rfl) ?_
     simp only [Act.put, zA, zB, zC]
     refine zv (.pointer (some (gad A (i * 1)))) (fun v hv => (xg_idx .i64 ((HF1.out.keep B0.out).keep (later_bel hv)).sg HH.out Tryd.underlying22 (by kernel_rfl) rfl rfl rfl)) ?_
     simp only [Act.put, zA, zB, zC]
     refine zv (.slice hA m hc) (fun v hv => (xg_load1 (E := hdC) (i := i) (j := 0) ((HF1.out.keep B0.out).keep (later_bel hv)).sg HH.out rfl rfl Tryd.underlying28 rfl rfl rfl)) ?_
     simp only [Act.put, zA, zB, zC]
     refine zv (.int .i64 (j : Int)) (fun v hv => rfl) ?_
     simp only [Act.put, zA, zB, zC]
     refine zv (.pointer (some (gad hA (j * 3)))) (fun v hv => (xg_idx .i64 (((HF1.out.keep B0.out).keep (later_bel hv)).row i ⟨hA, m, hc⟩ xs HH.out HX.out) HE.out Tryd.underlying28 (by kernel_rfl) rfl rfl rfl)) ?_
     simp only [Act.put, zA, zB, zC]
     refine zv (.agg #[.int .i64 ca, .int .i64 cb, .int .i64 cc]) (fun v hv => (xg_loadE (E := ciC) (((HF1.out.keep B0.out).keep (later_bel hv)).row i ⟨hA, m, hc⟩ xs HH.out HX.out) HE.out Tryd.underlying46 rfl (by kernel_rfl) rfl rfl)) ?_
     simp only [Act.put, zA, zB, zC]
     refine zv (.pointer (some ⟨(w.heap.size + 1), 3, none⟩)) (fun v hv => (xo_fld0 3 (w.heap.size + 1) 3 (by kernel_rfl) rfl rfl)) ?_
     simp only [Act.put, zA, zB, zC]
     refine zv (.slice A2 n c2) (fun v hv => (xo_load1 ⟨(w.heap.size + 1), 3, none⟩ _ (cells_at (heap_keep Fv1_3.out (later_bel hv)) 3 rfl) Tryd.underlying22 rfl rfl rfl)) ?_
     simp only [Act.put, zA, zB, zC]
     refine zv (.int .i64 (i : Int)) (fun v hv => rfl) ?_
     simp only [Act.put, zA, zB, zC]
     refine zv (.pointer (some (gad A2 (i * 1)))) (fun v hv => (xg_idx .i64 ((HF2.out.keep B0.out).keep (later_bel hv)).sg HH2.out Tryd.underlying22 (by kernel_rfl) rfl rfl rfl)) ?_
     simp only [Act.put, zA, zB, zC]
     refine zv (.slice hA2 m hc2) (fun v hv => (xg_load1 (E := hdC) (i := i) (j := 0) ((HF2.out.keep B0.out).keep (later_bel hv)).sg HH2.out rfl rfl Tryd.underlying28 rfl rfl rfl)) ?_
     simp only [Act.put, zA, zB, zC]
     refine zv (.int .i64 (j : Int)) (fun v hv => rfl) ?_
     simp only [Act.put, zA, zB, zC]
     refine zv (.pointer (some (gad hA2 (j * 3)))) (fun v hv => (xg_idx .i64 (((HF2.out.keep B0.out).keep (later_bel hv)).row i ⟨hA2, m, hc2⟩ xs HH2.out HX.out) HE.out Tryd.underlying28 (by kernel_rfl) rfl rfl rfl)) ?_
     simp only [Act.put, zA, zB, zC]
     refine zv (.agg #[.int .i64 ca, .int .i64 cb, .int .i64 cc]) (fun v hv => (xg_loadE (E := ciC) (((HF2.out.keep B0.out).keep (later_bel hv)).row i ⟨hA2, m, hc2⟩ xs HH2.out HX.out) HE.out Tryd.underlying46 rfl (by kernel_rfl) rfl rfl)) ?_
     simp only [Act.put, zA, zB, zC]
     refine zv (.bool false) (fun v hv => (xc_ne ca cb cc rfl rfl rfl)) ?_
     simp only [Act.put, zA, zB, zC]
     refine wpQuiet_nil ?_
     intro X1_15
     have hb := X1_15.below
     generalize X1_15.at = V2 at *
     have B1 := Lib.hid hb
     clear hb
     go_upto_region 10 with fail
     refine wp_region_lit ?_
     refine zr (.int .i64 (j : Int)) V2 rfl ?_
     simp only [Act.put, zA, zB, zC]
     refine zr (.int .i64 ((j + 1 : Nat) : Int)) V2 (xo_addI (j : Int) 1 ((j + 1 : Nat) : Int) (by omega) (by omega) (by omega) rfl rfl rfl) ?_
     simp only [Act.put, zA, zB, zC]
     refine zr (.int .i64 ((j + 1 : Nat) : Int)) V2 rfl ?_
     simp only [Act.put, zA, zB, zC]
     refine wpList_nil ?_
     have hq16 := (heap_keep Fv0_2.out B1.out)
     have hq17 := (heap_keep Fv1_3.out B1.out)
     have C0_2 := zb B0 B1
     have hq18 := C0_2.out
     go_wp2_with fail
     go_roundw
     case rel => exact ⟨j + 1, by omega, by go_num, hq16, hq17, hq18⟩
     case measure => simp [intOf]; omega
    ·have hci14 : ¬ ((j : Int) < (m : Int)) := by omega
     go_upto_region 9 with fail
     refine wp_region_lit ?_
     refine zr (.int .i64 (j : Int)) wq rfl ?_
     simp only [Act.put, zA, zB, zC]
     refine zr (.pointer (some ⟨w.heap.size, 3, none⟩)) wq (xo_fld0 3 w.heap.size 3 (by kernel_rfl) rfl rfl) ?_
     simp only [Act.put, zA, zB, zC]
     refine zr (.slice A n c) wq (xo_load1 ⟨w.heap.size, 3, none⟩ _ (cells_at Fv0_2.out 3 rfl) Tryd.underlying22 rfl rfl rfl) ?_
     simp only [Act.put, zA, zB, zC]
     refine zr (.int .i64 (i : Int)) wq rfl ?_
     simp only [Act.put, zA, zB, zC]
     refine zr (.pointer (some (gad A (i * 1)))) wq (xg_idx .i64 (HF1.out.keep B0.out).sg HH.out Tryd.underlying22 (by kernel_rfl) rfl rfl rfl) ?_
     simp only [Act.put, zA, zB, zC]
     refine zr (.slice hA m hc) wq (xg_load1 (E := hdC) (i := i) (j := 0) (HF1.out.keep B0.out).sg HH.out rfl rfl Tryd.underlying28 rfl rfl rfl) ?_
     simp only [Act.put, zA, zB, zC]
     refine zr (.int .i64 (m : Int)) wq (xo_len hA m hc Tryd.underlying28 rfl rfl) ?_
     simp only [Act.put, zA, zB, zC]
     refine zr (.bool false) wq (xo_lssF .i64 (j : Int) (m : Int) (by omega) rfl rfl rfl) ?_
     simp only [Act.put, zA, zB, zC]
     refine wpList_nil ?_
     go_upto_region 5 with fail
     refine wp_region_lit ?_
     refine zr (.int .i64 (i : Int)) wq rfl ?_
     simp only [Act.put, zA, zB, zC]
     refine zr (.int .i64 ((i + 1 : Nat) : Int)) wq (xo_addI (i : Int) 1 ((i + 1 : Nat) : Int) (by omega) (by omega) (by omega) rfl rfl rfl) ?_
     simp only [Act.put, zA, zB, zC]
     refine zr (.int .i64 ((i + 1 : Nat) : Int)) wq rfl ?_
     simp only [Act.put, zA, zB, zC]
     refine wpList_nil ?_
     have hq15 := Fv0_2.out
     have hq16 := Fv1_3.out
     have hq17 := B0.out
     go_wp2_with fail
     go_roundw
     case rel => exact ⟨i + 1, by omega, by go_num, hq15, hq16, hq17⟩
     case measure => simp [intOf]; omega
  ·have hci7 : ¬ ((i : Int) < (n : Int)) := by omega
   go_upto_region 4 with fail
   refine wp_region_lit ?_
   refine zr (.int .i64 (i : Int)) wo rfl ?_
   simp only [Act.put, zA, zB, zC]
   refine zr (.pointer (some ⟨w.heap.size, 3, none⟩)) wo (xo_fld0 3 w.heap.size 3 (by kernel_rfl) rfl rfl) ?_
   simp only [Act.put, zA, zB, zC]
   refine zr (.slice A n c) wo (xo_load1 ⟨w.heap.size, 3, none⟩ _ (cells_at Fv0_2.out 3 rfl) Tryd.underlying22 rfl rfl rfl) ?_
   simp only [Act.put, zA, zB, zC]
   refine zr (.int .i64 (n : Int)) wo (xo_len A n c Tryd.underlying22 rfl rfl) ?_
   simp only [Act.put, zA, zB, zC]
   refine zr (.bool false) wo (xo_lssF .i64 (i : Int) (n : Int) (by omega) rfl rfl rfl) ?_
   simp only [Act.put, zA, zB, zC]
   refine wpList_nil ?_
   go_upto_region 13 with fail
   refine wp_region_lit ?_
   refine zr (.bool true) wo rfl ?_
   simp only [Act.put, zA, zB, zC]
   refine wpList_nil ?_
   have hbf := B0.out
   go_wp2_with fail
   go_ret
   exact ⟨rfl, hbf⟩
set_option maxRecDepth 100000 in
set_option maxHeartbeats 32000000 in
theorem fails_yes (s : List UInt8) (off er : Nat) (hp : Qu.parseN s = (Qu.zeroQ, off, er)) (w : World) (hG : Gc w) :
  Calls Tryd.prog 28 #[.string (sB s), .int .i64 (off : Int), .int .i64 (er : Int)] w fun e w' => e = .returned (.bool true) ∧ Below w.heap.size w w' := by
 have HG := Lib.hid hG
 have HP := Lib.hid hp
 clear hG hp
 go_enter Tryd.func28, Tryd.ntmps28
 go_upto_region 1 with fail
 refine wp_region_lit ?_
 refine zr (.string (sB s)) w rfl ?_
 simp only [Act.put, zA, zB, zC]
 refine wpList_call (by kernel_rfl) 20 Tryd.func20 (by kernel_rfl) (by kernel_rfl) _ _ #[.string (sB s)] rfl (by kernel_rfl) ?_
 refine (parse_as s w HG.out Qu.zeroQ off er HP.out).mono ?_
 rintro e V1 ⟨A, n, c, rfl, hfo, hb⟩
 have B0 := Lib.hid hb
 have HFO := Lib.hid hfo
 clear hb hfo
 refine ⟨_, rfl, ?_⟩
 simp only [Act.put, zA, zB, zC]
 refine zr (.tuple #[.agg #[.int .i64 0, .int .i64 0, .int .i64 0, .slice A n c], .int .i64 (off : Int), .int .i64 (er : Int)]) V1 rfl ?_
 simp only [Act.put, zA, zB, zC]
 refine zr (.agg #[.int .i64 0, .int .i64 0, .int .i64 0, .slice A n c]) V1 rfl ?_
 simp only [Act.put, zA, zB, zC]
 refine zr (.int .i64 (off : Int)) V1 rfl ?_
 simp only [Act.put, zA, zB, zC]
 refine zr (.int .i64 (er : Int)) V1 rfl ?_
 simp only [Act.put, zA, zB, zC]
 refine wpList_new #[.int .i64 0, .int .i64 0, .int .i64 0, .slice none 0 0] 24 (by kernel_rfl) (xo_alloc #[.int .i64 0, .int .i64 0, .int .i64 0, .slice none 0 0] (by kernel_rfl) rfl) ?_
 intro b7 V2 hge h0 hb
 have Ge0 : Hid (V1.heap.size ≤ b7) := Lib.hid hge
 have B1 := Lib.hid hb
 have Fv1_7 : Hid (V2.heap[b7]? = some (.cells #[.int .i64 0, .int .i64 0, .int .i64 0, .slice none 0 0] 24 (0, 0))) := Lib.hid (h0)
 have Lt2 : Hid (b7 < V2.heap.size) := Lib.hid (xp_lt Fv1_7.out)
 clear hge h0 hb
 simp only [ptr, Act.put, zA, zB, zC]
 refine wpList_storeW b7 #[.int .i64 0, .int .i64 0, .int .i64 0, .slice none 0 0] #[.int .i64 0, .int .i64 0, .int .i64 0, .slice A n c] 24 (by kernel_rfl) Fv1_7.out (xo_storeW b7 #[.int .i64 0, .int .i64 0, .int .i64 0, .slice none 0 0] #[.int .i64 0, .int .i64 0, .int .i64 0, .slice A n c] Fv1_7.out (by kernel_rfl) rfl (by simp [Value.oneCell']) rfl rfl rfl) ?_
 intro X2_3 h1 hfar hbel hsz
 have hbr := hbel _ _ Ge0.out B1.out
 clear B1
 have B1 := Lib.hid hbr
 clear hbr
 clear Fv1_7
 have Fv1_7 : Hid (X2_3.heap[b7]? = some (.cells #[.int .i64 0, .int .i64 0, .int .i64 0, .slice A n c] 24 (0, 0))) := Lib.hid (h1)
 have HszX2_3 := Lib.hid hsz
 clear h1 hfar hbel hsz
 simp only [ptr, Act.put, zA, zB, zC]
 refine zr (.int .i64 (off : Int)) X2_3 rfl ?_
 simp only [Act.put, zA, zB, zC]
 refine zr (.int .i64 (er : Int)) X2_3 rfl ?_
 simp only [Act.put, zA, zB, zC]
 refine wpList_nil ?_
 have hfo2 := FsOwn.fsR (HFO.out.keep B1.out)
 obtain ⟨hn0, hs, hfr⟩ := hfo2
 obtain rfl : n = 0 := hn0
 have HFR := Lib.hid hfr
 clear hfr
 have hci4 : ((off : Int) = (off : Int)) := by omega
 have hci5 : ((er : Int) = (er : Int)) := by omega
 go_upto_region 2 with fail
 refine wp_region_lit ?_
 refine zr (.agg #[.int .i64 0, .int .i64 0, .int .i64 0, .slice A 0 c]) X2_3 (xo_loadW b7 _ Fv1_7.out Tryd.underlying24 rfl (by kernel_rfl) rfl rfl) ?_
 simp only [Act.put, zA, zB, zC]
 refine zr (.agg #[.int .i64 0, .int .i64 0, .int .i64 0, .slice none 0 0]) X2_3 (by unfold execOp; go_simp <;> rfl) ?_
 simp only [Act.put, zA, zB, zC]
 refine wpList_call (by kernel_rfl) 22 Tryd.func22 (by kernel_rfl) (by kernel_rfl) _ _ #[.agg #[.int .i64 0, .int .i64 0, .int .i64 0, .slice A 0 c], .agg #[.int .i64 0, .int .i64 0, .int .i64 0, .slice none 0 0]] rfl (by kernel_rfl) ?_
 refine (same_yes 0 0 0 A 0 c hs none 0 [] [] X2_3 HFR.out fsR_nil).mono ?_
 rintro e V3 ⟨rfl, hb⟩
 have B2 := Lib.hid hb
 clear hb 
 refine ⟨_, rfl, ?_⟩
 simp only [Act.put, zA, zB, zC]
 refine zr (.bool true) V3 rfl ?_
 simp only [Act.put, zA, zB, zC]
 refine zr (.int .i64 (off : Int)) V3 rfl ?_
 simp only [Act.put, zA, zB, zC]
 refine zr (.int .i64 (off : Int)) V3 rfl ?_
 simp only [Act.put, zA, zB, zC]
 refine zr (.bool true) V3 (xo_eqlT .i64 (off : Int) (off : Int) (by omega) rfl rfl rfl) ?_
 simp only [Act.put, zA, zB, zC]
 refine zr (.bool true) V3 rfl ?_
 simp only [Act.put, zA, zB, zC]
 refine zr (.bool true) V3 rfl ?_
 simp only [Act.put, zA, zB, zC]
 refine zr (.int .i64 (er : Int)) V3 rfl ?_
 simp only [Act.put, zA, zB, zC]
 refine zr (.int .i64 (er : Int)) V3 rfl ?_
 simp only [Act.put, zA, zB, zC]
 refine zr (.bool true) V3 (xo_eqlT .i64 (er : Int) (er : Int) (by omega) rfl rfl rfl) ?_
 simp only [Act.put, zA, zB, zC]
 refine zr (.bool true) V3 rfl ?_
 simp only [Act.put, zA, zB, zC]
 refine zr (.bool true) V3 rfl ?_
 simp only [Act.put, zA, zB, zC]
 refine wpList_nil ?_
 have C0_2 := zb B0 B1
 have C0_3 := zb C0_2 B2
 have hbf := C0_3.out
 go_wp2_with fail
 go_ret
 exact ⟨rfl, hbf⟩
end Go.Proofs.YtlicfidcfhbmpaaDoor

