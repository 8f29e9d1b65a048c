/- Several texts in one: Ych, Ycy, Yda, Yfl, Ydh, Ydf, Ydd, Ydi, Ydj, Yv, Yad, Ycz. -/
import Derived.Test.YtbecajihgbbgjaaDoorG05
import Derived.Test.YtbecajihgbbgjaaDoorG11
import Derived.Test.YtbecajihgbbgjaaDoorG02
import Derived.Test.YtbecajihgbbgjaaDoorRows
import Derived.Test.YtbecajihgbbgjaaDoorTie
import Derived.ProofKit
import Derived.OpenShut
import Derived.ChangeOld
import Derived.ChangeSlices
import Derived.ChangeArms
import Derived.Below
import Derived.Lib.SmallJoins
import Derived.Lib.LaidTab
import Derived.LaidMore
import Derived.Deep.Slices
import Derived.Test.YtbecajihgbbgjaaDoorG03
import Derived.Test.YtbecajihgbbgjaaDoorG04
set_option linter.unusedVariables false
set_option linter.unusedSimpArgs false
set_option linter.unusedSectionVars false
namespace Go.Proofs.YtbecajihgbbgjaaDoor
set_option maxRecDepth 8000
namespace Ty
theorem bd_mono (q : Qu.Qy) {m n : Nat} (h : m ≤ n) (v : Nat) : bdN q m v ≤ bdN q n v := by
 rw [bd_eq, bd_eq]
 exact Nat.mul_le_mul_right _ h
theorem sp_add (l : List Qu.Cd) (e : Qu.Cd) (c : Nat) : (spC l c).1 ≤ (spC (l ++ [e]) c).1 ∧ (spC (l ++ [e]) c).2 ≤ (spC l c).2 := by
 rw [spC_snoc]
 unfold stC
 split
 ·exact ⟨Nat.le_max_left _ _, Nat.min_le_left _ _⟩
 ·exact ⟨Nat.le_refl _, Nat.le_refl _⟩
theorem sat_add {l : List Qu.Cd} {e : Qu.Cd} (h : satN (l ++ [e]) = true) : satN l = true := by
 rw [sat_iff] at h ⊢
 intro c hc
 have h1 := h c hc
 have h2 := sp_add l e c
 omega
theorem pos_add {l : List Qu.Cd} {e : Qu.Cd} {c v : Nat} (h : posN (l ++ [e]) c v = true) : posN l c v = true := by
 rw [pos_iff] at h ⊢
 have h2 := sp_add l e c
 omega
theorem cn_add (l : List Qu.Cd) (e : Qu.Cd) (c v : Nat) : cnN (l ++ [e]) c v ≤ cnN l c v := by
 unfold cnN
 by_cases h : posN (l ++ [e]) c v = true
 ·rw [if_pos h, if_pos (pos_add h)]
  exact Nat.le_refl _
 ·rw [if_neg h]
  exact Nat.zero_le _
theorem mo_add (q q2 : Qu.Qy) (hk : q.kind = q2.kind) (hc : q.col = q2.col) (hkk : q.k = q2.k) (l : List Qu.Cd) (e : Qu.Cd) (v : Nat) : (moN q2 (l ++ [e]) v).1 ^ (moN q2 (l ++ [e]) v).2 ≤ (moN q l v).1 ^ (moN q l v).2 := by
 unfold moN
 rw [hk, hc, hkk]
 split
 ·exact Nat.le_refl _
 ·simp only [Nat.pow_one]; exact (sp_add l e _).2
 ·exact Nat.pow_le_pow_left (sp_add l e _).2 _
 ·simp only [Nat.pow_one]; exact cn_add l e _ _
 ·simp only [Nat.pow_one]; exact cn_add l e _ _
/-- P14.4: one more condition, no greater bound -/
theorem one_add (q q2 : Qu.Qy) (hk : q.kind = q2.kind) (hc : q.col = q2.col) (hkk : q.k = q2.k) {v : Nat} {e : Qu.Cd} (hr : ruN q2 v = ruN q v ++ [e]) : oneN q2 v ≤ oneN q v := by
 unfold oneN
 rw [hr]
 by_cases h : satN (ruN q v ++ [e]) = true
 ·rw [if_pos h, if_pos (sat_add h)]
  exact mo_add q q2 hk hc hkk _ e v
 ·rw [if_neg h]
  exact Nat.zero_le _
end Ty
end Go.Proofs.YtbecajihgbbgjaaDoor

namespace Go.Proofs.YtbecajihgbbgjaaDoor
set_option maxRecDepth 8000
open Go.RowKit Go.Proofs.YtbecajihgbbgjaaDoor.K
attribute [local irreducible] wpList wpQuiet
namespace Ty
theorem zs_len (l : List Nat) : (zs l).length = l.length := by unfold zs; rw [List.length_map]
theorem ck_len {q : Qu.Qy} {rows co : Nat} {xs : List Nat} (h : ckN q rows = (xs, co)) : xs.length ≤ 32 := by
 unfold ckN at h
 split at h
 ·injection h with h1 _
  rw [← h1]
  exact Nat.zero_le _
 ·split at h
  ·injection h with h1 _
   rw [← h1, List.length_map, List.length_range]
   exact su_le q.kind
  ·injection h with h1 _
   rw [← h1]
   exact Nat.zero_le _
end Ty
end Go.Proofs.YtbecajihgbbgjaaDoor

namespace Go.Proofs.YtbecajihgbbgjaaDoor
set_option maxRecDepth 8000
namespace Ty
theorem zs_at {l : List Nat} {v a : Nat} (h : l[v]? = some a) : (zs l)[v]? = some (a : Int) := by
 unfold zs
 rw [List.getElem?_map, h]
 rfl
theorem ck_facts {q : Qu.Qy} {m co : Nat} {xs : List Nat} (hev : ¬ (4 ≤ q.kind ∧ q.kind ≤ 6 ∧ q.col % 2 = 1)) (h : ckN q m = (xs, co)) :
  (co = 0 ∨ co = 141) ∧ (co = 141 → xs.length = 0) ∧ (co = 0 → xs.length = suN q.kind ∧ ∀ v, v < suN q.kind → (zs xs)[v]? = some ((bdN q m v : Nat) : Int) ∧ bdN q m v < 2 ^ 62) := by
 unfold ckN at h
 rw [if_neg hev] at h
 split at h
 ·next ha =>
  injection h with h1 h2
  subst h1 h2
  refine ⟨.inl rfl, fun e => absurd e (by decide), fun _ => ⟨by rw [List.length_map, List.length_range], fun v hv => ⟨zs_at ?_, ?_⟩⟩⟩
  ·rw [List.getElem?_map, List.getElem?_range hv]
   rfl
  ·exact of_decide_eq_true (List.all_eq_true.1 ha v (List.mem_range.2 hv))
 ·injection h with h1 h2
  subst h1 h2
  exact ⟨.inr rfl, fun _ => rfl, fun e => absurd e (by decide)⟩
theorem ck_all_lt {q : Qu.Qy} {m co : Nat} {xs : List Nat} (hev : ¬ (4 ≤ q.kind ∧ q.kind ≤ 6 ∧ q.col % 2 = 1)) (h : ckN q m = (xs, co)) (ha : ∀ v, v < suN q.kind → bdN q m v < 2 ^ 62) : co = 0 := by
 rw [ck_ok hev ha] at h
 injection h with _ h2
 exact h2.symm
/-- fewer rows: no refusal where there was none -/
theorem ck_mono {q : Qu.Qy} {m n co co2 : Nat} {xs xs2 : List Nat} (hev : ¬ (4 ≤ q.kind ∧ q.kind ≤ 6 ∧ q.col % 2 = 1)) (hmn : m ≤ n) (h1 : ckN q m = (xs, co)) (h2 : ckN q n = (xs2, co2)) (h0 : co2 = 0) : co = 0 :=
 ck_all_lt hev h1 fun v hv => Nat.lt_of_le_of_lt (bd_mono q hmn v) (((ck_facts hev h2).2.2 h0).2 v hv).2
end Ty
end Go.Proofs.YtbecajihgbbgjaaDoor

namespace Go.Proofs.YtbecajihgbbgjaaDoor.K.Fl
set_option maxRecDepth 8000
open Go.RowKit Go.Proofs.YtbecajihgbbgjaaDoor.K

section
variable {P : Program} {ops : Array Oper} {w0 : World} {Q : Exit → Act → World → Prop}

theorem not_quiet {o : Oper} {a : Act} (hs : stillOp o = false) (hw : Region.wanted o (yielded ops a.tmps) = true) : ¬ quietNow ops o a := by
 rintro (h1 | h1)
 ·rw [hs] at h1; cases h1
 ·rw [hw] at h1; cases h1
end


end Go.Proofs.YtbecajihgbbgjaaDoor.K.Fl

namespace Go.Proofs.YtbecajihgbbgjaaDoor
set_option maxRecDepth 8000
open Go.RowKit Go.Proofs.YtbecajihgbbgjaaDoor.K
/-- a block whose first cells are heads -/
structure RawOk (cur : Array Value) (n c : Nat) (hs : List Hd) : Prop where
 len : hs.length = n
 cap : n ≤ c
 top : c ≤ 9223372036854775807
 at_ : ∀ (i : Nat) (h : Hd), hs[i]? = some h → cur[i]? = some (.slice h.A h.n h.c)
theorem RawOk.set0 {cur : Array Value} {n c : Nat} {hs : List Hd} (h : RawOk cur n c hs) (u : Hd) : RawOk (cur.setIfInBounds 0 (.slice u.A u.n u.c)) n c (hs.set 0 u) := by
 refine ⟨by rw [List.length_set]; exact h.len, h.cap, h.top, fun i d hi => ?_⟩
 rw [List.getElem?_set] at hi
 by_cases h0 : 0 = i
 ·subst h0
  rw [if_pos rfl] at hi
  split at hi
  ·next hl =>
   injection hi with hi
   subst hi
   obtain ⟨d0, hd0⟩ : ∃ d, hs[0]? = some d := ⟨_, List.getElem?_eq_getElem hl⟩
   have h1 := h.at_ 0 d0 hd0
   have h2 := (Array.getElem?_eq_some_iff.1 h1).1
   simp [h2]
  ·cases hi
 ·rw [if_neg h0] at hi
  rw [Array.getElem?_setIfInBounds, if_neg h0]
  exact h.at_ i d hi
theorem RawOk.first {cur : Array Value} {n c : Nat} {hs : List Hd} (h : RawOk cur n c hs) (hn : 0 < n) : ∃ v, cur[0]? = some v := by
 obtain ⟨d0, hd0⟩ : ∃ d, hs[0]? = some d := ⟨_, List.getElem?_eq_getElem (by rw [h.len]; exact hn)⟩
 exact ⟨_, h.at_ 0 d0 hd0⟩
section
variable {w w' : World} {base g n c : Nat} {A : Option Addr} {cur : Array Value} {hs : List Hd} {fs : List (List Qu.Cd)}
theorem FsOwn.raw (h : FsOwn w base (.slice A n c) fs) (hn : 0 < n) : ∃ g cur hs, A = some ⟨g, 0, none⟩ ∧ base ≤ g ∧ w.heap[g]? = some (.cells cur 44 (0, 0)) ∧ RawOk cur n c hs ∧ OwnsC w 49 base hs fs := by
 obtain ⟨A2, c2, hs, he, ho, hc⟩ := h
 injection he with e1 e2 e3
 subst e1 e2 e3
 rcases ho.2 with ⟨_, h0⟩ | ⟨g, cap, cur, e, hb, hg, hnc, hm, hsz, ht⟩
 ·omega
 ·injection e with e1 _ e3
  subst e1 e3
  refine ⟨g, cur, hs, rfl, hb, hg, ⟨hc.len, hnc, by unfold maxLen at hm; omega, fun i d hi => ?_⟩, hc⟩
  have h1 : i < hs.length := (List.getElem?_eq_some_iff.1 hi).1
  have h2 : (fl hdC hs)[i]? = some (.slice d.A d.n d.c) := by
   have h3 := fl_get (E := hdC) (k := 1) hi 0 (by decide)
   rw [Nat.mul_one, Nat.add_zero] at h3
   exact h3
  rw [← ht, List.getElem?_take, Nat.mul_one] at h2
  split at h2
  ·simpa using h2
  ·cases h2
theorem sg_raw (hr : w.heap[g]? = some (.cells cur 44 (0, 0))) (h : RawOk cur n c hs) : Sg hdC 1 w (some ⟨g, 0, none⟩) n c hs :=
 ⟨h.len, h.cap, h.top, fun e => (by cases e), fun i x hx => ⟨g, 0, rfl, fun j v hv => by
  have h1 := h.at_ i x hx
  rcases j with _ | j
  ·injection hv with hv
   subst hv
   rw [Nat.mul_one, Nat.zero_add, Nat.add_zero]
   exact cells_at hr i h1
  ·simp [hdC] at hv⟩⟩
theorem OwnsC.sgi {i : Nat} {d : Hd} {l : List Qu.Cd} (h : OwnsC w 49 base hs fs) (hi : hs[i]? = some d) (hx : fs[i]? = some l) : Sg ciC 3 w d.A d.n d.c (l.map Qu.Cd.ci) := by
 have h2 := (h.row i d l hi hx).2
 rw [← fl_ci] at h2
 exact Sg.ownS h2
theorem fsr_raw (hr : w.heap[g]? = some (.cells cur 44 (0, 0))) (h : RawOk cur n c hs) (hoc : OwnsC w 49 base hs fs) : FsR w (some ⟨g, 0, none⟩) n c hs (fs.map (List.map Qu.Cd.ci)) :=
 ⟨sg_raw hr h, by rw [List.length_map]; exact hoc.len, fun i d xs hi hx => by
  rw [List.getElem?_map] at hx
  obtain ⟨ys, hy, rfl⟩ := Option.map_eq_some_iff.1 hx
  exact hoc.sgi hi hy⟩
theorem fsr_set0 {u : Hd} {l : List Qu.Cd} (hr : w.heap[g]? = some (.cells cur 44 (0, 0))) (h : RawOk cur n c (hs.set 0 u)) (hoc : OwnsC w 49 base hs fs) (hu : Sg ciC 3 w u.A u.n u.c (l.map Qu.Cd.ci)) : FsR w (some ⟨g, 0, none⟩) n c (hs.set 0 u) ((fs.set 0 l).map (List.map Qu.Cd.ci)) :=
 ⟨sg_raw hr h, by rw [List.length_map, List.length_set, List.length_set]; exact hoc.len, fun i d xs hi hx => by
  rw [List.getElem?_map] at hx
  obtain ⟨ys, hy, rfl⟩ := Option.map_eq_some_iff.1 hx
  rw [List.getElem?_set] at hi hy
  by_cases h0 : 0 = i
  ·subst h0
   rw [if_pos rfl] at hi hy
   split at hi
   ·split at hy
    ·injection hi with hi
     injection hy with hy
     subst hi hy
     exact hu
    ·cases hy
   ·cases hi
  ·rw [if_neg h0] at hi hy
   exact hoc.sgi hi hy⟩
end
theorem OkQ.set0 {kd cl kk : Nat} {fs : List (List Qu.Cd)} {l : List Qu.Cd} (h : OkQ ⟨kd, cl, kk, fs⟩) (hl : l.length ≤ 3 ∧ ∀ c ∈ l, OkC c) : OkQ ⟨kd, cl, kk, fs.set 0 l⟩ :=
 ⟨h.k1, h.k7, h.c1, h.c0, h.m1, h.m0, by show (fs.set 0 l).length = _; rw [List.length_set]; exact h.nf, fun x hx => by
  rcases List.mem_or_eq_of_mem_set hx with e | e
  ·exact h.ok x e
  ·rw [e]; exact hl⟩
theorem OkQ.fs {kd cl kk : Nat} {fs fx : List (List Qu.Cd)} (h : OkQ ⟨kd, cl, kk, fs⟩) (hl : fx.length = fs.length) (hok : ∀ l ∈ fx, l.length ≤ 3 ∧ ∀ c ∈ l, OkC c) : OkQ ⟨kd, cl, kk, fx⟩ :=
 ⟨h.k1, h.k7, h.c1, h.c0, h.m1, h.m0, hl.trans h.nf, hok⟩
theorem madeCond_d (a b c : Int) (dc dl dh : Nat) (hd : Qu.mdC ⟨a, b, c⟩ = ⟨dc, dl, dh⟩) (w : World) : Calls Tryd.prog 23 #[.agg #[.int .i64 a, .int .i64 b, .int .i64 c]] w fun e w' => e = .returned (.agg #[.int .i64 (dc : Int), .int .i64 (dl : Int), .int .i64 (dh : Int)]) ∧ Below w.heap.size w w' := by
 have h := madeCond_any a b c w
 rw [hd] at h
 exact h
end Go.Proofs.YtbecajihgbbgjaaDoor

namespace Go.Proofs.YtbecajihgbbgjaaDoor
set_option maxRecDepth 8000
open Go.RowKit Go.Proofs.YtbecajihgbbgjaaDoor.K
attribute [local irreducible] wpList wpQuiet
namespace Ty
end Ty
theorem FsOwn.grown {w w' : World} {base b0 size n : Nat} {e : TypeId} {v u : Value} {fs : List (List Qu.Cd)} {cs : List Value} (h : FsOwn w base v fs) (ho : w.ownsRow b0 e size u n cs) (hg : w.grownBy w' u.ownBlock) (h1 : 44 ≠ e) (h2 : 49 ≠ e) : FsOwn w' base v fs := by
 obtain ⟨A, c, hs, hv, hown, hoc⟩ := h
 exact ⟨A, c, hs, hv, own_growT hown ho hg h1, hoc.grown ho hg h2⟩
end Go.Proofs.YtbecajihgbbgjaaDoor

namespace Go.Proofs.YtbecajihgbbgjaaDoor
set_option maxRecDepth 8000
open Go.RowKit Go.Proofs.YtbecajihgbbgjaaDoor.K
attribute [local irreducible] wpList wpQuiet
namespace Ty
theorem un_ru {kd cl kk v : Nat} {fs : List (List Qu.Cd)} {l : List Qu.Cd} (hn : 0 < fs.length) (hv : v < 16) : ruN ⟨kd, cl, kk, fs.set 0 l⟩ v = l := by
 refine ru_of ?_
 show (fs.set 0 l)[v / 16]? = some l
 rw [show v / 16 = 0 by omega, List.getElem?_set, if_pos rfl, if_pos hn]
end Ty
end Go.Proofs.YtbecajihgbbgjaaDoor

namespace Go.Proofs.YtbecajihgbbgjaaDoor
set_option maxRecDepth 8000
open Go.RowKit Go.Proofs.YtbecajihgbbgjaaDoor.K
attribute [local irreducible] wpList wpQuiet
/-- a list of integers of somebody's own, whose block holds such alone -/
def OwZ (w : World) (A : Option Addr) (n c : Nat) (xs : List Int) : Prop := ∃ base, w.ownsRow base 2 1 (.slice A n c) n (fl zzC xs)
section
variable {w w' : World} {A : Option Addr} {n c : Nat} {xs : List Int}
theorem OwZ.keep (h : OwZ w A n c xs) (hb : Below w.heap.size w w') : OwZ w' A n c xs := by
 obtain ⟨b, h⟩ := h
 exact ⟨b, own_keep h hb⟩
theorem OwZ.sg (h : OwZ w A n c xs) : Sg zzC 1 w A n c xs := by
 obtain ⟨b, h⟩ := h
 exact Sg.ownS h
theorem OwZ.store {b : Nat} {ds : Array Value} {u : TypeId} (h : OwZ w A n c xs) (hb : w.heap[b]? = some (.cells ds u (0, 0))) (hne : u ≠ 2) (hfar : ∀ k o, k ≠ b → w.heap[k]? = some o → w'.heap[k]? = some o) : OwZ w' A n c xs := by
 obtain ⟨b0, h⟩ := h
 exact ⟨b0, own_farT h hb hne hfar⟩
theorem OwZ.grown {b0 size m : Nat} {e : TypeId} {v : Value} {cs : List Value} (h : OwZ w A n c xs) (ho : w.ownsRow b0 e size v m cs) (hg : w.grownBy w' v.ownBlock) (hne : 2 ≠ e) : OwZ w' A n c xs := by
 obtain ⟨b, h⟩ := h
 exact ⟨b, own_growT h ho hg hne⟩
theorem OwZ.nil : OwZ w none 0 0 [] := ⟨0, own_nil⟩
theorem OwZ.row {g : Nat} {t : List Int} (h : RowG zzC w g 2 t) (hn : t.length = n) (hm : n ≤ 32) : OwZ w (some ⟨g, 0, none⟩) n n t :=
 ⟨0, by rw [Nat.mul_one]; show (t.flatMap zzC).length = n; rw [fl_length (k := 1), hn, Nat.mul_one], .inr ⟨g, n, _, rfl, Nat.zero_le _, RowG.h h, Nat.le_refl _, by unfold maxLen; omega, by
  show (t.flatMap zzC).toArray.size = n * 1
  rw [List.size_toArray, fl_length (k := 1), hn], by
  rw [List.toList_toArray, List.take_of_length_le (by rw [fl_length (k := 1), hn]; exact Nat.le_refl _)]⟩⟩
end
set_option maxRecDepth 100000 in
set_option maxHeartbeats 32000000 in
theorem check_own (kd col k : Nat) (A : Option Addr) (n c : Nat) (hs : List Hd) (fs : List (List Qu.Cd)) (hq : OkQ ⟨kd, col, k, fs⟩) (rows : Nat) (hrows : rows ≤ 65536) (r : List Nat × Nat) (hr : Ty.ckN ⟨kd, col, k, fs⟩ rows = r) (w : World) (hF : FsR w A n c hs (fs.map (List.map Qu.Cd.ci))) (hG : Gw5 w) (hC : Gc w) :
  Calls Tryd.prog 11 #[.agg #[.int .i64 (kd : Int), .int .i64 (col : Int), .int .i64 (k : Int), .slice A n c], .int .i64 (rows : Int)] w fun e w' => ∃ A2 n2 c2, e = .returned (.tuple #[.agg #[.slice A2 n2 c2], .int .i64 (r.2 : Int)]) ∧ OwZ w' A2 n2 c2 (Ty.zs r.1) ∧ Below w.heap.size w w' := by
 have HFR := zh hF
 have HG := zh hG
 have HGC := zh hC
 have HR := zh hr
 have HOK := zh hq
 have HV := zh (vQ_of ⟨kd, col, k, fs⟩ hq)
 have hk1 : 1 ≤ kd := hq.k1
 have hk7 : kd ≤ 7 := hq.k7
 have hcol : col < 4 := okQ_col hq
 have hkk : k ≤ 65536 := okQ_k hq
 have hnf : fs.length = Qu.numF kd := hq.nf
 have hln := hF.sg.len
 have hlc := hF.sg.cap
 have hlt := hF.sg.top
 have hfl := hF.len
 rw [List.length_map] at hfl
 clear hF hG hC hr hq
 obtain ⟨sm, hsm⟩ : ∃ z, Ty.suN kd = z := ⟨_, rfl⟩
 have HSM := zh hsm
 clear hsm
 obtain ⟨gb, hgb⟩ : ∃ z, Ty.grN kd = z := ⟨_, rfl⟩
 have HGB := zh hgb
 clear hgb
 obtain ⟨f, hf⟩ : ∃ z, kfN kd = z := ⟨_, rfl⟩
 have HKF := zh hf
 clear hf
 obtain ⟨bd, hbd⟩ : ∃ f, Ty.bdN ⟨kd, col, k, fs⟩ rows = f := ⟨_, rfl⟩
 have HBD := zh hbd
 clear hbd
 have hsm : sm ≤ 32 := by rw [← HSM.out]; exact Ty.su_le kd
 have HROW : Hid (kindV kd = .agg #[.int .i64 (sm : Int), .bool gb, .func (.func f) #[] #[]]) := zh (by rw [kindV, HSM.out, HGB.out, HKF.out])
 go_enter Tryd.func11, Tryd.ntmps11
 go_upto_region 1 with fail
 refine wp_named2 (fun V1 hb g0 g1 hlt => ?_)
 have B0 := zh hb
 have Fv0_2 : Hid (V1.heap[w.heap.size]? = some (.cells #[.int .i64 (kd : Int), .int .i64 (col : Int), .int .i64 (k : Int), .slice A n c] 24 (0, 0))) := zh (g0)
 have Fv1_4 : Hid (V1.heap[(w.heap.size + 1)]? = some (.cells #[.slice none 0 0] 29 (0, 0))) := zh (g1)
 have Nb0_1 : Hid (w.heap.size ≠ (w.heap.size + 1)) := zh (by omega)
 have Gb0 : Hid (w.heap.size ≤ w.heap.size) := zh (by omega)
 have Gb1 : Hid (w.heap.size ≤ (w.heap.size + 1)) := zh (by omega)
 clear hb g0 g1 hlt
 have Lt0 : Hid (w.heap.size < V1.heap.size) := zh (xp_lt Fv0_2.out)
 have Lt1 : Hid ((w.heap.size + 1) < V1.heap.size) := zh (xp_lt Fv1_4.out)
 have hci2 : ¬ ((rows : Int) < 0) := by omega
 have hci3 : ¬ ((rows : Int) > 65536) := by omega
 refine wp_region_lit ?_
 refine zr (.agg #[.int .i64 (kd : Int), .int .i64 (col : Int), .int .i64 (k : Int), .slice A n c]) V1 (xo_loadW w.heap.size _ Fv0_2.out Tryd.underlying24 rfl (by kernel_rfl) rfl rfl) ?_
 simp only [Act.put, zA]
 refine wpList_call (by kernel_rfl) 30 Tryd.func30 (by kernel_rfl) (by kernel_rfl) _ _ #[.agg #[.int .i64 (kd : Int), .int .i64 (col : Int), .int .i64 (k : Int), .slice A n c]] rfl (by kernel_rfl) ?_
 refine (valid_as (kd : Int) (col : Int) (k : Int) A n c hs (fs.map (List.map Qu.Cd.ci)) true HV.out V1 (HGC.out.keep B0.out) (HFR.out.keep B0.out)).mono ?_
 rintro e V2 ⟨rfl, hb⟩
 have B1 := zh hb
 clear hb 
 refine ⟨_, rfl, ?_⟩
 simp only [Act.put, zA]
 refine zr (.bool false) V2 rfl ?_
 simp only [Act.put, zA]
 refine zr (.bool false) V2 rfl ?_
 simp only [Act.put, zA]
 refine zr (.int .i64 (rows : Int)) V2 rfl ?_
 simp only [Act.put, zA]
 refine zr (.bool false) V2 (xo_lssF .i64 (rows : Int) 0 (by omega) rfl rfl rfl) ?_
 simp only [Act.put, zA]
 refine zr (.bool false) V2 rfl ?_
 simp only [Act.put, zA]
 refine zr (.bool false) V2 rfl ?_
 simp only [Act.put, zA]
 refine zr (.int .i64 (rows : Int)) V2 rfl ?_
 simp only [Act.put, zA]
 refine zr (.bool false) V2 (xo_gtrF .i64 (rows : Int) 65536 (by omega) rfl rfl rfl) ?_
 simp only [Act.put, zA]
 refine zr (.bool false) V2 rfl ?_
 simp only [Act.put, zA]
 refine wpList_nil ?_
 obtain ⟨wa, rfl⟩ : ∃ W, W = V2 := ⟨_, rfl⟩
 go_upto_region 3 with fail
 refine wp_cutP (α := Nat × Nat) (fun ⟨kb, b6⟩ => [(23, .map (some kb)), (24, .pointer (some ⟨w.heap.size, 0, none⟩)), (25, .int .i64 (kd : Int)), (26, .agg #[.int .i64 (sm : Int), .bool gb, .func (.func f) #[] #[]]), (6, .pointer (some ⟨b6, 0, none⟩))]) (fun ⟨_, b6⟩ W => Below wa.heap.size wa W ∧ wa.heap.size ≤ b6 ∧ W.heap[b6]? = some (.cells #[.int .i64 (sm : Int), .bool gb, .func (.func f) #[] #[]] 63 (0, 0))) ?_ ?_
 ·have T4 := zh (heap_keep Fv0_2.out B1.out)
  have T4l : Hid (w.heap.size < wa.heap.size) := zh (xp_lt T4.out)
  try simp only [List.append_eq, List.cons_append, List.nil_append]
  refine wp_ordM 5 (.q 1 (.q 2 (.fork 0 (.fork 3 (.one 4 .nil) 4 (.one 3 .nil)) 4 (.one 0 (.one 3 .nil))))) (by kernel_rfl) (by kernel_rfl) (by kernel_rfl) (by kernel_rfl) (by kernel_rfl) (by kernel_rfl) (by kernel_rfl) (fun V1 hb => ?_)
  have B0 := zh hb
  clear hb
  refine wpOT_q (.pointer (some ⟨w.heap.size, 0, none⟩)) rfl (by kernel_rfl) (fun v hW => (xo_fld0 0 w.heap.size 0 (by kernel_rfl) rfl rfl)) ?_
  simp only [ptr, Act.put, zA]
  refine wpOT_q (.int .i64 (kd : Int)) rfl (by kernel_rfl) (fun v hW => (xo_load1 ⟨w.heap.size, 0, none⟩ _ (cells_at (heap_keep (heap_keep T4.out B0.out) hW) 0 rfl) Tryd.underlying3 rfl rfl rfl)) ?_
  simp only [ptr, Act.put, zA]
  refine wpOT_fork ?_ ?_
  ·refine wpOT_one rfl (by kernel_rfl) ?_
   refine hOp_call 31 Tryd.func31 (by kernel_rfl) (by kernel_rfl) _ _ #[] rfl (by kernel_rfl) ?_
   refine (kinds_as V1).mono ?_
   rintro e V2 ⟨kb, rfl, hge, hkm, hb⟩
   have B1 := zh hb
   clear hge
   have HKm := zh hkm
   clear hb hkm
   refine ⟨_, rfl, B1.out, ?_⟩
   simp only [ptr, Act.put, zA]
   refine wpOT_fork ?_ ?_
   ·refine wpOT_one rfl (by kernel_rfl) ?_
    refine hOp_val (.agg #[.int .i64 (sm : Int), .bool gb, .func (.func f) #[] #[]]) (xm_lookup kb [kindE 1, kindE 2, kindE 3, kindE 4, kindE 5, kindE 6, kindE 7] 7 (kd : Int) (kd - 1) (.agg #[.int .i64 (sm : Int), .bool gb, .func (.func f) #[] #[]]) HKm.out ((kinds_find kd (by omega) (by omega)).trans (by rw [HROW.out])) Tryd.underlying64 Tryd.underlying3 rfl rfl rfl) ⟨B1.out, ?_⟩
    simp only [ptr, Act.put, zA]
    refine wpOT_one rfl (by kernel_rfl) ?_
    refine hOp_new #[.int .i64 0, .bool false, .nilFunc] 63 (xo_alloc #[.int .i64 0, .bool false, .nilFunc] (by kernel_rfl) rfl) ?_
    intro b6 V3 hge h0 hb
    have C0_2 := zb B0 B1
    have N4_0 : Hid (w.heap.size ≠ b6) := zh (xp_lt0 (heap_keep T4.out C0_2.out) hge)
    have Ge5 : Hid (V2.heap.size ≤ b6) := zh hge
    have B2 := zh hb
    have Fv6_6 : Hid (V3.heap[b6]? = some (.cells #[.int .i64 0, .bool false, .nilFunc] 63 (0, 0))) := zh (h0)
    have Lt7 : Hid (b6 < V3.heap.size) := zh (xp_lt Fv6_6.out)
    clear hge h0 hb
    have C1_3 := zb B1 B2
    refine ⟨C1_3.out, ?_⟩
    try simp only [ptr, Act.put, zA]
    refine wpOT_nil ?_
    have HG6 := zh (Nat.le_trans C0_2.out.size Ge5.out)
    have hfs := Fv6_6.out
    have hgb := (Nat.le_trans C0_2.out.size Ge5.out)
    have C0_3 := zb C0_2 B2
    have hbs := C0_3.out
    have hfar : ∀ k o, k ≠ b6 → V3.heap[k]? = some o → (V3.setRow b6 #[.int .i64 (sm : Int), .bool gb, .func (.func f) #[] #[]]).heap[k]? = some o := fun k o hk h0 => heap_farRow h0 hk _
    refine mOp_run0 _ rfl rfl (xo_storeW b6 #[.int .i64 0, .bool false, .nilFunc] #[.int .i64 (sm : Int), .bool gb, .func (.func f) #[] #[]] hfs (by kernel_rfl) rfl (by simp [Value.oneCell']) rfl rfl rfl) ?_
    try simp only [List.getElem_toArray, List.getElem_cons_succ, List.getElem_cons_zero, ptr, Act.put, zA]
    have hfn := setRow_heap V3 b6 _ #[.int .i64 (sm : Int), .bool gb, .func (.func f) #[] #[]] _ _ hfs
    have hbn := bel_setRow hbs hgb #[.int .i64 (sm : Int), .bool gb, .func (.func f) #[] #[]]
    clear hfar
    generalize V3.setRow b6 #[.int .i64 (sm : Int), .bool gb, .func (.func f) #[] #[]] = X8 at *
    have Gt9 : Hid (wa.heap.size ≤ b6) := zh (Nat.le_trans C0_2.out.size Ge5.out)
    have hbr := hbn
    clear B0
    have B0 := zh hbr
    clear hbr
    clear Fv6_6
    have Fv6_6 : Hid (X8.heap[b6]? = some (.cells #[.int .i64 (sm : Int), .bool gb, .func (.func f) #[] #[]] 63 (0, 0))) := zh hfn
    clear hfs hgb hbs hfn hbn
    refine ⟨(kb, b6), ?_, B0.out, HG6.out, Fv6_6.out⟩
    simp only [putL, ptr, Act.put, zA] <;> rfl
   ·refine wpOT_one rfl (by kernel_rfl) ?_
    refine hOp_new #[.int .i64 0, .bool false, .nilFunc] 63 (xo_alloc #[.int .i64 0, .bool false, .nilFunc] (by kernel_rfl) rfl) ?_
    intro b6 V3 hge h0 hb
    have C0_2 := zb B0 B1
    have N4_0 : Hid (w.heap.size ≠ b6) := zh (xp_lt0 (heap_keep T4.out C0_2.out) hge)
    have Ge5 : Hid (V2.heap.size ≤ b6) := zh hge
    have B2 := zh hb
    have Fv6_6 : Hid (V3.heap[b6]? = some (.cells #[.int .i64 0, .bool false, .nilFunc] 63 (0, 0))) := zh (h0)
    have Lt7 : Hid (b6 < V3.heap.size) := zh (xp_lt Fv6_6.out)
    clear hge h0 hb
    have C1_3 := zb B1 B2
    refine ⟨C1_3.out, ?_⟩
    try simp only [ptr, Act.put, zA]
    refine wpOT_one rfl (by kernel_rfl) ?_
    refine hOp_val (.agg #[.int .i64 (sm : Int), .bool gb, .func (.func f) #[] #[]]) (xm_lookup kb [kindE 1, kindE 2, kindE 3, kindE 4, kindE 5, kindE 6, kindE 7] 7 (kd : Int) (kd - 1) (.agg #[.int .i64 (sm : Int), .bool gb, .func (.func f) #[] #[]]) (heap_keep HKm.out B2.out) ((kinds_find kd (by omega) (by omega)).trans (by rw [HROW.out])) Tryd.underlying64 Tryd.underlying3 rfl rfl rfl) ⟨C1_3.out, ?_⟩
    simp only [ptr, Act.put, zA]
    refine wpOT_nil ?_
    have HG6 := zh (Nat.le_trans C0_2.out.size Ge5.out)
    have hfs := Fv6_6.out
    have hgb := (Nat.le_trans C0_2.out.size Ge5.out)
    have C0_3 := zb C0_2 B2
    have hbs := C0_3.out
    have hfar : ∀ k o, k ≠ b6 → V3.heap[k]? = some o → (V3.setRow b6 #[.int .i64 (sm : Int), .bool gb, .func (.func f) #[] #[]]).heap[k]? = some o := fun k o hk h0 => heap_farRow h0 hk _
    refine mOp_run0 _ rfl rfl (xo_storeW b6 #[.int .i64 0, .bool false, .nilFunc] #[.int .i64 (sm : Int), .bool gb, .func (.func f) #[] #[]] hfs (by kernel_rfl) rfl (by simp [Value.oneCell']) rfl rfl rfl) ?_
    try simp only [List.getElem_toArray, List.getElem_cons_succ, List.getElem_cons_zero, ptr, Act.put, zA]
    have hfn := setRow_heap V3 b6 _ #[.int .i64 (sm : Int), .bool gb, .func (.func f) #[] #[]] _ _ hfs
    have hbn := bel_setRow hbs hgb #[.int .i64 (sm : Int), .bool gb, .func (.func f) #[] #[]]
    clear hfar
    generalize V3.setRow b6 #[.int .i64 (sm : Int), .bool gb, .func (.func f) #[] #[]] = X8 at *
    have Gt9 : Hid (wa.heap.size ≤ b6) := zh (Nat.le_trans C0_2.out.size Ge5.out)
    have hbr := hbn
    clear B0
    have B0 := zh hbr
    clear hbr
    clear Fv6_6
    have Fv6_6 : Hid (X8.heap[b6]? = some (.cells #[.int .i64 (sm : Int), .bool gb, .func (.func f) #[] #[]] 63 (0, 0))) := zh hfn
    clear hfs hgb hbs hfn hbn
    refine ⟨(kb, b6), ?_, B0.out, HG6.out, Fv6_6.out⟩
    simp only [putL, ptr, Act.put, zA] <;> rfl
  ·refine wpOT_one rfl (by kernel_rfl) ?_
   refine hOp_new #[.int .i64 0, .bool false, .nilFunc] 63 (xo_alloc #[.int .i64 0, .bool false, .nilFunc] (by kernel_rfl) rfl) ?_
   intro b6 V2 hge h0 hb
   have N4_0 : Hid (w.heap.size ≠ b6) := zh (xp_lt0 (heap_keep T4.out B0.out) hge)
   have Ge5 : Hid (V1.heap.size ≤ b6) := zh hge
   have B1 := zh hb
   have Fv6_6 : Hid (V2.heap[b6]? = some (.cells #[.int .i64 0, .bool false, .nilFunc] 63 (0, 0))) := zh (h0)
   have Lt7 : Hid (b6 < V2.heap.size) := zh (xp_lt Fv6_6.out)
   clear hge h0 hb
   refine ⟨B1.out, ?_⟩
   try simp only [ptr, Act.put, zA]
   refine wpOT_one rfl (by kernel_rfl) ?_
   refine hOp_call 31 Tryd.func31 (by kernel_rfl) (by kernel_rfl) _ _ #[] rfl (by kernel_rfl) ?_
   refine (kinds_as V2).mono ?_
   rintro e V3 ⟨kb, rfl, hge, hkm, hb⟩
   have B2 := zh hb
   clear hge
   have HKm := zh hkm
   clear hb hkm
   have C1_3 := zb B1 B2
   refine ⟨_, rfl, C1_3.out, ?_⟩
   simp only [ptr, Act.put, zA]
   refine wpOT_one rfl (by kernel_rfl) ?_
   refine hOp_val (.agg #[.int .i64 (sm : Int), .bool gb, .func (.func f) #[] #[]]) (xm_lookup kb [kindE 1, kindE 2, kindE 3, kindE 4, kindE 5, kindE 6, kindE 7] 7 (kd : Int) (kd - 1) (.agg #[.int .i64 (sm : Int), .bool gb, .func (.func f) #[] #[]]) HKm.out ((kinds_find kd (by omega) (by omega)).trans (by rw [HROW.out])) Tryd.underlying64 Tryd.underlying3 rfl rfl rfl) ⟨C1_3.out, ?_⟩
   simp only [ptr, Act.put, zA]
   refine wpOT_nil ?_
   have HG6 := zh (Nat.le_trans B0.out.size Ge5.out)
   have hfs := (heap_keep Fv6_6.out B2.out)
   have hgb := (Nat.le_trans B0.out.size Ge5.out)
   have C0_2 := zb B0 B1
   have C0_3 := zb C0_2 B2
   have hbs := C0_3.out
   have hfar : ∀ k o, k ≠ b6 → V3.heap[k]? = some o → (V3.setRow b6 #[.int .i64 (sm : Int), .bool gb, .func (.func f) #[] #[]]).heap[k]? = some o := fun k o hk h0 => heap_farRow h0 hk _
   refine mOp_run0 _ rfl rfl (xo_storeW b6 #[.int .i64 0, .bool false, .nilFunc] #[.int .i64 (sm : Int), .bool gb, .func (.func f) #[] #[]] hfs (by kernel_rfl) rfl (by simp [Value.oneCell']) rfl rfl rfl) ?_
   try simp only [List.getElem_toArray, List.getElem_cons_succ, List.getElem_cons_zero, ptr, Act.put, zA]
   have hfn := setRow_heap V3 b6 _ #[.int .i64 (sm : Int), .bool gb, .func (.func f) #[] #[]] _ _ hfs
   have hbn := bel_setRow hbs hgb #[.int .i64 (sm : Int), .bool gb, .func (.func f) #[] #[]]
   clear hfar
   generalize V3.setRow b6 #[.int .i64 (sm : Int), .bool gb, .func (.func f) #[] #[]] = X8 at *
   have Gt9 : Hid (wa.heap.size ≤ b6) := zh (Nat.le_trans B0.out.size Ge5.out)
   have hbr := hbn
   clear B0
   have B0 := zh hbr
   clear hbr
   clear Fv6_6
   have Fv6_6 : Hid (X8.heap[b6]? = some (.cells #[.int .i64 (sm : Int), .bool gb, .func (.func f) #[] #[]] 63 (0, 0))) := zh hfn
   clear hfs hgb hbs hfn hbn
   refine ⟨(kb, b6), ?_, B0.out, HG6.out, Fv6_6.out⟩
   simp only [putL, ptr, Act.put, zA] <;> rfl
 rintro ⟨kb, b6⟩ V3 ⟨hb0, hge, h0⟩
 simp only [putL, ptr, Act.put, zA]
 have hb := hb0
 clear hb0
 have N44_0 : Hid (w.heap.size ≠ b6) := zh (xp_lt0 (heap_keep Fv0_2.out B1.out) hge)
 have N45_1 : Hid ((w.heap.size + 1) ≠ b6) := zh (xp_lt0 (heap_keep Fv1_4.out B1.out) hge)
 have Ge46 : Hid (wa.heap.size ≤ b6) := zh hge
 have B2 := zh hb
 have Fv47_6 : Hid (V3.heap[b6]? = some (.cells #[.int .i64 (sm : Int), .bool gb, .func (.func f) #[] #[]] 63 (0, 0))) := zh (h0)
 have Lt48 : Hid (b6 < V3.heap.size) := zh (xp_lt Fv47_6.out)
 clear hge h0 hb
 by_cases ht : 4 ≤ kd ∧ kd ≤ 6 ∧ col % 2 = 1
 ·obtain rfl : gb = true := by rw [← HGB.out]; exact (Ty.gr_iff kd).2 (by omega)
  go_upto_region 4 with fail
  refine wp_region_lit ?_
  refine zr (.pointer (some ⟨b6, 1, none⟩)) V3 (xo_fld0 1 b6 1 (by kernel_rfl) rfl rfl) ?_
  simp only [Act.put, zA]
  refine zr (.bool true) V3 (xo_load1 ⟨b6, 1, none⟩ _ (cells_at Fv47_6.out 1 rfl) Tryd.underlying4 rfl rfl rfl) ?_
  simp only [Act.put, zA]
  refine zr (.bool true) V3 rfl ?_
  simp only [Act.put, zA]
  refine zr (.pointer (some ⟨w.heap.size, 1, none⟩)) V3 (xo_fld0 1 w.heap.size 1 (by kernel_rfl) rfl rfl) ?_
  simp only [Act.put, zA]
  have C1_3 := zb B1 B2
  refine zr (.int .i64 (col : Int)) V3 (xo_load1 ⟨w.heap.size, 1, none⟩ _ (cells_at (heap_keep Fv0_2.out C1_3.out) 1 rfl) Tryd.underlying3 rfl rfl rfl) ?_
  simp only [Act.put, zA]
  have C0_2 := zb B0 B1
  have C0_3 := zb C0_2 B2
  refine wpList_call (by kernel_rfl) 17 Tryd.func17 (by kernel_rfl) (by kernel_rfl) _ _ #[.int .i64 (col : Int)] rfl (by kernel_rfl) ?_
  refine (bits_as (col : Int) 8 (Ty.bt_odd hcol ht.2.2) V3 (HG.out.keep C0_3.out)).mono ?_
  rintro e W1 ⟨rfl, hw1⟩
  rw [hw1]
  clear hw1 W1
  refine ⟨_, rfl, ?_⟩
  simp only [Act.put, zA]
  refine zr (.bool true) V3 (xo_neqT .i64 8 4 (by omega) rfl rfl rfl) ?_
  simp only [Act.put, zA]
  refine zr (.bool true) V3 rfl ?_
  simp only [Act.put, zA]
  refine wpList_nil ?_
  go_upto_region 5 with fail
  refine wp_region_lit ?_
  refine zr (.agg #[.slice none 0 0]) V3 (by unfold execOp; go_simp <;> rfl) ?_
  simp only [Act.put, zA]
  refine wpList_storeW (w.heap.size + 1) #[.slice none 0 0] #[.slice none 0 0] 29 (by kernel_rfl) (heap_keep Fv1_4.out C1_3.out) (xo_storeW (w.heap.size + 1) #[.slice none 0 0] #[.slice none 0 0] (heap_keep Fv1_4.out C1_3.out) (by kernel_rfl) rfl (by simp [Value.oneCell']) rfl rfl rfl) ?_
  intro X3_49 h1 hfar hbel hsz
  have YFv0_2 : X3_49.heap[w.heap.size]? = some (.cells #[.int .i64 (kd : Int), .int .i64 (col : Int), .int .i64 (k : Int), .slice A n c] 24 (0, 0)) := hfar _ _ Nb0_1.out (heap_keep Fv0_2.out C1_3.out)
  have YFv47_6 : X3_49.heap[b6]? = some (.cells #[.int .i64 (sm : Int), .bool true, .func (.func f) #[] #[]] 63 (0, 0)) := hfar _ _ (Ne.symm N45_1.out) Fv47_6.out
  have Gs50 : Hid (w.heap.size ≤ b6) := zh (Nat.le_trans C0_2.out.size Ge46.out)
  have hbr := hbel _ _ Gb1.out C0_3.out
  clear B0
  have B0 := zh hbr
  clear hbr
  clear Fv0_2
  have Fv0_2 : Hid (X3_49.heap[w.heap.size]? = some (.cells #[.int .i64 (kd : Int), .int .i64 (col : Int), .int .i64 (k : Int), .slice A n c] 24 (0, 0))) := zh YFv0_2
  clear YFv0_2
  clear Fv47_6
  have Fv47_6 : Hid (X3_49.heap[b6]? = some (.cells #[.int .i64 (sm : Int), .bool true, .func (.func f) #[] #[]] 63 (0, 0))) := zh YFv47_6
  clear YFv47_6
  clear Fv1_4
  have Fv1_4 : Hid (X3_49.heap[(w.heap.size + 1)]? = some (.cells #[.slice none 0 0] 29 (0, 0))) := zh (h1)
  have HszX3_49 := zh hsz
  clear h1 hfar hbel hsz
  simp only [ptr, Act.put, zA]
  refine zr (.int .i64 140) X3_49 rfl ?_
  simp only [Act.put, zA]
  refine wpList_nil ?_
  have hck : r = ([], 140) := by rw [← HR.out]; exact Ty.ck_type ht
  subst hck
  have hbf := B0.out
  go_wp2_with fail
  refine bodyPost_ret (v := .tuple #[.agg #[.slice none 0 0], .int .i64 140]) ?_ rfl ⟨none, 0, 0, rfl, (show OwZ _ none 0 0 [] from OwZ.nil), hbf⟩
  exact results_row_tmp rfl _ _ (w.heap.size + 1) 29 _ (0, 0) _ _ rfl rfl Fv1_4.out Tryd.underlying29 rfl (by kernel_rfl)
 ·have C0_2 := zb B0 B1
  have Gr49 : Hid (w.heap.size ≤ b6) := zh (Nat.le_trans C0_2.out.size Ge46.out)
  go_upto_region 4 with fail
  go_cut [34] from 27 to 34 (fun s34 wx => s34 = .bool false ∧ wx.heap[w.heap.size]? = some (.cells #[.int .i64 (kd : Int), .int .i64 (col : Int), .int .i64 (k : Int), .slice A n c] 24 (0, 0)) ∧ wx.heap[(w.heap.size + 1)]? = some (.cells #[.slice none 0 0] 29 (0, 0)) ∧ wx.heap[b6]? = some (.cells #[.int .i64 (sm : Int), .bool gb, .func (.func f) #[] #[]] 63 (0, 0)) ∧ Below w.heap.size w wx)
  case first =>
   by_cases hgg : 4 ≤ kd ∧ kd ≤ 6
   ·obtain rfl : gb = true := by rw [← HGB.out]; exact (Ty.gr_iff kd).2 (by omega)
    refine wp_region_lit ?_
    refine zr (.pointer (some ⟨b6, 1, none⟩)) V3 (xo_fld0 1 b6 1 (by kernel_rfl) rfl rfl) ?_
    simp only [Act.put, zA]
    refine zr (.bool true) V3 (xo_load1 ⟨b6, 1, none⟩ _ (cells_at Fv47_6.out 1 rfl) Tryd.underlying4 rfl rfl rfl) ?_
    simp only [Act.put, zA]
    refine zr (.bool true) V3 rfl ?_
    simp only [Act.put, zA]
    refine zr (.pointer (some ⟨w.heap.size, 1, none⟩)) V3 (xo_fld0 1 w.heap.size 1 (by kernel_rfl) rfl rfl) ?_
    simp only [Act.put, zA]
    have C1_3 := zb B1 B2
    refine zr (.int .i64 (col : Int)) V3 (xo_load1 ⟨w.heap.size, 1, none⟩ _ (cells_at (heap_keep Fv0_2.out C1_3.out) 1 rfl) Tryd.underlying3 rfl rfl rfl) ?_
    simp only [Act.put, zA]
    have C0_3 := zb C0_2 B2
    refine wpList_call (by kernel_rfl) 17 Tryd.func17 (by kernel_rfl) (by kernel_rfl) _ _ #[.int .i64 (col : Int)] rfl (by kernel_rfl) ?_
    refine (bits_as (col : Int) 4 (Ty.bt_even hcol (by omega)) V3 (HG.out.keep C0_3.out)).mono ?_
    rintro e W1 ⟨rfl, hw1⟩
    rw [hw1]
    clear hw1 W1
    refine ⟨_, rfl, ?_⟩
    simp only [Act.put, zA]
    refine zr (.bool false) V3 (xo_neqF .i64 4 4 (by omega) rfl rfl rfl) ?_
    simp only [Act.put, zA]
    refine zr (.bool false) V3 rfl ?_
    simp only [Act.put, zA]
    refine wpList_nil ?_
    try have gb := true
    have hm50 := (heap_keep Fv0_2.out C1_3.out)
    have hm51 := (heap_keep Fv1_4.out C1_3.out)
    have hm52 := Fv47_6.out
    have hm53 := C0_3.out
    go_wp2_with fail
    go_meet
    case rel => exact ⟨rfl, hm50, hm51, hm52, hm53⟩
   ·obtain rfl : gb = false := by rw [← HGB.out]; exact Bool.eq_false_iff.2 (fun e => absurd ((Ty.gr_iff kd).1 e) hgg)
    refine wp_region_lit ?_
    refine zr (.pointer (some ⟨b6, 1, none⟩)) V3 (xo_fld0 1 b6 1 (by kernel_rfl) rfl rfl) ?_
    simp only [Act.put, zA]
    refine zr (.bool false) V3 (xo_load1 ⟨b6, 1, none⟩ _ (cells_at Fv47_6.out 1 rfl) Tryd.underlying4 rfl rfl rfl) ?_
    simp only [Act.put, zA]
    refine zr (.bool false) V3 rfl ?_
    simp only [Act.put, zA]
    refine zl ?_
    try simp only [Act.put, zA]
    refine zl ?_
    try simp only [Act.put, zA]
    refine zl ?_
    try simp only [Act.put, zA]
    refine zl ?_
    try simp only [Act.put, zA]
    refine zr (.bool false) V3 rfl ?_
    simp only [Act.put, zA]
    refine wpList_nil ?_
    have C1_3 := zb B1 B2
    have hm50 := (heap_keep Fv0_2.out C1_3.out)
    have hm51 := (heap_keep Fv1_4.out C1_3.out)
    have hm52 := Fv47_6.out
    have C0_3 := zb C0_2 B2
    have hm53 := C0_3.out
    go_wp2_with fail
    go_meet
    case rel => exact ⟨rfl, hm50, hm51, hm52, hm53⟩
  case rest =>
   obtain ⟨wc50, rfl⟩ : ∃ W, W = wc := ⟨_, rfl⟩
   obtain ⟨hs34, hr0, hr1, hr2, hb0⟩ := hcut
   have hbr := hb0
   clear B0
   have B0 := zh hbr
   clear hbr
   clear Fv0_2
   have Fv0_2 : Hid (wc50.heap[w.heap.size]? = some (.cells #[.int .i64 (kd : Int), .int .i64 (col : Int), .int .i64 (k : Int), .slice A n c] 24 (0, 0))) := zh (hr0)
   clear Fv1_4
   have Fv1_4 : Hid (wc50.heap[(w.heap.size + 1)]? = some (.cells #[.slice none 0 0] 29 (0, 0))) := zh (hr1)
   clear Fv47_6
   have Fv47_6 : Hid (wc50.heap[b6]? = some (.cells #[.int .i64 (sm : Int), .bool gb, .func (.func f) #[] #[]] 63 (0, 0))) := zh (hr2)
   clear hb0 hr0 hr1 hr2
   subst hs34
   go_upto_region 6 with fail
   refine wp_region_lit ?_
   refine zr (.pointer (some ⟨b6, 0, none⟩)) wc50 (xo_fld0 0 b6 0 (by kernel_rfl) rfl rfl) ?_
   simp only [Act.put, zA]
   refine zr (.int .i64 (sm : Int)) wc50 (xo_load1 ⟨b6, 0, none⟩ _ (cells_at Fv47_6.out 0 rfl) Tryd.underlying3 rfl rfl rfl) ?_
   simp only [Act.put, zA]
   refine wpList_mk (by kernel_rfl) ((List.replicate sm (0 : Int)).flatMap zzC).toArray 2 sm sm (xg_make (E := zzC) (bytes := 8) (.int .i64 0) (0 : Int) sm .i64 Tryd.underlying27 (by kernel_rfl) rfl (by omega) (by omega) rfl rfl rfl) ?_
   intro g38 V2 hge h0 hb
   have N52_0 : Hid (w.heap.size ≠ g38) := zh (xp_lt0 Fv0_2.out hge)
   have N53_1 : Hid ((w.heap.size + 1) ≠ g38) := zh (xp_lt0 Fv1_4.out hge)
   have N54_2 : Hid (b6 ≠ g38) := zh (xp_lt0 Fv47_6.out hge)
   have Ge55 : Hid (wc50.heap.size ≤ g38) := zh hge
   have B1 := zh hb
   have Fv56_38 : Hid (RowG zzC V2 g38 2 (List.replicate sm (0 : Int))) := zh (h0)
   have Lt57 : Hid (g38 < V2.heap.size) := zh (xp_lt Fv56_38.out)
   clear hge h0 hb
   simp only [ptr, Act.put, zA]
   refine zr (.slice (some ⟨g38, 0, none⟩) sm sm) V2 rfl ?_
   simp only [Act.put, zA]
   refine wpList_nil ?_
   have hz := Fv56_38.out
   rw [Ty.fil_0 bd sm] at hz
   clear Fv56_38
   have Fv56_38 : Hid (RowG zzC V2 g38 2 (Ty.filZ bd 0 sm)) := zh hz
   clear hz
   go_upto_region 7 with fail
   refine wp_region_lit ?_
   refine zr (.slice (some ⟨g38, 0, none⟩) sm sm) V2 rfl ?_
   simp only [Act.put, zA]
   refine zr (.int .i64 (sm : Int)) V2 (xo_len (some ⟨g38, 0, none⟩) sm sm Tryd.underlying27 rfl rfl) ?_
   simp only [Act.put, zA]
   refine zr (.int .i64 0) V2 rfl ?_
   simp only [Act.put, zA]
   refine wpList_nil ?_
   have O58 := (heap_keep Fv0_2.out B1.out)
   have O59 := (heap_keep Fv1_4.out B1.out)
   have O60 := (heap_keep Fv47_6.out B1.out)
   have O61 := Fv56_38.out
   have C0_2 := zb B0 B1
   have O62 := C0_2.out
   have Gr63 : Hid (w.heap.size ≤ g38) := zh (Nat.le_trans B0.out.size Ge55.out)
   go_wp2_with fail
   go_loopw [41] (fun p wr => ∃ i : Nat, i ≤ sm ∧ p = .int .i64 i ∧ (∀ v, v < i → bd v < 2 ^ 62) ∧ wr.heap[w.heap.size]? = some (.cells #[.int .i64 (kd : Int), .int .i64 (col : Int), .int .i64 (k : Int), .slice A n c] 24 (0, 0)) ∧ wr.heap[(w.heap.size + 1)]? = some (.cells #[.slice none 0 0] 29 (0, 0)) ∧ wr.heap[b6]? = some (.cells #[.int .i64 (sm : Int), .bool gb, .func (.func f) #[] #[]] 63 (0, 0)) ∧ RowG zzC wr g38 2 (Ty.filZ bd i sm) ∧ Below w.heap.size w wr) (fun p _ => sm - (intOf p).toNat)
   case atStart => exact ⟨0, Nat.zero_le _, rfl, (fun v h => absurd h (by omega)), O58, O59, O60, O61, O62⟩
   case round =>
    clear O58 O59 O60 O61 O62
    obtain ⟨wo, rfl⟩ : ∃ wo : World, wo = wr := ⟨_, rfl⟩
    obtain ⟨i, hi, rfl, hHALL, hr0, hr1, hr2, hr3, hb0⟩ := hrel
    have hbr := hb0
    clear B0
    have B0 := zh hbr
    clear hbr
    clear Fv0_2
    have Fv0_2 : Hid (wo.heap[w.heap.size]? = some (.cells #[.int .i64 (kd : Int), .int .i64 (col : Int), .int .i64 (k : Int), .slice A n c] 24 (0, 0))) := zh (hr0)
    clear Fv1_4
    have Fv1_4 : Hid (wo.heap[(w.heap.size + 1)]? = some (.cells #[.slice none 0 0] 29 (0, 0))) := zh (hr1)
    clear Fv47_6
    have Fv47_6 : Hid (wo.heap[b6]? = some (.cells #[.int .i64 (sm : Int), .bool gb, .func (.func f) #[] #[]] 63 (0, 0))) := zh (hr2)
    clear Fv56_38
    have Fv56_38 : Hid (RowG zzC wo g38 2 (Ty.filZ bd i sm)) := zh (hr3)
    have HALL := zh hHALL
    clear hb0 hr0 hr1 hr2 hr3 hHALL
    by_cases hism : i < sm
    ·have hci65 : ((i : Int) < (sm : Int)) := by omega
     have hi16 : i / 16 < fs.length := by rw [hnf]; exact Ty.su_num (by rw [HSM.out]; omega)
     obtain ⟨l, hl⟩ : ∃ l, fs[i / 16]? = some l := ⟨_, List.getElem?_eq_getElem hi16⟩
     have HLL := zh hl
     have HC4 : Hid (∀ e ∈ l, e.col < 4) := zh (fun e he => ((HOK.out.ok l (List.mem_of_getElem? hl)).2 e he).1)
     clear hl hi16
     obtain ⟨r0, hr0⟩ : ∃ z, bd i = z := ⟨_, rfl⟩
     have HR0 := zh hr0
     clear hr0
     go_upto_region 8 with fail
     refine wp_region_lit ?_
     refine zr (.bool true) wo (xo_lssT .i64 (i : Int) (sm : Int) (by omega) rfl rfl rfl) ?_
     simp only [Act.put, zA]
     refine wpList_nil ?_
     go_upto_region 9 with fail
     refine wp_region_lit ?_
     refine zr (.int .i64 (i : Int)) wo rfl ?_
     simp only [Act.put, zA]
     refine zr (.int .i64 (i : Int)) wo rfl ?_
     simp only [Act.put, zA]
     refine wpList_nil ?_
     by_cases hlim : r0 < 2 ^ 62
     ·go_upto_region 10 with fail
      refine wp_region_lit ?_
      refine zr (.agg #[.int .i64 (sm : Int), .bool gb, .func (.func f) #[] #[]]) wo (xo_loadW b6 _ Fv47_6.out Tryd.underlying63 rfl (by kernel_rfl) rfl rfl) ?_
      simp only [Act.put, zA]
      refine zr (.agg #[.int .i64 (kd : Int), .int .i64 (col : Int), .int .i64 (k : Int), .slice A n c]) wo (xo_loadW w.heap.size _ Fv0_2.out Tryd.underlying24 rfl (by kernel_rfl) rfl rfl) ?_
      simp only [Act.put, zA]
      refine zr (.int .i64 (rows : Int)) wo rfl ?_
      simp only [Act.put, zA]
      refine zr (.int .i64 (i : Int)) wo rfl ?_
      simp only [Act.put, zA]
      refine wpList_call (by kernel_rfl) 32 Tryd.func32 (by kernel_rfl) (by kernel_rfl) _ _ #[.agg #[.int .i64 (sm : Int), .bool gb, .func (.func f) #[] #[]], .agg #[.int .i64 (kd : Int), .int .i64 (col : Int), .int .i64 (k : Int), .slice A n c], .int .i64 (rows : Int), .int .i64 (i : Int)] rfl (by kernel_rfl) ?_
      refine (bound_as (sm : Int) gb f kd col k A n c hs fs rows i l HKF.out hk1 hk7 hcol hkk hrows (by omega) HLL.out HC4.out r0 (by rw [HBD.out]; exact HR0.out) true (decide_eq_true hlim) wo (HFR.out.keep B0.out) (HG.out.keep B0.out)).mono ?_
      rintro e V2 ⟨z, rfl, hz, hb⟩
      have B1 := zh hb
      obtain rfl := hz rfl
      clear hz
      clear hb 
      refine ⟨_, rfl, ?_⟩
      simp only [Act.put, zA]
      refine zr (.tuple #[.int .i64 (r0 : Int), .bool true]) V2 rfl ?_
      simp only [Act.put, zA]
      refine zr (.int .i64 (r0 : Int)) V2 rfl ?_
      simp only [Act.put, zA]
      refine zr (.bool true) V2 rfl ?_
      simp only [Act.put, zA]
      refine zr (.int .i64 (r0 : Int)) V2 rfl ?_
      simp only [Act.put, zA]
      refine zr (.bool true) V2 rfl ?_
      simp only [Act.put, zA]
      refine wpList_nil ?_
      go_upto_region 11 with fail
      refine wp_region_lit ?_
      refine zr (.bool true) V2 rfl ?_
      simp only [Act.put, zA]
      refine zr (.bool false) V2 rfl ?_
      simp only [Act.put, zA]
      refine wpList_nil ?_
      go_upto_region 13 with fail
      refine wp_region_lit ?_
      refine zr (.slice (some ⟨g38, 0, none⟩) sm sm) V2 rfl ?_
      simp only [Act.put, zA]
      refine zr (.int .i64 (i : Int)) V2 rfl ?_
      simp only [Act.put, zA]
      refine zr (.int .i64 (r0 : Int)) V2 rfl ?_
      simp only [Act.put, zA]
      refine zr (.pointer (some (gad (some ⟨g38, 0, none⟩) (i * 1)))) V2 (xg_idx .i64 (RowG.sg (n := sm) (c := sm) (Fv56_38.out.keep B1.out) (Ty.fil_len bd i sm) (Nat.le_refl _) (by omega)) (Ty.fil_at bd hism) Tryd.underlying27 (by kernel_rfl) rfl rfl rfl) ?_
      simp only [Act.put, zA]
      refine wpList_storeW g38 _ _ 2 (by kernel_rfl) (RowG.h (Fv56_38.out.keep B1.out)) (xg_store (Fv56_38.out.keep B1.out) (List.getElem?_eq_some_iff.1 (Ty.fil_at bd hism)).1 (r0 : Int) (by kernel_rfl) rfl rfl rfl) ?_
      intro X2_66 h1 hfar hbel hsz
      have YFv0_2 : X2_66.heap[w.heap.size]? = some (.cells #[.int .i64 (kd : Int), .int .i64 (col : Int), .int .i64 (k : Int), .slice A n c] 24 (0, 0)) := hfar _ _ N52_0.out (heap_keep Fv0_2.out B1.out)
      have YFv1_4 : X2_66.heap[(w.heap.size + 1)]? = some (.cells #[.slice none 0 0] 29 (0, 0)) := hfar _ _ N53_1.out (heap_keep Fv1_4.out B1.out)
      have YFv47_6 : X2_66.heap[b6]? = some (.cells #[.int .i64 (sm : Int), .bool gb, .func (.func f) #[] #[]] 63 (0, 0)) := hfar _ _ N54_2.out (heap_keep Fv47_6.out B1.out)
      have C0_2 := zb B0 B1
      have hbr := hbel _ _ Gr63.out C0_2.out
      clear B0
      have B0 := zh hbr
      clear hbr
      clear Fv0_2
      have Fv0_2 : Hid (X2_66.heap[w.heap.size]? = some (.cells #[.int .i64 (kd : Int), .int .i64 (col : Int), .int .i64 (k : Int), .slice A n c] 24 (0, 0))) := zh YFv0_2
      clear YFv0_2
      clear Fv1_4
      have Fv1_4 : Hid (X2_66.heap[(w.heap.size + 1)]? = some (.cells #[.slice none 0 0] 29 (0, 0))) := zh YFv1_4
      clear YFv1_4
      clear Fv47_6
      have Fv47_6 : Hid (X2_66.heap[b6]? = some (.cells #[.int .i64 (sm : Int), .bool gb, .func (.func f) #[] #[]] 63 (0, 0))) := zh YFv47_6
      clear YFv47_6
      clear Fv56_38
      have Fv56_38 : Hid (RowG zzC X2_66 g38 2 ((Ty.filZ bd i sm).set i (r0 : Int))) := zh (h1)
      have HszX2_66 := zh hsz
      clear h1 hfar hbel hsz
      simp only [ptr, Act.put, zA]
      refine wpList_nil ?_
      go_upto_region 14 with fail
      refine wp_region_lit ?_
      refine zr (.int .i64 ((i + 1 : Nat) : Int)) X2_66 (xo_addI (i : Int) 1 ((i + 1 : Nat) : Int) (by omega) (by omega) (by omega) rfl rfl rfl) ?_
      simp only [Act.put, zA]
      refine zr (.int .i64 ((i + 1 : Nat) : Int)) X2_66 rfl ?_
      simp only [Act.put, zA]
      refine wpList_nil ?_
      have hrw := Fv56_38.out
      rw [Ty.fil_set bd hism HR0.out] at hrw
      have hal : ∀ v, v < i + 1 → bd v < 2 ^ 62 := fun v hv => by
             by_cases he : v = i
             ·rw [he, HR0.out]; exact hlim
             ·exact HALL.out v (by omega)
      have hq67 := Fv0_2.out
      have hq68 := Fv1_4.out
      have hq69 := Fv47_6.out
      have hq70 := B0.out
      go_wp2_with fail
      go_roundw
      case rel => exact ⟨i + 1, by omega, by go_num, hal, hq67, hq68, hq69, hrw, hq70⟩
      case measure => simp [intOf]; omega
     ·go_upto_region 10 with fail
      refine wp_region_lit ?_
      refine zr (.agg #[.int .i64 (sm : Int), .bool gb, .func (.func f) #[] #[]]) wo (xo_loadW b6 _ Fv47_6.out Tryd.underlying63 rfl (by kernel_rfl) rfl rfl) ?_
      simp only [Act.put, zA]
      refine zr (.agg #[.int .i64 (kd : Int), .int .i64 (col : Int), .int .i64 (k : Int), .slice A n c]) wo (xo_loadW w.heap.size _ Fv0_2.out Tryd.underlying24 rfl (by kernel_rfl) rfl rfl) ?_
      simp only [Act.put, zA]
      refine zr (.int .i64 (rows : Int)) wo rfl ?_
      simp only [Act.put, zA]
      refine zr (.int .i64 (i : Int)) wo rfl ?_
      simp only [Act.put, zA]
      refine wpList_call (by kernel_rfl) 32 Tryd.func32 (by kernel_rfl) (by kernel_rfl) _ _ #[.agg #[.int .i64 (sm : Int), .bool gb, .func (.func f) #[] #[]], .agg #[.int .i64 (kd : Int), .int .i64 (col : Int), .int .i64 (k : Int), .slice A n c], .int .i64 (rows : Int), .int .i64 (i : Int)] rfl (by kernel_rfl) ?_
      refine (bound_as (sm : Int) gb f kd col k A n c hs fs rows i l HKF.out hk1 hk7 hcol hkk hrows (by omega) HLL.out HC4.out r0 (by rw [HBD.out]; exact HR0.out) false (decide_eq_false hlim) wo (HFR.out.keep B0.out) (HG.out.keep B0.out)).mono ?_
      rintro e V2 ⟨z, rfl, hz, hb⟩
      have B1 := zh hb
      clear hz
      clear hb 
      refine ⟨_, rfl, ?_⟩
      simp only [Act.put, zA]
      refine zr (.tuple #[.int .i64 z, .bool false]) V2 rfl ?_
      simp only [Act.put, zA]
      refine zr (.int .i64 z) V2 rfl ?_
      simp only [Act.put, zA]
      refine zr (.bool false) V2 rfl ?_
      simp only [Act.put, zA]
      refine zr (.int .i64 z) V2 rfl ?_
      simp only [Act.put, zA]
      refine zr (.bool false) V2 rfl ?_
      simp only [Act.put, zA]
      refine wpList_nil ?_
      go_upto_region 11 with fail
      refine wp_region_lit ?_
      refine zr (.bool false) V2 rfl ?_
      simp only [Act.put, zA]
      refine zr (.bool true) V2 rfl ?_
      simp only [Act.put, zA]
      refine wpList_nil ?_
      go_upto_region 12 with fail
      refine wp_region_lit ?_
      refine zr (.agg #[.slice none 0 0]) V2 (by unfold execOp; go_simp <;> rfl) ?_
      simp only [Act.put, zA]
      refine wpList_storeW (w.heap.size + 1) #[.slice none 0 0] #[.slice none 0 0] 29 (by kernel_rfl) (heap_keep Fv1_4.out B1.out) (xo_storeW (w.heap.size + 1) #[.slice none 0 0] #[.slice none 0 0] (heap_keep Fv1_4.out B1.out) (by kernel_rfl) rfl (by simp [Value.oneCell']) rfl rfl rfl) ?_
      intro X2_66 h1 hfar hbel hsz
      have YFv0_2 : X2_66.heap[w.heap.size]? = some (.cells #[.int .i64 (kd : Int), .int .i64 (col : Int), .int .i64 (k : Int), .slice A n c] 24 (0, 0)) := hfar _ _ Nb0_1.out (heap_keep Fv0_2.out B1.out)
      have YFv47_6 : X2_66.heap[b6]? = some (.cells #[.int .i64 (sm : Int), .bool gb, .func (.func f) #[] #[]] 63 (0, 0)) := hfar _ _ (Ne.symm N45_1.out) (heap_keep Fv47_6.out B1.out)
      have YFv56_38 : RowG zzC X2_66 g38 2 (Ty.filZ bd i sm) := hfar _ _ (Ne.symm N53_1.out) (Fv56_38.out.keep B1.out)
      have C0_2 := zb B0 B1
      have hbr := hbel _ _ Gb1.out C0_2.out
      clear B0
      have B0 := zh hbr
      clear hbr
      clear Fv0_2
      have Fv0_2 : Hid (X2_66.heap[w.heap.size]? = some (.cells #[.int .i64 (kd : Int), .int .i64 (col : Int), .int .i64 (k : Int), .slice A n c] 24 (0, 0))) := zh YFv0_2
      clear YFv0_2
      clear Fv47_6
      have Fv47_6 : Hid (X2_66.heap[b6]? = some (.cells #[.int .i64 (sm : Int), .bool gb, .func (.func f) #[] #[]] 63 (0, 0))) := zh YFv47_6
      clear YFv47_6
      clear Fv56_38
      have Fv56_38 : Hid (RowG zzC X2_66 g38 2 (Ty.filZ bd i sm)) := zh YFv56_38
      clear YFv56_38
      clear Fv1_4
      have Fv1_4 : Hid (X2_66.heap[(w.heap.size + 1)]? = some (.cells #[.slice none 0 0] 29 (0, 0))) := zh (h1)
      have HszX2_66 := zh hsz
      clear h1 hfar hbel hsz
      simp only [ptr, Act.put, zA]
      refine zr (.int .i64 141) X2_66 rfl ?_
      simp only [Act.put, zA]
      refine wpList_nil ?_
      have hck : r = ([], 141) := by rw [← HR.out]; exact Ty.ck_bad (v := i) ht (by show i < Ty.suN kd; rw [HSM.out]; exact hism) (by rw [HBD.out, HR0.out]; exact hlim)
      subst hck
      have hbf := B0.out
      go_wp2_with fail
      refine bodyPost_ret (v := .tuple #[.agg #[.slice none 0 0], .int .i64 141]) ?_ rfl ⟨none, 0, 0, rfl, (show OwZ _ none 0 0 [] from OwZ.nil), hbf⟩
      exact results_row_tmp rfl _ _ (w.heap.size + 1) 29 _ (0, 0) _ _ rfl rfl Fv1_4.out Tryd.underlying29 rfl (by kernel_rfl)
    ·have hci65 : ¬ ((i : Int) < (sm : Int)) := by omega
     go_upto_region 8 with fail
     refine wp_region_lit ?_
     refine zr (.bool false) wo (xo_lssF .i64 (i : Int) (sm : Int) (by omega) rfl rfl rfl) ?_
     simp only [Act.put, zA]
     refine wpList_nil ?_
     obtain rfl : sm = i := by omega
     go_upto_region 15 with fail
     refine wp_region_lit ?_
     refine zr (.slice (some ⟨g38, 0, none⟩) sm sm) wo rfl ?_
     simp only [Act.put, zA]
     refine zr (.agg #[.slice (some ⟨g38, 0, none⟩) sm sm]) wo (by unfold execOp; go_simp <;> rfl) ?_
     simp only [Act.put, zA]
     refine wpList_storeW (w.heap.size + 1) #[.slice none 0 0] #[.slice (some ⟨g38, 0, none⟩) sm sm] 29 (by kernel_rfl) Fv1_4.out (xo_storeW (w.heap.size + 1) #[.slice none 0 0] #[.slice (some ⟨g38, 0, none⟩) sm sm] Fv1_4.out (by kernel_rfl) rfl (by simp [Value.oneCell']) rfl rfl rfl) ?_
     intro X1_66 h1 hfar hbel hsz
     have YFv0_2 : X1_66.heap[w.heap.size]? = some (.cells #[.int .i64 (kd : Int), .int .i64 (col : Int), .int .i64 (k : Int), .slice A n c] 24 (0, 0)) := hfar _ _ Nb0_1.out Fv0_2.out
     have YFv47_6 : X1_66.heap[b6]? = some (.cells #[.int .i64 (sm : Int), .bool gb, .func (.func f) #[] #[]] 63 (0, 0)) := hfar _ _ (Ne.symm N45_1.out) Fv47_6.out
     have YFv56_38 : RowG zzC X1_66 g38 2 (Ty.filZ bd sm sm) := hfar _ _ (Ne.symm N53_1.out) Fv56_38.out
     have hbr := hbel _ _ Gb1.out B0.out
     clear B0
     have B0 := zh hbr
     clear hbr
     clear Fv0_2
     have Fv0_2 : Hid (X1_66.heap[w.heap.size]? = some (.cells #[.int .i64 (kd : Int), .int .i64 (col : Int), .int .i64 (k : Int), .slice A n c] 24 (0, 0))) := zh YFv0_2
     clear YFv0_2
     clear Fv47_6
     have Fv47_6 : Hid (X1_66.heap[b6]? = some (.cells #[.int .i64 (sm : Int), .bool gb, .func (.func f) #[] #[]] 63 (0, 0))) := zh YFv47_6
     clear YFv47_6
     clear Fv56_38
     have Fv56_38 : Hid (RowG zzC X1_66 g38 2 (Ty.filZ bd sm sm)) := zh YFv56_38
     clear YFv56_38
     clear Fv1_4
     have Fv1_4 : Hid (X1_66.heap[(w.heap.size + 1)]? = some (.cells #[.slice (some ⟨g38, 0, none⟩) sm sm] 29 (0, 0))) := zh (h1)
     have HszX1_66 := zh hsz
     clear h1 hfar hbel hsz
     simp only [ptr, Act.put, zA]
     refine zr (.int .i64 0) X1_66 rfl ?_
     simp only [Act.put, zA]
     refine wpList_nil ?_
     have hck : r = ((List.range sm).map bd, 0) := by rw [← HR.out, Ty.ck_ok ht (fun v hv => by rw [HBD.out]; exact HALL.out v (by have : Ty.suN kd = sm := HSM.out; have h2 : v < Ty.suN kd := hv; omega)), HBD.out]; show ((List.range (Ty.suN kd)).map bd, 0) = _; rw [HSM.out]
     subst hck
     have hbf := B0.out
     have hsg := OwZ.row Fv56_38.out (Ty.fil_len bd sm sm) hsm
     rw [Ty.fil_end bd sm] at hsg
     go_wp2_with fail
     refine bodyPost_ret (v := .tuple #[.agg #[.slice (some ⟨g38, 0, none⟩) sm sm], .int .i64 0]) ?_ rfl ⟨_, _, _, rfl, hsg, hbf⟩
     exact results_row_tmp rfl _ _ (w.heap.size + 1) 29 _ (0, 0) _ _ rfl rfl Fv1_4.out Tryd.underlying29 rfl (by kernel_rfl)
end Go.Proofs.YtbecajihgbbgjaaDoor

namespace Go.Proofs.YtbecajihgbbgjaaDoor
set_option maxRecDepth 8000
open Go.RowKit Go.Proofs.YtbecajihgbbgjaaDoor.K
namespace K
section
variable {P : Program} {ops : Array Oper} {S : World → Prop} {Q : Exit → Act → World → Prop} {m : Nat}
theorem wp_ordMS (S : World → Prop) (m : Nat) (t : OT) {id : Nat} {a : Act} {w : World} {l : List Oper} (hm : P.follows .mixedOrders = true) (hsel : Region.noSelect l.toArray = true) (hz : l.length = m + 1) (hl : t.len = m) (hs : Region.sinkB .any l.toArray m = true) (hcb : Region.chainB .any l.toArray m = true) (ho : okM l.toArray m t (Array.replicate l.length false) = true)
  (hS : S w.drew) (h : wpOT P l.toArray S (fun _ a w => mOp P l.toArray m (fun a w => Q .normal a w) a w) t a w.drew) : (Code.region id l.toArray true).wp P Q a w := by
 have inv0 : HeadInv .any l.toArray m (Array.replicate l.toArray.size false) :=
  ⟨by simp, fun j oj _ hl => (by rw [getD_replicate_false] at hl; cases hl), fun t _ ht => getD_in (by simpa using ht) (getD_replicate_false _ _)⟩
 refine wp_region_any hm (wpAny_of_wpT (S := S) (m := m) (by simpa using hz) hs hcb _ _ _ _ inv0 hS ?_)
 have := wpT_of_OT (P := P) (Q := Q) (m := m) (ops := l.toArray) (by simpa using hz) hs hcb hsel t (Array.replicate l.length false) a w.drew (by simpa using inv0) hS ho h
 rw [hl] at this
 simpa [hz] using this
end
end K
namespace Ty
/-- one more condition in the first filter -/
theorem mono_set {kd cl kk : Nat} {fs : List (List Qu.Cd)} {l : List Qu.Cd} {e : Qu.Cd} (h0 : fs[0]? = some l) (m v : Nat) : bdN ⟨kd, cl, kk, fs.set 0 (l ++ [e])⟩ m v ≤ bdN ⟨kd, cl, kk, fs⟩ m v := by
 have hn : 0 < fs.length := (List.getElem?_eq_some_iff.1 h0).1
 rw [bd_eq, bd_eq]
 refine Nat.mul_le_mul_left _ ?_
 by_cases hv : v < 16
 ·refine one_add ⟨kd, cl, kk, fs⟩ ⟨kd, cl, kk, fs.set 0 (l ++ [e])⟩ rfl rfl rfl (e := e) ?_
  rw [un_ru hn hv]
  congr 1
  exact (ru_of (q := ⟨kd, cl, kk, fs⟩) (by show fs[v / 16]? = some l; rw [show v / 16 = 0 by omega]; exact h0)).symm
 ·have h1 : ruN ⟨kd, cl, kk, fs.set 0 (l ++ [e])⟩ v = ruN ⟨kd, cl, kk, fs⟩ v := by
   unfold ruN
   show (fs.set 0 (l ++ [e])).getD (v / 16) [] = fs.getD (v / 16) []
   rw [List.getD_eq_getElem?_getD, List.getD_eq_getElem?_getD, List.getElem?_set, if_neg (by omega)]
  unfold oneN
  rw [h1]
  exact Nat.le_refl _
theorem set_back {fs : List (List Qu.Cd)} {l l2 : List Qu.Cd} (h0 : fs[0]? = some l) : (fs.set 0 l2).set 0 l = fs := by
 rw [List.set_set]
 obtain ⟨hn, he⟩ := List.getElem?_eq_some_iff.1 h0
 rw [← he]
 exact List.set_getElem_self hn
theorem take_last {l : List Qu.Cd} (h : l.length = 3) : ∃ e, l = l.take 2 ++ [e] := by
 match l, h with
 | [a, b, c], _ => exact ⟨c, rfl⟩
end Ty
section
variable {w w' : World} {A : Option Addr} {n c base : Nat} {hs : List Hd} {l : List Qu.Cd}
theorem own_raw (h : w.ownsRow base 44 1 (.slice A n c) n (fl hdC hs)) (hn : 0 < n) (hl : hs.length = n) : ∃ g cur, A = some ⟨g, 0, none⟩ ∧ base ≤ g ∧ w.heap[g]? = some (.cells cur 44 (0, 0)) ∧ RawOk cur n c hs := by
 rcases h.2 with ⟨_, h0⟩ | ⟨g, cap, cur, e, hb, hg, hnc, hm, hsz, ht⟩
 ·omega
 ·injection e with e1 _ e3
  subst e1 e3
  refine ⟨g, cur, rfl, hb, hg, ⟨hl, hnc, by unfold maxLen at hm; omega, fun i d hi => ?_⟩⟩
  have h2 : (fl hdC hs)[i]? = some (.slice d.A d.n d.c) := by
   have h3 := fl_get (E := hdC) (k := 1) hi 0 (by decide)
   rw [Nat.mul_one, Nat.add_zero] at h3
   exact h3
  rw [← ht, List.getElem?_take, Nat.mul_one] at h2
  split at h2
  ·simpa using h2
  ·cases h2
/-- conditions of somebody's own -/
def OwC (w : World) (A : Option Addr) (n c : Nat) (l : List Qu.Cd) : Prop := ∃ base, w.ownsRow base 49 3 (.slice A n c) n (fl ciC (l.map Qu.Cd.ci))
theorem OwC.keep (h : OwC w A n c l) (hb : Below w.heap.size w w') : OwC w' A n c l := by
 obtain ⟨b, h⟩ := h
 exact ⟨b, own_keep h hb⟩
theorem OwC.sg (h : OwC w A n c l) : Sg ciC 3 w A n c (l.map Qu.Cd.ci) := by
 obtain ⟨b, h⟩ := h
 exact Sg.ownS h
theorem OwC.store {b : Nat} {ds : Array Value} {u : TypeId} (h : OwC w A n c l) (hb : w.heap[b]? = some (.cells ds u (0, 0))) (hne : u ≠ 49) (hfar : ∀ k o, k ≠ b → w.heap[k]? = some o → w'.heap[k]? = some o) : OwC w' A n c l := by
 obtain ⟨b0, h⟩ := h
 exact ⟨b0, own_farT h hb hne hfar⟩
theorem raw_new {cur : Array Value} {v : Value} (h : 0 < cur.size) : (cur.toList.take 0 ++ [v] ++ cur.toList.drop (0 + [v].length)).toArray = cur.setIfInBounds 0 v := by
 obtain ⟨L⟩ := cur
 match L, h with
 | x :: L, _ => simp
end
end Go.Proofs.YtbecajihgbbgjaaDoor

namespace Go.Proofs.YtbecajihgbbgjaaDoor
set_option maxRecDepth 8000
open Go.ChangeShapes Go.WideShapes Go.ChangeAt Go.RowKit Go.Joins Go.Deep Go.Proofs.YtbecajihgbbgjaaDoor.K
theorem own : ownKnob Tryd.prog.godebug = none := by kernel_rfl
theorem laidOut : laidOutB Tryd.prog = true := by kernel_rfl
section
variable {H : Type} {enc : TypeId × Value → H} {W : World} {base : Nat} {sp : Nat → Bool} {b1 : Nat} {hd : Bool} {v : Value} {d : DataW H} {p : List MemPlace}
theorem cells13I : Tryd.prog.cellsOf 3 = 1 := by kernel_rfl
theorem cells13S : Tryd.prog.cellsOf 9 = 1 := by kernel_rfl
theorem cells13C : Tryd.prog.cellsOf 96 = 2 := by kernel_rfl
theorem cells13T : Tryd.prog.cellsOf 97 = 8 := by kernel_rfl
theorem trod13_col {fuel : Nat} {c0 c1 : Value} {s : List UInt8} {z : Int} {q : List MemPlace} (h : DataW.trod enc Tryd.prog W b1 sp hd fuel 96 [c0, c1] = some (.agg [.lit (.string s), .lit (.int .i64 z)], q)) : c0 = .string (sB s) ∧ c1 = .int .i64 z := by
 obtain ⟨ys, m', _, hx, _, hn, hel⟩ := DataW.trod_struct Tryd.underlying96 h
 match ys, hn with
 | [y0, y1], _ =>
  have g0 : DataW.trod enc Tryd.prog W b1 sp hd m' 9 [c0] = some y0 := by simpa [cells13S] using hel 0 _ rfl
  have g1 : DataW.trod enc Tryd.prog W b1 sp hd m' 3 [c1] = some y1 := by simpa [cells13I] using hel 1 _ rfl
  obtain ⟨b0, e0, x0, _⟩ := DataW.trod_string Tryd.underlying9 g0
  obtain ⟨a1, e1, x1, _⟩ := DataW.trod_int Tryd.underlying3 g1
  subst x0
  have hx' := congrArg Prod.fst hx
  simp [x1] at hx' e0 e1
  obtain ⟨rfl, rfl⟩ := hx'
  subst e0 e1
  exact ⟨by rw [sB_of], rfl⟩
end
def laid13 : List (String × DataW Unit) := [("attestor/query.columns", Rows.laid_attestor_query_columns)]
theorem of_laid13 {W : World} (h : laidMetH Tryd.prog laid13 W) : Gc W := by
 rw [MakeChecks.laidMetH_plain _ _ _ (by kernel_rfl)] at h
 obtain ⟨ps, ⟨g', t', cs, fuel, p, q, hg', ht', hvar, hd, _, _⟩, _⟩ := h
 have g1 : Tryd.prog.globalNamed "attestor/query.columns" = some 1 := by kernel_rfl
 obtain rfl := Option.some.inj (g1.symm.trans hg')
 have t1 : (Tryd.prog.globals[1]?).map (·.type) = some 97 := by kernel_rfl
 obtain rfl := Option.some.inj (t1.symm.trans ht')
 obtain ⟨xs, m, _, hx, hl, hn, hel⟩ := DataW.trod_array Tryd.underlying97 hd
 rw [cells13T] at hl
 rw [cells13C] at hel
 have hx' := congrArg Prod.fst hx
 match cs, hl, xs, hn with
 | ⟨[c0, c1, c2, c3, c4, c5, c6, c7]⟩, _, [y0, y1, y2, y3], _ =>
  simp [Rows.laid_attestor_query_columns] at hx'
  obtain ⟨h0, h1, h2, h3⟩ := hx'
  have k0 := hel 0 (by omega)
  have k1 := hel 1 (by omega)
  have k2 := hel 2 (by omega)
  have k3 := hel 3 (by omega)
  simp at k0 k1 k2 k3
  obtain ⟨e0, e1⟩ := trod13_col (q := y0.2) (by rw [k0]; rw [h0])
  obtain ⟨e2, e3⟩ := trod13_col (q := y1.2) (by rw [k1]; rw [h1])
  obtain ⟨e4, e5⟩ := trod13_col (q := y2.2) (by rw [k2]; rw [h2])
  obtain ⟨e6, e7⟩ := trod13_col (q := y3.2) (by rw [k3]; rw [h3])
  subst e0 e1 e2 e3 e4 e5 e6 e7
  intro j v hv
  rw [Nat.zero_add]
  have hc := World.var?_cell g1 hvar j
  rw [hc]
  simpa [Qu.nameN] using hv
end Go.Proofs.YtbecajihgbbgjaaDoor

namespace Go.Proofs.YtbecajihgbbgjaaDoor.K
set_option maxRecDepth 8000
open Go.ChangeShapes Go.WideShapes Go.ChangeAt Go.RowKit Go.Joins Go.Deep
theorem list_ofK {α : Type} (n : Nat) (P : Nat → α → Prop) (h : ∀ i, i < n → ∃ x, P i x) : ∃ l : List α, l.length = n ∧ ∀ i x, l[i]? = some x → P i x := by
 induction n with
 | zero => exact ⟨[], rfl, fun i x hx => by simp at hx⟩
 | succ n ih =>
  obtain ⟨l, hl, hp⟩ := ih fun i hi => h i (by omega)
  obtain ⟨x, hx⟩ := h n (Nat.lt_succ_self n)
  refine ⟨l ++ [x], by simp [hl], fun i y hy => ?_⟩
  by_cases hi : i < l.length
  ·rw [List.getElem?_append_left hi] at hy
   exact hp i y hy
  ·rw [List.getElem?_append_right (by omega)] at hy
   have e : i = n := by
    have := (List.getElem?_eq_some_iff.1 hy).1
    simp at this
    omega
   subst e
   rw [hl, Nat.sub_self] at hy
   simp at hy
   subst hy
   exact hx
section
variable {α : Type} {E : α → List Value} {k : Nat} [hE : Enc E k] {P : Program} {H : Type} {enc : TypeId × Value → H} {W : World} {b1 : Nat} {sp : Nat → Bool} {hd : Bool} {t e : TypeId}
/-- a slice that comes in, its elements opened -/
theorem open_seq (p : α → Prop) (hu : P.underlying t = some (.slice e)) (hc : P.cellsOf e = k) (hel : ∀ m cs y, cs.length = k → DataW.trod enc P W b1 sp hd m e cs = some y → ∃ x, cs = E x ∧ p x) {m : Nat} {cs : List Value} {y : DataW H × List MemPlace} (h : DataW.trod enc P W b1 sp hd m t cs = some y) :
  ∃ A n c xs, cs = [.slice A n c] ∧ Sg E k W A n c xs ∧ ∀ x ∈ xs, p x := by
 have hk := hE.pos
 rcases open_slice hu h with ⟨hcs, _⟩ | ⟨a, len, cap, m', n', D, Pl, hcs, _, hl, hm, hmm, _, hi⟩
 ·exact ⟨none, 0, 0, [], hcs, Sg.nil_ _, fun x hx => by cases hx⟩
 ·unfold maxLen at hm
  have hC : ∀ i, i < len → ∃ x, p x ∧ ∀ j v, (E x)[j]? = some v → W.cell? ((a.add (i * k)).add j) = some v := fun i hin => by
   obtain ⟨cs', hc2, ht⟩ := hi i (by rw [hmm]; split <;> omega)
   rw [hc] at hc2
   obtain ⟨_, hcl, hat⟩ := World.cells?_some hc2
   obtain ⟨x, hx, hpx⟩ := hel _ _ _ hcl ht
   subst hx
   exact ⟨x, hpx, fun j v hv => (hat j (by rw [← hE.len x]; exact (List.getElem?_eq_some_iff.1 hv).1)).trans hv⟩
  obtain ⟨xs, hxl, hxx⟩ := list_ofK len _ hC
  refine ⟨some a, len, cap, xs, hcs, ⟨hxl, hl, by omega, fun e => (by cases e), fun i x hx => ?_⟩, fun x hx => ?_⟩
  ·have hil := (List.getElem?_eq_some_iff.1 hx).1
   obtain ⟨b, off, s⟩ := a
   obtain ⟨x0, hx0⟩ : ∃ x0, xs[0]? = some x0 := ⟨_, List.getElem?_eq_getElem (by omega)⟩
   obtain ⟨v0, hv0⟩ : ∃ v0, (E x0)[0]? = some v0 := ⟨_, List.getElem?_eq_getElem (by rw [hE.len]; exact hk)⟩
   have h0 := (hxx 0 x0 hx0).2 0 v0 hv0
   rw [Nat.zero_mul] at h0
   have hs : s = none := by
    cases s with
    | none => rfl
    | some q =>
     simp only [Addr.add, if_true, World.cell?] at h0
     split at h0 <;> simp at h0
   subst hs
   refine ⟨b, off, rfl, fun j v hv => ?_⟩
   have h1 := (hxx i x hx).2 j v hv
   rw [Addr.add_mid, Addr.add_mid] at h1
   exact h1
  ·obtain ⟨i, hi'⟩ := List.getElem?_of_mem hx
   exact (hxx i x hi').1
end
end Go.Proofs.YtbecajihgbbgjaaDoor.K
namespace Go.Proofs.YtbecajihgbbgjaaDoor
open Go.ChangeShapes Go.WideShapes Go.ChangeAt Go.RowKit Go.Joins Go.Deep Go.Proofs.YtbecajihgbbgjaaDoor.K
section
variable {H : Type} {enc : TypeId × Value → H} {W : World} {base : Nat} {sp : Nat → Bool} {b1 : Nat} {hd : Bool} {v : Value} {d : DataW H} {p : List MemPlace}
theorem cells13D : Tryd.prog.cellsOf 49 = 3 := by kernel_rfl
set_option maxRecDepth 100000 in
theorem trod13_cond {m : Nat} {cs : List Value} {y : DataW H × List MemPlace} (hl : cs.length = 3) (h : DataW.trod enc Tryd.prog W b1 sp hd m 49 cs = some y) : ∃ x : Qu.Ci, cs = ciC x := by
 obtain ⟨ys, m', _, _, _, hn, hel⟩ := DataW.trod_struct Tryd.underlying49 h
 match cs, hl, ys, hn with
 | [c0, c1, c2], _, [y0, y1, y2], _ =>
  have g0 : DataW.trod enc Tryd.prog W b1 sp hd m' 3 [c0] = some y0 := by simpa [cells13I] using hel 0 _ rfl
  have g1 : DataW.trod enc Tryd.prog W b1 sp hd m' 3 [c1] = some y1 := by simpa [cells13I] using hel 1 _ rfl
  have g2 : DataW.trod enc Tryd.prog W b1 sp hd m' 3 [c2] = some y2 := by simpa [cells13I] using hel 2 _ rfl
  obtain ⟨a0, e0, _, _⟩ := DataW.trod_int Tryd.underlying3 g0
  obtain ⟨a1, e1, _, _⟩ := DataW.trod_int Tryd.underlying3 g1
  obtain ⟨a2, e2, _, _⟩ := DataW.trod_int Tryd.underlying3 g2
  simp at e0 e1 e2
  subst e0 e1 e2
  exact ⟨⟨a0, a1, a2⟩, rfl⟩
set_option maxRecDepth 100000 in
theorem open13_cond (hv : Value.okWide Tryd.prog W .any base 49 v) (h : DataW.Trod enc Tryd.prog W b1 sp hd 49 v d p) : ∃ a b c : Int, v = .agg #[.int .i64 a, .int .i64 b, .int .i64 c] := by
 obtain ⟨cs, rfl, hsz, _⟩ : ∃ cs, v = .agg cs ∧ cs.size = Tryd.prog.cellsOf 49 ∧ Row.okWide Tryd.prog W .any base 49 cs := by
  simpa [Value.okWide, Tryd.underlying49] using hv
 rw [cells13D] at hsz
 obtain ⟨fuel, hf⟩ := h
 obtain ⟨x, hx⟩ := trod13_cond (enc := enc) (cs := cs.toList) (by simpa using hsz) (show DataW.trod enc Tryd.prog W b1 sp hd fuel 49 cs.toList = some (d, p) by simpa [Value.cells] using hf)
 refine ⟨x.col, x.lo, x.hi, ?_⟩
 have e : cs = (ciC x).toArray := by rw [← hx]
 rw [e]
 rfl
theorem cells13F : Tryd.prog.cellsOf 44 = 1 := by kernel_rfl
set_option maxRecDepth 100000 in
theorem trod13_filter {m : Nat} {cs : List Value} {y : DataW H × List MemPlace} (h : DataW.trod enc Tryd.prog W b1 sp hd m 44 cs = some y) : ∃ x : Hd, cs = hdC x ∧ ∃ xs, Sg ciC 3 W x.A x.n x.c xs := by
 obtain ⟨A, n, c, xs, e, hs, _⟩ := open_seq (E := ciC) (fun _ => True) Tryd.underlying44 cells13D (fun m cs y hl hy => by obtain ⟨x, e⟩ := trod13_cond hl hy; exact ⟨x, e, trivial⟩) h
 exact ⟨Hd.mk A n c, e, xs, hs⟩
set_option maxRecDepth 100000 in
theorem all13 : ∀ (hs : List Hd), (∀ h ∈ hs, ∃ xs, Sg ciC 3 W h.A h.n h.c xs) → ∃ fs : List (List Qu.Ci), hs.length = fs.length ∧ ∀ (i : Nat) (h : Hd) (xs : List Qu.Ci), hs[i]? = some h → fs[i]? = some xs → Sg ciC 3 W h.A h.n h.c xs
 | [], _ => ⟨[], rfl, fun i h xs hi => by simp at hi⟩
 | h :: hs, hh => by
  obtain ⟨xs, hx⟩ := hh h (List.mem_cons_self ..)
  obtain ⟨fs, hl, hf⟩ := all13 hs fun q hq => hh q (List.mem_cons_of_mem _ hq)
  refine ⟨xs :: fs, by simp [hl], fun i q ys hi hy => ?_⟩
  cases i with
  | zero =>
   simp at hi hy
   subst hi hy
   exact hx
  | succ i => exact hf i q ys (by simpa using hi) (by simpa using hy)
set_option maxRecDepth 100000 in
theorem trod13_filters {m : Nat} {c0 : Value} {y : DataW H × List MemPlace} (h : DataW.trod enc Tryd.prog W b1 sp hd m 22 [c0] = some y) : ∃ (A : Option Addr) (n c : Nat) (hs : List Hd) (fs : List (List Qu.Ci)), c0 = .slice A n c ∧ FsR W A n c hs fs := by
 obtain ⟨A, n, c, hs, e, hh, hp⟩ := open_seq (E := hdC) (fun x => ∃ xs, Sg ciC 3 W x.A x.n x.c xs) Tryd.underlying22 cells13F (fun m cs y _ hy => trod13_filter hy) h
 simp only [List.cons.injEq, and_true] at e
 obtain ⟨fs, hl, hf⟩ := all13 hs hp
 exact ⟨A, n, c, hs, fs, e, ⟨hh, hl, hf⟩⟩
theorem cells13Q : Tryd.prog.cellsOf 24 = 4 := by kernel_rfl
theorem cells13G : Tryd.prog.cellsOf 22 = 1 := by kernel_rfl
set_option maxRecDepth 100000 in
theorem open13_query (hv : Value.okWide Tryd.prog W .any base 24 v) (h : DataW.Trod enc Tryd.prog W b1 sp hd 24 v d p) : ∃ (a b k : Int) (A : Option Addr) (n c : Nat) (hs : List Hd) (fs : List (List Qu.Ci)), v = .agg #[.int .i64 a, .int .i64 b, .int .i64 k, .slice A n c] ∧ FsR W A n c hs fs := by
 obtain ⟨cs, rfl, hsz, _⟩ : ∃ cs, v = .agg cs ∧ cs.size = Tryd.prog.cellsOf 24 ∧ Row.okWide Tryd.prog W .any base 24 cs := by
  simpa [Value.okWide, Tryd.underlying24] using hv
 rw [cells13Q] at hsz
 obtain ⟨c0, c1, c2, c3, rfl⟩ : ∃ c0 c1 c2 c3, cs = #[c0, c1, c2, c3] := by
  match cs, hsz with
  | ⟨[c0, c1, c2, c3]⟩, _ => exact ⟨c0, c1, c2, c3, rfl⟩
 obtain ⟨fuel, hf⟩ := h
 obtain ⟨ys, m', _, _, _, hn, hel⟩ := DataW.trod_struct Tryd.underlying24 (show DataW.trod enc Tryd.prog W b1 sp hd fuel 24 [c0, c1, c2, c3] = some (d, p) by simpa [Value.cells] using hf)
 match ys, hn with
 | [y0, y1, y2, y3], _ =>
  have g0 : DataW.trod enc Tryd.prog W b1 sp hd m' 3 [c0] = some y0 := by simpa [cells13I] using hel 0 _ rfl
  have g1 : DataW.trod enc Tryd.prog W b1 sp hd m' 3 [c1] = some y1 := by simpa [cells13I] using hel 1 _ rfl
  have g2 : DataW.trod enc Tryd.prog W b1 sp hd m' 3 [c2] = some y2 := by simpa [cells13I] using hel 2 _ rfl
  have g3 : DataW.trod enc Tryd.prog W b1 sp hd m' 22 [c3] = some y3 := by simpa [cells13G] using hel 3 _ rfl
  obtain ⟨a0, e0, _, _⟩ := DataW.trod_int Tryd.underlying3 g0
  obtain ⟨a1, e1, _, _⟩ := DataW.trod_int Tryd.underlying3 g1
  obtain ⟨a2, e2, _, _⟩ := DataW.trod_int Tryd.underlying3 g2
  obtain ⟨A, n, c, hs, fs, rfl, hF⟩ := trod13_filters g3
  simp at e0 e1 e2
  subst e0 e1 e2
  exact ⟨a0, a1, a2, A, n, c, hs, fs, rfl, hF⟩
end
end Go.Proofs.YtbecajihgbbgjaaDoor

namespace Go.Proofs.YtbecajihgbbgjaaDoor
set_option maxRecDepth 8000
open Go.ChangeShapes Go.WideShapes Go.ChangeAt Go.RowKit Go.Joins Go.Deep Go.Proofs.YtbecajihgbbgjaaDoor.K
def laid14 : List (String × DataW Unit) := [("attestor/query.columns", Rows.laid_attestor_query_columns), ("attestor/typecheck.widths", Rows.laid_attestor_typecheck_widths)]
theorem laid14_cols {W : World} (h : laidMet Tryd.prog laid14 W) : laidMetH Tryd.prog laid13 W := by
 rw [MakeChecks.laidMetH_plain _ _ _ (by kernel_rfl)]
 have hk := laidMet.filter (fun x => x.1 == "attestor/query.columns") h
 rwa [show (laid14.filter fun x => x.1 == "attestor/query.columns") = laid13 by kernel_rfl] at hk
theorem laid14_wid {W : World} (h : laidMet Tryd.prog laid14 W) : Gw5 W := by
 have h2 : laidMet Tryd.prog (("attestor/typecheck.widths", Lib.tabData .i64 [4, 8, 4, 8, 1]) :: []) W := by
  have hk := laidMet.filter (fun x => x.1 == "attestor/typecheck.widths") h
  rwa [show (laid14.filter fun x => x.1 == "attestor/typecheck.widths") = [("attestor/typecheck.widths", Lib.tabData .i64 [4, 8, 4, 8, 1])] by kernel_rfl] at hk
 have g2 : Tryd.prog.globalNamed "attestor/typecheck.widths" = some 0 := by kernel_rfl
 have t2 := Lib.tabIs_of_head g2 (t := 72) (by kernel_rfl) Tryd.underlying72 Tryd.underlying3 (by kernel_rfl) (by kernel_rfl) h2
 intro j v hv
 have hj : j < 5 := (List.getElem?_eq_some_iff.1 hv).1
 have := t2.cell g2 j hj
 rw [Nat.zero_add, this]
 rcases (show j = 0 ∨ j = 1 ∨ j = 2 ∨ j = 3 ∨ j = 4 by omega) with rfl | rfl | rfl | rfl | rfl <;> exact hv
theorem of_laid14 {W : World} (h : laidMetH Tryd.prog laid14 W) : Gw5 W ∧ Gc W := by
 rw [MakeChecks.laidMetH_plain _ _ _ (by kernel_rfl)] at h
 exact ⟨laid14_wid h, of_laid13 (laid14_cols h)⟩
theorem door_met14 (os : Os) (args : Array Value) : laidMetH Tryd.prog laid14 ((World.doorLaid Tryd.prog 400 os).forCall (fun _ _ => 0) ⟨#[], args, []⟩).memory :=
 laidMetH_of_parts3 (fuel := 8) (laidMet_of_run' 8 (by kernel_rfl) (by kernel_rfl)) (by kernel_rfl) (by kernel_rfl)
section
variable {H : Type} {enc : TypeId × Value → H} {W : World} {base : Nat} {sp : Nat → Bool} {b1 : Nat} {hd : Bool} {v : Value} {d : DataW H} {p : List MemPlace}
theorem cells14W : Tryd.prog.cellsOf 25 = 1 := by kernel_rfl
theorem trod14_u16 {m : Nat} {c0 : Value} {y : DataW H × List MemPlace} (h : DataW.trod enc Tryd.prog W b1 sp hd m 25 [c0] = some y) : ∃ x : Nat, c0 = .int .u16 (x : Int) ∧ x < 65536 := by
 obtain ⟨a, e, _, w⟩ := DataW.trod_int Tryd.underlying25 h
 have hb := bounds_u16 w
 simp at e
 exact ⟨a.toNat, by rw [e, Int.toNat_of_nonneg hb.1], by omega⟩
theorem trod14_pair {m : Nat} {cs : List Value} {y : DataW H × List MemPlace} (hl : cs.length = 2) (h : DataW.trod enc Tryd.prog W b1 sp hd m 47 cs = some y) : ∃ x y : Nat, cs = [.int .u16 (x : Int), .int .u16 (y : Int)] ∧ x < 65536 ∧ y < 65536 := by
 obtain ⟨xs, m', _, _, _, hn, hel⟩ := DataW.trod_array Tryd.underlying47 h
 rw [cells14W] at hel
 match cs, hl, xs, hn with
 | [c0, c1], _, [y0, y1], _ =>
  have g0 : DataW.trod enc Tryd.prog W b1 sp hd m' 25 [c0] = some y0 := by simpa using hel 0 (by omega)
  have g1 : DataW.trod enc Tryd.prog W b1 sp hd m' 25 [c1] = some y1 := by simpa using hel 1 (by omega)
  obtain ⟨x0, e0, h0⟩ := trod14_u16 g0
  obtain ⟨x1, e1, h1⟩ := trod14_u16 g1
  subst e0 e1
  exact ⟨x0, x1, rfl, h0, h1⟩
theorem cells14P : Tryd.prog.cellsOf 47 = 2 := by kernel_rfl
theorem open14_pair (hv : Value.okWide Tryd.prog W .any base 47 v) (h : DataW.Trod enc Tryd.prog W b1 sp hd 47 v d p) : ∃ x y : Nat, v = .agg #[.int .u16 (x : Int), .int .u16 (y : Int)] ∧ x < 65536 ∧ y < 65536 := by
 obtain ⟨cs, rfl, hsz, _⟩ : ∃ cs, v = .agg cs ∧ cs.size = Tryd.prog.cellsOf 47 ∧ Row.okWide Tryd.prog W .any base 47 cs := by
  simpa [Value.okWide, Tryd.underlying47] using hv
 rw [cells14P] at hsz
 obtain ⟨fuel, hf⟩ := h
 obtain ⟨x, y, e, h0⟩ := trod14_pair (by simpa using hsz) (show DataW.trod enc Tryd.prog W b1 sp hd fuel 47 cs.toList = some (d, p) by simpa [Value.cells] using hf)
 exact ⟨x, y, by rw [← Array.toArray_toList (xs := cs), e], h0⟩
end
end Go.Proofs.YtbecajihgbbgjaaDoor

