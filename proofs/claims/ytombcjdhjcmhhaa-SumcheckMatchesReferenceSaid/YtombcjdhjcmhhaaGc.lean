/- Several texts in one: Sma, Smb, Smc, Smd, Sme, Smf. -/
import Derived.Test.YtombcjdhjcmhhaaGb
import Derived.Deep.CutRange
/- Sums of products of tables: what they are worth, and how lists of tables, lists of terms and lists of indices lie in memory; no conditions. -/
namespace Go.Proofs.Ytombcjdhjcmhhaa
set_option maxRecDepth 8000
open Go.RowKit Gold

/-! ### What sums are worth -/
abbrev Tm := E2 × List Nat
/-- a term's product, v the values -/
def prodT (t : Tm) (v : Nat → E2) : E2 := t.2.foldl (fun p j => p * v j) t.1
def finF (ts : List Tm) (v : Nat → E2) : E2 := ts.foldl (fun s t => s + prodT t v) E2.zero
def finE (ts : List Tm) (vs : List E2) : E2 := finF ts (cfE vs)
/-- the table of an index -/
def tbl (Ls : List (List E2)) (j : Nat) : List E2 := (Ls[j]?).getD []
theorem tbl_some {Ls : List (List E2)} {j : Nat} {L : List E2} (h : Ls[j]? = some L) : tbl Ls j = L := by unfold tbl; rw [h]; rfl
theorem tbl_get {Ls : List (List E2)} {j : Nat} (h : j < Ls.length) : Ls[j]? = some (tbl Ls j) := by unfold tbl; rw [List.getElem?_eq_getElem h]; rfl
/-- column i of the tables -/
def colE (Ls : List (List E2)) (i : Nat) : List E2 := tabE Ls.length fun j => cfE (tbl Ls j) i
def totE (Ls : List (List E2)) (ts : List Tm) (n : Nat) : E2 := sumE n fun i => finE ts (colE Ls i)
def bndS (Ls : List (List E2)) (r : E2) : List (List E2) := Ls.map (bndE · r)
/-- the degree of raw terms -/
def degZ (ts : List (Int × Int × List Int)) : Nat := ts.foldl (fun d t => max d t.2.2.length) 1
def rawT (ts : List Tm) : List (Int × Int × List Int) := ts.map fun t => (vF t.1.A, vF t.1.B, t.2.map fun k : Nat => (k : Int))
def degT (ts : List Tm) : Nat := degZ (rawT ts)
def rndE (Ls : List (List E2)) (ts : List Tm) (n : Nat) : List E2 := tabE (degT ts + 1) fun x => totE (bndS Ls (nd x)) ts (n / 2)
/-- every index of a term is below n -/
def InT (ts : List Tm) (n : Nat) : Prop := ∀ t ∈ ts, ∀ j ∈ t.2, j < n
theorem InT.get {ts : List Tm} {n i k j : Nat} {t : Tm} (h : InT ts n) (ht : ts[i]? = some t) (hj : t.2[k]? = some j) : j < n := h t (List.mem_of_getElem? ht) j (List.mem_of_getElem? hj)
theorem prodT_take {t : Tm} {v : Nat → E2} {k j : Nat} (h : t.2[k]? = some j) : (t.2.take (k + 1)).foldl (fun p j => p * v j) t.1 = (t.2.take k).foldl (fun p j => p * v j) t.1 * v j := by
  obtain ⟨hl, he⟩ := List.getElem?_eq_some_iff.1 h
  rw [List.take_succ_eq_append_getElem hl, List.foldl_append, he]
  rfl
theorem finF_take {ts : List Tm} {v : Nat → E2} {k : Nat} {t : Tm} (h : ts[k]? = some t) : finF (ts.take (k + 1)) v = finF (ts.take k) v + prodT t v := by
  obtain ⟨hl, he⟩ := List.getElem?_eq_some_iff.1 h
  unfold finF
  rw [List.take_succ_eq_append_getElem hl, List.foldl_append, he]
  rfl
theorem degZ_take {ts : List (Int × Int × List Int)} {k : Nat} {t : Int × Int × List Int} (h : ts[k]? = some t) : degZ (ts.take (k + 1)) = max (degZ (ts.take k)) t.2.2.length := by
  obtain ⟨hl, he⟩ := List.getElem?_eq_some_iff.1 h
  unfold degZ
  rw [List.take_succ_eq_append_getElem hl, List.foldl_append, he]
  rfl
theorem degZ_le {ts : List (Int × Int × List Int)} {d : Nat} (h1 : 1 ≤ d) (h : ∀ t ∈ ts, t.2.2.length ≤ d) : degZ ts ≤ d := by
  unfold degZ
  have key : ∀ (l : List (Int × Int × List Int)) (a : Nat), a ≤ d → (∀ t ∈ l, t.2.2.length ≤ d) → l.foldl (fun d t => max d t.2.2.length) a ≤ d := by
    intro l
    induction l with
    | nil => intro a ha _; exact ha
    | cons x l ih =>
      intro a ha hl
      exact ih _ (Nat.max_le.2 ⟨ha, hl x (List.mem_cons_self ..)⟩) (fun t ht => hl t (List.mem_cons_of_mem _ ht))
  exact key ts 1 h1 h
theorem degZ_pos (ts : List (Int × Int × List Int)) : 1 ≤ degZ ts := by
  unfold degZ
  have key : ∀ (l : List (Int × Int × List Int)) (a : Nat), 1 ≤ a → 1 ≤ l.foldl (fun d t => max d t.2.2.length) a := by
    intro l
    induction l with
    | nil => intro a ha; exact ha
    | cons x l ih => intro a ha; exact ih _ (Nat.le_trans ha (Nat.le_max_left _ _))
  exact key ts 1 (Nat.le_refl _)
theorem degZ_mem (ts : List (Int × Int × List Int)) {t : Int × Int × List Int} (ht : t ∈ ts) : t.2.2.length ≤ degZ ts := by
  unfold degZ
  have mono : ∀ (l : List (Int × Int × List Int)) (a : Nat), a ≤ l.foldl (fun d t => max d t.2.2.length) a := by
    intro l
    induction l with
    | nil => intro a; exact Nat.le_refl _
    | cons x l ih => intro a; exact Nat.le_trans (Nat.le_max_left _ _) (ih _)
  have key : ∀ (l : List (Int × Int × List Int)) (a : Nat), t ∈ l → t.2.2.length ≤ l.foldl (fun d t => max d t.2.2.length) a := by
    intro l
    induction l with
    | nil => intro a h; cases h
    | cons x l ih =>
      intro a h
      rcases List.mem_cons.1 h with rfl | h
      · exact Nat.le_trans (Nat.le_max_right _ _) (mono l _)
      · exact ih _ h
  exact key ts 1 ht

/-! ### Lists of indices -/
structure SiZ (w : World) (A : Option Addr) (n c : Nat) (zs : List Int) : Prop where
  len : n = zs.length
  cap : n ≤ c
  top : c ≤ 9223372036854775807
  nil : A = none → c = 0
  cells : ∀ (i : Nat) (z : Int), zs[i]? = some z → ∃ ad, A = some ad ∧ w.cell? (ad.add i) = some (.int .i64 z)
section
variable {w w' : World} {A : Option Addr} {n c : Nat} {zs : List Int}
theorem SiZ.keep (h : SiZ w A n c zs) (hb : Below w.heap.size w w') : SiZ w' A n c zs :=
  ⟨h.len, h.cap, h.top, h.nil, fun i k hk => by obtain ⟨ad, e, hc⟩ := h.cells i k hk; exact ⟨ad, e, cell_keep hc hb⟩⟩
theorem SiZ.get {i : Nat} (h : SiZ w A n c zs) (hi : i < n) : ∃ x, zs[i]? = some x := ⟨zs[i]'(by have := h.len; omega), List.getElem?_eq_getElem _⟩
end

/-! ### Lists of terms -/
def AtM (w : World) (ad : Addr) (a b : Int) (s : Value) : Prop :=
  w.cell? ad = some (.int .u64 a) ∧ w.cell? ⟨ad.block, ad.off + 1, none⟩ = some (.int .u64 b) ∧ w.cell? ⟨ad.block, ad.off + 2, none⟩ = some s
theorem AtM.keep {w w' : World} {ad : Addr} {a b : Int} {s : Value} (h : AtM w ad a b s) (hb : Below w.heap.size w w') : AtM w' ad a b s := ⟨cell_keep h.1 hb, cell_keep h.2.1 hb, cell_keep h.2.2 hb⟩
structure SlM (w : World) (A : Option Addr) (n c : Nat) (ts : List (Int × Int × List Int)) : Prop where
  len : n = ts.length
  cap : n ≤ c
  top : c ≤ 9223372036854775807
  cells : ∀ i t, ts[i]? = some t → ∃ ad B m d, A = some ad ∧ AtM w (ad.add (i * 3)) t.1 t.2.1 (.slice B m d) ∧ SiZ w B m d t.2.2
section
variable {w w' : World} {A : Option Addr} {n c : Nat} {ts : List (Int × Int × List Int)}
theorem SlM.keep (h : SlM w A n c ts) (hb : Below w.heap.size w w') : SlM w' A n c ts :=
  ⟨h.len, h.cap, h.top, fun i t ht => by obtain ⟨ad, B, m, d, e, h1, h2⟩ := h.cells i t ht; exact ⟨ad, B, m, d, e, h1.keep hb, h2.keep hb⟩⟩
theorem SlM.get {i : Nat} (h : SlM w A n c ts) (hi : i < n) : ∃ x, ts[i]? = some x := ⟨ts[i]'(by have := h.len; omega), List.getElem?_eq_getElem _⟩
theorem SlM.nil (w : World) : SlM w none 0 0 [] := ⟨rfl, Nat.le_refl _, Nat.zero_le _, fun i p hp => by simp at hp⟩
end
/-- terms of elements and indices -/
def TM (w : World) (A : Option Addr) (n c : Nat) (ts : List Tm) : Prop := SlM w A n c (rawT ts)
section
variable {w w' : World} {A : Option Addr} {n c : Nat} {ts : List Tm}
theorem TM.keep (h : TM w A n c ts) (hb : Below w.heap.size w w') : TM w' A n c ts := SlM.keep h hb
theorem TM.len (h : TM w A n c ts) : n = ts.length := by have := SlM.len h; unfold rawT at this; simpa using this
theorem TM.cap (h : TM w A n c ts) : n ≤ c := SlM.cap h
theorem TM.top (h : TM w A n c ts) : c ≤ 9223372036854775807 := SlM.top h
theorem TM.get {i : Nat} (h : TM w A n c ts) (hi : i < n) : ∃ x, ts[i]? = some x := ⟨ts[i]'(by have := h.len; omega), List.getElem?_eq_getElem _⟩
theorem TM.at_ {i : Nat} {t : Tm} (h : TM w A n c ts) (ht : ts[i]? = some t) : ∃ ad B m d, A = some ad ∧ AtM w (ad.add (i * 3)) (vF t.1.A) (vF t.1.B) (.slice B m d) ∧ SiZ w B m d (t.2.map fun k : Nat => (k : Int)) :=
  SlM.cells h i (vF t.1.A, vF t.1.B, t.2.map fun k : Nat => (k : Int)) (by unfold rawT; rw [List.getElem?_map, ht]; rfl)
end

/-! ### Lists of tables -/
structure SlS (w : World) (A : Option Addr) (n c : Nat) (Ps : List (List (Value × Value))) : Prop where
  len : n = Ps.length
  cap : n ≤ c
  top : c ≤ 9223372036854775807
  cells : ∀ i p, Ps[i]? = some p → ∃ ad B m d, A = some ad ∧ w.cell? (ad.add i) = some (.slice B m d) ∧ SlR w B m d p
section
variable {w w' : World} {A : Option Addr} {n c : Nat} {Ps : List (List (Value × Value))}
theorem SlS.keep (h : SlS w A n c Ps) (hb : Below w.heap.size w w') : SlS w' A n c Ps :=
  ⟨h.len, h.cap, h.top, fun i t ht => by obtain ⟨ad, B, m, d, e, h1, h2⟩ := h.cells i t ht; exact ⟨ad, B, m, d, e, cell_keep h1 hb, h2.keep hb⟩⟩
theorem SlS.nil (w : World) : SlS w none 0 0 [] := ⟨rfl, Nat.le_refl _, Nat.zero_le _, fun i p hp => by simp at hp⟩
end
/-- a list of lists of elements -/
def ST (w : World) (A : Option Addr) (n c : Nat) (Ls : List (List E2)) : Prop := SlS w A n c (Ls.map fun L => L.map valE)
section
variable {w w' : World} {A : Option Addr} {n c : Nat} {Ls : List (List E2)}
theorem ST.keep (h : ST w A n c Ls) (hb : Below w.heap.size w w') : ST w' A n c Ls := SlS.keep h hb
theorem ST.len (h : ST w A n c Ls) : n = Ls.length := by have := SlS.len h; simpa using this
theorem ST.cap (h : ST w A n c Ls) : n ≤ c := SlS.cap h
theorem ST.top (h : ST w A n c Ls) : c ≤ 9223372036854775807 := SlS.top h
theorem ST.get {i : Nat} (h : ST w A n c Ls) (hi : i < n) : ∃ x, Ls[i]? = some x := ⟨Ls[i]'(by have := h.len; omega), List.getElem?_eq_getElem _⟩
theorem ST.at_ {i : Nat} {L : List E2} (h : ST w A n c Ls) (hL : Ls[i]? = some L) : ∃ ad B m d, A = some ad ∧ w.cell? (ad.add i) = some (.slice B m d) ∧ Sl w B m d L :=
  SlS.cells h i (L.map valE) (by rw [List.getElem?_map, hL]; rfl)
theorem ST.nil (w : World) : ST w none 0 0 [] := SlS.nil w
end
/-- a list of lists of words in pairs -/
def SW (w : World) (A : Option Addr) (n c : Nat) (Qs : List (List (Int × Int))) : Prop := SlS w A n c (Qs.map fun q => q.map fun q => ((Value.int .u64 q.1, Value.int .u64 q.2) : Value × Value))
section
variable {w w' : World} {A : Option Addr} {n c : Nat} {Qs : List (List (Int × Int))}
theorem SW.keep (h : SW w A n c Qs) (hb : Below w.heap.size w w') : SW w' A n c Qs := SlS.keep h hb
theorem SW.len (h : SW w A n c Qs) : n = Qs.length := by have := SlS.len h; simpa using this
theorem SW.get {i : Nat} (h : SW w A n c Qs) (hi : i < n) : ∃ x, Qs[i]? = some x := ⟨Qs[i]'(by have := h.len; omega), List.getElem?_eq_getElem _⟩
theorem SW.at_ {i : Nat} {q : List (Int × Int)} (h : SW w A n c Qs) (hq : Qs[i]? = some q) : ∃ ad B m d, A = some ad ∧ w.cell? (ad.add i) = some (.slice B m d) ∧ SlW w B m d q := by
  have k := SlS.cells h i (q.map fun q => ((Value.int .u64 q.1, Value.int .u64 q.2) : Value × Value)) (by rw [List.getElem?_map, hq]; rfl)
  exact k
def rawL (Ls : List (List E2)) : List (List (Int × Int)) := Ls.map fun L => L.map fun x => (vF x.A, vF x.B)
theorem SW.of {Ls : List (List E2)} (h : ST w A n c Ls) : SW w A n c (rawL Ls) := by
  unfold SW rawL
  rw [List.map_map]
  have e : ((fun q : List (Int × Int) => q.map fun q => ((Value.int .u64 q.1, Value.int .u64 q.2) : Value × Value)) ∘ fun L : List E2 => L.map fun x => (vF x.A, vF x.B)) = fun L : List E2 => L.map valE := by
    funext L
    simp only [Function.comp_apply, List.map_map]
    rfl
  rw [e]
  exact h
end

/-! ### A block of slices that is written -/
/-- block g holds the lists Ls, each in another block -/
def OwS (w : World) (g : Nat) (Ls : List (List E2)) : Prop :=
  ∃ cur : List Value, w.heap[g]? = some (.cells cur.toArray 22 (0, 0)) ∧ Ls.length ≤ cur.length ∧
    ∀ (i : Nat) (L : List E2), Ls[i]? = some L → ∃ B m d, cur[i]? = some (Value.slice B m d) ∧ Sl w B m d L ∧ ∀ ad, B = some ad → ad.block ≠ g
theorem SlR.far {w : World} {A : Option Addr} {n c : Nat} {ps : List (Value × Value)} (h : SlR w A n c ps) {a : Addr} (x : Value) (e : ∀ ad, A = some ad → ad.block ≠ a.block) : SlR (w.setCell a x) A n c ps := by
  refine ⟨h.len, h.cap, h.top, h.nil, fun i p hp => ?_⟩
  obtain ⟨ad, ha, h0, h1⟩ := h.cells i p hp
  have hne : a.block ≠ (ad.add (i * 2)).block := by
    have := e ad ha
    unfold Addr.add
    split <;> exact fun k => this k.symm
  exact ⟨ad, ha, cell_far h0 hne x, cell_far h1 hne x⟩
section
variable {w w' : World} {g : Nat} {Ls : List (List E2)}
theorem OwS.lt (h : OwS w g Ls) : g < w.heap.size := by obtain ⟨cur, h1, _⟩ := h; exact (Array.getElem?_eq_some_iff.1 h1).1
theorem OwS.keep (h : OwS w g Ls) (hb : Below w.heap.size w w') : OwS w' g Ls := by
  obtain ⟨cur, h1, h2, h3⟩ := h
  refine ⟨cur, heap_keep h1 hb, h2, fun i L hL => ?_⟩
  obtain ⟨B, m, d, k1, k2, k3⟩ := h3 i L hL
  exact ⟨B, m, d, k1, k2.keep hb, k3⟩
theorem OwS.free (h : OwS w g Ls) (k : Nat) : w.frozen? ⟨g, k, none⟩ = false := by
  obtain ⟨cur, h1, _⟩ := h
  simp [World.frozen?, h1]
theorem OwS.at_ {i : Nat} {L : List E2} (h : OwS w g Ls) (hL : Ls[i]? = some L) : ∃ B m d, w.cell? ⟨g, i, none⟩ = some (.slice B m d) ∧ Sl w B m d L ∧ ∀ ad, B = some ad → ad.block ≠ g := by
  obtain ⟨cur, h1, _, h3⟩ := h
  obtain ⟨B, m, d, k1, k2, k3⟩ := h3 i L hL
  exact ⟨B, m, d, by simpa [World.cell?, h1] using k1, k2, k3⟩
theorem OwS.get {i : Nat} (hi : i < Ls.length) : ∃ x, Ls[i]? = some x := ⟨Ls[i]'hi, List.getElem?_eq_getElem _⟩
theorem OwS.set {i : Nat} {B : Option Addr} {m d : Nat} {L : List E2} (h : OwS w g Ls) (hs : Sl w B m d L) (hf : ∀ ad, B = some ad → ad.block ≠ g) : OwS (w.setCell ⟨g, i, none⟩ (.slice B m d)) g (Ls.set i L) := by
  obtain ⟨cur, h1, h2, h3⟩ := h
  have k := heap_setCell_at (i := i) h1 (.slice B m d)
  refine ⟨cur.set i (.slice B m d), by rw [k]; simp, by simpa using h2, fun q M hq => ?_⟩
  rw [List.getElem?_set] at hq
  by_cases e : i = q
  · subst e
    rw [if_pos rfl] at hq
    split at hq
    · next hl =>
      injection hq with hq
      subst hq
      exact ⟨B, m, d, by rw [List.getElem?_set, if_pos rfl, if_pos (by omega)], SlR.far hs _ hf, hf⟩
    · cases hq
  · rw [if_neg e] at hq
    obtain ⟨B', m', d', k1, k2, k3⟩ := h3 q M hq
    exact ⟨B', m', d', by rw [List.getElem?_set, if_neg e]; exact k1, SlR.far k2 _ k3, k3⟩
theorem OwS.st {n c : Nat} (h : OwS w g Ls) (hn : n = Ls.length) (hc : n ≤ c) (ht : c ≤ 9223372036854775807) : ST w (some ⟨g, 0, none⟩) n c Ls := by
  refine ⟨by simpa using hn, hc, ht, fun i p hp => ?_⟩
  rw [List.getElem?_map] at hp
  cases hL : Ls[i]? with
  | none => rw [hL] at hp; cases hp
  | some L =>
    rw [hL] at hp
    injection hp with hp
    subst hp
    obtain ⟨B, m, d, k1, k2, _⟩ := h.at_ hL
    exact ⟨_, B, m, d, rfl, by rw [add_base]; exact k1, k2⟩
end

/-! ### Blocks of three cells -/
def Tri (W : World) (b : Nat) (t : TypeId) (u v z : Value) : Prop := W.heap[b]? = some (.cells #[u, v, z] t (0, 0))
section
variable {W W1 : World} {b : Nat} {t : TypeId} {u v z : Value}
theorem Tri.c0 (h : Tri W b t u v z) : W.cell? ⟨b, 0, none⟩ = some u := by simp [World.cell?, show W.heap[b]? = _ from h]
theorem Tri.c1 (h : Tri W b t u v z) : W.cell? ⟨b, 1, none⟩ = some v := by simp [World.cell?, show W.heap[b]? = _ from h]
theorem Tri.c2 (h : Tri W b t u v z) : W.cell? ⟨b, 2, none⟩ = some z := by simp [World.cell?, show W.heap[b]? = _ from h]
theorem Tri.f0 (h : Tri W b t u v z) : W.frozen? ⟨b, 0, none⟩ = false := by simp [World.frozen?, show W.heap[b]? = _ from h]
theorem Tri.f1 (h : Tri W b t u v z) : W.frozen? ⟨b, 1, none⟩ = false := by simp [World.frozen?, show W.heap[b]? = _ from h]
theorem Tri.f2 (h : Tri W b t u v z) : W.frozen? ⟨b, 2, none⟩ = false := by simp [World.frozen?, show W.heap[b]? = _ from h]
theorem Tri.lt (h : Tri W b t u v z) : b < W.heap.size := (Array.getElem?_eq_some_iff.1 h).1
theorem Tri.keep (h : Tri W b t u v z) (hb : Below W.heap.size W W1) : Tri W1 b t u v z := heap_keep h hb
theorem Tri.new (W : World) (t : TypeId) (u v z : Value) : Tri (W.alloc (.cells #[u, v, z] t)) W.heap.size t u v z := heap_new W _
end

end Go.Proofs.Ytombcjdhjcmhhaa

/- Contracts of package sumcheck: validTerms, Degree, the function of combination; no conditions but that indices are in range. -/
namespace Go.Proofs.Ytombcjdhjcmhhaa
set_option maxRecDepth 8000
open Go.RowKit Gold

/-- is a raw term valid for n tables? -/
def okT (n : Int) (t : Int × Int × List Int) : Bool := evalid t.1 t.2.1 && (decide (1 ≤ t.2.2.length) && decide (t.2.2.length ≤ 3)) && t.2.2.all fun j => decide (0 ≤ j) && decide (j < n)
def okTs (n : Int) (ts : List (Int × Int × List Int)) : Bool := ts.all (okT n)
theorem okTs_no {n : Int} {ts : List (Int × Int × List Int)} {i : Nat} {t : Int × Int × List Int} (h : ts[i]? = some t) (hv : okT n t = false) : okTs n ts = false := by
  unfold okTs
  rw [← Bool.not_eq_true, List.all_eq_true]
  intro hall
  rw [hall t (List.mem_of_getElem? h)] at hv
  cases hv
theorem okTs_yes {n : Int} {ts : List (Int × Int × List Int)} (h : ∀ i t, i < ts.length → ts[i]? = some t → okT n t = true) : okTs n ts = true := by
  unfold okTs
  rw [List.all_eq_true]
  intro q hq
  obtain ⟨i, hi, he⟩ := List.getElem_of_mem hq
  exact h i q hi (by rw [List.getElem?_eq_getElem hi, he])

set_option maxHeartbeats 4000000 in
theorem validTerms_any (A : Option Addr) (n c : Nat) (ts : List (Int × Int × List Int)) (N : Int) (w : World) (h : SlM w A n c ts) :
    Calls Try.prog 48 #[.slice A n c, .int .i64 N] w fun e w' => e = .returned (.bool (okTs N ts)) ∧ Below w.heap.size w w' := by
  have hcap := h.cap
  have htop := h.top
  have HS := Lib.hid h
  have HL := Lib.hid h.len
  clear h
  go_enter Try.func48, Try.ntmps48
  go_wp2_with fail
  go_loopw [11] (fun s wr => ∃ k : Nat, k ≤ n ∧ s = .int .i64 k ∧ (∀ i t, i < k → ts[i]? = some t → okT N t = true) ∧ Below w.heap.size w wr) (fun s _ => n - (intOf s).toNat)
  case atStart => exact ⟨0, Nat.zero_le _, rfl, fun i q hi => absurd hi (Nat.not_lt_zero _), Below.refl _ _⟩
  case round =>
    obtain ⟨k, hk, rfl, hall, hb⟩ := hrel
    have HA := Lib.hid hall
    have HB := Lib.hid hb
    clear hall hb
    by_cases hlt : k < n
    · obtain ⟨t, ht⟩ := HS.out.get hlt
      obtain ⟨ad, B, m, d, rfl, ha, hz⟩ := (HS.out.keep HB.out).cells _ _ ht
      obtain ⟨h0, h1, h2⟩ := ha
      have HT := Lib.hid ht
      have hmd := hz.cap
      have hdt := hz.top
      have HZ := Lib.hid hz
      clear ht hz
      have hk1 : (k : Int) < (n : Int) := by omega
      go_wp2_with fail
      clear h0 h1 h2
      refine calls_named1 (fun V hbV g0 hzV => ?_)
      have HTr := Lib.hid (show Tri V wr.heap.size 65 (.int .u64 t.1) (.int .u64 t.2.1) (.slice B m d) from g0)
      have HZV := Lib.hid (HZ.out.keep hbV)
      have HBV := Lib.hid (below_step HB.out hbV)
      clear hbV g0 hzV HZ HB
      refine (extValid_any t.1 t.2.1 _).mono ?_
      rintro e W1 ⟨rfl, hb⟩
      have HT1 := Lib.hid (HTr.out.keep hb)
      have HZ1 := Lib.hid (HZV.out.keep hb)
      have HB1 := Lib.hid (below_step HBV.out hb)
      clear hb HTr HZV HBV
      have HLZ := Lib.hid HZ1.out.len
      have c0 := HT1.out.c0
      have c1 := HT1.out.c1
      have c2 := HT1.out.c2
      by_cases hok : evalid t.1 t.2.1 = true ∧ 1 ≤ m ∧ m ≤ 3
      · obtain ⟨hv, hm1, hm3⟩ := hok
        have hm1' : ¬ ((m : Int) < 1) := by omega
        have hm3' : (m : Int) ≤ 3 := by omega
        go_wp2_with fail
        clear c0 c1 c2
        generalize W1 = W2 at *
        go_loopw [34] (fun s wr => ∃ q : Nat, q ≤ m ∧ s = .int .i64 q ∧ (∀ i z, i < q → t.2.2[i]? = some z → 0 ≤ z ∧ z < N) ∧ wr = W2) (fun s _ => m - (intOf s).toNat)
        case atStart => exact ⟨0, Nat.zero_le _, rfl, fun i q hi => absurd hi (Nat.not_lt_zero _), rfl⟩
        case round =>
          obtain ⟨q, hq, rfl, hall, rfl⟩ := hrel
          have HQ := Lib.hid hall
          clear hall
          by_cases hlq : q < m
          · obtain ⟨z, hz⟩ := HZ1.out.get hlq
            obtain ⟨ad2, rfl, z0⟩ := HZ1.out.cells _ _ hz
            have HZz := Lib.hid hz
            clear hz
            have hq1 : (q : Int) < (m : Int) := by omega
            by_cases hz0 : z < 0
            · have HV := Lib.hid (okTs_no HT.out (show okT N t = false by
                unfold okT
                rw [Bool.and_eq_false_iff]
                refine .inr ?_
                rw [← Bool.not_eq_true, List.all_eq_true]
                intro ha
                have := ha z (List.mem_of_getElem? HZz.out)
                simp at this
                omega))
              go_wp2_with fail
              go_ret
              exact ⟨by rw [HV.out]; rfl, HB1.out⟩
            · by_cases hzN : z < N
              · go_wp2_with fail
                go_roundw
                case rel => exact ⟨q + 1, by omega, by go_num, fun i y hi hy => by
                  by_cases e : i = q
                  · subst e
                    rw [HZz.out] at hy
                    injection hy with hy
                    subst hy
                    exact ⟨by omega, hzN⟩
                  · exact HQ.out i y (by omega) hy, trivial⟩
                case measure => simp [intOf]; omega
              · have HV := Lib.hid (okTs_no HT.out (show okT N t = false by
                  unfold okT
                  rw [Bool.and_eq_false_iff]
                  refine .inr ?_
                  rw [← Bool.not_eq_true, List.all_eq_true]
                  intro ha
                  have := ha z (List.mem_of_getElem? HZz.out)
                  simp at this
                  omega))
                go_wp2_with fail
                go_ret
                exact ⟨by rw [HV.out]; rfl, HB1.out⟩
          · have hqm : q = m := by omega
            subst hqm
            have HV := Lib.hid (show okT N t = true by
              unfold okT
              rw [hv, ← HLZ.out]
              have : t.2.2.all (fun j => decide (0 ≤ j) && decide (j < N)) = true := by
                rw [List.all_eq_true]
                intro y hy
                obtain ⟨i, hi, he⟩ := List.getElem_of_mem hy
                have := HQ.out i y (by rw [HLZ.out]; exact hi) (by rw [List.getElem?_eq_getElem hi, he])
                simp
                exact this
              rw [this]
              simp
              omega)
            go_wp2_with fail
            go_roundw
            case rel => exact ⟨k + 1, by omega, by go_num, fun i y hi hy => by
              by_cases e : i = k
              · subst e
                rw [HT.out] at hy
                injection hy with hy
                subst hy
                exact HV.out
              · exact HA.out i y (by omega) hy, HB1.out⟩
            case measure => simp [intOf]; omega
      · have HV := Lib.hid (okTs_no HT.out (show okT N t = false by
          unfold okT
          rw [← Bool.not_eq_true]
          intro ha
          simp only [Bool.and_eq_true, decide_eq_true_eq] at ha
          exact hok ⟨ha.1.1, by rw [HLZ.out]; exact ha.1.2.1, by rw [HLZ.out]; exact ha.1.2.2⟩))
        cases hv : evalid t.1 t.2.1 with
        | false =>
          go_wp2_with fail
          go_ret
          exact ⟨by rw [HV.out]; rfl, HB1.out⟩
        | true =>
          by_cases hm1 : (m : Int) < 1
          · go_wp2_with fail
            go_ret
            exact ⟨by rw [HV.out]; rfl, HB1.out⟩
          · have hm3 : ¬ ((m : Int) ≤ 3) := fun h3 => hok ⟨hv, by omega, by omega⟩
            go_wp2_with fail
            go_ret
            exact ⟨by rw [HV.out]; rfl, HB1.out⟩
    · have hkn : k = n := by omega
      subst hkn
      have HV := Lib.hid (okTs_yes fun i t hi => HA.out i t (by have := HL.out; omega))
      go_wp2_with fail
      go_ret
      exact ⟨by rw [HV.out]; rfl, HB.out⟩

set_option maxHeartbeats 4000000 in
theorem sDegree_any (T : Value) (A : Option Addr) (n c : Nat) (ts : List (Int × Int × List Int)) (w : World) (h : SlM w A n c ts) (hT : ∃ B m d, T = .slice B m d) :
    Calls Try.prog 19 #[.agg #[T, .slice A n c]] w fun e w' => e = .returned (.int .i64 (degZ ts : Nat)) ∧ Below w.heap.size w w' := by
  obtain ⟨B0, m0, d0, rfl⟩ := hT
  have hcap := h.cap
  have htop := h.top
  have HS := Lib.hid h
  have HL := Lib.hid h.len
  clear h
  go_enter Try.func19, Try.ntmps19
  go_wp2_with fail
  go_loopw [3, 9] (fun v s wr => ∃ k : Nat, k ≤ n ∧ s = .int .i64 k ∧ v = .int .i64 (degZ (ts.take k) : Nat) ∧ Below w.heap.size w wr) (fun _ s _ => n - (intOf s).toNat)
  case atStart => exact ⟨0, Nat.zero_le _, rfl, rfl, (Below.refl _ _).alloc (Nat.le_refl _) _⟩
  case round =>
    obtain ⟨k, hk, rfl, rfl, hb⟩ := hrel
    have HB := Lib.hid hb
    clear hb
    by_cases hlt : k < n
    · obtain ⟨t, ht⟩ := HS.out.get hlt
      obtain ⟨ad, B, m, d, rfl, ha, hz⟩ := (HS.out.keep HB.out).cells _ _ ht
      obtain ⟨h0, h1, h2⟩ := ha
      have HT := Lib.hid ht
      have hmd := hz.cap
      have hdt := hz.top
      have HZ := Lib.hid hz
      clear ht hz
      have hk1 : (k : Int) < (n : Int) := by omega
      have HD := Lib.hid (show max ((degZ (ts.take k) : Nat) : Int) ((m : Nat) : Int) = ((degZ (ts.take (k + 1)) : Nat) : Int) by rw [degZ_take HT.out, HZ.out.len]; omega)
      go_wp2_with fail
      go_roundw
      case rel => exact ⟨k + 1, by omega, by go_num, by rw [← HD.out]; congr 1; split <;> omega, HB.out.alloc HB.out.size _⟩
      case measure => simp [intOf]; omega
    · have hkn : k = n := by omega
      subst hkn
      have HV := Lib.hid (show ts.take k = ts by rw [HL.out, List.take_length])
      go_wp2_with fail
      go_ret
      exact ⟨by rw [HV.out]; rfl, HB.out⟩

set_option maxHeartbeats 1000000 in
theorem combination_any (A : Option Addr) (n c : Nat) (w : World) :
    Calls Try.prog 46 #[.slice A n c] w fun e w' => e = .returned (.func (.func 62) #[] #[.pointer (some ⟨w.heap.size, 0, none⟩)]) ∧ One w' w.heap.size 28 (.slice A n c) ∧ Below w.heap.size w w' := by
  go_enter Try.func46, Try.ntmps46
  go_wp2_with fail
  go_ret
  exact ⟨rfl, One.new w _ _, (Below.refl _ _).alloc (Nat.le_refl _) _⟩

set_option maxHeartbeats 4000000 in
theorem combination1_any (A : Option Addr) (n c : Nat) (ts : List Tm) (B : Option Addr) (m d : Nat) (vs : List E2) (b : Nat) (w : World) (h : TM w A n c ts) (hv : Sl w B m d vs) (hb : One w b 28 (.slice A n c)) (hi : InT ts m) :
    Calls Try.prog 62 #[.slice B m d, .pointer (some ⟨b, 0, none⟩)] w fun e w' => e = .returned (.agg #[.int .u64 (vF (finE ts vs).A), .int .u64 (vF (finE ts vs).B)]) ∧ Below w.heap.size w w' := by
  have hcap := h.cap
  have htop := h.top
  have hmd := hv.cap
  have hdt := hv.top
  have HS := Lib.hid h
  have HL := Lib.hid h.len
  have HVs := Lib.hid hv
  have HI := Lib.hid hi
  have HO := Lib.hid hb
  clear h hv hb hi
  go_enter Try.func62, Try.ntmps62
  go_upto_region 2 with fail
  refine wp_named2 (fun V hbV g0 g1 hzV => ?_)
  have o0 := (HO.out.keep hbV).c
  have HZ := Lib.hid (show Two V w.heap.size 43 (.int .u64 0) (.int .u64 0) from g0)
  have HA := Lib.hid (show Two V (w.heap.size + 1) 43 (.int .u64 0) (.int .u64 0) from g1)
  have HB := Lib.hid hbV
  clear g0 g1 hbV HO
  go_wp2_with fail
  clear o0
  go_loopw [12] (fun s wr => ∃ k : Nat, k ≤ n ∧ s = .int .i64 k ∧ Two wr (w.heap.size + 1) 43 (.int .u64 (vF (finF (ts.take k) (cfE vs)).A)) (.int .u64 (vF (finF (ts.take k) (cfE vs)).B)) ∧ Two wr w.heap.size 43 (.int .u64 0) (.int .u64 0) ∧ Below w.heap.size w wr) (fun s _ => n - (intOf s).toNat)
  case atStart => exact ⟨0, Nat.zero_le _, rfl, HA.out, HZ.out, HB.out⟩
  case round =>
    clear HA HZ HB
    obtain ⟨k, hk, rfl, ha, hz, hb⟩ := hrel
    have HZ := Lib.hid hz
    have HB := Lib.hid hb
    clear hz hb
    by_cases hlt : k < n
    · obtain ⟨t, ht⟩ := HS.out.get hlt
      obtain ⟨ad, E, q, f, rfl, hat, hzz⟩ := HS.out.at_ ht
      obtain ⟨h0, h1, h2⟩ := hat.keep HB.out
      generalize hacc : finF (ts.take k) (cfE vs) = acc at ha
      have HACC := Lib.hid hacc
      have HT := Lib.hid ht
      have HA := Lib.hid ha
      have hqf := hzz.cap
      have hft := hzz.top
      have HZZ := Lib.hid hzz
      clear ht hzz ha hacc
      have hk1 : (k : Int) < (n : Int) := by omega
      go_wp2_with fail
      clear h0 h1 h2
      refine wp_named2 (fun V2 hbV g0 g1 hzV2 => ?_)
      have HP := Lib.hid (show Two V2 (wr.heap.size + 1) 43 (.int .u64 (vF t.1.A)) (.int .u64 (vF t.1.B)) from g1)
      have HA2 := Lib.hid (HA.out.keep hbV)
      have HZ2 := Lib.hid (HZ.out.keep hbV)
      have HB2 := Lib.hid (below_step HB.out hbV)
      have hbig : w.heap.size + 1 < wr.heap.size := HA.out.lt
      clear g0 g1 hbV HB HZ HA
      have hb7 : w.heap.size + 1 < wr.heap.size + 1 := Nat.lt_succ_of_lt hbig
      clear hbig
      generalize wr.heap.size + 1 = b7 at *
      go_loopw [21] (fun s w2 => ∃ j : Nat, j ≤ q ∧ s = .int .i64 j ∧ Two w2 b7 43 (.int .u64 (vF ((t.2.take j).foldl (fun p j => p * cfE vs j) t.1).A)) (.int .u64 (vF ((t.2.take j).foldl (fun p j => p * cfE vs j) t.1).B)) ∧ Two w2 (w.heap.size + 1) 43 (.int .u64 (vF acc.A)) (.int .u64 (vF acc.B)) ∧ Two w2 w.heap.size 43 (.int .u64 0) (.int .u64 0) ∧ Below w.heap.size w w2) (fun s _ => q - (intOf s).toNat)
      case atStart => exact ⟨0, Nat.zero_le _, rfl, HP.out, HA2.out, HZ2.out, HB2.out⟩
      case round =>
        clear HP HA2 HZ2 HB2
        obtain ⟨j, hj, rfl, hp, ha, hz, hb⟩ := hrel
        have HA := Lib.hid ha
        have HZ := Lib.hid hz
        have HB := Lib.hid hb
        clear ha hz hb
        by_cases hlj : j < q
        · obtain ⟨x, hx⟩ := List.getElem?_eq_some_iff.2 ⟨show j < t.2.length by have := HZZ.out.len; simp at this; omega, rfl⟩ |> fun h => (⟨_, h⟩ : ∃ x, t.2[j]? = some x)
          obtain ⟨ad2, rfl, z0⟩ := (HZZ.out.keep HB.out).cells j (x : Int) (by rw [List.getElem?_map, hx]; rfl)
          have hxm := HI.out.get HT.out hx
          obtain ⟨y, hy⟩ := HVs.out.get hxm
          obtain ⟨ad3, rfl, p0, p1⟩ := (HVs.out.keep HB.out).at_ hy
          have HE := Lib.hid (prodT_take (v := cfE vs) hx)
          have HY := Lib.hid (cfE_some hy)
          generalize hpr : (t.2.take j).foldl (fun p j => p * cfE vs j) t.1 = pr at hp
          have HPR := Lib.hid hpr
          have HP := Lib.hid hp
          clear hx hy hp hpr
          have l0 := Later.cell HP.out.c0
          have l1 := Later.cell HP.out.c1
          have l2 := Later.cell p0
          have l3 := Later.cell p1
          clear p0 p1
          have hj1 : (j : Int) < (q : Int) := by omega
          have hx0 : (0 : Int) ≤ (x : Int) := by omega
          have hx1 : (x : Int) < (m : Int) := by omega
          go_wp2_with fail
          refine wp_later_tail 6 (by kernel_rfl) (by kernel_rfl) ?_
          simp only [List.take_succ_cons, List.take_zero, List.drop_succ_cons, List.drop_zero]
          repeat (go_big_quiet_step ((go_at_call 63; with_reducible exact Calls.later (extMul_any pr y _))))
          refine wpQuiet_nil ?_
          intro X
          clear l0 l1 l2 l3 z0
          have HP1 := Lib.hid (HP.out.keep X.below)
          have HA1 := Lib.hid (HA.out.keep X.below)
          have HZ1 := Lib.hid (HZ.out.keep X.below)
          have HB1 := Lib.hid (below_step HB.out X.below)
          have c0 := HP1.out.c0
          have c1 := HP1.out.c1
          have f0 := HP1.out.f0
          have f1 := HP1.out.f1
          go_wp2_with fail
          go_roundw
          case rel => exact ⟨j + 1, by omega, by go_num, by rw [HE.out, HPR.out, HY.out]; exact (HP1.out.set0 _).set1 _, (HA1.out.far _ (by simp; omega)).far _ (by simp; omega), (HZ1.out.far _ (by simp; omega)).far _ (by simp; omega), (HB1.out.setCell (by simp; omega) _).setCell (by simp; omega) _⟩
          case measure => simp [intOf]; omega
        · have hjq : j = q := by omega
          subst hjq
          rw [show t.2.take j = t.2 by rw [show j = t.2.length by have := HZZ.out.len; simpa using this, List.take_length]] at hp
          generalize hpr : t.2.foldl (fun p j => p * cfE vs j) t.1 = pr at hp
          have HPR := Lib.hid (show prodT t (cfE vs) = pr from hpr)
          have HP := Lib.hid hp
          clear hpr hp
          have c0 := HP.out.c0
          have c1 := HP.out.c1
          have a0 := HA.out.c0
          have a1 := HA.out.c1
          have f0 := HA.out.f0
          have f1 := HA.out.f1
          go_wp2_with fail
          clear c0 c1 a0 a1 f0 f1
          refine (extAdd_any acc pr _).mono ?_
          rintro e W3 ⟨rfl, hb⟩
          have HA3 := Lib.hid (HA.out.keep hb)
          have HZ3 := Lib.hid (HZ.out.keep hb)
          have HB3 := Lib.hid (below_step HB.out hb)
          clear hb HA HZ HB
          have a0 := HA3.out.c0
          have a1 := HA3.out.c1
          have f0 := HA3.out.f0
          have f1 := HA3.out.f1
          go_wp2_with fail
          go_roundw
          case rel => exact ⟨k + 1, by omega, by go_num, by rw [finF_take HT.out, HACC.out, HPR.out]; exact (HA3.out.set0 _).set1 _, (HZ3.out.far _ (by simp)).far _ (by simp), (HB3.out.setCell (by simp) _).setCell (by simp) _⟩
          case measure => simp [intOf]; omega
    · have hkn : k = n := by omega
      subst hkn
      rw [show ts.take k = ts by rw [HL.out, List.take_length]] at ha
      generalize hq : finF ts (cfE vs) = q at ha
      have HQ := Lib.hid (show finE ts vs = q from hq)
      clear hq
      have c0 := ha.c0
      have c1 := ha.c1
      have z0 := HZ.out.c0
      have z1 := HZ.out.c1
      have f0 := HZ.out.f0
      have f1 := HZ.out.f1
      clear ha
      go_wp2_with fail
      exact bodyPost_ret (v := .agg #[.int .u64 (vF q.A), .int .u64 (vF q.B)]) (by simp [results, Try.results62, go_sem, z0, z1]) rfl ⟨by rw [HQ.out], (HB.out.setCell (Nat.le_refl _) _).setCell (Nat.le_refl _) _⟩

end Go.Proofs.Ytombcjdhjcmhhaa

/- Contracts of package sumcheck: copies of sums, clone, bind, Bind; no conditions but that terms and tables are there. -/
namespace Go.Proofs.Ytombcjdhjcmhhaa
set_option maxRecDepth 8000
open Go.RowKit Gold

theorem ints_info : (Try.prog.info? 3).map (fun i => (i.zero, i.size, i.bytes)) = some (some (.int .i64 0), 1, 8) := by kernel_rfl
theorem exts_info : (Try.prog.info? 22).map (fun i => (i.zero, i.size, i.bytes)) = some (some (.slice none 0 0), 1, 24) := by kernel_rfl
theorem prod_info : (Try.prog.info? 65).map (fun i => (i.zero.map (fun z => z.cells.size), i.size, i.bytes)) = some (some 3, 3, 40) := by kernel_rfl
theorem run_makeM (n : Nat) (hn : n ≤ 65536) : ∃ cs : Array Value, cs.size = n * 3 ∧ ∀ w : World, (Instr.makeSlice 28 (.int .i64 (n : Int)) (.int .i64 (n : Int))).run Try.prog w = .ok (.slice (some ⟨w.heap.size, 0, none⟩) n n) (w.alloc (.cells cs 65)) := by
  have hp := prod_info
  cases hi : Try.prog.info? 65 with
  | none => rw [hi] at hp; cases hp
  | some i =>
    rw [hi] at hp
    simp only [Option.map_some, Option.some.injEq, Prod.mk.injEq] at hp
    obtain ⟨hz, hs, hb⟩ := hp
    cases hzz : i.zero with
    | none => rw [hzz] at hz; cases hz
    | some z =>
      refine ⟨madeCells z.cells (n * 3), size_madeCells _ _, fun w => ?_⟩
      have h1 : (i.bytes : Int) * (n : Int) ≤ 281474976710656 := by
        rw [hb]
        omega
      have hr := run_make (P := Try.prog) w 28 65 i z Try.underlying28 hi hzz .i64 .i64 (n : Int) (n : Int) (by omega) (by omega) h1 (by omega)
      simp only [Int.toNat_natCast] at hr
      rw [hr, hs]
theorem run_storeM {ev : Operand → Value} {o : Oper} {p x : Operand} {w : World} (g i : Nat) (a b : Int) (S : Option Addr) (m d : Nat) (cur : Array Value) (ho : o.op = .store 65 p x) (hp : ev p = .pointer (some ⟨g, i, none⟩)) (hx : ev x = .agg #[.int .u64 a, .int .u64 b, .slice S m d])
    (h : w.heap[g]? = some (.cells cur 65 (0, 0))) (hi : i + 2 < cur.size) :
    (execOp ev o).run Try.prog w = .ok .skip (((w.setCell ⟨g, i, none⟩ (.int .u64 a)).setCell ⟨g, i + 1, none⟩ (.int .u64 b)).setCell ⟨g, i + 2, none⟩ (.slice S m d)) := by
  have c0 : w.cell? ⟨g, i, none⟩ = some (cur[i]'(by omega)) := by simp [World.cell?, h, Array.getElem?_eq_getElem (show i < cur.size by omega)]
  have c1 : w.cell? ⟨g, i + 1, none⟩ = some (cur[i + 1]'(by omega)) := by simp [World.cell?, h, Array.getElem?_eq_getElem (show i + 1 < cur.size by omega)]
  have c2 : w.cell? ⟨g, i + 2, none⟩ = some (cur[i + 2]'(by omega)) := by simp [World.cell?, h, Array.getElem?_eq_getElem hi]
  have f : ∀ k, w.frozen? ⟨g, k, none⟩ = false := fun k => by simp [World.frozen?, h]
  have f0 := f i
  have f1 := f (i + 1)
  have f2 := f (i + 2)
  have k1 := heap_setCell_at (i := i) h (.int .u64 a)
  have k2 := heap_setCell_at (i := i + 1) k1 (.int .u64 b)
  have d1 : (w.setCell ⟨g, i, none⟩ (.int .u64 a)).cell? ⟨g, i + 1, none⟩ = some (cur[i + 1]'(by omega)) := (World.cell?_setCell_other w _ _ _ (by simp)).trans c1
  have d2 : ((w.setCell ⟨g, i, none⟩ (.int .u64 a)).setCell ⟨g, i + 1, none⟩ (.int .u64 b)).cell? ⟨g, i + 2, none⟩ = some (cur[i + 2]'(by omega)) := ((World.cell?_setCell_other _ _ _ _ (by simp)).trans (World.cell?_setCell_other w _ _ _ (by simp))).trans c2
  have e1 : (w.setCell ⟨g, i, none⟩ (.int .u64 a)).frozen? ⟨g, i + 1, none⟩ = false := by simp [World.frozen?, k1]
  have e2 : ((w.setCell ⟨g, i, none⟩ (.int .u64 a)).setCell ⟨g, i + 1, none⟩ (.int .u64 b)).frozen? ⟨g, i + 2, none⟩ = false := by simp [World.frozen?, k2]
  clear k1 k2 c1 c2 f1 f2 f
  unfold execOp
  rw [ho]
  simp only [hp, hx]
  go_simp

theorem owned_row {w : World} {base : Nat} {e : TypeId} {size : Nat} {v : Value} {n : Nat} {xs : List Value} (h : w.ownsRow base e size v n xs) (hn : 0 < n) :
    ∃ g cap cur, v = .slice (some ⟨g, 0, none⟩) n cap ∧ base ≤ g ∧ n ≤ cap ∧ cap ≤ 9223372036854775807 ∧ w.heap[g]? = some (.cells cur e (0, 0)) ∧ cur.toList.take (n * size) = xs := by
  rcases h.2 with ⟨_, h0⟩ | ⟨g, cap, cur, hv, hb, hg, hc, hm, _, ht⟩
  · omega
  · exact ⟨g, cap, cur, hv, hb, hc, by unfold maxLen at hm; omega, hg, ht⟩
theorem row_cell {w : World} {g i : Nat} {cur : Array Value} {e : TypeId} {k : Nat} {xs : List Value} {u : Value} (h : w.heap[g]? = some (.cells cur e (0, 0))) (ht : cur.toList.take k = xs) (hu : xs[i]? = some u) : w.cell? ⟨g, i, none⟩ = some u := by
  rw [← ht] at hu
  have hl := (List.getElem?_eq_some_iff.1 hu).1
  rw [List.getElem?_take_of_lt (by simp at hl; omega)] at hu
  simpa [World.cell?, h] using hu

/-- append([]int(nil), s...) -/
theorem hOp_copyZ {o : Oper} {a : Act} {w : World} {K : Value → World → Prop} (x : Operand)
    (ho : o.op = .call { callee := .builtin .append, args := #[.const (.slice none 0 0), x], argTypes := #[63, 63] }) (A : Option Addr) (m d : Nat) (zs : List Int) (hx : a.eval x = .slice A m d) (hz : SiZ w A m d zs) (hm : 0 < m) (hm1 : m ≤ 65536)
    (h : ∀ g c w', SiZ w' (some ⟨g, 0, none⟩) m c zs → w.heap.size ≤ g → g < w'.heap.size → Below w.heap.size w w' → K (.slice (some ⟨g, 0, none⟩) m c) w') : hOp Try.prog o K a w := by
  obtain ⟨i, hi, hzr, hs2, hb⟩ := info_parts ints_info
  have hl := hz.len
  obtain ⟨ad, rfl⟩ : ∃ ad, A = some ad := by
    obtain ⟨z, hzz⟩ := hz.get hm
    obtain ⟨ad, e, _⟩ := hz.cells _ _ hzz
    exact ⟨ad, e⟩
  obtain ⟨v', w', hrun, hown, hg, _⟩ := run_append_own (P := Try.prog) w w.heap.size 63 o.type 3 i (.int .i64 0) 1 8 Try.underlying63 hi hzr hs2 hb rfl (by omega) (.slice none 0 0) 0 [] (World.ownsRow_nil w _ _ _) ad m d (zs.map fun z => Value.int .i64 z)
    (by rw [List.length_map]; omega) (by
      intro j u hj
      rw [List.getElem?_map] at hj
      cases hzj : zs[j]? with
      | none => rw [hzj] at hj; cases hj
      | some z =>
        rw [hzj] at hj
        injection hj with hj
        subst hj
        obtain ⟨ad', e, hc⟩ := hz.cells _ _ hzj
        injection e with e
        subst e
        exact hc) (by
      intro u hu
      rw [List.mem_map] at hu
      obtain ⟨z, _, rfl⟩ := hu
      rfl) (by unfold maxLen; omega) (by omega) (Nat.le_refl _)
  rw [Nat.zero_add, List.nil_append] at hown
  obtain ⟨g, cap, cur, rfl, hgb, hc, ht, hgc, htk⟩ := owned_row hown hm
  unfold hOp execOp
  simp only [ho, resolve, invoke, builtin, Sem.run_bind, Sem.run_pure, Result.andThen_ok, List.map_toArray, List.map_cons, List.map_nil, Act.eval]
  have hx' := hx
  simp only [Act.eval] at hx'
  simp only [hx', hrun, Result.andThen_ok]
  refine h g cap w' ⟨hl, hc, ht, (fun e => by cases e), fun j z hj => ⟨_, rfl, ?_⟩⟩ hgb (Array.getElem?_eq_some_iff.1 hgc).1 (Below.grown (Below.refl _ _) hg (Nat.le_refl _) (fun q hq => by cases hq))
  rw [add_base]
  exact row_cell hgc htk (by rw [List.getElem?_map, hj]; rfl)

/-- block g holds the lists that lay in w0 -/
def OwC (w0 w : World) (g : Nat) (Ls : List (List E2)) : Prop :=
  ∃ cur : List Value, w.heap[g]? = some (.cells cur.toArray 22 (0, 0)) ∧ Ls.length ≤ cur.length ∧
    ∀ (i : Nat) (L : List E2), Ls[i]? = some L → ∃ B m d, cur[i]? = some (Value.slice B m d) ∧ Sl w0 B m d L ∧ ∀ ad, B = some ad → ad.block ≠ g
theorem OwC.ows {w0 w w' : World} {g : Nat} {Ls : List (List E2)} (h : OwC w0 w g Ls) (e : w'.heap[g]? = w.heap[g]?) (hb : Below w0.heap.size w0 w') : OwS w' g Ls := by
  obtain ⟨cur, h1, h2, h3⟩ := h
  refine ⟨cur, e.trans h1, h2, fun i L hL => ?_⟩
  obtain ⟨B, m, d, k1, k2, k3⟩ := h3 i L hL
  exact ⟨B, m, d, k1, k2.keep hb, k3⟩
theorem OwC.lt {w0 w : World} {g : Nat} {Ls : List (List E2)} (h : OwC w0 w g Ls) : g < w.heap.size := by obtain ⟨cur, h1, _⟩ := h; exact (Array.getElem?_eq_some_iff.1 h1).1
/-- append([][]api.Ext(nil), s...) -/
theorem wpList_copyS {ops : Array Oper} {rest : List Oper} {o : Oper} {a : Act} {Q : Exit → Act → World → Prop} {w : World} (w0 : World) (hgd : o.guard = none) (x : Operand)
    (ho : o.op = .call { callee := .builtin .append, args := #[.const (.slice none 0 0), x], argTypes := #[27, 27] }) (A : Option Addr) (m d : Nat) (Ls : List (List E2)) (hx : a.eval x = .slice A m d) (hs : ST w0 A m d Ls) (hb0 : Below w0.heap.size w0 w) (hL0 : ∀ L ∈ Ls, 0 < L.length) (hm : 0 < m) (hm1 : m ≤ 65536)
    (h : ∀ g c w', OwC w0 w' g Ls → w.heap.size ≤ g → m ≤ c → c ≤ 9223372036854775807 → Below w.heap.size w w' → wpList Try.prog ops Q rest (a.put o.dst (.slice (some ⟨g, 0, none⟩) m c)) w') : wpList Try.prog ops Q (o :: rest) a w := by
  obtain ⟨i, hi, hzr, hs2, hb⟩ := info_parts exts_info
  have hl := hs.len
  obtain ⟨ad, rfl⟩ : ∃ ad, A = some ad := by
    obtain ⟨L, hL⟩ := hs.get hm
    obtain ⟨ad, _, _, _, e, _⟩ := hs.at_ hL
    exact ⟨ad, e⟩
  obtain ⟨f, hf⟩ : ∃ f : Nat → Value, ∀ j L, Ls[j]? = some L → ∃ B q e, f j = .slice B q e ∧ w.cell? (ad.add j) = some (f j) ∧ Sl w0 B q e L := by
    refine ⟨fun j => (w.cell? (ad.add j)).getD undef, fun j L hL => ?_⟩
    show ∃ B q e, (w.cell? (ad.add j)).getD undef = .slice B q e ∧ w.cell? (ad.add j) = some ((w.cell? (ad.add j)).getD undef) ∧ Sl w0 B q e L
    obtain ⟨ad', B, q, e, ha, hc, hsl⟩ := hs.at_ hL
    injection ha with ha
    subst ha
    replace hc := cell_keep hc hb0
    exact ⟨B, q, e, by rw [hc]; rfl, by rw [hc]; rfl, hsl⟩
  have hget : ∀ (j : Nat) (u : Value), ((List.range m).map f)[j]? = some u → j < m ∧ u = f j := by
    intro j u hj
    rw [List.getElem?_map] at hj
    by_cases hjm : j < m
    · rw [List.getElem?_range hjm] at hj
      injection hj with hj
      exact ⟨hjm, hj.symm⟩
    · rw [List.getElem?_eq_none (by simp; omega)] at hj
      cases hj
  refine wpList_append_own w hgd (.const (.slice none 0 0)) x 27 ho w.heap.size 22 i (.slice none 0 0) 1 24 Try.underlying27 hi hzr hs2 hb rfl (by omega) (.slice none 0 0) 0 [] rfl (World.ownsRow_nil w _ _ _) ad m d ((List.range m).map f) hx (by simp) ?_ ?_ ?_ ?_ (Nat.le_refl _) ?_
  · intro j u hj
    obtain ⟨hjm, rfl⟩ := hget j u hj
    obtain ⟨L, hL⟩ := hs.get hjm
    obtain ⟨_, _, _, _, hc, _⟩ := hf j L hL
    exact hc
  · intro u hu
    rw [List.mem_map] at hu
    obtain ⟨j, hj, rfl⟩ := hu
    rw [List.mem_range] at hj
    obtain ⟨L, hL⟩ := hs.get hj
    obtain ⟨B, q, e, hv, _, _⟩ := hf j L hL
    rw [hv]
    rfl
  · unfold maxLen; omega
  · omega
  · intro v' w' hown hg _
    rw [Nat.zero_add, List.nil_append] at hown
    obtain ⟨g, cap, cur, rfl, hgb, hc, ht, hgc, htk⟩ := owned_row hown hm
    have hbel : Below w.heap.size w w' := Below.grown (Below.refl _ _) hg (Nat.le_refl _) (fun q hq => by cases hq)
    refine h g cap w' ⟨cur.toList, by simpa using hgc, ?_, fun j L hL => ?_⟩ hgb hc ht hbel
    · have := congrArg List.length htk
      simp at this
      simp
      omega
    · have hjm : j < m := by rw [hl]; exact (List.getElem?_eq_some_iff.1 hL).1
      obtain ⟨B, q, e, hv, hce, hsl⟩ := hf j L hL
      refine ⟨B, q, e, ?_, hsl, fun ad2 hB => ?_⟩
      · have hu : ((List.range m).map f)[j]? = some (f j) := by rw [List.getElem?_map, List.getElem?_range hjm]; rfl
        rw [← htk, List.getElem?_take_of_lt (by omega)] at hu
        rw [hu, hv]
      · subst hB
        obtain ⟨y, hy⟩ := hsl.get (i := 0) (by rw [hsl.len]; exact hL0 L (List.mem_of_getElem? hL))
        obtain ⟨ad3, e3, h0, _⟩ := hsl.at_ hy
        injection e3 with e3
        subst e3
        have := World.block_lt_of_cell? w0 _ h0
        rw [add_block] at this
        have := hb0.size
        omega


/-- the first k terms lie in block g, their indices in other blocks -/
def OwM (w : World) (g n : Nat) (ts : List (Int × Int × List Int)) (k : Nat) : Prop :=
  ∃ cur : Array Value, w.heap[g]? = some (.cells cur 65 (0, 0)) ∧ cur.size = n * 3 ∧
    ∀ (i : Nat) (t : Int × Int × List Int), i < k → ts[i]? = some t → ∃ B m d, cur[i * 3]? = some (Value.int .u64 t.1) ∧ cur[i * 3 + 1]? = some (Value.int .u64 t.2.1) ∧ cur[i * 3 + 2]? = some (Value.slice (some B) m d) ∧ SiZ w (some B) m d t.2.2 ∧ g < B.block
theorem SiZ.far {w : World} {A : Option Addr} {n c : Nat} {zs : List Int} (h : SiZ w A n c zs) {a : Addr} (x : Value) (e : ∀ ad, A = some ad → ad.block ≠ a.block) : SiZ (w.setCell a x) A n c zs := by
  refine ⟨h.len, h.cap, h.top, h.nil, fun i p hp => ?_⟩
  obtain ⟨ad, ha, h0⟩ := h.cells i p hp
  have hne : a.block ≠ (ad.add i).block := by
    have := e ad ha
    unfold Addr.add
    split <;> exact fun k => this k.symm
  exact ⟨ad, ha, cell_far h0 hne x⟩
theorem SiZ.grown {w w' : World} {A : Option Addr} {n c : Nat} {zs : List Int} (h : SiZ w A n c zs) {g : Nat} (hg : w.grownBy w' (some g)) (e : ∀ ad, A = some ad → ad.block ≠ g) : SiZ w' A n c zs := by
  refine ⟨h.len, h.cap, h.top, h.nil, fun i p hp => ?_⟩
  obtain ⟨ad, ha, h0⟩ := h.cells i p hp
  have hb := World.block_lt_of_cell? w _ h0
  rw [add_block] at hb
  refine ⟨ad, ha, (hg.cell_far _ (by rw [add_block]; exact hb) ?_).trans h0⟩
  rw [add_block]
  intro k
  injection k with k
  exact e ad ha k
theorem OwM.keep {w w' : World} {g n : Nat} {ts : List (Int × Int × List Int)} {k : Nat} (h : OwM w g n ts k) (hb : Below w.heap.size w w') : OwM w' g n ts k := by
  obtain ⟨cur, h1, h2, h3⟩ := h
  refine ⟨cur, heap_keep h1 hb, h2, fun i t hi ht => ?_⟩
  obtain ⟨B, m, d, k0, k1, k2, k3, k4⟩ := h3 i t hi ht
  exact ⟨B, m, d, k0, k1, k2, k3.keep hb, k4⟩
theorem OwM.lt {w : World} {g n : Nat} {ts : List (Int × Int × List Int)} {k : Nat} (h : OwM w g n ts k) : g < w.heap.size := by obtain ⟨cur, h1, _⟩ := h; exact (Array.getElem?_eq_some_iff.1 h1).1
theorem OwM.step {w : World} {g n : Nat} {ts : List (Int × Int × List Int)} {k : Nat} {t : Int × Int × List Int} (h : OwM w g n ts k) (ht : ts[k]? = some t) (hk : k < n) {B : Addr} {m d : Nat} (hs : SiZ w (some B) m d t.2.2) (hB : g < B.block) :
    OwM (((w.setCell ⟨g, k * 3, none⟩ (.int .u64 t.1)).setCell ⟨g, k * 3 + 1, none⟩ (.int .u64 t.2.1)).setCell ⟨g, k * 3 + 2, none⟩ (.slice (some B) m d)) g n ts (k + 1) := by
  obtain ⟨cur, h1, h2, h3⟩ := h
  have k1 := heap_setCell_at (i := k * 3) h1 (.int .u64 t.1)
  have k2 := heap_setCell_at (i := k * 3 + 1) k1 (.int .u64 t.2.1)
  have k3 := heap_setCell_at (i := k * 3 + 2) k2 (.slice (some B) m d)
  refine ⟨_, k3, by simp [h2], fun i q hi hq => ?_⟩
  have far : ∀ {A : Option Addr} {n c : Nat} {zs : List Int}, SiZ w A n c zs → (∀ ad, A = some ad → ad.block ≠ g) → SiZ (((w.setCell ⟨g, k * 3, none⟩ (.int .u64 t.1)).setCell ⟨g, k * 3 + 1, none⟩ (.int .u64 t.2.1)).setCell ⟨g, k * 3 + 2, none⟩ (.slice (some B) m d)) A n c zs :=
    fun h e => ((h.far (a := ⟨g, k * 3, none⟩) _ e).far (a := ⟨g, k * 3 + 1, none⟩) _ e).far (a := ⟨g, k * 3 + 2, none⟩) _ e
  by_cases e : i = k
  · subst e
    rw [ht] at hq
    injection hq with hq
    subst hq
    refine ⟨B, m, d, ?_, ?_, ?_, far hs (fun ad e => by injection e with e; subst e; omega), hB⟩
    · simp only [Array.getElem?_setIfInBounds, Array.size_setIfInBounds, h2]
      rw [if_neg (by omega), if_neg (by omega), if_pos trivial, if_pos (by omega)]
    · simp only [Array.getElem?_setIfInBounds, Array.size_setIfInBounds, h2]
      rw [if_neg (by omega), if_pos trivial, if_pos (by omega)]
    · simp only [Array.getElem?_setIfInBounds, Array.size_setIfInBounds, h2]
      rw [if_pos trivial, if_pos (by omega)]
  · obtain ⟨B', m', d', q0, q1, q2, q3, q4⟩ := h3 i q (by omega) hq
    refine ⟨B', m', d', ?_, ?_, ?_, far q3 (fun ad e => by injection e with e; subst e; omega), q4⟩
    · simp only [Array.getElem?_setIfInBounds]
      rw [if_neg (by omega), if_neg (by omega), if_neg (by omega)]
      exact q0
    · simp only [Array.getElem?_setIfInBounds]
      rw [if_neg (by omega), if_neg (by omega), if_neg (by omega)]
      exact q1
    · simp only [Array.getElem?_setIfInBounds]
      rw [if_neg (by omega), if_neg (by omega), if_neg (by omega)]
      exact q2
theorem OwM.slm {w : World} {g n : Nat} {ts : List (Int × Int × List Int)} (h : OwM w g n ts n) (hn : n = ts.length) (h1 : n ≤ 65536) : SlM w (some ⟨g, 0, none⟩) n n ts := by
  obtain ⟨cur, hg, h2, h3⟩ := h
  refine ⟨hn, Nat.le_refl _, by omega, fun i t ht => ?_⟩
  obtain ⟨B, m, d, k0, k1, k2, k3, _⟩ := h3 i t (by rw [hn]; exact (List.getElem?_eq_some_iff.1 ht).1) ht
  refine ⟨_, some B, m, d, rfl, ?_, k3⟩
  rw [add_base]
  exact ⟨by simpa [World.cell?, hg] using k0, by simpa [World.cell?, hg] using k1, by simpa [World.cell?, hg] using k2⟩

theorem cell_block {w w' : World} {a : Addr} {v : Value} (h : w.cell? a = some v) (e : w'.heap[a.block]? = w.heap[a.block]?) : w'.cell? a = some v := (World.cell?_of_block e).trans h
theorem SiZ.over {w w' : World} {g : Nat} {A : Option Addr} {n c : Nat} {zs : List Int} (h : SiZ w A n c zs) (hA : ∀ ad, A = some ad → g < ad.block) (hW : ∀ k, g ≤ k → k < w.heap.size → w'.heap[k]? = w.heap[k]?) : SiZ w' A n c zs := by
  refine ⟨h.len, h.cap, h.top, h.nil, fun i z hz => ?_⟩
  obtain ⟨ad, e, hc⟩ := h.cells i z hz
  refine ⟨ad, e, cell_block hc (hW _ ?_ (World.block_lt_of_cell? w _ hc))⟩
  rw [add_block]
  exact Nat.le_of_lt (hA ad e)
theorem OwM.over {w w' : World} {g n : Nat} {ts : List (Int × Int × List Int)} (h : OwM w g n ts n) (hn : n = ts.length) (h1 : n ≤ 65536) (hW : ∀ k, g ≤ k → k < w.heap.size → w'.heap[k]? = w.heap[k]?) : SlM w' (some ⟨g, 0, none⟩) n n ts := by
  have hl := h.lt
  obtain ⟨cur, hg, h2, h3⟩ := h
  refine OwM.slm ⟨cur, (hW g (Nat.le_refl _) hl).trans hg, h2, fun i t hi ht => ?_⟩ hn h1
  obtain ⟨B, m, d, k0, k1, k2, k3, k4⟩ := h3 i t hi ht
  exact ⟨B, m, d, k0, k1, k2, k3.over (fun ad e => by injection e with e; subst e; exact k4) hW, k4⟩
set_option maxHeartbeats 4000000 in
theorem sClone_any (A : Option Addr) (n c : Nat) (Ls : List (List E2)) (B : Option Addr) (m d : Nat) (ts : List (Int × Int × List Int)) (w : World) (hT : ST w A n c Ls) (hL0 : ∀ L ∈ Ls, 0 < L.length) (hM : SlM w B m d ts) (hM0 : ∀ t ∈ ts, 0 < t.2.2.length ∧ t.2.2.length ≤ 3) (hn : 0 < n) (hn1 : n ≤ 65536) (hm1 : m ≤ 65536) :
    Calls Try.prog 42 #[.agg #[.slice A n c, .slice B m d]] w fun e w' => ∃ g q gM, e = .returned (.agg #[.slice (some ⟨g, 0, none⟩) n q, .slice (some ⟨gM, 0, none⟩) m m]) ∧ OwS w' g Ls ∧ n ≤ q ∧ q ≤ 9223372036854775807 ∧ (∀ W', w'.grownBy W' (some g) → SlM W' (some ⟨gM, 0, none⟩) m m ts) ∧ w.heap.size ≤ g ∧ w.heap.size ≤ gM ∧ Below w.heap.size w w' := by
  have hmd := hM.cap
  have hdt := hM.top
  have HT := Lib.hid hT
  have HM := Lib.hid hM
  have HLn := Lib.hid hM.len
  have HL0 := Lib.hid hL0
  have HM0 := Lib.hid hM0
  clear hT hM hL0 hM0
  obtain ⟨cs, hcs, hmk⟩ := run_makeM m hm1
  have HCS := Lib.hid hcs
  clear hcs
  go_enter Try.func42, Try.ntmps42
  go_upto_region 2 with fail
  refine wp_named3 (fun V hbV g0 g1 g2 hzV => ?_)
  have HX := Lib.hid (show Two V w.heap.size 30 (.slice A n c) (.slice B m d) from g0)
  have HZ := Lib.hid (show Two V (w.heap.size + 1) 30 (.slice none 0 0) (.slice none 0 0) from g1)
  have HO := Lib.hid (show OwM V (w.heap.size + 1 + 1) m ts 0 from ⟨cs, g2, HCS.out, fun i t hi => absurd hi (Nat.not_lt_zero _)⟩)
  have HB := Lib.hid hbV
  clear g0 g1 g2 hbV hmk HCS
  have x0 := HX.out.c0
  have x1 := HX.out.c1
  go_wp2_with fail
  clear x0 x1
  generalize hgM : w.heap.size + 1 + 1 = gM at *
  have HGM := Lib.hid hgM
  clear hgM
  go_loopw [13] (fun s wr => ∃ k : Nat, k ≤ m ∧ s = .int .i64 k ∧ OwM wr gM m ts k ∧ Two wr w.heap.size 30 (.slice A n c) (.slice B m d) ∧ Two wr (w.heap.size + 1) 30 (.slice none 0 0) (.slice none 0 0) ∧ Below w.heap.size w wr) (fun s _ => m - (intOf s).toNat)
  case atStart => exact ⟨0, Nat.zero_le _, rfl, HO.out, HX.out, HZ.out, HB.out⟩
  case round =>
    clear HO HX HZ HB
    obtain ⟨k, hk, rfl, ho, hx, hz, hb⟩ := hrel
    have HO := Lib.hid ho
    have HX := Lib.hid hx
    have HZ := Lib.hid hz
    have HB := Lib.hid hb
    clear ho hx hz hb
    by_cases hlt : k < m
    · obtain ⟨t, ht⟩ := HM.out.get hlt
      obtain ⟨ad, E, q, f, rfl, hat, hzz⟩ := HM.out.cells _ _ ht
      obtain ⟨h0, h1, h2⟩ := hat.keep HB.out
      have HT0 := Lib.hid ht
      have hqf := hzz.cap
      have hft := hzz.top
      have hq0 : 0 < q := by rw [hzz.len]; exact (HM0.out t (List.mem_of_getElem? ht)).1
      have hq3 : q ≤ 3 := by rw [hzz.len]; exact (HM0.out t (List.mem_of_getElem? ht)).2
      have HZZ := Lib.hid hzz
      clear ht hzz hat
      have hk1 : (k : Int) < (m : Int) := by omega
      have hk0 : (0 : Int) ≤ (k : Int) := by omega
      go_upto_region 5 with fail
      clear h0 h1 h2
      refine wp_named1 (fun V5 hbV g0 hzV5 => ?_)
      have hgl : gM < wr.heap.size := HO.out.lt
      have HP5 := Lib.hid (show Tri V5 wr.heap.size 65 (.int .u64 t.1) (.int .u64 t.2.1) (.slice E q f) from g0)
      have HO5 := Lib.hid (HO.out.keep hbV)
      have HX5 := Lib.hid (HX.out.keep hbV)
      have HZ5 := Lib.hid (HZ.out.keep hbV)
      have HB5 := Lib.hid (below_step HB.out hbV)
      clear g0 hbV HO HX HZ HB
      have hlt5 := HP5.out.lt
      generalize wr.heap.size = b5 at *
      have l0 := LaterS.get (S := fun w' => V5.grownBy w' (some gM)) (fun w' h => (h.cell_far ⟨b5, 0, none⟩ hlt5 (by intro e; injection e with e; simp at e; omega)).trans HP5.out.c0)
      have l1 := LaterS.get (S := fun w' => V5.grownBy w' (some gM)) (fun w' h => (h.cell_far ⟨b5, 1, none⟩ hlt5 (by intro e; injection e with e; simp at e; omega)).trans HP5.out.c1)
      have l2 := LaterS.get (S := fun w' => V5.grownBy w' (some gM)) (fun w' h => (h.cell_far ⟨b5, 2, none⟩ hlt5 (by intro e; injection e with e; simp at e; omega)).trans HP5.out.c2)
      have hS : V5.grownBy V5.drew (some gM) := grown_of_below (Below.refl _ _).drew
      refine wp_heldS (fun w' => V5.grownBy w' (some gM)) (by kernel_rfl) (lexOK_of (by kernel_rfl) (by kernel_rfl)) (chainOK_of (by kernel_rfl)) hS (fun W hbW hSW hinh => ?_)
      have HO6 := Lib.hid (HO5.out.keep hbW)
      have HX6 := Lib.hid (HX5.out.keep hbW)
      have HZ6 := Lib.hid (HZ5.out.keep hbW)
      have HB6 := Lib.hid (below_step HB5.out hbW)
      have hgW : gM < W.heap.size := HO6.out.lt
      have HS := Lib.hid hSW
      have hb5W := hbW.size
      clear hS hSW hbW HO5 HX5 HZ5
      refine wpHeld_seg 6 (LaterS.some HS.out) (by kernel_rfl) ?_
      simp only [List.take_succ_cons, List.take_zero, List.drop_succ_cons, List.drop_zero]
      repeat (go_big_quiet_step (fail))
      refine wpQuiet_nil ?_
      clear l0 l1 l2
      refine wpHeld_op (by kernel_rfl) (by kernel_rfl) ?_
      refine hOp_copyZ (.tmp 23) rfl E q f t.2.2 rfl (HZZ.out.keep HB6.out) hq0 (by omega) ?_
      intro gz cz W2 hsz hgz hgz2 hb2
      have HSZ := Lib.hid hsz
      have HO7 := Lib.hid (HO6.out.keep hb2)
      have HX7 := Lib.hid (HX6.out.keep hb2)
      have HZ7 := Lib.hid (HZ6.out.keep hb2)
      have HB7 := Lib.hid (below_step HB6.out hb2)
      have HS2 := Lib.hid (grown_then HS.out (grown_of_below hb2))
      have hgW2 : gM < W2.heap.size := HO7.out.lt
      clear hsz hb2 HO6 HX6 HZ6
      refine ⟨LaterS.some HS2.out, ?_⟩
      simp only [Act.put, List.setIfInBounds_toArray, List.set_cons_zero, List.set_cons_succ]
      refine wpHeld_seg 2 (LaterS.some HS2.out) (by kernel_rfl) ?_
      simp only [List.take_succ_cons, List.take_zero, List.drop_succ_cons, List.drop_zero]
      repeat (go_big_quiet_step (fail))
      refine wpQuiet_nil ?_
      obtain ⟨cur, hcur, hcsz, _⟩ := HO7.out
      refine wpHeld_run0 _ (by kernel_rfl) (by kernel_rfl) (run_storeM gM (k * 3) t.1 t.2.1 (some ⟨gz, 0, none⟩) q cz cur rfl rfl rfl hcur (by omega)) (LaterS.some (grown_then (grown_then (grown_then HS2.out (grown_cell _ _ _ _)) (grown_cell _ _ _ _)) (grown_cell _ _ _ _))) ?_
      refine wpHeld_nil ?_
      have hBg : w.heap.size ≤ gM := by have := HGM.out; omega
      have hZg : w.heap.size + 1 < gM := by have := HGM.out; omega
      go_wp2_with fail
      go_roundw
      case rel => exact ⟨k + 1, by omega, by go_num, HO7.out.step HT0.out hlt HSZ.out (by show gM < gz; omega), ((HX7.out.far _ (by simp; omega)).far _ (by simp; omega)).far _ (by simp; omega), ((HZ7.out.far _ (by simp; omega)).far _ (by simp; omega)).far _ (by simp; omega), ((HB7.out.setCell (by simpa using hBg) _).setCell (by simpa using hBg) _).setCell (by simpa using hBg) _⟩
      case measure => simp [intOf]; omega
    · have hkm : k = m := by omega
      subst hkm
      have x0 := HX.out.c0
      have x1 := HX.out.c1
      have z0 := HZ.out.c0
      have z1 := HZ.out.c1
      have f0 := HZ.out.f0
      have f1 := HZ.out.f1
      go_wp2_with (at_builtin; refine wpList_copyS w rfl (.tmp 29) rfl A n c Ls rfl HT.out HB.out HL0.out hn hn1 ?_; intro g q W3 hos hg hq hq2 hb3; have HOS := Lib.hid hos; have HB3 := Lib.hid hb3; replace z0 := cell_after hb3 z0; replace z1 := cell_after hb3 z1; replace f0 := (HZ.out.keep hb3).f0; replace f1 := (HZ.out.keep hb3).f1; clear hos hb3)
      have hZg : w.heap.size + 1 < gM := by have := HGM.out; omega
      have hgl := HO.out.lt
      refine bodyPost_ret (v := .agg #[.slice (some ⟨g, 0, none⟩) n q, .slice (some ⟨gM, 0, none⟩) k k]) (by simp [results, Try.results42, go_sem, z0, z1]) rfl ⟨g, q, gM, rfl, ?_, hq, hq2, ?_, by have := HB.out.size; omega, by omega, ?_⟩
      · exact HOS.out.ows (by rw [Below.heap_setCell _ _ _ _ (by simp; omega), Below.heap_setCell _ _ _ _ (by simp; omega)]) (((below_step HB.out HB3.out).setCell (by simp) _).setCell (by simp) _)
      · intro W' hW'
        refine HO.out.over HLn.out hm1 fun j hj1 hj2 => ?_
        have hs3 := HB3.out.size
        have e1 := hW'.block j (by simp [World.setCell]; omega) (by intro e; injection e with e; omega)
        rw [e1, Below.heap_setCell _ _ _ _ (by simp; omega), Below.heap_setCell _ _ _ _ (by simp; omega)]
        exact HB3.out.block j hj2
      · exact ((below_step HB.out HB3.out).setCell (by simp) _).setCell (by simp) _

end Go.Proofs.Ytombcjdhjcmhhaa

/- Contracts of package sumcheck: bind, Bind, variables, Valid; no conditions but that tables are there. -/
namespace Go.Proofs.Ytombcjdhjcmhhaa
set_option maxRecDepth 8000
open Go.RowKit Gold

/-- the tables when k of them have been bound -/
def mixS (Ls : List (List E2)) (r : E2) (k : Nat) : List (List E2) := (Ls.take k).map (bndE · r) ++ Ls.drop k
theorem mixS_zero (Ls : List (List E2)) (r : E2) : mixS Ls r 0 = Ls := by simp [mixS]
theorem mixS_end (Ls : List (List E2)) (r : E2) : mixS Ls r Ls.length = bndS Ls r := by unfold mixS bndS; rw [List.take_length, List.drop_length, List.append_nil]
theorem mixS_get {Ls : List (List E2)} {r : E2} {k : Nat} {L : List E2} (h : Ls[k]? = some L) : (mixS Ls r k)[k]? = some L := by
  have hl := (List.getElem?_eq_some_iff.1 h).1
  unfold mixS
  rw [List.getElem?_append_right (by simp; omega), List.getElem?_drop, List.length_map, List.length_take, show k + (k - min k Ls.length) = k by omega, h]
theorem mixS_step {Ls : List (List E2)} {r : E2} {k : Nat} {L : List E2} (h : Ls[k]? = some L) : (mixS Ls r k).set k (bndE L r) = mixS Ls r (k + 1) := by
  obtain ⟨hl, he⟩ := List.getElem?_eq_some_iff.1 h
  unfold mixS
  rw [List.set_append_right _ _ (by simp; omega), List.length_map, List.length_take, show k - min k Ls.length = 0 by omega, List.drop_eq_getElem_cons hl, List.set_cons_zero, List.take_succ_eq_append_getElem hl, List.map_append, List.append_assoc, he]
  rfl

set_option maxHeartbeats 4000000 in
theorem bind0_any (g n c : Nat) (Ls : List (List E2)) (r : E2) (w : World) (hO : OwS w g Ls) (hn : n = Ls.length) (hc : n ≤ c) (hct : c ≤ 9223372036854775807) (hL : ∀ L ∈ Ls, 0 < L.length ∧ L.length ≤ 65536) :
    Calls Try.prog 44 #[.slice (some ⟨g, 0, none⟩) n c, .agg #[.int .u64 (vF r.A), .int .u64 (vF r.B)]] w fun e w' => e = .returned (.tuple #[]) ∧ OwS w' g (bndS Ls r) ∧ w.grownBy w' (some g) := by
  have HN := Lib.hid hn
  have HL := Lib.hid hL
  have hgl := hO.lt
  have HO0 := Lib.hid hO
  clear hn hL hO
  go_enter Try.func44, Try.ntmps44
  go_wp2_with fail
  refine wp_named1 (fun V hbV g0 hzV => ?_)
  have HR := Lib.hid (show Two V w.heap.size 43 (.int .u64 (vF r.A)) (.int .u64 (vF r.B)) from g0)
  have HO := Lib.hid (HO0.out.keep hbV)
  have HB := Lib.hid (grown_of_below (row := some g) hbV)
  clear g0 hbV HO0
  go_loopw [8] (fun s wr => ∃ k : Nat, k ≤ n ∧ s = .int .i64 k ∧ OwS wr g (mixS Ls r k) ∧ Two wr w.heap.size 43 (.int .u64 (vF r.A)) (.int .u64 (vF r.B)) ∧ w.grownBy wr (some g)) (fun s _ => n - (intOf s).toNat)
  case atStart => exact ⟨0, Nat.zero_le _, rfl, by rw [mixS_zero]; exact HO.out, HR.out, HB.out⟩
  case round =>
    clear HO HR HB
    obtain ⟨k, hk, rfl, ho, hr, hb⟩ := hrel
    have HO := Lib.hid ho
    have HR := Lib.hid hr
    have HB := Lib.hid hb
    clear ho hr hb
    by_cases hlt : k < n
    · obtain ⟨L, hLk⟩ : ∃ L, Ls[k]? = some L := ⟨Ls[k]'(by have := HN.out; omega), List.getElem?_eq_getElem _⟩
      obtain ⟨B, m, d, h0, hs, hf⟩ := HO.out.at_ (mixS_get (r := r) hLk)
      have HLk := Lib.hid hLk
      have HS := Lib.hid hs
      have hlen := HL.out L (List.mem_of_getElem? hLk)
      have HM := Lib.hid (show m = L.length from hs.len)
      have hm1 : 0 < m ∧ m ≤ 65536 := by rw [HM.out]; exact hlen
      clear hLk hs hf
      have hk1 : (k : Int) < (n : Int) := by omega
      have hk0 : (0 : Int) ≤ (k : Int) := by omega
      have r0 := HR.out.c0
      have r1 := HR.out.c1
      go_wp2_with fail
      clear h0 r0 r1
      refine (mleBind_any B m d L r wr HS.out hm1.2 hm1.1).mono ?_
      rintro e W1 ⟨g', c', rfl, hT, hg', hc', ht', hb⟩
      have HO1 := Lib.hid (HO.out.keep hb)
      have HR1 := Lib.hid (HR.out.keep hb)
      have HB1 := Lib.hid (grown_then HB.out (grown_of_below hb))
      have hog : g < wr.heap.size := HO.out.lt
      have HT := Lib.hid (hT.sl (n := m / 2) (c := c') (by rw [bndE_length, HM.out]) hc' ht')
      clear hT hb HO HR HB HS
      obtain ⟨B', m', d', h0, _, _⟩ := HO1.out.at_ (mixS_get (r := r) HLk.out)
      have f0 := HO1.out.free k
      go_wp2_with fail
      go_roundw
      case rel => exact ⟨k + 1, by omega, by go_num, by rw [← mixS_step HLk.out]; exact HO1.out.set HT.out (fun ad e => by injection e with e; subst e; show g' ≠ g; omega), HR1.out.far _ (by simp; omega), grown_then HB1.out (grown_cell _ _ _ _)⟩
      case measure => simp [intOf]; omega
    · have hkn : k = n := by omega
      subst hkn
      go_wp2_with fail
      go_end0
      exact ⟨rfl, by rw [← mixS_end, ← HN.out]; exact HO.out, HB.out⟩

/-! ### A result that is put into its cells -/
theorem cell_kind {W : World} {p a : Addr} {u1 u2 x : Value} (h : W.cell? a = some u1) (hp : W.cell? p = some u2) (hne : u1 ≠ u2) : (W.setCell p x).cell? a = some u1 :=
  (World.cell?_setCell_other W p a x (fun e => by subst e; rw [h] at hp; injection hp with hp; exact hne hp)).trans h
theorem Sl.res {W : World} {A : Option Addr} {n c : Nat} {xs : List E2} (h : Sl W A n c xs) {p : Addr} {B : Option Addr} {m d : Nat} (hp : W.cell? p = some (.slice B m d)) (x : Value) : Sl (W.setCell p x) A n c xs := by
  refine (⟨SlR.len h, SlR.cap h, SlR.top h, SlR.nil h, fun i q hq => ?_⟩ : SlR _ A n c (xs.map valE))
  obtain ⟨ad, ha, h0, h1⟩ := SlR.cells h i q hq
  rw [List.getElem?_map] at hq
  cases hx : xs[i]? with
  | none => rw [hx] at hq; cases hq
  | some y =>
    rw [hx] at hq
    injection hq with hq
    subst hq
    exact ⟨ad, ha, cell_kind h0 hp (by unfold valE; simp), cell_kind h1 hp (by unfold valE; simp)⟩
theorem SiZ.res {W : World} {A : Option Addr} {n c : Nat} {zs : List Int} (h : SiZ W A n c zs) {p : Addr} {B : Option Addr} {m d : Nat} (hp : W.cell? p = some (.slice B m d)) (x : Value) : SiZ (W.setCell p x) A n c zs :=
  ⟨h.len, h.cap, h.top, h.nil, fun i z hz => by
    obtain ⟨ad, ha, h0⟩ := h.cells i z hz
    exact ⟨ad, ha, cell_kind h0 hp (by simp)⟩⟩
theorem ST.res {W : World} {A : Option Addr} {n c : Nat} {Ls : List (List E2)} (h : ST W A n c Ls) {p : Addr} {B : Option Addr} {m d : Nat} (hp : W.cell? p = some (.slice B m d)) (x : Value) (hA : ∀ ad, A = some ad → ad.block ≠ p.block) : ST (W.setCell p x) A n c Ls := by
  refine ⟨SlS.len h, SlS.cap h, SlS.top h, fun i q hq => ?_⟩
  rw [List.getElem?_map] at hq
  cases hL : Ls[i]? with
  | none => rw [hL] at hq; cases hq
  | some L =>
    rw [hL] at hq
    injection hq with hq
    subst hq
    obtain ⟨ad, B', m', d', ha, h0, h1⟩ := h.at_ hL
    exact ⟨ad, B', m', d', ha, cell_far h0 (by rw [add_block]; exact fun e => hA ad ha e.symm) x, h1.res hp x⟩
theorem SlM.res {W : World} {A : Option Addr} {n c : Nat} {ts : List (Int × Int × List Int)} (h : SlM W A n c ts) {p : Addr} {B : Option Addr} {m d : Nat} (hp : W.cell? p = some (.slice B m d)) (x : Value) (hA : ∀ ad, A = some ad → ad.block ≠ p.block) : SlM (W.setCell p x) A n c ts := by
  refine ⟨h.len, h.cap, h.top, fun i t ht => ?_⟩
  obtain ⟨ad, B', m', d', ha, ⟨h0, h1, h2⟩, h3⟩ := h.cells i t ht
  have hne : ∀ k : Nat, p.block ≠ (⟨(ad.add (i * 3)).block, k, none⟩ : Addr).block := fun k => by
    show p.block ≠ (ad.add (i * 3)).block
    rw [add_block]
    exact fun e => hA ad ha e.symm
  exact ⟨ad, B', m', d', ha, ⟨cell_far h0 (by rw [add_block]; exact fun e => hA ad ha e.symm) x, cell_far h1 (hne _) x, cell_far h2 (hne _) x⟩, h3.res hp x⟩

set_option maxHeartbeats 4000000 in
theorem sBind_any (A : Option Addr) (n c : Nat) (Ls : List (List E2)) (B : Option Addr) (m d : Nat) (ts : List (Int × Int × List Int)) (r : E2) (w : World) (hT : ST w A n c Ls) (hL : ∀ L ∈ Ls, 0 < L.length ∧ L.length ≤ 65536) (hM : SlM w B m d ts) (hM0 : ∀ t ∈ ts, 0 < t.2.2.length ∧ t.2.2.length ≤ 3) (hn : 0 < n) (hn1 : n ≤ 65536) (hm1 : m ≤ 65536) :
    Calls Try.prog 25 #[.agg #[.slice A n c, .slice B m d], .agg #[.int .u64 (vF r.A), .int .u64 (vF r.B)]] w fun e w' => ∃ A' c' B' d', e = .returned (.agg #[.slice A' n c', .slice B' m d']) ∧ ST w' A' n c' (bndS Ls r) ∧ SlM w' B' m d' ts ∧ Below w.heap.size w w' := by
  have HT := Lib.hid hT
  have HM := Lib.hid hM
  have HL := Lib.hid hL
  have HM0 := Lib.hid hM0
  clear hT hL hM hM0
  go_enter Try.func25, Try.ntmps25
  go_upto_region 1 with fail
  refine wp_named3 (fun V hbV g0 g1 g2 hzV => ?_)
  have HX := Lib.hid (show Two V w.heap.size 30 (.slice A n c) (.slice B m d) from g0)
  have HR := Lib.hid (show Two V (w.heap.size + 1) 43 (.int .u64 (vF r.A)) (.int .u64 (vF r.B)) from g1)
  have HZ := Lib.hid (show Two V (w.heap.size + 1 + 1) 30 (.slice none 0 0) (.slice none 0 0) from g2)
  have HB := Lib.hid hbV
  clear g0 g1 g2 hbV
  have x0 := HX.out.c0
  have x1 := HX.out.c1
  go_wp2_with fail
  clear x0 x1
  refine (sClone_any A n c Ls B m d ts V (HT.out.keep HB.out) (fun L h => (HL.out L h).1) (HM.out.keep HB.out) HM0.out hn hn1 hm1).mono ?_
  rintro e W1 ⟨g, q, gM, rfl, hO, hq, hq2, hS, hg, hgM, hb⟩
  have HO1 := Lib.hid hO
  have HS1 := Lib.hid hS
  have HR1 := Lib.hid (HR.out.keep hb)
  have HZ1 := Lib.hid (HZ.out.keep hb)
  have HB1 := Lib.hid (below_step HB.out hb)
  have hVW : V.heap.size ≤ W1.heap.size := hb.size
  clear hO hS hb HX HR HZ HB
  go_upto_region 2 with fail
  refine wp_named1 (fun V2 hbV g0 hzV2 => ?_)
  have HX2 := Lib.hid (show Two V2 W1.heap.size 30 (.slice (some ⟨g, 0, none⟩) n q) (.slice (some ⟨gM, 0, none⟩) m m) from g0)
  have HO2 := Lib.hid (HO1.out.keep hbV)
  have HG2 := Lib.hid (grown_of_below (row := some g) hbV)
  have HR2 := Lib.hid (HR1.out.keep hbV)
  have HZ2 := Lib.hid (HZ1.out.keep hbV)
  have HB2 := Lib.hid (below_step HB1.out hbV)
  have hgW : g < W1.heap.size := HO1.out.lt
  clear g0 hbV HR1 HZ1 HB1 HO1
  have x0 := HX2.out.c0
  have x1 := HX2.out.c1
  have r0 := HR2.out.c0
  have r1 := HR2.out.c1
  go_wp2_with fail
  clear x0 x1 r0 r1
  have HLn := Lib.hid (show n = Ls.length from HT.out.len)
  refine (bind0_any g n q Ls r V2 HO2.out HLn.out hq hq2 HL.out).mono ?_
  rintro e W3 ⟨rfl, hO3, hG3⟩
  have hwg : w.heap.size + 1 + 1 < g := by omega
  have HO3 := Lib.hid hO3
  have HM3 := Lib.hid (HS1.out W3 (grown_then HG2.out hG3))
  have HX3 := Lib.hid (HX2.out.other hG3 (by omega))
  have HZ3 := Lib.hid (HZ2.out.other hG3 (by omega))
  have HB3 := Lib.hid (below_of_grown HB2.out hG3 (by omega) HB2.out.size)
  clear hO3 hG3 HX2 HZ2 HB2 HO2 HS1
  have x0 := HX3.out.c0
  have x1 := HX3.out.c1
  have z0 := HZ3.out.c0
  have z1 := HZ3.out.c1
  have f0 := HZ3.out.f0
  have f1 := HZ3.out.f1
  go_wp2_with fail
  have k0 : (W3.setCell ⟨w.heap.size + 1 + 1, 0, none⟩ (.slice (some ⟨g, 0, none⟩) n q)).cell? ⟨w.heap.size + 1 + 1, 1, none⟩ = some (.slice none 0 0) := (HZ3.out.set0 _).c1
  refine bodyPost_ret (v := .agg #[.slice (some ⟨g, 0, none⟩) n q, .slice (some ⟨gM, 0, none⟩) m m]) (by simp [results, Try.results25, go_sem, z0, z1]) rfl ⟨_, q, _, m, rfl, ?_, ?_, (HB3.out.setCell (by simp; omega) _).setCell (by simp; omega) _⟩
  · exact ((HO3.out.st (n := n) (c := q) (by rw [HLn.out]; unfold bndS; simp) hq hq2).res z0 _ (fun ad e => by injection e with e; subst e; show g ≠ w.heap.size + 1 + 1; omega)).res k0 _ (fun ad e => by injection e with e; subst e; show g ≠ w.heap.size + 1 + 1; omega)
  · exact (HM3.out.res z0 _ (fun ad e => by injection e with e; subst e; show gM ≠ w.heap.size + 1 + 1; omega)).res k0 _ (fun ad e => by injection e with e; subst e; show gM ≠ w.heap.size + 1 + 1; omega)

end Go.Proofs.Ytombcjdhjcmhhaa

/- Contracts of package sumcheck: variables, Valid; no conditions. -/
namespace Go.Proofs.Ytombcjdhjcmhhaa
set_option maxRecDepth 8000
open Go.RowKit Gold

/-- what mle.Valid says of a table -/
def valP (q : List (Int × Int)) : Int × Bool := if q.length = 2 ^ Nat.log2 q.length ∧ Nat.log2 q.length ≤ 16 ∧ allV q = true then ((Nat.log2 q.length : Nat), true) else (0, false)
theorem valP_yes {q : List (Int × Int)} {K : Nat} (h : q.length = 2 ^ K) (hK : K ≤ 16) (hv : allV q = true) : valP q = ((K : Int), true) := by
  unfold valP
  rw [h, Nat.log2_two_pow, if_pos ⟨rfl, hK, hv⟩]
theorem valP_no {q : List (Int × Int)} (h : ∀ K : Nat, K ≤ 16 → q.length ≠ 2 ^ K) : valP q = (0, false) := by
  unfold valP
  rw [if_neg]
  rintro ⟨h1, h2, _⟩
  exact h _ h2 h1
theorem valP_bad {q : List (Int × Int)} (hv : allV q = false) : valP q = (0, false) := by
  unfold valP
  rw [if_neg]
  rintro ⟨_, _, h3⟩
  rw [hv] at h3
  cases h3
theorem mleValid_P (A : Option Addr) (n c : Nat) (q : List (Int × Int)) (w : World) (h : SlW w A n c q) :
    Calls Try.prog 58 #[.slice A n c] w fun e w' => e = .returned (.tuple #[.int .i64 (valP q).1, .bool (valP q).2]) ∧ Below w.heap.size w w' := by
  have hl := h.len
  by_cases hK : ∃ K, K ≤ 16 ∧ n = 2 ^ K
  · obtain ⟨K, hK, hn⟩ := hK
    by_cases hv : allV q = true
    · rw [valP_yes (by rw [← hl]; exact hn) hK hv]
      exact mleValid_yes A n c K q w h hn hK hv
    · rw [valP_bad (by simpa using hv)]
      exact mleValid_bad A n c K q w h hn hK (by simpa using hv)
  · rw [valP_no (fun K h1 h2 => hK ⟨K, h1, by rw [hl]; exact h2⟩)]
    exact mleValid_no A n c w (fun K h1 h2 => hK ⟨K, h1, h2⟩)
theorem add_next (ad : Addr) (i : Nat) : (⟨ad.block, ad.off + 1, none⟩ : Addr).add i = ad.add (i + 1) := by
  have h : ad.add 1 = ⟨ad.block, ad.off + 1, none⟩ := by unfold Addr.add; simp
  rw [← h, add_add', Nat.add_comm]
/-- are tables like the first? -/
def okF (p : Int × Bool) (l : List (List (Int × Int))) : Bool := l.foldl (fun b q => b && (valP q).2 && decide ((valP q).1 = p.1)) p.2
theorem okF_take {p : Int × Bool} {l : List (List (Int × Int))} {k : Nat} {q : List (Int × Int)} (h : l[k]? = some q) : okF p (l.take (k + 1)) = (okF p (l.take k) && (valP q).2 && decide ((valP q).1 = p.1)) := by
  obtain ⟨hl, he⟩ := List.getElem?_eq_some_iff.1 h
  unfold okF
  rw [List.take_succ_eq_append_getElem hl, List.foldl_append, he]
  rfl
def varS (Qs : List (List (Int × Int))) (ts : List (Int × Int × List Int)) : Int × Bool := match Qs with
  | [] => (0, false)
  | q :: l => if okTs ((l.length + 1 : Nat) : Int) ts = true then ((valP q).1, okF (valP q) l) else (0, false)

set_option maxHeartbeats 4000000 in
theorem sVariables_any (A : Option Addr) (n c : Nat) (Qs : List (List (Int × Int))) (B : Option Addr) (m d : Nat) (ts : List (Int × Int × List Int)) (w : World) (hT : SW w A n c Qs) (hM : SlM w B m d ts) :
    Calls Try.prog 39 #[.agg #[.slice A n c, .slice B m d]] w fun e w' => e = .returned (.tuple #[.int .i64 (varS Qs ts).1, .bool (varS Qs ts).2]) ∧ Below w.heap.size w w' := by
  have hcap := SlS.cap hT
  have htop := SlS.top hT
  have HT := Lib.hid hT
  have HM := Lib.hid hM
  have HL := Lib.hid hT.len
  clear hT hM
  go_enter Try.func39, Try.ntmps39
  go_upto_region 1 with fail
  refine wp_named1 (fun V hbV g0 hzV => ?_)
  have HX := Lib.hid (show Two V w.heap.size 30 (.slice A n c) (.slice B m d) from g0)
  have HB := Lib.hid hbV
  clear g0 hbV
  have x0 := HX.out.c0
  have x1 := HX.out.c1
  cases Qs with
  | nil =>
    have hn0 : n = 0 := HL.out
    subst hn0
    go_wp2_with fail
    go_ret2
    exact ⟨rfl, HB.out⟩
  | cons q l =>
    have hn1 : n = l.length + 1 := HL.out
    have hn0 : ((n : Int) == 0) = false := by rw [beq_eq_false_iff_ne]; omega
    have HN := Lib.hid hn1
    clear hn1
    have hnp : 0 < n := by rw [HN.out]; omega
    go_wp2_with fail
    refine (validTerms_any B m d ts (n : Int) V (HM.out.keep HB.out)).mono ?_
    rintro e W1 ⟨rfl, hb⟩
    have HX1 := Lib.hid (HX.out.keep hb)
    have HB1 := Lib.hid (below_step HB.out hb)
    clear hb HX HB x0 x1
    cases hv : okTs (n : Int) ts with
    | false =>
      have HV := Lib.hid (show varS (q :: l) ts = (0, false) by show (if okTs ((l.length + 1 : Nat) : Int) ts = true then ((valP q).1, okF (valP q) l) else (0, false)) = _; rw [← HN.out, hv]; rfl)
      go_wp2_with fail
      go_ret2
      exact ⟨by rw [HV.out]; rfl, HB1.out⟩
    | true =>
      have HV := Lib.hid (show varS (q :: l) ts = ((valP q).1, okF (valP q) l) by show (if okTs ((l.length + 1 : Nat) : Int) ts = true then ((valP q).1, okF (valP q) l) else (0, false)) = _; rw [← HN.out, hv]; rfl)
      obtain ⟨ad, B0, m0, d0, rfl, h0, hs⟩ := HT.out.at_ (i := 0) (q := q) rfl
      have y0 := cell_keep h0 HB1.out
      have HS := Lib.hid (hs.keep HB1.out)
      have x0 := HX1.out.c0
      have x1 := HX1.out.c1
      have hz0 : ad.add 0 = ad := by unfold Addr.add; rw [if_pos rfl]
      rw [hz0] at y0
      clear h0 hs hv
      go_wp2_with fail
      refine (mleValid_P B0 m0 d0 q W1 HS.out).mono ?_
      rintro e W2 ⟨rfl, hb⟩
      have HX2 := Lib.hid (HX1.out.keep hb)
      have HB2 := Lib.hid (below_step HB1.out hb)
      clear hb HX1 HB1 x0 x1 y0 HS
      generalize hp : valP q = p at *
      obtain ⟨z, b⟩ := p
      have HP := Lib.hid hp
      clear hp
      have x0 := HX2.out.c0
      have x1 := HX2.out.c1
      go_upto_region 4 with fail
      go_cut [33, 34, 35] from 31 to 35 (fun s t u wx => ∃ P cc, s = .slice P l.length cc ∧ t = .int .i64 (l.length : Nat) ∧ u = .int .i64 0 ∧ (∀ i, i < l.length → ∃ ad', P = some ad' ∧ ad'.add i = ad.add (i + 1)) ∧ l.length ≤ cc ∧ wx = W2)
      case first =>
        have hn2 : ((n : Int) - 1).toNat = l.length := by have := HN.out; omega
        have hn3 : (n : Int) - 1 = (l.length : Nat) := by have := HN.out; omega
        by_cases hc1 : c = 1
        · subst hc1
          have hl0 : l.length = 0 := by have := HN.out; omega
          go_wp2_with fail
          go_meet
          case rel => exact ⟨_, 0, by rw [hl0], by rw [hl0]; rfl, rfl, fun i hi => by omega, by omega, rfl⟩
        · go_wp2_with fail
          go_meet
          case rel => exact ⟨_, c - 1, by rw [show n - 1 = l.length by omega], by rw [show n - 1 = l.length by omega], rfl, fun i _ => ⟨_, rfl, add_next ad i⟩, by omega, rfl⟩
      case rest =>
        obtain ⟨P, cc, rfl, rfl, rfl, hP, hcc, rfl⟩ := hcut
        have HPP := Lib.hid hP
        have hl63 : l.length < 9223372036854775807 := by have := HN.out; omega
        clear hP x0 x1
        go_wp2_with fail
        go_loopw [5, 35] (fun o s wr => ∃ k : Nat, k ≤ l.length ∧ s = .int .i64 k ∧ o = .bool (okF (z, b) (l.take k)) ∧ Below w.heap.size w wr) (fun _ s _ => l.length - (intOf s).toNat)
        case atStart => exact ⟨0, Nat.zero_le _, rfl, rfl, HB2.out⟩
        case round =>
          obtain ⟨k, hk, rfl, rfl, hb⟩ := hrel
          have HB := Lib.hid hb
          clear hb
          by_cases hlt : k < l.length
          · obtain ⟨q', hq'⟩ : ∃ q', l[k]? = some q' := ⟨l[k]'hlt, List.getElem?_eq_getElem _⟩
            obtain ⟨ad', rfl, had⟩ := HPP.out k hlt
            obtain ⟨ad2, B1, m1, d1, e, h0, hs⟩ := HT.out.at_ (i := k + 1) (q := q') hq'
            injection e with e
            subst e
            have y0 := cell_keep h0 HB.out
            rw [← had] at y0
            have HS := Lib.hid (hs.keep HB.out)
            have HF := Lib.hid (okF_take (p := (z, b)) hq')
            clear h0 hs hq' had
            have hk1 : (k : Int) < (l.length : Int) := by omega
            go_wp2_with fail
            refine (mleValid_P B1 m1 d1 q' wr HS.out).mono ?_
            rintro e W3 ⟨rfl, hb⟩
            have HB3 := Lib.hid (below_step HB.out hb)
            clear hb y0 HS
            generalize okF (z, b) (l.take k) = o at *
            generalize valP q' = p3 at *
            obtain ⟨z3, b3⟩ := p3
            have HE : ∀ b', b' = (o && b3 && decide (z3 = z)) → okF (z, b) (l.take (k + 1)) = b' := fun b' h => HF.out.trans h.symm
            have HEH := Lib.hid HE
            clear HE
            cases o <;> cases b3
            · go_wp2_with fail
              go_roundw
              case rel => exact ⟨k + 1, by omega, by go_num, by rw [HEH.out false rfl], HB3.out⟩
              case measure => simp [intOf]; omega
            · go_wp2_with fail
              go_roundw
              case rel => exact ⟨k + 1, by omega, by go_num, by rw [HEH.out false rfl], HB3.out⟩
              case measure => simp [intOf]; omega
            · go_wp2_with fail
              go_roundw
              case rel => exact ⟨k + 1, by omega, by go_num, by rw [HEH.out false rfl], HB3.out⟩
              case measure => simp [intOf]; omega
            · by_cases hz : z3 = z
              · subst hz
                go_wp2_with fail
                go_roundw
                case rel => exact ⟨k + 1, by omega, by go_num, by rw [HEH.out true (by simp)], HB3.out⟩
                case measure => simp [intOf]; omega
              · have hzz : (z3 == z) = false := beq_eq_false_iff_ne.2 hz
                go_wp2_with fail
                go_roundw
                case rel => exact ⟨k + 1, by omega, by go_num, by rw [HEH.out false (by simp [hz])], HB3.out⟩
                case measure => simp [intOf]; omega
          · have hkn : k = l.length := by omega
            subst hkn
            rw [List.take_length]
            go_wp2_with fail
            go_ret2
            exact ⟨by rw [HV.out]; rfl, HB.out⟩

set_option maxHeartbeats 4000000 in
theorem sValid_any (A : Option Addr) (n c : Nat) (Qs : List (List (Int × Int))) (B : Option Addr) (m d : Nat) (ts : List (Int × Int × List Int)) (w : World) (hT : SW w A n c Qs) (hM : SlM w B m d ts) :
    Calls Try.prog 10 #[.agg #[.slice A n c, .slice B m d]] w fun e w' => e = .returned (.bool (varS Qs ts).2) ∧ Below w.heap.size w w' := by
  have HT := Lib.hid hT
  have HM := Lib.hid hM
  clear hT hM
  go_enter Try.func10, Try.ntmps10
  go_upto_region 1 with fail
  refine wp_named1 (fun V hbV g0 hzV => ?_)
  have HX := Lib.hid (show Two V w.heap.size 30 (.slice A n c) (.slice B m d) from g0)
  have HB := Lib.hid hbV
  clear g0 hbV
  have x0 := HX.out.c0
  have x1 := HX.out.c1
  go_wp2_with fail
  refine (sVariables_any A n c Qs B m d ts V (HT.out.keep HB.out) (HM.out.keep HB.out)).mono ?_
  rintro e W1 ⟨rfl, hb⟩
  have HB1 := Lib.hid (below_step HB.out hb)
  clear hb x0 x1 HB HX
  go_wp2_with fail
  go_ret
  exact ⟨rfl, HB1.out⟩

/-! ### Valid sums -/
structure OkS (Ls : List (List E2)) (ts : List Tm) (K : Nat) : Prop where
  pos : 0 < Ls.length
  few : Ls.length ≤ 16
  tfew : ts.length ≤ 16
  len : ∀ L ∈ Ls, L.length = 2 ^ K
  k16 : K ≤ 16
  deg : ∀ t ∈ ts, 1 ≤ t.2.length ∧ t.2.length ≤ 3
  idx : InT ts Ls.length
theorem OkS.pow {Ls : List (List E2)} {ts : List Tm} {K : Nat} (h : OkS Ls ts K) : 2 ^ K ≤ 65536 := Nat.pow_le_pow_right (n := 2) (by omega) h.k16
theorem OkS.raw {Ls : List (List E2)} {ts : List Tm} {K : Nat} (h : OkS Ls ts K) : ∀ t ∈ rawT ts, 0 < t.2.2.length ∧ t.2.2.length ≤ 3 := by
  intro t ht
  unfold rawT at ht
  rw [List.mem_map] at ht
  obtain ⟨u, hu, rfl⟩ := ht
  have := h.deg u hu
  simp
  omega
theorem OkS.deg3 {Ls : List (List E2)} {ts : List Tm} {K : Nat} (h : OkS Ls ts K) : degT ts ≤ 3 := degZ_le (by omega) fun t ht => (h.raw t ht).2
theorem OkS.oks {Ls : List (List E2)} {ts : List Tm} {K : Nat} (h : OkS Ls ts K) : okTs ((Ls.length : Nat) : Int) (rawT ts) = true := by
  unfold okTs
  rw [List.all_eq_true]
  intro t ht
  unfold rawT at ht
  rw [List.mem_map] at ht
  obtain ⟨u, hu, rfl⟩ := ht
  have h1 := h.deg u hu
  have h2 := h.idx u hu
  unfold okT
  rw [evalid_E2, Bool.true_and, Bool.and_eq_true]
  refine ⟨by simp; omega, ?_⟩
  rw [List.all_eq_true]
  intro j hj
  rw [List.mem_map] at hj
  obtain ⟨k, hk, rfl⟩ := hj
  have := h2 k hk
  simp
  omega
theorem OkS.vp {Ls : List (List E2)} {ts : List Tm} {K : Nat} (h : OkS Ls ts K) {L : List E2} (hL : L ∈ Ls) : valP (L.map fun x => (vF x.A, vF x.B)) = ((K : Int), true) := valP_yes (by rw [List.length_map]; exact h.len L hL) h.k16 (allV_E2 L)
theorem OkS.vs {Ls : List (List E2)} {ts : List Tm} {K : Nat} (h : OkS Ls ts K) : varS (rawL Ls) (rawT ts) = ((K : Int), true) := by
  cases hLs : Ls with
  | nil => have := h.pos; rw [hLs] at this; cases this
  | cons L l =>
    have hmem : ∀ M, M ∈ L :: l → M ∈ Ls := fun M hM => by rw [hLs]; exact hM
    have ho := h.oks
    rw [hLs] at ho
    show (if okTs ((((l.map fun L => L.map fun x => (vF x.A, vF x.B)).length + 1 : Nat)) : Int) (rawT ts) = true then ((valP (L.map fun x => (vF x.A, vF x.B))).1, okF (valP (L.map fun x => (vF x.A, vF x.B))) (l.map fun L => L.map fun x => (vF x.A, vF x.B))) else (0, false)) = _
    rw [List.length_map, if_pos (by simpa using ho), h.vp (hmem L (List.mem_cons_self ..))]
    have key : ∀ k : List (List E2), (∀ M ∈ k, M ∈ Ls) → okF ((K : Int), true) (k.map fun L => L.map fun x => (vF x.A, vF x.B)) = true := by
      intro k
      unfold okF
      induction k with
      | nil => intro _; rfl
      | cons M k ih =>
        intro hk
        rw [List.map_cons, List.foldl_cons, h.vp (hk M (List.mem_cons_self ..))]
        simpa using ih fun N hN => hk N (List.mem_cons_of_mem _ hN)
    rw [key l fun M hM => hmem M (List.mem_cons_of_mem _ hM)]
theorem OkS.bnd {Ls : List (List E2)} {ts : List Tm} {K : Nat} (h : OkS Ls ts (K + 1)) (r : E2) : OkS (bndS Ls r) ts K := by
  refine ⟨by unfold bndS; rw [List.length_map]; exact h.pos, by unfold bndS; rw [List.length_map]; exact h.few, h.tfew, ?_, by have := h.k16; omega, h.deg, by unfold bndS; rw [List.length_map]; exact h.idx⟩
  intro L hL
  unfold bndS at hL
  rw [List.mem_map] at hL
  obtain ⟨M, hM, rfl⟩ := hL
  rw [bndE_length, h.len M hM, Nat.pow_succ]
  omega

end Go.Proofs.Ytombcjdhjcmhhaa

/- Contracts of package sumcheck: Total, Final; valid sums. -/
namespace Go.Proofs.Ytombcjdhjcmhhaa
set_option maxRecDepth 8000
open Go.RowKit Gold

theorem colE_of {Ls : List (List E2)} {i : Nat} {ys : List E2} (hl : ys.length = Ls.length) (h : ∀ j, j < Ls.length → ys[j]? = some (cfE (tbl Ls j) i)) : ys = colE Ls i := by
  apply List.ext_getElem?
  intro j
  unfold colE
  by_cases hj : j < Ls.length
  · rw [h j hj, tabE_get _ hj]
  · rw [List.getElem?_eq_none (by omega), List.getElem?_eq_none (by rw [tabE_length]; omega)]
theorem colE_length (Ls : List (List E2)) (i : Nat) : (colE Ls i).length = Ls.length := tabE_length _ _

set_option maxHeartbeats 8000000 in
theorem sTotal_any (A : Option Addr) (n c : Nat) (Ls : List (List E2)) (B : Option Addr) (m d : Nat) (ts : List Tm) (K : Nat) (w : World) (hT : ST w A n c Ls) (hM : TM w B m d ts) (hok : OkS Ls ts K) :
    Calls Try.prog 21 #[.agg #[.slice A n c, .slice B m d]] w fun e w' => e = .returned (.agg #[.int .u64 (vF (totE Ls ts (2 ^ K)).A), .int .u64 (vF (totE Ls ts (2 ^ K)).B)]) ∧ Below w.heap.size w w' := by
  have hcap := hT.cap
  have htop := hT.top
  have hn0 : 0 < n := by rw [hT.len]; exact hok.pos
  have hn16 : n ≤ 16 := by rw [hT.len]; exact hok.few
  obtain ⟨N, hN⟩ : ∃ N, N = 2 ^ K := ⟨_, rfl⟩
  have hN1 : N ≤ 65536 := by rw [hN]; exact hok.pow
  have hNp : 0 < N := by rw [hN]; exact Nat.two_pow_pos K
  have HN := Lib.hid hN
  have HT := Lib.hid hT
  have HM := Lib.hid hM
  have HOK := Lib.hid hok
  have HLn := Lib.hid hT.len
  clear hT hM hok hN
  go_enter Try.func21, Try.ntmps21
  go_upto_region 1 with fail
  refine wp_named2 (fun V hbV g0 g1 hzV => ?_)
  have HX := Lib.hid (show Two V w.heap.size 30 (.slice A n c) (.slice B m d) from g0)
  have HZ := Lib.hid (show Two V (w.heap.size + 1) 43 (.int .u64 0) (.int .u64 0) from g1)
  have HB := Lib.hid hbV
  clear g0 g1 hbV
  have x0 := HX.out.c0
  have x1 := HX.out.c1
  go_wp2_with fail
  clear x0 x1
  have hc := sValid_any A n c (rawL Ls) B m d (rawT ts) V (SW.of (HT.out.keep HB.out)) (HM.out.keep HB.out)
  rw [HOK.out.vs] at hc
  refine hc.mono ?_
  rintro e W1 ⟨rfl, hb⟩
  have HX1 := Lib.hid (HX.out.keep hb)
  have HZ1 := Lib.hid (HZ.out.keep hb)
  have HB1 := Lib.hid (below_step HB.out hb)
  have hs1 : w.heap.size + 1 < W1.heap.size := HZ1.out.lt
  clear hc hb HX HZ HB
  have x0 := HX1.out.c0
  have x1 := HX1.out.c1
  go_wp2_with fail
  clear x0 x1
  refine (combination_any B m d W1).mono ?_
  rintro e W2 ⟨rfl, hO, hb⟩
  have HC2 := Lib.hid hO
  have HX2 := Lib.hid (HX1.out.keep hb)
  have HZ2 := Lib.hid (HZ1.out.keep hb)
  have HB2 := Lib.hid (below_step HB1.out hb)
  have hs2 : W1.heap.size < W2.heap.size := HC2.out.lt
  clear hO hb HX1 HZ1 HB1
  have hmk := run_makeE n (by omega)
  generalize hr0 : List.replicate n E2.zero = r0 at hmk
  have HR0 := Lib.hid hr0
  clear hr0
  have x0 := HX2.out.c0
  have x1 := HX2.out.c1
  go_upto_region 6 with fail
  clear x0 x1 hmk
  refine wp_named2 (fun V3 hbV g0 g1 hzV3 => ?_)
  have HA := Lib.hid (Tab.of_row (show Row V3 W2.heap.size r0 from g0))
  have HS := Lib.hid (show Two V3 (W2.heap.size + 1) 43 (.int .u64 0) (.int .u64 0) from g1)
  have HC := Lib.hid (HC2.out.keep hbV)
  have HX := Lib.hid (HX2.out.keep hbV)
  have HZ := Lib.hid (HZ2.out.keep hbV)
  have HB := Lib.hid (below_step HB2.out hbV)
  clear g0 g1 hbV HC2 HX2 HZ2 HB2
  generalize hga : W2.heap.size = ga at *
  generalize hbc : W1.heap.size = bc at *
  clear hga hbc
  have x0 := HX.out.c0
  have x1 := HX.out.c1
  obtain ⟨L0, hL0⟩ : ∃ L0, Ls[0]? = some L0 := ⟨Ls[0]'(by have := HLn.out; omega), List.getElem?_eq_getElem _⟩
  obtain ⟨ad, B0, m0, d0, rfl, h0, hs⟩ := HT.out.at_ hL0
  have hz0 : ad.add 0 = ad := by unfold Addr.add; rw [if_pos rfl]
  rw [hz0] at h0
  have hm0 : m0 = N := by rw [hs.len, HOK.out.len L0 (List.mem_of_getElem? hL0), HN.out]
  subst hm0
  have y0 := cell_keep h0 HB.out
  clear hL0 hs h0
  go_wp2_with fail
  clear x0 x1 y0
  go_loopw [25] (fun s wr => ∃ (i : Nat) (ys : List E2), i ≤ m0 ∧ s = .int .i64 i ∧ ys.length = n ∧ Tab wr ga ys ∧ Two wr (ga + 1) 43 (.int .u64 (vF (totE Ls ts i).A)) (.int .u64 (vF (totE Ls ts i).B)) ∧ One wr bc 28 (.slice B m d) ∧ Two wr w.heap.size 30 (.slice (some ad) n c) (.slice B m d) ∧ Two wr (w.heap.size + 1) 43 (.int .u64 0) (.int .u64 0) ∧ Below w.heap.size w wr) (fun s _ => m0 - (intOf s).toNat)
  case atStart => exact ⟨0, r0, Nat.zero_le _, rfl, by rw [← HR0.out, List.length_replicate], HA.out, HS.out, HC.out, HX.out, HZ.out, HB.out⟩
  case round =>
    clear HA HS HC HX HZ HB HR0
    obtain ⟨i, ys, hi, rfl, hyl, ha, hs, hc, hx, hz, hb⟩ := hrel
    generalize hq : totE Ls ts i = q at hs
    have HQ := Lib.hid hq
    have HYL := Lib.hid hyl
    have HA := Lib.hid ha
    have HS := Lib.hid hs
    have HC := Lib.hid hc
    have HX := Lib.hid hx
    have HZ := Lib.hid hz
    have HB := Lib.hid hb
    clear ha hs hc hx hz hb hq hyl
    by_cases hlt : i < m0
    · have hi1 : (i : Int) < (m0 : Int) := by omega
      have hi0 : (0 : Int) ≤ (i : Int) := by omega
      have x0 := HX.out.c0
      have x1 := HX.out.c1
      go_wp2_with fail
      clear x0 x1
      go_loopw [31] (fun s w2 => ∃ (k : Nat) (zs : List E2), k ≤ n ∧ s = .int .i64 k ∧ zs.length = n ∧ (∀ j, j < k → zs[j]? = some (cfE (tbl Ls j) i)) ∧ Tab w2 ga zs ∧ Two w2 (ga + 1) 43 (.int .u64 (vF q.A)) (.int .u64 (vF q.B)) ∧ One w2 bc 28 (.slice B m d) ∧ Two w2 w.heap.size 30 (.slice (some ad) n c) (.slice B m d) ∧ Two w2 (w.heap.size + 1) 43 (.int .u64 0) (.int .u64 0) ∧ Below w.heap.size w w2) (fun s _ => n - (intOf s).toNat)
      case atStart => exact ⟨0, ys, Nat.zero_le _, rfl, HYL.out, fun j hj => absurd hj (Nat.not_lt_zero _), HA.out, HS.out, HC.out, HX.out, HZ.out, HB.out⟩
      case round =>
        clear HA HS HC HX HZ HB HYL
        obtain ⟨k, zs, hk, rfl, hzl, hzs, ha, hs, hc, hx, hz, hb⟩ := hrel
        have HZL := Lib.hid hzl
        have HZS := Lib.hid hzs
        have HA := Lib.hid ha
        have HS := Lib.hid hs
        have HC := Lib.hid hc
        have HX := Lib.hid hx
        have HZ := Lib.hid hz
        have HB := Lib.hid hb
        clear ha hs hc hx hz hb hzl hzs
        by_cases hlk : k < n
        · obtain ⟨L, hL⟩ : ∃ L, Ls[k]? = some L := ⟨Ls[k]'(by have := HLn.out; omega), List.getElem?_eq_getElem _⟩
          obtain ⟨ad2, B2, m2, d2, e, h0, hs⟩ := HT.out.at_ hL
          injection e with e
          subst e
          have hm2 : m2 = m0 := by rw [hs.len, HOK.out.len L (List.mem_of_getElem? hL), HN.out]
          subst hm2
          obtain ⟨x, hx⟩ := hs.get hlt
          obtain ⟨ad3, rfl, p0, p1⟩ := hs.at_ hx
          have y0 := cell_keep h0 HB.out
          have r0 := cell_keep p0 HB.out
          have r1 := cell_keep p1 HB.out
          have HE := Lib.hid (show cfE (tbl Ls k) i = x by rw [tbl_some hL, cfE_some hx])
          obtain ⟨z, hz⟩ : ∃ z, zs[k]? = some z := ⟨zs[k]'(by have := HZL.out; omega), List.getElem?_eq_getElem _⟩
          have hzz := HA.out.at_ hz
          have c0 := hzz.1
          have c1 := hzz.2
          have f0 := HA.out.free (k * 2)
          have f1 := HA.out.free (k * 2 + 1)
          clear hL h0 hs hx p0 p1 hz hzz
          have hk1 : (k : Int) < (n : Int) := by omega
          have hk0 : (0 : Int) ≤ (k : Int) := by omega
          go_wp2_with fail
          go_roundw
          case rel => exact ⟨k + 1, zs.set k x, by omega, by go_num, by rw [List.length_set]; exact HZL.out, fun j hj => by
            rw [List.getElem?_set]
            by_cases e : k = j
            · subst e
              rw [if_pos rfl, if_pos (by have := HZL.out; omega), HE.out]
            · rw [if_neg e]
              exact HZS.out j (by omega), HA.out.set k x, (HS.out.far _ (by simp)).far _ (by simp), (HC.out.far _ (by simp; omega)).far _ (by simp; omega), (HX.out.far _ (by simp; omega)).far _ (by simp; omega), (HZ.out.far _ (by simp; omega)).far _ (by simp; omega), (HB.out.setCell (by simp; omega) _).setCell (by simp; omega) _⟩
          case measure => simp [intOf]; omega
        · have hkn : k = n := by omega
          subst hkn
          have hcol := colE_of (Ls := Ls) (i := i) (by rw [HZL.out, HLn.out]) (fun j hj => HZS.out j (by rw [HLn.out]; exact hj))
          subst hcol
          have hcl : (colE Ls i).length = k := HZL.out
          have HSl := Lib.hid (HA.out.sl (n := k) (c := k) hcl.symm (Nat.le_refl _) (by omega))
          have HI := Lib.hid (show InT ts k by rw [HLn.out]; exact HOK.out.idx)
          clear hcl
          have l0 := Later.cell HS.out.c0
          have l1 := Later.cell HS.out.c1
          go_wp2_with fail
          refine wp_later_tail 5 (by kernel_rfl) (by kernel_rfl) ?_
          simp only [List.take_succ_cons, List.take_zero, List.drop_succ_cons, List.drop_zero]
          repeat (go_big_quiet_step (first
            | (go_at_call 62; with_reducible exact Calls.later (combination1_any B m d ts (some ⟨ga, 0, none⟩) k k (colE Ls i) bc _ ((HM.out.keep HB.out).keep (Later.below _)) (HSl.out.keep (Later.below _)) (HC.out.keep (Later.below _)) HI.out))
            | (go_at_call 47; with_reducible exact Calls.later (extAdd_any q (finE ts (colE Ls i)) _))))
          refine wpQuiet_nil ?_
          intro X
          clear l0 l1
          have HA1 := Lib.hid (HA.out.keep X.below)
          have HS1 := Lib.hid (HS.out.keep X.below)
          have HC1 := Lib.hid (HC.out.keep X.below)
          have HX1 := Lib.hid (HX.out.keep X.below)
          have HZ1 := Lib.hid (HZ.out.keep X.below)
          have HB1 := Lib.hid (below_step HB.out X.below)
          have c0 := HS1.out.c0
          have c1 := HS1.out.c1
          have f0 := HS1.out.f0
          have f1 := HS1.out.f1
          go_wp2_with fail
          go_roundw
          case rel => exact ⟨i + 1, colE Ls i, by omega, by go_num, by rw [colE_length]; exact HLn.out.symm, (HA1.out.far _ (by simp)).far _ (by simp), by rw [totE, sumE, ← totE, HQ.out]; exact (HS1.out.set0 _).set1 _, (HC1.out.far _ (by simp; omega)).far _ (by simp; omega), (HX1.out.far _ (by simp; omega)).far _ (by simp; omega), (HZ1.out.far _ (by simp; omega)).far _ (by simp; omega), (HB1.out.setCell (by simp; omega) _).setCell (by simp; omega) _⟩
          case measure => simp [intOf]; omega
    · have hin : i = m0 := by omega
      subst hin
      rw [HN.out] at HQ
      have c0 := HS.out.c0
      have c1 := HS.out.c1
      have z0 := HZ.out.c0
      have z1 := HZ.out.c1
      have f0 := HZ.out.f0
      have f1 := HZ.out.f1
      go_wp2_with fail
      exact bodyPost_ret (v := .agg #[.int .u64 (vF q.A), .int .u64 (vF q.B)]) (by simp [results, Try.results21, go_sem, z0, z1]) rfl ⟨by rw [HQ.out], (HB.out.setCell (by simp) _).setCell (by simp) _⟩

set_option maxHeartbeats 4000000 in
theorem sFinal_any (T : Option Addr) (n c : Nat) (B : Option Addr) (m d : Nat) (ts : List Tm) (E : Option Addr) (q f : Nat) (vs : List E2) (w : World) (hM : TM w B m d ts) (hV : Sl w E q f vs) (ho : okTs ((q : Nat) : Int) (rawT ts) = true) (hI : InT ts q) :
    Calls Try.prog 23 #[.agg #[.slice T n c, .slice B m d], .slice E q f] w fun e w' => e = .returned (.agg #[.int .u64 (vF (finE ts vs).A), .int .u64 (vF (finE ts vs).B)]) ∧ Below w.heap.size w w' := by
  have HM := Lib.hid hM
  have HV := Lib.hid hV
  have HO := Lib.hid ho
  have HI := Lib.hid hI
  clear hM hV ho hI
  go_enter Try.func23, Try.ntmps23
  go_upto_region 1 with fail
  refine wp_named2 (fun V hbV g0 g1 hzV => ?_)
  have HX := Lib.hid (show Two V w.heap.size 30 (.slice T n c) (.slice B m d) from g0)
  have HZ := Lib.hid (show Two V (w.heap.size + 1) 43 (.int .u64 0) (.int .u64 0) from g1)
  have HB := Lib.hid hbV
  clear g0 g1 hbV
  have x0 := HX.out.c0
  have x1 := HX.out.c1
  go_wp2_with fail
  clear x0 x1
  have hc := validTerms_any B m d (rawT ts) (q : Int) V (HM.out.keep HB.out)
  rw [HO.out] at hc
  refine hc.mono ?_
  rintro e W1 ⟨rfl, hb⟩
  have HX1 := Lib.hid (HX.out.keep hb)
  have HZ1 := Lib.hid (HZ.out.keep hb)
  have HB1 := Lib.hid (below_step HB.out hb)
  clear hc hb HX HZ HB
  have x0 := HX1.out.c0
  have x1 := HX1.out.c1
  go_wp2_with fail
  clear x0 x1
  refine (combination_any B m d W1).mono ?_
  rintro e W2 ⟨rfl, hO, hb⟩
  have HC2 := Lib.hid hO
  have HZ2 := Lib.hid (HZ1.out.keep hb)
  have HB2 := Lib.hid (below_step HB1.out hb)
  clear hO hb HX1 HZ1 HB1
  go_wp2_with fail
  refine (combination1_any B m d ts E q f vs W1.heap.size W2 (HM.out.keep HB2.out) (HV.out.keep HB2.out) HC2.out HI.out).mono ?_
  rintro e W3 ⟨rfl, hb⟩
  have HZ3 := Lib.hid (HZ2.out.keep hb)
  have HB3 := Lib.hid (below_step HB2.out hb)
  clear hb HZ2 HB2
  have z0 := HZ3.out.c0
  have z1 := HZ3.out.c1
  have f0 := HZ3.out.f0
  have f1 := HZ3.out.f1
  go_wp2_with fail
  exact bodyPost_ret (v := .agg #[.int .u64 (vF (finE ts vs).A), .int .u64 (vF (finE ts vs).B)]) (by simp [results, Try.results23, go_sem, z0, z1]) rfl ⟨rfl, (HB3.out.setCell (by simp) _).setCell (by simp) _⟩

end Go.Proofs.Ytombcjdhjcmhhaa
