/- Several texts in one: Yap, Yw, Yx, Yaa. -/
import Derived.Test.YtlicfidcfhbmpaaDoorTw18
import Derived.Test.YtlicfidcfhbmpaaDoorTw14
set_option linter.unusedVariables false
set_option linter.unusedSimpArgs false
set_option linter.unusedSectionVars false
namespace Go.Proofs.YtlicfidcfhbmpaaDoor
set_option maxRecDepth 8000
/-- the text with white space put in: m: there is a byte before, and it is no dot -/
def _root_.Qu.wsG (a b d : List UInt8) : Bool → List UInt8 → List UInt8
 | _, [] => []
 | m, c :: l =>
  if c = 32 then a ++ Qu.wsG a b d true l
  else if c = 46 then (if m = true then b ++ (46 :: 46 :: d) else []) ++ Qu.wsG a b d false l
  else c :: Qu.wsG a b d true l
def _root_.Qu.isPl (c : UInt8) : Bool := decide (c ≠ 32) && decide (c ≠ 46)
section
variable {a b d : List UInt8}
theorem wsG_word : ∀ (w : List UInt8) (m : Bool) (t : List UInt8), w ≠ [] → w.all Qu.isPl = true → Qu.wsG a b d m (w ++ t) = w ++ Qu.wsG a b d true t
 | [], _, _, h, _ => absurd rfl h
 | [c], m, t, _, h => by
  have hc : c ≠ 32 ∧ c ≠ 46 := by simpa [Qu.isPl] using h
  show Qu.wsG a b d m (c :: t) = _
  conv => lhs; unfold Qu.wsG
  rw [if_neg hc.1, if_neg hc.2]
  rfl
 | c :: e :: l, m, t, _, h => by
  have hc : c ≠ 32 ∧ c ≠ 46 := by
   simp only [List.all_cons, Bool.and_eq_true] at h
   simpa [Qu.isPl] using h.1
  show Qu.wsG a b d m (c :: ((e :: l) ++ t)) = _
  conv => lhs; unfold Qu.wsG
  rw [if_neg hc.1, if_neg hc.2, wsG_word (e :: l) true t (List.cons_ne_nil _ _) (by simp only [List.all_cons, Bool.and_eq_true] at h ⊢; exact h.2)]
  rfl
theorem wsG_sp (m : Bool) (t : List UInt8) : Qu.wsG a b d m (32 :: t) = a ++ Qu.wsG a b d true t := by
 conv => lhs; unfold Qu.wsG
 rw [if_pos rfl]
theorem wsG_dots (t : List UInt8) : Qu.wsG a b d true (46 :: 46 :: t) = b ++ (46 :: 46 :: (d ++ Qu.wsG a b d false t)) := by
 conv => lhs; unfold Qu.wsG
 rw [if_neg (by decide), if_pos rfl, if_pos rfl]
 conv => lhs; rhs; unfold Qu.wsG
 rw [if_neg (by decide), if_pos rfl, if_neg (by decide)]
 simp
theorem pl_lt {c : UInt8} (h : Qu.isLt c = true) : Qu.isPl c = true := by
 unfold Qu.isLt at h
 unfold Qu.isPl
 have h32 : c ≠ 32 := fun e => by subst e; revert h; decide
 have h46 : c ≠ 46 := fun e => by subst e; revert h; decide
 rw [decide_eq_true h32, decide_eq_true h46]
 rfl
theorem pl_dg {c : UInt8} (h : Qu.isDg c = true) : Qu.isPl c = true := by
 unfold Qu.isDg at h
 unfold Qu.isPl
 have h32 : c ≠ 32 := fun e => by subst e; revert h; decide
 have h46 : c ≠ 46 := fun e => by subst e; revert h; decide
 rw [decide_eq_true h32, decide_eq_true h46]
 rfl
theorem all_imp {p q : UInt8 → Bool} {l : List UInt8} (h : l.all p = true) (hi : ∀ c, p c = true → q c = true) : l.all q = true := by
 rw [List.all_eq_true] at h ⊢
 exact fun c hc => hi c (h c hc)
theorem wsG_cond (w : List UInt8) (hw : w ≠ []) (hl : w.all Qu.isLt = true) (c : Qu.Cd) (m : Bool) (t : List UInt8) : Qu.wsG a b d m (Qu.condW [32] [] [] w c ++ t) = Qu.condW a b d w c ++ Qu.wsG a b d true t := by
 have h1 := all_imp hl fun _ => pl_lt
 have h2 := all_imp (Qu.nameN_lt c.col) fun _ => pl_lt
 have h3 := all_imp (Qu.decF_dg 6 c.lo) fun _ => pl_dg
 have h4 := all_imp (Qu.decF_dg 6 c.hi) fun _ => pl_dg
 simp only [Qu.condW, List.append_assoc, List.cons_append, List.nil_append]
 rw [wsG_sp, wsG_word w true _ hw h1, wsG_sp, wsG_word (Qu.nameN c.col) true _ (Qu.nameN_ne _) h2, wsG_sp]
 have e : ∀ t : List UInt8, (105 : UInt8) :: 110 :: t = [105, 110] ++ t := fun _ => rfl
 rw [e, wsG_word [105, 110] true _ (List.cons_ne_nil _ _) (by decide), wsG_sp, wsG_word (Qu.decN c.lo) true _ (Qu.decN_ne _) h3, wsG_dots, wsG_word (Qu.decN c.hi) false _ (Qu.decN_ne _) h4]
 rfl
theorem wsG_ft : ∀ (l : List Qu.Cd) (w : List UInt8) (t : List UInt8), w ≠ [] → w.all Qu.isLt = true → Qu.wsG a b d true (Qu.ftW [32] [] [] w l ++ t) = Qu.ftW a b d w l ++ Qu.wsG a b d true t
 | [], _, _, _, _ => rfl
 | c :: l, w, t, hw, hl => by
  show Qu.wsG a b d true ((Qu.condW [32] [] [] w c ++ Qu.ftW [32] [] [] [97, 110, 100] l) ++ t) = (Qu.condW a b d w c ++ Qu.ftW a b d [97, 110, 100] l) ++ _
  rw [List.append_assoc, wsG_cond w hw hl, wsG_ft l [97, 110, 100] t (List.cons_ne_nil _ _) (by decide), List.append_assoc]
theorem wsG_fs : ∀ (fs : List (List Qu.Cd)), Qu.wsG a b d true (Qu.fsW [32] [] [] fs) = Qu.fsW a b d fs
 | [] => rfl
 | [l] => by
  have h := wsG_ft (a := a) (b := b) (d := d) l Qu.whereN [] (List.cons_ne_nil _ _) (by decide)
  simpa [Qu.fsW, Qu.wsG] using h
 | l :: m :: _ => by
  have h := wsG_ft (a := a) (b := b) (d := d) m Qu.whereN [] (List.cons_ne_nil _ _) (by decide)
  simp only [List.append_nil] at h
  simp only [Qu.fsW]
  rw [wsG_ft l Qu.whereN _ (List.cons_ne_nil _ _) (by decide), List.cons_append, List.nil_append, wsG_sp, wsG_word Qu.withN true _ (List.cons_ne_nil _ _) (by decide), h]
  simp [Qu.wsG]
theorem wsG_qy (q : Qu.Qy) : Qu.wsG a b d false (Qu.qyW [32] [] [] q) = Qu.qyW a b d q := by
 have h1 := all_imp (Qu.kwN_lt q.kind) fun _ => pl_lt
 have h2 := all_imp (Qu.nameN_lt q.col) fun _ => pl_lt
 have h3 := all_imp (Qu.decF_dg 6 q.k) fun _ => pl_dg
 unfold Qu.qyW
 rw [wsG_word (Qu.kwN q.kind) false _ (Qu.kwN_ne _) h1]
 have e3 : Qu.wsG a b d true ((if 0 < Qu.maxK q.kind then [32] ++ Qu.decN q.k else []) ++ Qu.fsW [32] [] [] q.fs) = (if 0 < Qu.maxK q.kind then a ++ Qu.decN q.k else []) ++ Qu.fsW a b d q.fs := by
  split
  ·rw [List.append_assoc, List.cons_append, List.nil_append, wsG_sp, wsG_word (Qu.decN q.k) true _ (Qu.decN_ne _) h3, wsG_fs, List.append_assoc]
  ·exact wsG_fs _
 split
 ·rw [List.append_assoc, List.cons_append, List.nil_append, wsG_sp, wsG_word (Qu.nameN q.col) true _ (Qu.nameN_ne _) h2, e3]
  simp
 ·rw [List.nil_append, List.nil_append, e3]
end
/-- the byte before place i is there and no dot -/
def _root_.Qu.preB (tx : List UInt8) (i : Nat) : Bool := decide (0 < i) && decide (tx[i - 1]? ≠ some 46)
section
variable {a b d tx : List UInt8} {i : Nat} {c : UInt8}
theorem wsG_step (h : tx[i]? = some c) (m : Bool) : Qu.wsG a b d m (tx.drop i) = (if c = 32 then a else if c = 46 then (if m = true then b ++ (46 :: 46 :: d) else []) else [c]) ++ Qu.wsG a b d (Qu.preB tx (i + 1)) (tx.drop (i + 1)) := by
 have hi := (List.getElem?_eq_some_iff.1 h).1
 have hc : tx[i] = c := (List.getElem?_eq_some_iff.1 h).2
 have hp : Qu.preB tx (i + 1) = decide (c ≠ 46) := by
  unfold Qu.preB
  rw [Nat.add_sub_cancel, h, decide_eq_true (Nat.succ_pos i), Bool.true_and]
  simp
 rw [List.drop_eq_getElem_cons hi, hc]
 conv => lhs; unfold Qu.wsG
 by_cases h32 : c = 32
 ·subst h32
  rw [if_pos rfl, if_pos rfl, hp]
  rfl
 ·rw [if_neg h32, if_neg h32]
  by_cases h46 : c = 46
  ·subst h46
   rw [if_pos rfl, if_pos rfl, hp]
   rfl
  ·rw [if_neg h46, if_neg h46, hp, decide_eq_true h46]
   rfl
end
/-- the bytes of white space -/
def _root_.Qu.spB : Nat → List UInt8
 | 0 => [32]
 | 1 => [9]
 | 2 => [10]
 | _ => [13]
def _root_.Qu.spG (k : Nat) : Nat → List UInt8
 | 0 => []
 | n + 1 => Qu.spG k n ++ Qu.spB ((n + k) % 4)
def _root_.Qu.spN (n : Nat) : List UInt8 := Qu.spG (n / 5) (n % 5)
theorem spB_sp (k : Nat) : (Qu.spB k).all Qu.isSp = true := by
 unfold Qu.spB
 split <;> decide
theorem spB_len (k : Nat) : (Qu.spB k).length = 1 := by
 unfold Qu.spB
 split <;> rfl
theorem spG_sp (k : Nat) : ∀ n, (Qu.spG k n).all Qu.isSp = true
 | 0 => rfl
 | n + 1 => by
  show (Qu.spG k n ++ Qu.spB ((n + k) % 4)).all Qu.isSp = true
  rw [List.all_append, spG_sp k n, spB_sp]
  rfl
theorem spG_len (k : Nat) : ∀ n, (Qu.spG k n).length = n
 | 0 => rfl
 | n + 1 => by
  show (Qu.spG k n ++ Qu.spB ((n + k) % 4)).length = n + 1
  rw [List.length_append, spG_len k n, spB_len]
theorem spN_sp (n : Nat) : (Qu.spN n).all Qu.isSp = true := spG_sp _ _
theorem spN_len (n : Nat) : (Qu.spN n).length ≤ 4 := by
 unfold Qu.spN
 rw [spG_len]
 omega
theorem sp_list {k : Nat} (h : k < 4) : ([[32], [9], [10], [13]] : List (List UInt8))[k]? = some (Qu.spB k) := by
 have h4 : k = 0 ∨ k = 1 ∨ k = 2 ∨ k = 3 := by omega
 rcases h4 with rfl | rfl | rfl | rfl <;> rfl
/-- the text of a valid query with white space is read back, or is too long -/
theorem ws_parse (q : Qu.Qy) (h : OkQ q) (a b d s : List UInt8) (ha : a.all Qu.isSp = true) (hb : b.all Qu.isSp = true) (hd : d.all Qu.isSp = true) (hs : s.all Qu.isSp = true) (o : List UInt8) (ho : o = (s ++ Qu.wsG (32 :: a) b d false (Qu.fmtN q)) ++ b) : Qu.parseN o = if 400 < o.length then (Qu.zeroQ, 0, 2) else (q, 0, 0) := by
 by_cases hl : 400 < o.length
 ·rw [if_pos hl]
  unfold Qu.parseN
  rw [if_pos hl]
 ·rw [if_neg hl]
  refine Qu.parse_at (a := 32 :: a) (b := b) (d := d) (e := b) (s0 := s) ?_ hb hd (List.cons_ne_nil _ _) hb h hs ?_ (by omega)
  ·rw [List.all_cons, ha]
   rfl
  ·rw [ho, fmtN_can q h.nf, wsG_qy, List.append_assoc]
end Go.Proofs.YtlicfidcfhbmpaaDoor

namespace Go.Proofs.YtlicfidcfhbmpaaDoor
set_option maxRecDepth 8000
def eqA (c v z : Nat) : List UInt8 := [99, 111, 117, 110, 116, 32, 119, 104, 101, 114, 101, 32] ++ Qu.nameN c ++ [32, 61, 32] ++ (List.replicate z 48 ++ Qu.decN v)
def eqB (c v z : Nat) : List UInt8 := [99, 111, 117, 110, 116, 32, 119, 104, 101, 114, 101, 32] ++ Qu.nameN c ++ [32, 105, 110, 32] ++ Qu.decN v ++ [46, 46] ++ (List.replicate z 48 ++ Qu.decN v)
def eqQ (c v : Nat) : Qu.Qy × Nat × Nat := (⟨1, 0, 0, [[⟨c, v, v⟩]]⟩, 0, 0)
def EqOk (c v z : Nat) : Prop := Qu.parseN (eqA c v z) = eqQ c v ∧ Qu.parseN (eqB c v z) = eqQ c v
instance (c v z : Nat) : Decidable (EqOk c v z) := inferInstanceAs (Decidable (_ ∧ _))
end Go.Proofs.YtlicfidcfhbmpaaDoor

namespace Go.Proofs.YtlicfidcfhbmpaaDoor
set_option maxRecDepth 8000
open Go.RowKit Go.Proofs.YtlicfidcfhbmpaaDoor.K
attribute [local irreducible] wpList wpQuiet
def stC (l : List UInt8) : List Value := [.string (sB l)]
instance : Enc stC 1 := ⟨fun _ => rfl, fun x u hu => by
 simp only [stC, List.mem_cons, List.not_mem_nil, or_false] at hu
 subst hu
 rfl, by decide⟩
set_option maxRecDepth 100000 in
set_option maxHeartbeats 16000000 in
theorem rdigits_any (f : Nat) : f ≤ 6 → 1 ≤ f → ∀ (n : Nat), n < 10 ^ f → ∀ (w : World), Calls Tryd.prog 25 #[.int .i64 (n : Int)] w fun e w' => e = .returned (.string (sB (Qu.decF f n))) ∧ Below w.heap.size w w' := by
 induction f with
 | zero => intro _ h; omega
 | succ f ih =>
  intro hf h1 n hn w
  have hn7 : n < 1000000 := Nat.lt_of_lt_of_le hn (Nat.pow_le_pow_right (by decide) hf)
  rw [Nat.pow_succ] at hn
  have hle := Qu.decF_le f (n / 10)
  have hle2 := Qu.decF_le f (n % 10)
  go_enter Tryd.func25, Tryd.ntmps25
  go_upto_region 1 with fail
  obtain ⟨m, hm⟩ : ∃ m, 48 + n = m := ⟨_, rfl⟩
  obtain ⟨d, hd⟩ : ∃ d, n % 10 = d := ⟨_, rfl⟩
  by_cases h10 : n < 10
  ·have hci0 : ((n : Int) < 10) := by omega
   refine wp_region_lit ?_
   refine zr (.int .i64 (n : Int)) w rfl ?_
   simp only [Act.put, zA, zB, zC]
   refine zr (.bool true) w (xo_lssT .i64 (n : Int) 10 (by omega) rfl rfl rfl) ?_
   simp only [Act.put, zA, zB, zC]
   refine wpList_nil ?_
   go_upto_region 2 with fail
   refine wp_region_lit ?_
   refine zr (.int .i64 (n : Int)) w rfl ?_
   simp only [Act.put, zA, zB, zC]
   refine zr (.int .i64 (m : Int)) w (xo_addI 48 (n : Int) (m : Int) (by omega) (by omega) (by omega) rfl rfl rfl) ?_
   simp only [Act.put, zA, zB, zC]
   refine zr (.int .u8 (m : Int)) w (xo_cvt .i64 .u8 (m : Int) (m : Int) (by rw [IntKind.wrap_u8]; omega) Tryd.underlying5 Tryd.underlying3 rfl rfl) ?_
   simp only [Act.put, zA, zB, zC]
   refine wpList_mk (by kernel_rfl) ([m].flatMap byC).toArray 5 1 1 (xg_lit (E := byC) (bytes := 1) (.int .u8 0) [.tmp 7] [m] 1 Tryd.underlying87 (by kernel_rfl) rfl (by decide) (by decide) rfl rfl) ?_
   intro g8 V1 hge h0 hb
   have Ge1 : Hid (w.heap.size ≤ g8) := Lib.hid hge
   have B0 := Lib.hid hb
   have Fv2_8 : Hid (RowG byC V1 g8 5 ([m])) := Lib.hid (h0)
   have Lt3 : Hid (g8 < V1.heap.size) := Lib.hid (xp_lt Fv2_8.out)
   clear hge h0 hb
   simp only [ptr, Act.put, zA, zB, zC]
   refine zr (.string (sB ([UInt8.ofNat m]))) V1 (xs_str1 (RowG.sg (n := 1) (c := 1) Fv2_8.out (show ([m]).length = 1 from rfl) (Nat.le_refl _) (by omega)) (by decide) Tryd.underlying87 Tryd.underlying5 Tryd.underlying9 rfl rfl) ?_
   simp only [Act.put, zA, zB, zC]
   refine zr (.string (sB ([UInt8.ofNat m]))) V1 rfl ?_
   simp only [Act.put, zA, zB, zC]
   refine wpList_nil ?_
   have hx : Qu.decF (f + 1) n = [UInt8.ofNat m] := by rw [Qu.decF_lt h10, ← hm]; rfl
   have hbf := B0.out
   go_wp2_with fail
   go_ret
   exact ⟨by first | rfl | (rw [hx] <;> rfl), hbf⟩
  ·have hci0 : ¬ ((n : Int) < 10) := by omega
   refine wp_region_lit ?_
   refine zr (.int .i64 (n : Int)) w rfl ?_
   simp only [Act.put, zA, zB, zC]
   refine zr (.bool false) w (xo_lssF .i64 (n : Int) 10 (by omega) rfl rfl rfl) ?_
   simp only [Act.put, zA, zB, zC]
   refine wpList_nil ?_
   have hf1 : 1 ≤ f := by
       rcases f with _ | f
       ·simp at hn; omega
       ·omega
   have h10f : 10 ≤ 10 ^ f := by have := Nat.pow_le_pow_right (n := 10) (by decide) hf1; simpa using this
   go_upto_region 3 with fail
   refine wp_region_lit ?_
   refine zr (.int .i64 (n : Int)) w rfl ?_
   simp only [Act.put, zA, zB, zC]
   refine zr (.int .i64 ((n / 10 : Nat) : Int)) w (xo_quoN .i64 n 10 (n / 10) (by omega) rfl (by rw [IntKind.wrap_i64]; omega) rfl rfl rfl) ?_
   simp only [Act.put, zA, zB, zC]
   refine wpList_call (by kernel_rfl) 25 Tryd.func25 (by kernel_rfl) (by kernel_rfl) _ _ #[.int .i64 ((n / 10 : Nat) : Int)] rfl (by kernel_rfl) ?_
   refine (ih (by omega) hf1 (n / 10) (by omega) w).mono ?_
   rintro e V1 ⟨rfl, hb⟩
   have B0 := Lib.hid hb
   clear hb 
   refine ⟨_, rfl, ?_⟩
   simp only [Act.put, zA, zB, zC]
   refine zr (.int .i64 (n : Int)) V1 rfl ?_
   simp only [Act.put, zA, zB, zC]
   refine zr (.int .i64 ((n % 10 : Nat) : Int)) V1 (xo_remN .i64 n 10 (n % 10) (by omega) rfl rfl rfl rfl) ?_
   simp only [Act.put, zA, zB, zC]
   refine wpList_call (by kernel_rfl) 25 Tryd.func25 (by kernel_rfl) (by kernel_rfl) _ _ #[.int .i64 ((n % 10 : Nat) : Int)] rfl (by kernel_rfl) ?_
   refine (ih (by omega) hf1 (n % 10) (by omega) V1).mono ?_
   rintro e V2 ⟨rfl, hb⟩
   have B1 := Lib.hid hb
   clear hb 
   refine ⟨_, rfl, ?_⟩
   simp only [Act.put, zA, zB, zC]
   refine zr (.string (sB ((Qu.decF f (n / 10)) ++ (Qu.decF f (n % 10))))) V2 (xs_add (Qu.decF f (n / 10)) (Qu.decF f (n % 10)) (by omega) Tryd.underlying9 rfl rfl rfl) ?_
   simp only [Act.put, zA, zB, zC]
   refine zr (.string (sB ((Qu.decF f (n / 10)) ++ (Qu.decF f (n % 10))))) V2 rfl ?_
   simp only [Act.put, zA, zB, zC]
   refine wpList_nil ?_
   have hx : Qu.decF (f + 1) n = Qu.decF f (n / 10) ++ Qu.decF f (n % 10) := by
       obtain ⟨f2, rfl⟩ : ∃ f2, f = f2 + 1 := ⟨f - 1, by omega⟩
       rw [Qu.decF_ge h10, Qu.decF_lt (f := f2) (n := n % 10) (Nat.mod_lt _ (by decide))]
   have C0_2 := zb B0 B1
   have hbf := C0_2.out
   go_wp2_with fail
   go_ret
   exact ⟨by first | rfl | (rw [hx] <;> rfl), hbf⟩
theorem rdigits_as (n : Nat) (x : List UInt8) (h : Qu.decN n = x) (hn : n < 1000000) (w : World) : Calls Tryd.prog 25 #[.int .i64 (n : Int)] w fun e w' => e = .returned (.string (sB x)) ∧ Below w.heap.size w w' := by
 subst h
 exact rdigits_any 6 (Nat.le_refl _) (by decide) n hn w
set_option maxRecDepth 100000 in
set_option maxHeartbeats 16000000 in
theorem rcolumn_as (c : Nat) (x : List UInt8) (h : Qu.nameN c = x) (hc : c < 4) (w : World) : Calls Tryd.prog 26 #[.int .i64 (c : Int)] w fun e w' => e = .returned (.string (sB x)) ∧ Below w.heap.size w w' := by
 go_enter Tryd.func26, Tryd.ntmps26
 go_upto_region 1 with fail
 have hx : ([[119, 104, 111], [119, 104, 101, 110], [107, 105, 110, 100], [118, 97, 108, 117, 101]] : List (List UInt8))[c]? = some x := by
  have h4 : c = 0 ∨ c = 1 ∨ c = 2 ∨ c = 3 := by omega
  rcases h4 with rfl | rfl | rfl | rfl <;> exact congrArg some h
 have HE := Lib.hid hx
 clear hx
 refine wp_region_lit ?_
 refine wpList_mk (by kernel_rfl) ([[119, 104, 111], [119, 104, 101, 110], [107, 105, 110, 100], [118, 97, 108, 117, 101]].flatMap stC).toArray 9 4 4 (xg_lit (E := stC) (bytes := 16) (.string ByteArray.empty) [.const (.string ⟨#[119, 104, 111]⟩), .const (.string ⟨#[119, 104, 101, 110]⟩), .const (.string ⟨#[107, 105, 110, 100]⟩), .const (.string ⟨#[118, 97, 108, 117, 101]⟩)] [[119, 104, 111], [119, 104, 101, 110], [107, 105, 110, 100], [118, 97, 108, 117, 101]] 4 Tryd.underlying86 (by kernel_rfl) rfl (by decide) (by decide) rfl rfl) ?_
 intro g3 V1 hge h0 hb
 have Ge0 : Hid (w.heap.size ≤ g3) := Lib.hid hge
 have B0 := Lib.hid hb
 have Fv1_3 : Hid (RowG stC V1 g3 9 ([[119, 104, 111], [119, 104, 101, 110], [107, 105, 110, 100], [118, 97, 108, 117, 101]])) := Lib.hid (h0)
 have Lt2 : Hid (g3 < V1.heap.size) := Lib.hid (xp_lt Fv1_3.out)
 clear hge h0 hb
 simp only [ptr, Act.put, zA, zB, zC]
 refine zr (.int .i64 (c : Int)) V1 rfl ?_
 simp only [Act.put, zA, zB, zC]
 refine zr (.pointer (some (gad (some ⟨g3, 0, none⟩) (c * 1)))) V1 (xg_idx .i64 (RowG.sg (n := 4) (c := 4) Fv1_3.out (show ([[119, 104, 111], [119, 104, 101, 110], [107, 105, 110, 100], [118, 97, 108, 117, 101]]).length = 4 from rfl) (Nat.le_refl _) (by omega)) HE.out Tryd.underlying86 (by kernel_rfl) rfl rfl rfl) ?_
 simp only [Act.put, zA, zB, zC]
 refine zr (.string (sB x)) V1 (xg_load1 (E := stC) (i := c) (j := 0) (RowG.sg (n := 4) (c := 4) Fv1_3.out (show ([[119, 104, 111], [119, 104, 101, 110], [107, 105, 110, 100], [118, 97, 108, 117, 101]]).length = 4 from rfl) (Nat.le_refl _) (by omega)) HE.out rfl rfl Tryd.underlying9 rfl rfl rfl) ?_
 simp only [Act.put, zA, zB, zC]
 refine zr (.string (sB x)) V1 rfl ?_
 simp only [Act.put, zA, zB, zC]
 refine wpList_nil ?_
 have hbf := B0.out
 go_wp2_with fail
 go_ret
 exact ⟨rfl, hbf⟩
end Go.Proofs.YtlicfidcfhbmpaaDoor

namespace Go.Proofs.YtlicfidcfhbmpaaDoor
set_option maxRecDepth 8000
open Go.RowKit Go.Proofs.YtlicfidcfhbmpaaDoor.K
attribute [local irreducible] wpList wpQuiet
theorem kw_list {k : Nat} {x : List UInt8} (h1 : 1 ≤ k) (h7 : k ≤ 7) (h : Qu.kwN k = x) : ([[99, 111, 117, 110, 116], [116, 111, 116, 97, 108], [109, 111, 109, 101, 110, 116], [103, 114, 111, 117, 112, 115], [100, 105, 115, 116, 105, 110, 99, 116], [115, 109, 97, 108, 108, 101, 115, 116], [112, 97, 105, 114, 115]] : List (List UInt8))[k - 1]? = some x := by
 subst h
 have h4 : k = 1 ∨ k = 2 ∨ k = 3 ∨ k = 4 ∨ k = 5 ∨ k = 6 ∨ k = 7 := by omega
 rcases h4 with rfl | rfl | rfl | rfl | rfl | rfl | rfl <;> rfl
set_option maxRecDepth 100000 in
set_option maxHeartbeats 16000000 in
theorem rkw_as (k : Nat) (h1 : 1 ≤ k) (h7 : k ≤ 7) (x : List UInt8) (h : Qu.kwN k = x) (w : World) : Calls Tryd.prog 39 #[.int .i64 (k : Int)] w fun e w' => e = .returned (.string (sB x)) ∧ Below w.heap.size w w' := by
 go_enter Tryd.func39, Tryd.ntmps39
 go_upto_region 1 with fail
 have HE := Lib.hid (kw_list h1 h7 h)
 refine wp_region_lit ?_
 refine wpList_mk (by kernel_rfl) ([[99, 111, 117, 110, 116], [116, 111, 116, 97, 108], [109, 111, 109, 101, 110, 116], [103, 114, 111, 117, 112, 115], [100, 105, 115, 116, 105, 110, 99, 116], [115, 109, 97, 108, 108, 101, 115, 116], [112, 97, 105, 114, 115]].flatMap stC).toArray 9 7 7 (xg_lit (E := stC) (bytes := 16) (.string ByteArray.empty) [.const (.string ⟨#[99, 111, 117, 110, 116]⟩), .const (.string ⟨#[116, 111, 116, 97, 108]⟩), .const (.string ⟨#[109, 111, 109, 101, 110, 116]⟩), .const (.string ⟨#[103, 114, 111, 117, 112, 115]⟩), .const (.string ⟨#[100, 105, 115, 116, 105, 110, 99, 116]⟩), .const (.string ⟨#[115, 109, 97, 108, 108, 101, 115, 116]⟩), .const (.string ⟨#[112, 97, 105, 114, 115]⟩)] [[99, 111, 117, 110, 116], [116, 111, 116, 97, 108], [109, 111, 109, 101, 110, 116], [103, 114, 111, 117, 112, 115], [100, 105, 115, 116, 105, 110, 99, 116], [115, 109, 97, 108, 108, 101, 115, 116], [112, 97, 105, 114, 115]] 7 Tryd.underlying86 (by kernel_rfl) rfl (by decide) (by decide) rfl rfl) ?_
 intro g3 V1 hge h0 hb
 have Ge0 : Hid (w.heap.size ≤ g3) := Lib.hid hge
 have B0 := Lib.hid hb
 have Fv1_3 : Hid (RowG stC V1 g3 9 ([[99, 111, 117, 110, 116], [116, 111, 116, 97, 108], [109, 111, 109, 101, 110, 116], [103, 114, 111, 117, 112, 115], [100, 105, 115, 116, 105, 110, 99, 116], [115, 109, 97, 108, 108, 101, 115, 116], [112, 97, 105, 114, 115]])) := Lib.hid (h0)
 have Lt2 : Hid (g3 < V1.heap.size) := Lib.hid (xp_lt Fv1_3.out)
 clear hge h0 hb
 simp only [ptr, Act.put, zA, zB, zC]
 refine zr (.int .i64 (k : Int)) V1 rfl ?_
 simp only [Act.put, zA, zB, zC]
 refine zr (.int .i64 ((k - 1 : Nat) : Int)) V1 (xo_subI (k : Int) 1 ((k - 1 : Nat) : Int) (by omega) (by omega) (by omega) rfl rfl rfl) ?_
 simp only [Act.put, zA, zB, zC]
 refine zr (.pointer (some (gad (some ⟨g3, 0, none⟩) ((k - 1) * 1)))) V1 (xg_idx .i64 (RowG.sg (n := 7) (c := 7) Fv1_3.out (show ([[99, 111, 117, 110, 116], [116, 111, 116, 97, 108], [109, 111, 109, 101, 110, 116], [103, 114, 111, 117, 112, 115], [100, 105, 115, 116, 105, 110, 99, 116], [115, 109, 97, 108, 108, 101, 115, 116], [112, 97, 105, 114, 115]]).length = 7 from rfl) (Nat.le_refl _) (by omega)) HE.out Tryd.underlying86 (by kernel_rfl) rfl rfl rfl) ?_
 simp only [Act.put, zA, zB, zC]
 refine zr (.string (sB x)) V1 (xg_load1 (E := stC) (i := (k - 1)) (j := 0) (RowG.sg (n := 7) (c := 7) Fv1_3.out (show ([[99, 111, 117, 110, 116], [116, 111, 116, 97, 108], [109, 111, 109, 101, 110, 116], [103, 114, 111, 117, 112, 115], [100, 105, 115, 116, 105, 110, 99, 116], [115, 109, 97, 108, 108, 101, 115, 116], [112, 97, 105, 114, 115]]).length = 7 from rfl) (Nat.le_refl _) (by omega)) HE.out rfl rfl Tryd.underlying9 rfl rfl rfl) ?_
 simp only [Act.put, zA, zB, zC]
 refine zr (.string (sB x)) V1 rfl ?_
 simp only [Act.put, zA, zB, zC]
 refine wpList_nil ?_
 have hbf := B0.out
 go_wp2_with fail
 go_ret
 exact ⟨rfl, hbf⟩
set_option maxRecDepth 100000 in
set_option maxHeartbeats 32000000 in
theorem rft_any (A : Option Addr) (n c : Nat) (hn3 : n ≤ 3) (l : List Qu.Cd) (hok : ∀ e ∈ l, e.col < 4 ∧ e.lo ≤ 255 ∧ e.hi ≤ 255) (w : World) (hL : Sg ciC 3 w A n c (l.map Qu.Cd.ci)) :
  Calls Tryd.prog 40 #[.slice A n c] w fun e w' => e = .returned (.string (sB (Qu.ftN l))) ∧ Below w.heap.size w w' := by
 have HL := Lib.hid hL
 have hln : l.length = n := by have := hL.len; rwa [List.length_map] at this
 have hlc := hL.cap
 have hlt := hL.top
 have HOKL := Lib.hid hok
 clear hL hok
 go_enter Tryd.func40, Tryd.ntmps40
 go_upto_region 1 with fail
 refine wp_region_lit ?_
 refine zr (.string (sB ([]))) w rfl ?_
 simp only [Act.put, zA, zB, zC]
 refine wpList_nil ?_
 go_upto_region 2 with fail
 refine wp_region_lit ?_
 refine zr (.int .i64 0) w rfl ?_
 simp only [Act.put, zA, zB, zC]
 refine wpList_nil ?_
 have O0 := (Below.refl w.heap.size w)
 have B0 := Lib.hid (Below.refl w.heap.size w)
 go_wp2_with fail
 go_loopw [4, 3] (fun p a wr => ∃ i : Nat, i ≤ n ∧ p = .int .i64 i ∧ a = .string (sB (Qu.ftN (l.take i))) ∧ Below w.heap.size w wr) (fun p _ _ => n - (intOf p).toNat)
 case atStart => exact ⟨0, Nat.zero_le _, rfl, rfl, O0⟩
 case round =>
  clear O0
  obtain ⟨wo, rfl⟩ : ∃ wo : World, wo = wr := ⟨_, rfl⟩
  obtain ⟨i, hi, rfl, hHA, hb0⟩ := hrel
  have hbr := hb0
  clear B0
  have B0 := Lib.hid hbr
  clear hbr
  have HA := Lib.hid hHA
  clear hb0 hHA
  have ea := HA.out
  subst ea
  clear HA
  obtain ⟨tx, htx⟩ : ∃ x, Qu.ftN (l.take i) = x := ⟨_, rfl⟩
  have HTX := Lib.hid htx
  have htl : tx.length ≤ 120 := by rw [← htx]; have := Qu.ftG_le (w := Qu.whereT) (by decide) (l.take i); rw [List.length_take] at this; exact Nat.le_trans this (by omega)
  rw [htx]
  clear htx
  by_cases hlt2 : i < n
  ·have hci2 : ((i : Int) < (n : Int)) := by omega
   obtain ⟨e0, hx⟩ : ∃ e, l[i]? = some e := ⟨_, List.getElem?_eq_getElem (by omega)⟩
   obtain ⟨k, lo, hi2⟩ := e0
   obtain ⟨hk4, hlo, hhi⟩ := HOKL.out _ (List.mem_of_getElem? hx)
   replace hk4 : k < 4 := hk4
   replace hlo : lo ≤ 255 := hlo
   replace hhi : hi2 ≤ 255 := hhi
   have HX := Lib.hid hx
   have HE : Hid ((l.map Qu.Cd.ci)[i]? = some (Qu.Ci.mk (k : Int) (lo : Int) (hi2 : Int))) := Lib.hid (by rw [List.getElem?_map, hx]; rfl)
   clear hx
   obtain ⟨nm, hnm⟩ : ∃ x, Qu.nameN k = x := ⟨_, rfl⟩
   have hnml : nm.length ≤ 6 := by rw [← hnm]; first | exact Nat.le_trans (Qu.nameN_le _) (by decide) | exact Qu.decF_le 6 _
   have Hnm := Lib.hid hnm
   clear hnm
   obtain ⟨dl, hdl⟩ : ∃ x, Qu.decN lo = x := ⟨_, rfl⟩
   have hdll : dl.length ≤ 6 := by rw [← hdl]; first | exact Nat.le_trans (Qu.nameN_le _) (by decide) | exact Qu.decF_le 6 _
   have Hdl := Lib.hid hdl
   clear hdl
   obtain ⟨dh, hdh⟩ : ∃ x, Qu.decN hi2 = x := ⟨_, rfl⟩
   have hdhl : dh.length ≤ 6 := by rw [← hdh]; first | exact Nat.le_trans (Qu.nameN_le _) (by decide) | exact Qu.decF_le 6 _
   have Hdh := Lib.hid hdh
   clear hdh
   go_upto_region 3 with fail
   refine wp_region_lit ?_
   refine zr (.int .i64 (i : Int)) wo rfl ?_
   simp only [Act.put, zA, zB, zC]
   refine zr (.slice A n c) wo rfl ?_
   simp only [Act.put, zA, zB, zC]
   refine zr (.int .i64 (n : Int)) wo (xo_len A n c Tryd.underlying28 rfl rfl) ?_
   simp only [Act.put, zA, zB, zC]
   refine zr (.bool true) wo (xo_lssT .i64 (i : Int) (n : Int) (by omega) rfl rfl rfl) ?_
   simp only [Act.put, zA, zB, zC]
   refine wpList_nil ?_
   go_upto_region 5 with fail
   refine wp_region_lit ?_
   refine zr (.string (sB ([32, 119, 104, 101, 114, 101, 32]))) wo rfl ?_
   simp only [Act.put, zA, zB, zC]
   refine wpList_nil ?_
   by_cases hi0 : i = 0
   ·have hci3 : ¬ ((i : Int) > 0) := by omega
    go_upto_region 6 with fail
    refine wp_region_lit ?_
    refine zr (.int .i64 (i : Int)) wo rfl ?_
    simp only [Act.put, zA, zB, zC]
    refine zr (.bool false) wo (xo_gtrF .i64 (i : Int) 0 (by omega) rfl rfl rfl) ?_
    simp only [Act.put, zA, zB, zC]
    refine wpList_nil ?_
    go_upto_region 8 with fail
    try simp only [List.append_eq, List.cons_append, List.nil_append]
    refine wp_ordX (.q 0 (.q 1 (.q 2 (.q 3 (.q 4 (.q 5 (.q 6 (.q 7 (.q 11 (.q 12 (.q 13 (.q 14 (.q 15 (.q 19 (.q 20 (.q 21 (.q 22 (.q 23 (.one 8 (.q 9 (.q 10 (.one 16 (.q 17 (.q 18 (.one 24 (.q 25 (.q 26 .nil))))))))))))))))))))))))))) (by kernel_rfl) (by kernel_rfl) (fun _ _ dt _ _ h => by first | exact h.elim | (cases dt <;> exact h)) (by kernel_rfl) (by kernel_rfl) (fun V2 hb => ?_)
    have B1 := Lib.hid hb
    clear hb
    refine wpX_q (.string (sB tx)) rfl (by kernel_rfl) (fun v hW => rfl) ?_
    simp only [ptr, Act.put, zA, zB, zC]
    refine wpX_q (.string (sB ([32, 119, 104, 101, 114, 101, 32]))) rfl (by kernel_rfl) (fun v hW => rfl) ?_
    simp only [ptr, Act.put, zA, zB, zC]
    refine wpX_q (.string (sB (tx ++ ([32, 119, 104, 101, 114, 101, 32])))) rfl (by kernel_rfl) (fun v hW => (xs_add tx ([32, 119, 104, 101, 114, 101, 32]) (by (try simp only [List.length_append, List.length_cons, List.length_nil]); omega) Tryd.underlying9 rfl rfl rfl)) ?_
    simp only [ptr, Act.put, zA, zB, zC]
    refine wpX_q (.slice A n c) rfl (by kernel_rfl) (fun v hW => rfl) ?_
    simp only [ptr, Act.put, zA, zB, zC]
    refine wpX_q (.int .i64 (i : Int)) rfl (by kernel_rfl) (fun v hW => rfl) ?_
    simp only [ptr, Act.put, zA, zB, zC]
    have C0_2 := zb B0 B1
    refine wpX_q (.pointer (some (gad A (i * 3)))) rfl (by kernel_rfl) (fun v hW => (xg_idx .i64 ((HL.out.keep C0_2.out).keep hW) HE.out Tryd.underlying28 (by kernel_rfl) rfl rfl rfl)) ?_
    simp only [ptr, Act.put, zA, zB, zC]
    refine wpX_q (.pointer (some (gad A ((i * 3) + 0)))) rfl (by kernel_rfl) (fun v hW => (xg_fld 0 ((HL.out.keep C0_2.out).keep hW) HE.out (by kernel_rfl) rfl rfl)) ?_
    simp only [ptr, Act.put, zA, zB, zC]
    refine wpX_q (.int .i64 (k : Int)) rfl (by kernel_rfl) (fun v hW => (xg_load1 (E := ciC) (i := i) (j := 0) ((HL.out.keep C0_2.out).keep hW) HE.out rfl rfl Tryd.underlying3 rfl rfl rfl)) ?_
    simp only [ptr, Act.put, zA, zB, zC]
    refine wpX_q (.slice A n c) rfl (by kernel_rfl) (fun v hW => rfl) ?_
    simp only [ptr, Act.put, zA, zB, zC]
    refine wpX_q (.int .i64 (i : Int)) rfl (by kernel_rfl) (fun v hW => rfl) ?_
    simp only [ptr, Act.put, zA, zB, zC]
    refine wpX_q (.pointer (some (gad A (i * 3)))) rfl (by kernel_rfl) (fun v hW => (xg_idx .i64 ((HL.out.keep C0_2.out).keep hW) HE.out Tryd.underlying28 (by kernel_rfl) rfl rfl rfl)) ?_
    simp only [ptr, Act.put, zA, zB, zC]
    refine wpX_q (.pointer (some (gad A ((i * 3) + 1)))) rfl (by kernel_rfl) (fun v hW => (xg_fld 1 ((HL.out.keep C0_2.out).keep hW) HE.out (by kernel_rfl) rfl rfl)) ?_
    simp only [ptr, Act.put, zA, zB, zC]
    refine wpX_q (.int .i64 (lo : Int)) rfl (by kernel_rfl) (fun v hW => (xg_load1 (E := ciC) (i := i) (j := 1) ((HL.out.keep C0_2.out).keep hW) HE.out rfl rfl Tryd.underlying3 rfl rfl rfl)) ?_
    simp only [ptr, Act.put, zA, zB, zC]
    refine wpX_q (.slice A n c) rfl (by kernel_rfl) (fun v hW => rfl) ?_
    simp only [ptr, Act.put, zA, zB, zC]
    refine wpX_q (.int .i64 (i : Int)) rfl (by kernel_rfl) (fun v hW => rfl) ?_
    simp only [ptr, Act.put, zA, zB, zC]
    refine wpX_q (.pointer (some (gad A (i * 3)))) rfl (by kernel_rfl) (fun v hW => (xg_idx .i64 ((HL.out.keep C0_2.out).keep hW) HE.out Tryd.underlying28 (by kernel_rfl) rfl rfl rfl)) ?_
    simp only [ptr, Act.put, zA, zB, zC]
    refine wpX_q (.pointer (some (gad A ((i * 3) + 2)))) rfl (by kernel_rfl) (fun v hW => (xg_fld 2 ((HL.out.keep C0_2.out).keep hW) HE.out (by kernel_rfl) rfl rfl)) ?_
    simp only [ptr, Act.put, zA, zB, zC]
    refine wpX_q (.int .i64 (hi2 : Int)) rfl (by kernel_rfl) (fun v hW => (xg_load1 (E := ciC) (i := i) (j := 2) ((HL.out.keep C0_2.out).keep hW) HE.out rfl rfl Tryd.underlying3 rfl rfl rfl)) ?_
    simp only [ptr, Act.put, zA, zB, zC]
    refine wpX_one rfl (by kernel_rfl) ?_
    refine hOp_call 26 Tryd.func26 (by kernel_rfl) (by kernel_rfl) _ _ #[.int .i64 (k : Int)] rfl (by kernel_rfl) ?_
    refine (rcolumn_as k nm Hnm.out hk4 V2).mono ?_
    rintro e V3 ⟨rfl, hb⟩
    have B2 := Lib.hid hb
    clear hb 
    refine ⟨_, rfl, B2.out, ?_⟩
    simp only [ptr, Act.put, zA, zB, zC]
    refine wpX_q (.string (sB ((tx ++ ([32, 119, 104, 101, 114, 101, 32])) ++ nm))) rfl (by kernel_rfl) (fun v hW => (xs_add (tx ++ ([32, 119, 104, 101, 114, 101, 32])) nm (by (try simp only [List.length_append, List.length_cons, List.length_nil]); omega) Tryd.underlying9 rfl rfl rfl)) ?_
    simp only [ptr, Act.put, zA, zB, zC]
    refine wpX_q (.string (sB (((tx ++ ([32, 119, 104, 101, 114, 101, 32])) ++ nm) ++ ([32, 105, 110, 32])))) rfl (by kernel_rfl) (fun v hW => (xs_add ((tx ++ ([32, 119, 104, 101, 114, 101, 32])) ++ nm) ([32, 105, 110, 32]) (by (try simp only [List.length_append, List.length_cons, List.length_nil]); omega) Tryd.underlying9 rfl rfl rfl)) ?_
    simp only [ptr, Act.put, zA, zB, zC]
    refine wpX_one rfl (by kernel_rfl) ?_
    refine hOp_call 25 Tryd.func25 (by kernel_rfl) (by kernel_rfl) _ _ #[.int .i64 (lo : Int)] rfl (by kernel_rfl) ?_
    refine (rdigits_as lo dl Hdl.out (by omega) V3).mono ?_
    rintro e V4 ⟨rfl, hb⟩
    have B3 := Lib.hid hb
    clear hb 
    refine ⟨_, rfl, B3.out, ?_⟩
    simp only [ptr, Act.put, zA, zB, zC]
    refine wpX_q (.string (sB ((((tx ++ ([32, 119, 104, 101, 114, 101, 32])) ++ nm) ++ ([32, 105, 110, 32])) ++ dl))) rfl (by kernel_rfl) (fun v hW => (xs_add (((tx ++ ([32, 119, 104, 101, 114, 101, 32])) ++ nm) ++ ([32, 105, 110, 32])) dl (by (try simp only [List.length_append, List.length_cons, List.length_nil]); omega) Tryd.underlying9 rfl rfl rfl)) ?_
    simp only [ptr, Act.put, zA, zB, zC]
    refine wpX_q (.string (sB (((((tx ++ ([32, 119, 104, 101, 114, 101, 32])) ++ nm) ++ ([32, 105, 110, 32])) ++ dl) ++ ([46, 46])))) rfl (by kernel_rfl) (fun v hW => (xs_add ((((tx ++ ([32, 119, 104, 101, 114, 101, 32])) ++ nm) ++ ([32, 105, 110, 32])) ++ dl) ([46, 46]) (by (try simp only [List.length_append, List.length_cons, List.length_nil]); omega) Tryd.underlying9 rfl rfl rfl)) ?_
    simp only [ptr, Act.put, zA, zB, zC]
    refine wpX_one rfl (by kernel_rfl) ?_
    refine hOp_call 25 Tryd.func25 (by kernel_rfl) (by kernel_rfl) _ _ #[.int .i64 (hi2 : Int)] rfl (by kernel_rfl) ?_
    refine (rdigits_as hi2 dh Hdh.out (by omega) V4).mono ?_
    rintro e V5 ⟨rfl, hb⟩
    have B4 := Lib.hid hb
    clear hb 
    refine ⟨_, rfl, B4.out, ?_⟩
    simp only [ptr, Act.put, zA, zB, zC]
    refine wpX_q (.string (sB ((((((tx ++ ([32, 119, 104, 101, 114, 101, 32])) ++ nm) ++ ([32, 105, 110, 32])) ++ dl) ++ ([46, 46])) ++ dh))) rfl (by kernel_rfl) (fun v hW => (xs_add (((((tx ++ ([32, 119, 104, 101, 114, 101, 32])) ++ nm) ++ ([32, 105, 110, 32])) ++ dl) ++ ([46, 46])) dh (by (try simp only [List.length_append, List.length_cons, List.length_nil]); omega) Tryd.underlying9 rfl rfl rfl)) ?_
    simp only [ptr, Act.put, zA, zB, zC]
    refine wpX_q (.string (sB ((((((tx ++ ([32, 119, 104, 101, 114, 101, 32])) ++ nm) ++ ([32, 105, 110, 32])) ++ dl) ++ ([46, 46])) ++ dh))) rfl (by kernel_rfl) (fun v hW => rfl) ?_
    simp only [ptr, Act.put, zA, zB, zC]
    refine wpX_nil ?_
    go_upto_region 4 with fail
    refine wp_region_lit ?_
    refine zr (.int .i64 (i : Int)) V5 rfl ?_
    simp only [Act.put, zA, zB, zC]
    refine zr (.int .i64 ((i + 1 : Nat) : Int)) V5 (xo_addI (i : Int) 1 ((i + 1 : Nat) : Int) (by omega) (by omega) (by omega) rfl rfl rfl) ?_
    simp only [Act.put, zA, zB, zC]
    refine zr (.int .i64 ((i + 1 : Nat) : Int)) V5 rfl ?_
    simp only [Act.put, zA, zB, zC]
    refine wpList_nil ?_
    have he : Qu.ftN (l.take (i + 1)) = tx ++ [32, 119, 104, 101, 114, 101, 32] ++ nm ++ [32, 105, 110, 32] ++ dl ++ [46, 46] ++ dh := by rw [Qu.ftN_take HX.out, HTX.out, Qu.condT, Hnm.out, Hdl.out, Hdh.out, Qu.wdN, if_pos hi0]; simp [Qu.whereT, Qu.andT, Qu.inT, Qu.dotT]
    have C0_3 := zb C0_2 B2
    have C0_4 := zb C0_3 B3
    have C0_5 := zb C0_4 B4
    have hq4 := C0_5.out
    go_wp2_with fail
    go_roundw
    case rel => exact ⟨i + 1, by omega, by go_num, by first | rfl | rw [he], hq4⟩
    case measure => simp [intOf]; omega
   ·have hci3 : ((i : Int) > 0) := by omega
    go_upto_region 6 with fail
    refine wp_region_lit ?_
    refine zr (.int .i64 (i : Int)) wo rfl ?_
    simp only [Act.put, zA, zB, zC]
    refine zr (.bool true) wo (xo_gtrT .i64 (i : Int) 0 (by omega) rfl rfl rfl) ?_
    simp only [Act.put, zA, zB, zC]
    refine wpList_nil ?_
    go_upto_region 7 with fail
    refine wp_region_lit ?_
    refine zr (.string (sB ([32, 97, 110, 100, 32]))) wo rfl ?_
    simp only [Act.put, zA, zB, zC]
    refine wpList_nil ?_
    go_upto_region 8 with fail
    try simp only [List.append_eq, List.cons_append, List.nil_append]
    refine wp_ordX (.q 0 (.q 1 (.q 2 (.q 3 (.q 4 (.q 5 (.q 6 (.q 7 (.q 11 (.q 12 (.q 13 (.q 14 (.q 15 (.q 19 (.q 20 (.q 21 (.q 22 (.q 23 (.one 8 (.q 9 (.q 10 (.one 16 (.q 17 (.q 18 (.one 24 (.q 25 (.q 26 .nil))))))))))))))))))))))))))) (by kernel_rfl) (by kernel_rfl) (fun _ _ dt _ _ h => by first | exact h.elim | (cases dt <;> exact h)) (by kernel_rfl) (by kernel_rfl) (fun V2 hb => ?_)
    have B1 := Lib.hid hb
    clear hb
    refine wpX_q (.string (sB tx)) rfl (by kernel_rfl) (fun v hW => rfl) ?_
    simp only [ptr, Act.put, zA, zB, zC]
    refine wpX_q (.string (sB ([32, 97, 110, 100, 32]))) rfl (by kernel_rfl) (fun v hW => rfl) ?_
    simp only [ptr, Act.put, zA, zB, zC]
    refine wpX_q (.string (sB (tx ++ ([32, 97, 110, 100, 32])))) rfl (by kernel_rfl) (fun v hW => (xs_add tx ([32, 97, 110, 100, 32]) (by (try simp only [List.length_append, List.length_cons, List.length_nil]); omega) Tryd.underlying9 rfl rfl rfl)) ?_
    simp only [ptr, Act.put, zA, zB, zC]
    refine wpX_q (.slice A n c) rfl (by kernel_rfl) (fun v hW => rfl) ?_
    simp only [ptr, Act.put, zA, zB, zC]
    refine wpX_q (.int .i64 (i : Int)) rfl (by kernel_rfl) (fun v hW => rfl) ?_
    simp only [ptr, Act.put, zA, zB, zC]
    have C0_2 := zb B0 B1
    refine wpX_q (.pointer (some (gad A (i * 3)))) rfl (by kernel_rfl) (fun v hW => (xg_idx .i64 ((HL.out.keep C0_2.out).keep hW) HE.out Tryd.underlying28 (by kernel_rfl) rfl rfl rfl)) ?_
    simp only [ptr, Act.put, zA, zB, zC]
    refine wpX_q (.pointer (some (gad A ((i * 3) + 0)))) rfl (by kernel_rfl) (fun v hW => (xg_fld 0 ((HL.out.keep C0_2.out).keep hW) HE.out (by kernel_rfl) rfl rfl)) ?_
    simp only [ptr, Act.put, zA, zB, zC]
    refine wpX_q (.int .i64 (k : Int)) rfl (by kernel_rfl) (fun v hW => (xg_load1 (E := ciC) (i := i) (j := 0) ((HL.out.keep C0_2.out).keep hW) HE.out rfl rfl Tryd.underlying3 rfl rfl rfl)) ?_
    simp only [ptr, Act.put, zA, zB, zC]
    refine wpX_q (.slice A n c) rfl (by kernel_rfl) (fun v hW => rfl) ?_
    simp only [ptr, Act.put, zA, zB, zC]
    refine wpX_q (.int .i64 (i : Int)) rfl (by kernel_rfl) (fun v hW => rfl) ?_
    simp only [ptr, Act.put, zA, zB, zC]
    refine wpX_q (.pointer (some (gad A (i * 3)))) rfl (by kernel_rfl) (fun v hW => (xg_idx .i64 ((HL.out.keep C0_2.out).keep hW) HE.out Tryd.underlying28 (by kernel_rfl) rfl rfl rfl)) ?_
    simp only [ptr, Act.put, zA, zB, zC]
    refine wpX_q (.pointer (some (gad A ((i * 3) + 1)))) rfl (by kernel_rfl) (fun v hW => (xg_fld 1 ((HL.out.keep C0_2.out).keep hW) HE.out (by kernel_rfl) rfl rfl)) ?_
    simp only [ptr, Act.put, zA, zB, zC]
    refine wpX_q (.int .i64 (lo : Int)) rfl (by kernel_rfl) (fun v hW => (xg_load1 (E := ciC) (i := i) (j := 1) ((HL.out.keep C0_2.out).keep hW) HE.out rfl rfl Tryd.underlying3 rfl rfl rfl)) ?_
    simp only [ptr, Act.put, zA, zB, zC]
    refine wpX_q (.slice A n c) rfl (by kernel_rfl) (fun v hW => rfl) ?_
    simp only [ptr, Act.put, zA, zB, zC]
    refine wpX_q (.int .i64 (i : Int)) rfl (by kernel_rfl) (fun v hW => rfl) ?_
    simp only [ptr, Act.put, zA, zB, zC]
    refine wpX_q (.pointer (some (gad A (i * 3)))) rfl (by kernel_rfl) (fun v hW => (xg_idx .i64 ((HL.out.keep C0_2.out).keep hW) HE.out Tryd.underlying28 (by kernel_rfl) rfl rfl rfl)) ?_
    simp only [ptr, Act.put, zA, zB, zC]
    refine wpX_q (.pointer (some (gad A ((i * 3) + 2)))) rfl (by kernel_rfl) (fun v hW => (xg_fld 2 ((HL.out.keep C0_2.out).keep hW) HE.out (by kernel_rfl) rfl rfl)) ?_
    simp only [ptr, Act.put, zA, zB, zC]
    refine wpX_q (.int .i64 (hi2 : Int)) rfl (by kernel_rfl) (fun v hW => (xg_load1 (E := ciC) (i := i) (j := 2) ((HL.out.keep C0_2.out).keep hW) HE.out rfl rfl Tryd.underlying3 rfl rfl rfl)) ?_
    simp only [ptr, Act.put, zA, zB, zC]
    refine wpX_one rfl (by kernel_rfl) ?_
    refine hOp_call 26 Tryd.func26 (by kernel_rfl) (by kernel_rfl) _ _ #[.int .i64 (k : Int)] rfl (by kernel_rfl) ?_
    refine (rcolumn_as k nm Hnm.out hk4 V2).mono ?_
    rintro e V3 ⟨rfl, hb⟩
    have B2 := Lib.hid hb
    clear hb 
    refine ⟨_, rfl, B2.out, ?_⟩
    simp only [ptr, Act.put, zA, zB, zC]
    refine wpX_q (.string (sB ((tx ++ ([32, 97, 110, 100, 32])) ++ nm))) rfl (by kernel_rfl) (fun v hW => (xs_add (tx ++ ([32, 97, 110, 100, 32])) nm (by (try simp only [List.length_append, List.length_cons, List.length_nil]); omega) Tryd.underlying9 rfl rfl rfl)) ?_
    simp only [ptr, Act.put, zA, zB, zC]
    refine wpX_q (.string (sB (((tx ++ ([32, 97, 110, 100, 32])) ++ nm) ++ ([32, 105, 110, 32])))) rfl (by kernel_rfl) (fun v hW => (xs_add ((tx ++ ([32, 97, 110, 100, 32])) ++ nm) ([32, 105, 110, 32]) (by (try simp only [List.length_append, List.length_cons, List.length_nil]); omega) Tryd.underlying9 rfl rfl rfl)) ?_
    simp only [ptr, Act.put, zA, zB, zC]
    refine wpX_one rfl (by kernel_rfl) ?_
    refine hOp_call 25 Tryd.func25 (by kernel_rfl) (by kernel_rfl) _ _ #[.int .i64 (lo : Int)] rfl (by kernel_rfl) ?_
    refine (rdigits_as lo dl Hdl.out (by omega) V3).mono ?_
    rintro e V4 ⟨rfl, hb⟩
    have B3 := Lib.hid hb
    clear hb 
    refine ⟨_, rfl, B3.out, ?_⟩
    simp only [ptr, Act.put, zA, zB, zC]
    refine wpX_q (.string (sB ((((tx ++ ([32, 97, 110, 100, 32])) ++ nm) ++ ([32, 105, 110, 32])) ++ dl))) rfl (by kernel_rfl) (fun v hW => (xs_add (((tx ++ ([32, 97, 110, 100, 32])) ++ nm) ++ ([32, 105, 110, 32])) dl (by (try simp only [List.length_append, List.length_cons, List.length_nil]); omega) Tryd.underlying9 rfl rfl rfl)) ?_
    simp only [ptr, Act.put, zA, zB, zC]
    refine wpX_q (.string (sB (((((tx ++ ([32, 97, 110, 100, 32])) ++ nm) ++ ([32, 105, 110, 32])) ++ dl) ++ ([46, 46])))) rfl (by kernel_rfl) (fun v hW => (xs_add ((((tx ++ ([32, 97, 110, 100, 32])) ++ nm) ++ ([32, 105, 110, 32])) ++ dl) ([46, 46]) (by (try simp only [List.length_append, List.length_cons, List.length_nil]); omega) Tryd.underlying9 rfl rfl rfl)) ?_
    simp only [ptr, Act.put, zA, zB, zC]
    refine wpX_one rfl (by kernel_rfl) ?_
    refine hOp_call 25 Tryd.func25 (by kernel_rfl) (by kernel_rfl) _ _ #[.int .i64 (hi2 : Int)] rfl (by kernel_rfl) ?_
    refine (rdigits_as hi2 dh Hdh.out (by omega) V4).mono ?_
    rintro e V5 ⟨rfl, hb⟩
    have B4 := Lib.hid hb
    clear hb 
    refine ⟨_, rfl, B4.out, ?_⟩
    simp only [ptr, Act.put, zA, zB, zC]
    refine wpX_q (.string (sB ((((((tx ++ ([32, 97, 110, 100, 32])) ++ nm) ++ ([32, 105, 110, 32])) ++ dl) ++ ([46, 46])) ++ dh))) rfl (by kernel_rfl) (fun v hW => (xs_add (((((tx ++ ([32, 97, 110, 100, 32])) ++ nm) ++ ([32, 105, 110, 32])) ++ dl) ++ ([46, 46])) dh (by (try simp only [List.length_append, List.length_cons, List.length_nil]); omega) Tryd.underlying9 rfl rfl rfl)) ?_
    simp only [ptr, Act.put, zA, zB, zC]
    refine wpX_q (.string (sB ((((((tx ++ ([32, 97, 110, 100, 32])) ++ nm) ++ ([32, 105, 110, 32])) ++ dl) ++ ([46, 46])) ++ dh))) rfl (by kernel_rfl) (fun v hW => rfl) ?_
    simp only [ptr, Act.put, zA, zB, zC]
    refine wpX_nil ?_
    go_upto_region 4 with fail
    refine wp_region_lit ?_
    refine zr (.int .i64 (i : Int)) V5 rfl ?_
    simp only [Act.put, zA, zB, zC]
    refine zr (.int .i64 ((i + 1 : Nat) : Int)) V5 (xo_addI (i : Int) 1 ((i + 1 : Nat) : Int) (by omega) (by omega) (by omega) rfl rfl rfl) ?_
    simp only [Act.put, zA, zB, zC]
    refine zr (.int .i64 ((i + 1 : Nat) : Int)) V5 rfl ?_
    simp only [Act.put, zA, zB, zC]
    refine wpList_nil ?_
    have he : Qu.ftN (l.take (i + 1)) = tx ++ [32, 97, 110, 100, 32] ++ nm ++ [32, 105, 110, 32] ++ dl ++ [46, 46] ++ dh := by rw [Qu.ftN_take HX.out, HTX.out, Qu.condT, Hnm.out, Hdl.out, Hdh.out, Qu.wdN, if_neg hi0]; simp [Qu.whereT, Qu.andT, Qu.inT, Qu.dotT]
    have C0_3 := zb C0_2 B2
    have C0_4 := zb C0_3 B3
    have C0_5 := zb C0_4 B4
    have hq4 := C0_5.out
    go_wp2_with fail
    go_roundw
    case rel => exact ⟨i + 1, by omega, by go_num, by first | rfl | rw [he], hq4⟩
    case measure => simp [intOf]; omega
  ·have hci2 : ¬ ((i : Int) < (n : Int)) := by omega
   go_upto_region 3 with fail
   refine wp_region_lit ?_
   refine zr (.int .i64 (i : Int)) wo rfl ?_
   simp only [Act.put, zA, zB, zC]
   refine zr (.slice A n c) wo rfl ?_
   simp only [Act.put, zA, zB, zC]
   refine zr (.int .i64 (n : Int)) wo (xo_len A n c Tryd.underlying28 rfl rfl) ?_
   simp only [Act.put, zA, zB, zC]
   refine zr (.bool false) wo (xo_lssF .i64 (i : Int) (n : Int) (by omega) rfl rfl rfl) ?_
   simp only [Act.put, zA, zB, zC]
   refine wpList_nil ?_
   go_upto_region 9 with fail
   refine wp_region_lit ?_
   refine zr (.string (sB tx)) wo rfl ?_
   simp only [Act.put, zA, zB, zC]
   refine zr (.string (sB tx)) wo rfl ?_
   simp only [Act.put, zA, zB, zC]
   refine wpList_nil ?_
   have he : Qu.ftN l = tx := by rw [← HTX.out, List.take_of_length_le (by omega)]
   have hbf := B0.out
   go_wp2_with fail
   go_ret
   exact ⟨by first | rfl | (rw [he] <;> rfl), hbf⟩
theorem rft_as (A : Option Addr) (n c : Nat) (hn3 : n ≤ 3) (l : List Qu.Cd) (hok : ∀ e ∈ l, e.col < 4 ∧ e.lo ≤ 255 ∧ e.hi ≤ 255) (x : List UInt8) (hx : Qu.ftN l = x) (w : World) (hL : Sg ciC 3 w A n c (l.map Qu.Cd.ci)) :
  Calls Tryd.prog 40 #[.slice A n c] w fun e w' => e = .returned (.string (sB x)) ∧ Below w.heap.size w w' := by
 subst hx
 exact rft_any A n c hn3 l hok w hL
end Go.Proofs.YtlicfidcfhbmpaaDoor

