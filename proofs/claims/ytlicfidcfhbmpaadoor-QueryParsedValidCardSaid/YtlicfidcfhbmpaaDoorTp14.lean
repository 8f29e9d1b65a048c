/- Several texts in one: Yq, Yae, Yaf, Yag, Yah, Yai, Yaj. -/
import Derived.Test.YtlicfidcfhbmpaaDoorTp13
set_option linter.unusedVariables false
set_option linter.unusedSimpArgs false
set_option linter.unusedSectionVars false
namespace Go.Proofs.YtlicfidcfhbmpaaDoor
set_option maxRecDepth 8000
open Go.RowKit Go.Proofs.YtlicfidcfhbmpaaDoor.K
attribute [local irreducible] wpList wpQuiet
def _root_.Qu.dig (d : Nat) : UInt8 := UInt8.ofNat (48 + d)
def _root_.Qu.decF : Nat → Nat → List UInt8
 | 0, _ => []
 | f + 1, n => if n < 10 then [Qu.dig n] else Qu.decF f (n / 10) ++ [Qu.dig (n % 10)]
def _root_.Qu.decN (n : Nat) : List UInt8 := Qu.decF 6 n
theorem _root_.Qu.decF_lt {f n : Nat} (h : n < 10) : Qu.decF (f + 1) n = [Qu.dig n] := by
 show (if n < 10 then _ else _) = _
 rw [if_pos h]
theorem _root_.Qu.decF_ge {f n : Nat} (h : ¬ n < 10) : Qu.decF (f + 1) n = Qu.decF f (n / 10) ++ [Qu.dig (n % 10)] := by
 show (if n < 10 then _ else _) = _
 rw [if_neg h]
theorem _root_.Qu.decF_le : ∀ (f n : Nat), (Qu.decF f n).length ≤ f
 | 0, _ => Nat.le_refl _
 | f + 1, n => by
  unfold Qu.decF
  split
  ·exact Nat.succ_le_succ (Nat.zero_le _)
  ·rw [List.length_append]
   exact Nat.succ_le_succ (Qu.decF_le f _)
def _root_.Qu.inT : List UInt8 := [32, 105, 110, 32]
def _root_.Qu.dotT : List UInt8 := [46, 46]
def _root_.Qu.whereT : List UInt8 := [32, 119, 104, 101, 114, 101, 32]
def _root_.Qu.andT : List UInt8 := [32, 97, 110, 100, 32]
def _root_.Qu.condT (w : List UInt8) (c : Qu.Cd) : List UInt8 := w ++ Qu.nameN c.col ++ Qu.inT ++ Qu.decN c.lo ++ Qu.dotT ++ Qu.decN c.hi
def _root_.Qu.ftG (w : List UInt8) : List Qu.Cd → List UInt8
 | [] => []
 | c :: l => Qu.condT w c ++ Qu.ftG Qu.andT l
def _root_.Qu.ftN (l : List Qu.Cd) : List UInt8 := Qu.ftG Qu.whereT l
def _root_.Qu.wdN (i : Nat) : List UInt8 := if i = 0 then Qu.whereT else Qu.andT
theorem _root_.Qu.ftG_snoc (w : List UInt8) (c : Qu.Cd) : ∀ l, Qu.ftG w (l ++ [c]) = Qu.ftG w l ++ Qu.condT (if l.length = 0 then w else Qu.andT) c
 | [] => by simp [Qu.ftG]
 | a :: l => by
  show Qu.condT w a ++ Qu.ftG Qu.andT (l ++ [c]) = Qu.condT w a ++ Qu.ftG Qu.andT l ++ _
  rw [Qu.ftG_snoc Qu.andT c l, List.append_assoc]
  simp
theorem _root_.Qu.ftN_take {l : List Qu.Cd} {i : Nat} {c : Qu.Cd} (h : l[i]? = some c) : Qu.ftN (l.take (i + 1)) = Qu.ftN (l.take i) ++ Qu.condT (Qu.wdN i) c := by
 have hi := (List.getElem?_eq_some_iff.1 h).1
 rw [List.take_add_one, h]
 show Qu.ftG _ (_ ++ [c]) = _
 rw [Qu.ftG_snoc, List.length_take, Nat.min_eq_left (by omega)]
 rfl
theorem _root_.Qu.nameN_le (k : Nat) : (Qu.nameN k).length ≤ 5 := by
 unfold Qu.nameN
 split <;> decide
theorem _root_.Qu.condT_le {w : List UInt8} (hw : w.length ≤ 7) (c : Qu.Cd) : (Qu.condT w c).length ≤ 40 := by
 have h1 := Qu.nameN_le c.col
 have h2 := Qu.decF_le 6 c.lo
 have h3 := Qu.decF_le 6 c.hi
 simp only [Qu.condT, Qu.inT, Qu.dotT, Qu.decN, List.length_append, List.length_cons, List.length_nil]
 omega
theorem _root_.Qu.ftG_le : ∀ {w : List UInt8}, w.length ≤ 7 → ∀ l, (Qu.ftG w l).length ≤ 40 * l.length
 | _, _, [] => Nat.zero_le _
 | w, hw, c :: l => by
  have h1 := Qu.condT_le hw c
  have h2 := Qu.ftG_le (w := Qu.andT) (by decide) l
  simp only [Qu.ftG, List.length_append, List.length_cons]
  omega
theorem _root_.Qu.wdN_le (i : Nat) : (Qu.wdN i).length ≤ 7 := by
 unfold Qu.wdN
 split <;> decide
theorem xs_str1 {P : Program} {ev : Operand → Value} {o : Oper} {w : World} {x : Operand} {src dst e : TypeId} {A : Option Addr} {n c m : Nat} (h : Sg byC 1 w A n c [m]) (hn : 0 < n) (hs : P.underlying src = some (.slice e)) (he : P.underlying e = some (.int .u8)) (hd : P.underlying dst = some .string) (ho : o.op = .convert src dst x) (hx : ev x = .slice A n c) :
  (execOp ev o).run P w = .ok (.value (.string (sB [UInt8.ofNat m]))) w := by
 rw [xg_str h hn hs he hd ho hx]
 simp [strB, strOfNums, sB]
set_option maxRecDepth 100000 in
set_option maxHeartbeats 16000000 in
theorem decimal_any (f : Nat) : f ≤ 6 → 1 ≤ f → ∀ (n : Nat), n < 10 ^ f → ∀ (w : World), Calls Tryd.prog 37 #[.int .i64 (n : Int)] w fun e w' => e = .returned (.string (sB (Qu.decF f n))) ∧ Below w.heap.size w w' := by
 induction f with
 | zero => intro _ h; omega
 | succ f ih =>
  intro hf _ n hn w
  have hn7 : n < 1000000 := Nat.lt_of_lt_of_le hn (Nat.pow_le_pow_right (by decide) hf)
  rw [Nat.pow_succ] at hn
  have hle := Qu.decF_le f (n / 10)
  go_enter Tryd.func37, Tryd.ntmps37
  go_upto_region 1 with fail
  obtain ⟨d, hd⟩ : ∃ d, n % 10 = d := ⟨_, rfl⟩
  obtain ⟨m, hm⟩ : ∃ m, 48 + d = m := ⟨_, rfl⟩
  refine wp_region_lit ?_
  refine zr (.int .i64 (n : Int)) w rfl ?_
  simp only [Act.put, zA, zB, zC]
  refine zr (.int .i64 (d : Int)) w (xo_remN .i64 n 10 d (by omega) hd rfl rfl rfl) ?_
  simp only [Act.put, zA, zB, zC]
  refine zr (.int .u8 (d : Int)) w (xo_cvt .i64 .u8 (d : Int) (d : Int) (by rw [IntKind.wrap_u8]; omega) Tryd.underlying5 Tryd.underlying3 rfl rfl) ?_
  simp only [Act.put, zA, zB, zC]
  refine zr (.int .u8 (m : Int)) w (xo_add .u8 48 (d : Int) (m : Int) (by rw [IntKind.wrap_u8]; omega) rfl rfl rfl) ?_
  simp only [Act.put, zA, zB, zC]
  refine wpList_mk (by kernel_rfl) ([m].flatMap byC).toArray 5 1 1 (xg_lit (E := byC) (bytes := 1) (.int .u8 0) [.tmp 7] [m] 1 Tryd.underlying87 (by kernel_rfl) rfl (by decide) (by decide) rfl rfl) ?_
  intro g8 V1 hge h0 hb
  have Ge0 : Hid (w.heap.size ≤ g8) := Lib.hid hge
  have B0 := Lib.hid hb
  have Fv1_8 : Hid (RowG byC V1 g8 5 ([m])) := Lib.hid (h0)
  have Lt2 : Hid (g8 < V1.heap.size) := Lib.hid (xp_lt Fv1_8.out)
  clear hge h0 hb
  simp only [ptr, Act.put, zA, zB, zC]
  refine zr (.string (sB ([UInt8.ofNat m]))) V1 (xs_str1 (RowG.sg (n := 1) (c := 1) Fv1_8.out (show ([m]).length = 1 from rfl) (Nat.le_refl _) (by omega)) (by decide) Tryd.underlying87 Tryd.underlying5 Tryd.underlying9 rfl rfl) ?_
  simp only [Act.put, zA, zB, zC]
  refine zr (.string (sB ([UInt8.ofNat m]))) V1 rfl ?_
  simp only [Act.put, zA, zB, zC]
  refine wpList_nil ?_
  by_cases h10 : n < 10
  ·have hci3 : ((n : Int) < 10) := by omega
   go_upto_region 2 with fail
   refine wp_region_lit ?_
   refine zr (.int .i64 (n : Int)) V1 rfl ?_
   simp only [Act.put, zA, zB, zC]
   refine zr (.bool true) V1 (xo_lssT .i64 (n : Int) 10 (by omega) rfl rfl rfl) ?_
   simp only [Act.put, zA, zB, zC]
   refine wpList_nil ?_
   go_upto_region 3 with fail
   refine wp_region_lit ?_
   refine zr (.string (sB ([UInt8.ofNat m]))) V1 rfl ?_
   simp only [Act.put, zA, zB, zC]
   refine zr (.string (sB ([UInt8.ofNat m]))) V1 rfl ?_
   simp only [Act.put, zA, zB, zC]
   refine wpList_nil ?_
   have hx : Qu.decF (f + 1) n = [UInt8.ofNat m] := by rw [Qu.decF_lt h10, ← hm, ← hd, Nat.mod_eq_of_lt h10]; rfl
   have hbf := B0.out
   go_wp2_with fail
   go_ret
   exact ⟨by first | rfl | (rw [hx] <;> rfl), hbf⟩
  ·have hci3 : ¬ ((n : Int) < 10) := by omega
   go_upto_region 2 with fail
   refine wp_region_lit ?_
   refine zr (.int .i64 (n : Int)) V1 rfl ?_
   simp only [Act.put, zA, zB, zC]
   refine zr (.bool false) V1 (xo_lssF .i64 (n : Int) 10 (by omega) rfl rfl rfl) ?_
   simp only [Act.put, zA, zB, zC]
   refine wpList_nil ?_
   have hf1 : 1 ≤ f := by
       rcases f with _ | f
       ·simp at hn; omega
       ·omega
   go_upto_region 4 with fail
   refine wp_region_lit ?_
   refine zr (.int .i64 (n : Int)) V1 rfl ?_
   simp only [Act.put, zA, zB, zC]
   refine zr (.int .i64 ((n / 10 : Nat) : Int)) V1 (xo_quoN .i64 n 10 (n / 10) (by omega) rfl (by rw [IntKind.wrap_i64]; omega) rfl rfl rfl) ?_
   simp only [Act.put, zA, zB, zC]
   refine wpList_call (by kernel_rfl) 37 Tryd.func37 (by kernel_rfl) (by kernel_rfl) _ _ #[.int .i64 ((n / 10 : Nat) : Int)] rfl (by kernel_rfl) ?_
   refine (ih (by omega) hf1 (n / 10) (by omega) V1).mono ?_
   rintro e V2 ⟨rfl, hb⟩
   have B1 := Lib.hid hb
   clear hb 
   refine ⟨_, rfl, ?_⟩
   simp only [Act.put, zA, zB, zC]
   refine zr (.string (sB ([UInt8.ofNat m]))) V2 rfl ?_
   simp only [Act.put, zA, zB, zC]
   refine zr (.string (sB ((Qu.decF f (n / 10)) ++ ([UInt8.ofNat m])))) V2 (xs_add (Qu.decF f (n / 10)) ([UInt8.ofNat m]) (by rw [List.length_singleton]; omega) Tryd.underlying9 rfl rfl rfl) ?_
   simp only [Act.put, zA, zB, zC]
   refine zr (.string (sB ((Qu.decF f (n / 10)) ++ ([UInt8.ofNat m])))) V2 rfl ?_
   simp only [Act.put, zA, zB, zC]
   refine wpList_nil ?_
   have hx : Qu.decF (f + 1) n = Qu.decF f (n / 10) ++ [UInt8.ofNat m] := by rw [Qu.decF_ge h10, ← hm, ← hd]; rfl
   have C0_2 := zb B0 B1
   have hbf := C0_2.out
   go_wp2_with fail
   go_ret
   exact ⟨by first | rfl | (rw [hx] <;> rfl), hbf⟩
theorem Gc.name {w : World} (h : Gc w) (i : Nat) (hi : i < 4) : w.cell? ⟨0, i * 2 + 0, none⟩ = some (.string (sB (Qu.nameN i))) := by
 rcases i with _ | _ | _ | _ | i
 ·exact h 0 _ rfl
 ·exact h 2 _ rfl
 ·exact h 4 _ rfl
 ·exact h 6 _ rfl
 ·omega
theorem decimal_as (n : Nat) (x : List UInt8) (h : Qu.decN n = x) (hn : n < 1000000) (w : World) : Calls Tryd.prog 37 #[.int .i64 (n : Int)] w fun e w' => e = .returned (.string (sB x)) ∧ Below w.heap.size w w' := by
 subst h
 exact decimal_any 6 (Nat.le_refl _) (by decide) n hn w
set_option maxRecDepth 100000 in
set_option maxHeartbeats 32000000 in
theorem filterText_any (A : Option Addr) (n c : Nat) (hn3 : n ≤ 3) (l : List Qu.Cd) (hok : ∀ e ∈ l, e.col < 4 ∧ e.lo ≤ 255 ∧ e.hi ≤ 255) (w : World) (hG : Gc w) (hL : Sg ciC 3 w A n c (l.map Qu.Cd.ci)) :
  Calls Tryd.prog 38 #[.slice A n c] w fun e w' => e = .returned (.string (sB (Qu.ftN l))) ∧ Below w.heap.size w w' := by
 have HL := Lib.hid hL
 have HG := Lib.hid hG
 have hln : l.length = n := by have := hL.len; rwa [List.length_map] at this
 have hlc := hL.cap
 have hlt := hL.top
 have HOKL := Lib.hid hok
 clear hL hG hok
 go_enter Tryd.func38, Tryd.ntmps38
 go_upto_region 1 with fail
 refine wp_region_lit ?_
 refine zr (.string (sB ([]))) w rfl ?_
 simp only [Act.put, zA, zB, zC]
 refine zr (.string (sB ([32, 119, 104, 101, 114, 101, 32]))) w rfl ?_
 simp only [Act.put, zA, zB, zC]
 refine wpList_nil ?_
 go_upto_region 2 with fail
 refine wp_region_lit ?_
 refine zr (.slice A n c) w rfl ?_
 simp only [Act.put, zA, zB, zC]
 refine zr (.int .i64 (n : Int)) w (xo_len A n c Tryd.underlying28 rfl rfl) ?_
 simp only [Act.put, zA, zB, zC]
 refine zr (.int .i64 0) w rfl ?_
 simp only [Act.put, zA, zB, zC]
 refine wpList_nil ?_
 have O0 := (Below.refl w.heap.size w)
 have B0 := Lib.hid (Below.refl w.heap.size w)
 go_wp2_with fail
 go_loopw [9, 3, 4] (fun p a u wr => ∃ i : Nat, i ≤ n ∧ p = .int .i64 i ∧ a = .string (sB (Qu.ftN (l.take i))) ∧ u = .string (sB (Qu.wdN i)) ∧ Below w.heap.size w wr) (fun p _ _ _ => n - (intOf p).toNat)
 case atStart => exact ⟨0, Nat.zero_le _, rfl, rfl, rfl, O0⟩
 case round =>
  clear O0
  obtain ⟨wo, rfl⟩ : ∃ wo : World, wo = wr := ⟨_, rfl⟩
  obtain ⟨i, hi, rfl, hHA, hHU, hb0⟩ := hrel
  have hbr := hb0
  clear B0
  have B0 := Lib.hid hbr
  clear hbr
  have HA := Lib.hid hHA
  have HU := Lib.hid hHU
  clear hb0 hHA hHU
  have ea := HA.out
  have eu := HU.out
  subst ea eu
  clear HA HU
  obtain ⟨tx, htx⟩ : ∃ x, Qu.ftN (l.take i) = x := ⟨_, rfl⟩
  have HTX := Lib.hid htx
  have htl : tx.length ≤ 120 := by rw [← htx]; have := Qu.ftG_le (w := Qu.whereT) (by decide) (l.take i); rw [List.length_take] at this; exact Nat.le_trans this (by omega)
  rw [htx]
  clear htx
  obtain ⟨u, hu⟩ : ∃ x, Qu.wdN i = x := ⟨_, rfl⟩
  have HU := Lib.hid hu
  have hul : u.length ≤ 7 := by rw [← hu]; exact Qu.wdN_le i
  rw [hu]
  clear hu
  by_cases hlt2 : i < n
  ·have hci2 : ((i : Int) < (n : Int)) := by omega
   obtain ⟨e0, hx⟩ : ∃ e, l[i]? = some e := ⟨_, List.getElem?_eq_getElem (by omega)⟩
   obtain ⟨k, lo, hi2⟩ := e0
   obtain ⟨hk4, hlo, hhi⟩ := HOKL.out _ (List.mem_of_getElem? hx)
   replace hk4 : k < 4 := hk4
   replace hlo : lo ≤ 255 := hlo
   replace hhi : hi2 ≤ 255 := hhi
   have HX := Lib.hid hx
   have HE : Hid ((l.map Qu.Cd.ci)[i]? = some (Qu.Ci.mk (k : Int) (lo : Int) (hi2 : Int))) := Lib.hid (by rw [List.getElem?_map, hx]; rfl)
   clear hx
   go_upto_region 3 with fail
   refine wp_region_lit ?_
   refine zr (.bool true) wo (xo_lssT .i64 (i : Int) (n : Int) (by omega) rfl rfl rfl) ?_
   simp only [Act.put, zA, zB, zC]
   refine wpList_nil ?_
   go_upto_region 4 with fail
   refine wp_region_lit ?_
   refine zr (.pointer (some (gad A (i * 3)))) wo (xg_idx .i64 (HL.out.keep B0.out) HE.out Tryd.underlying28 (by kernel_rfl) rfl rfl rfl) ?_
   simp only [Act.put, zA, zB, zC]
   refine zr (.agg #[.int .i64 (k : Int), .int .i64 (lo : Int), .int .i64 (hi2 : Int)]) wo (xg_loadE (E := ciC) (HL.out.keep B0.out) HE.out Tryd.underlying46 rfl (by kernel_rfl) rfl rfl) ?_
   simp only [Act.put, zA, zB, zC]
   refine wpList_new #[.int .i64 0, .int .i64 0, .int .i64 0] 46 (by kernel_rfl) (xo_alloc #[.int .i64 0, .int .i64 0, .int .i64 0] (by kernel_rfl) rfl) ?_
   intro b6 V2 hge h0 hb
   have Ge3 : Hid (wo.heap.size ≤ b6) := Lib.hid hge
   have B1 := Lib.hid hb
   have Fv4_6 : Hid (V2.heap[b6]? = some (.cells #[.int .i64 0, .int .i64 0, .int .i64 0] 46 (0, 0))) := Lib.hid (h0)
   have Lt5 : Hid (b6 < V2.heap.size) := Lib.hid (xp_lt Fv4_6.out)
   clear hge h0 hb
   simp only [ptr, Act.put, zA, zB, zC]
   refine wpList_storeW b6 #[.int .i64 0, .int .i64 0, .int .i64 0] #[.int .i64 (k : Int), .int .i64 (lo : Int), .int .i64 (hi2 : Int)] 46 (by kernel_rfl) Fv4_6.out (xo_storeW b6 #[.int .i64 0, .int .i64 0, .int .i64 0] #[.int .i64 (k : Int), .int .i64 (lo : Int), .int .i64 (hi2 : Int)] Fv4_6.out (by kernel_rfl) rfl (by simp [Value.oneCell']) rfl rfl rfl) ?_
   intro X2_6 h1 hfar hbel hsz
   have hbr := hbel _ _ Ge3.out B1.out
   clear B1
   have B1 := Lib.hid hbr
   clear hbr
   clear Fv4_6
   have Fv4_6 : Hid (X2_6.heap[b6]? = some (.cells #[.int .i64 (k : Int), .int .i64 (lo : Int), .int .i64 (hi2 : Int)] 46 (0, 0))) := Lib.hid (h1)
   have HszX2_6 := Lib.hid hsz
   clear h1 hfar hbel hsz
   simp only [ptr, Act.put, zA, zB, zC]
   refine wpList_nil ?_
   obtain ⟨nm, hnm⟩ : ∃ x, Qu.nameN k = x := ⟨_, rfl⟩
   have hnml : nm.length ≤ 6 := by rw [← hnm]; first | exact Nat.le_trans (Qu.nameN_le _) (by decide) | exact Qu.decF_le 6 _
   have Hnm := Lib.hid hnm
   clear hnm
   obtain ⟨dl, hdl⟩ : ∃ x, Qu.decN lo = x := ⟨_, rfl⟩
   have hdll : dl.length ≤ 6 := by rw [← hdl]; first | exact Nat.le_trans (Qu.nameN_le _) (by decide) | exact Qu.decF_le 6 _
   have Hdl := Lib.hid hdl
   clear hdl
   obtain ⟨dh, hdh⟩ : ∃ x, Qu.decN hi2 = x := ⟨_, rfl⟩
   have hdhl : dh.length ≤ 6 := by rw [← hdh]; first | exact Nat.le_trans (Qu.nameN_le _) (by decide) | exact Qu.decF_le 6 _
   have Hdh := Lib.hid hdh
   clear hdh
   go_upto_region 5 with fail
   try simp only [List.append_eq, List.cons_append, List.nil_append]
   refine wp_ordX (.q 0 (.q 1 (.q 2 (.q 3 (.q 4 (.q 5 (.q 6 (.q 7 (.q 8 (.q 9 (.q 10 (.q 14 (.q 15 (.one 11 (.q 12 (.q 13 (.one 16 (.q 17 (.q 18 (.q 19 .nil)))))))))))))))))))) (by kernel_rfl) (by kernel_rfl) (fun _ _ dt _ _ h => by first | exact h.elim | (cases dt <;> exact h)) (by kernel_rfl) (by kernel_rfl) (fun V3 hb => ?_)
   have B2 := Lib.hid hb
   clear hb
   refine wpX_q (.string (sB tx)) rfl (by kernel_rfl) (fun v hW => rfl) ?_
   simp only [ptr, Act.put, zA, zB, zC]
   refine wpX_q (.string (sB u)) rfl (by kernel_rfl) (fun v hW => rfl) ?_
   simp only [ptr, Act.put, zA, zB, zC]
   refine wpX_q (.pointer (some ⟨b6, 0, none⟩)) rfl (by kernel_rfl) (fun v hW => (xo_fld0 0 b6 0 (by kernel_rfl) rfl rfl)) ?_
   simp only [ptr, Act.put, zA, zB, zC]
   refine wpX_q (.int .i64 (k : Int)) rfl (by kernel_rfl) (fun v hW => (xo_load1 ⟨b6, 0, none⟩ _ (cells_at (heap_keep (heap_keep Fv4_6.out B2.out) hW) 0 rfl) Tryd.underlying3 rfl rfl rfl)) ?_
   simp only [ptr, Act.put, zA, zB, zC]
   refine wpX_q (.pointer (some ⟨0, k * 2, none⟩)) rfl (by kernel_rfl) (fun v hW => (xc_iad k (by omega) rfl rfl rfl)) ?_
   simp only [ptr, Act.put, zA, zB, zC]
   refine wpX_q (.pointer (some ⟨0, k * 2 + 0, none⟩)) rfl (by kernel_rfl) (fun v hW => (xo_fld 0 0 (k * 2) 0 (by kernel_rfl) rfl rfl)) ?_
   simp only [ptr, Act.put, zA, zB, zC]
   have C0_2 := zb B0 B1
   have C0_3 := zb C0_2 B2
   refine wpX_q (.string (sB nm)) rfl (by kernel_rfl) (fun v hW => (xo_load1 ⟨0, k * 2 + 0, none⟩ _ (Hnm.out ▸ Gc.name ((HG.out.keep C0_3.out).keep hW) k (by omega)) Tryd.underlying9 rfl rfl rfl)) ?_
   simp only [ptr, Act.put, zA, zB, zC]
   refine wpX_q (.string (sB (u ++ nm))) rfl (by kernel_rfl) (fun v hW => (xs_add u nm (by (try simp only [List.length_append, List.length_cons, List.length_nil]); omega) Tryd.underlying9 rfl rfl rfl)) ?_
   simp only [ptr, Act.put, zA, zB, zC]
   refine wpX_q (.string (sB ((u ++ nm) ++ ([32, 105, 110, 32])))) rfl (by kernel_rfl) (fun v hW => (xs_add (u ++ nm) ([32, 105, 110, 32]) (by (try simp only [List.length_append, List.length_cons, List.length_nil]); omega) Tryd.underlying9 rfl rfl rfl)) ?_
   simp only [ptr, Act.put, zA, zB, zC]
   refine wpX_q (.pointer (some ⟨b6, 1, none⟩)) rfl (by kernel_rfl) (fun v hW => (xo_fld0 1 b6 1 (by kernel_rfl) rfl rfl)) ?_
   simp only [ptr, Act.put, zA, zB, zC]
   refine wpX_q (.int .i64 (lo : Int)) rfl (by kernel_rfl) (fun v hW => (xo_load1 ⟨b6, 1, none⟩ _ (cells_at (heap_keep (heap_keep Fv4_6.out B2.out) hW) 1 rfl) Tryd.underlying3 rfl rfl rfl)) ?_
   simp only [ptr, Act.put, zA, zB, zC]
   refine wpX_q (.pointer (some ⟨b6, 2, none⟩)) rfl (by kernel_rfl) (fun v hW => (xo_fld0 2 b6 2 (by kernel_rfl) rfl rfl)) ?_
   simp only [ptr, Act.put, zA, zB, zC]
   refine wpX_q (.int .i64 (hi2 : Int)) rfl (by kernel_rfl) (fun v hW => (xo_load1 ⟨b6, 2, none⟩ _ (cells_at (heap_keep (heap_keep Fv4_6.out B2.out) hW) 2 rfl) Tryd.underlying3 rfl rfl rfl)) ?_
   simp only [ptr, Act.put, zA, zB, zC]
   refine wpX_one rfl (by kernel_rfl) ?_
   refine hOp_call 37 Tryd.func37 (by kernel_rfl) (by kernel_rfl) _ _ #[.int .i64 (lo : Int)] rfl (by kernel_rfl) ?_
   refine (decimal_as lo dl Hdl.out (by omega) V3).mono ?_
   rintro e V4 ⟨rfl, hb⟩
   have B3 := Lib.hid hb
   clear hb 
   refine ⟨_, rfl, B3.out, ?_⟩
   simp only [ptr, Act.put, zA, zB, zC]
   refine wpX_q (.string (sB (((u ++ nm) ++ ([32, 105, 110, 32])) ++ dl))) rfl (by kernel_rfl) (fun v hW => (xs_add ((u ++ nm) ++ ([32, 105, 110, 32])) dl (by (try simp only [List.length_append, List.length_cons, List.length_nil]); omega) Tryd.underlying9 rfl rfl rfl)) ?_
   simp only [ptr, Act.put, zA, zB, zC]
   refine wpX_q (.string (sB ((((u ++ nm) ++ ([32, 105, 110, 32])) ++ dl) ++ ([46, 46])))) rfl (by kernel_rfl) (fun v hW => (xs_add (((u ++ nm) ++ ([32, 105, 110, 32])) ++ dl) ([46, 46]) (by (try simp only [List.length_append, List.length_cons, List.length_nil]); omega) Tryd.underlying9 rfl rfl rfl)) ?_
   simp only [ptr, Act.put, zA, zB, zC]
   refine wpX_one rfl (by kernel_rfl) ?_
   refine hOp_call 37 Tryd.func37 (by kernel_rfl) (by kernel_rfl) _ _ #[.int .i64 (hi2 : Int)] rfl (by kernel_rfl) ?_
   refine (decimal_as hi2 dh Hdh.out (by omega) V4).mono ?_
   rintro e V5 ⟨rfl, hb⟩
   have B4 := Lib.hid hb
   clear hb 
   refine ⟨_, rfl, B4.out, ?_⟩
   simp only [ptr, Act.put, zA, zB, zC]
   refine wpX_q (.string (sB (((((u ++ nm) ++ ([32, 105, 110, 32])) ++ dl) ++ ([46, 46])) ++ dh))) rfl (by kernel_rfl) (fun v hW => (xs_add ((((u ++ nm) ++ ([32, 105, 110, 32])) ++ dl) ++ ([46, 46])) dh (by (try simp only [List.length_append, List.length_cons, List.length_nil]); omega) Tryd.underlying9 rfl rfl rfl)) ?_
   simp only [ptr, Act.put, zA, zB, zC]
   refine wpX_q (.string (sB (tx ++ (((((u ++ nm) ++ ([32, 105, 110, 32])) ++ dl) ++ ([46, 46])) ++ dh)))) rfl (by kernel_rfl) (fun v hW => (xs_add tx (((((u ++ nm) ++ ([32, 105, 110, 32])) ++ dl) ++ ([46, 46])) ++ dh) (by (try simp only [List.length_append, List.length_cons, List.length_nil]); omega) Tryd.underlying9 rfl rfl rfl)) ?_
   simp only [ptr, Act.put, zA, zB, zC]
   refine wpX_q (.string (sB (tx ++ (((((u ++ nm) ++ ([32, 105, 110, 32])) ++ dl) ++ ([46, 46])) ++ dh)))) rfl (by kernel_rfl) (fun v hW => rfl) ?_
   simp only [ptr, Act.put, zA, zB, zC]
   refine wpX_nil ?_
   go_upto_region 6 with fail
   refine wp_region_lit ?_
   refine zr (.string (sB ([32, 97, 110, 100, 32]))) V5 rfl ?_
   simp only [Act.put, zA, zB, zC]
   refine wpList_nil ?_
   go_upto_region 7 with fail
   refine wp_region_lit ?_
   refine zr (.int .i64 ((i + 1 : Nat) : Int)) V5 (xo_addI (i : Int) 1 ((i + 1 : Nat) : Int) (by omega) (by omega) (by omega) rfl rfl rfl) ?_
   simp only [Act.put, zA, zB, zC]
   refine zr (.int .i64 ((i + 1 : Nat) : Int)) V5 rfl ?_
   simp only [Act.put, zA, zB, zC]
   refine wpList_nil ?_
   have he : Qu.ftN (l.take (i + 1)) = tx ++ (u ++ nm ++ [32, 105, 110, 32] ++ dl ++ [46, 46] ++ dh) := by rw [Qu.ftN_take HX.out, HTX.out, Qu.condT, HU.out, Hnm.out, Hdl.out, Hdh.out]; rfl
   have C0_4 := zb C0_3 B3
   have C0_5 := zb C0_4 B4
   have hq7 := C0_5.out
   go_wp2_with fail
   go_roundw
   case rel => exact ⟨i + 1, by omega, by go_num, by rw [he], by rw [Qu.wdN, if_neg (by omega)] <;> rfl, hq7⟩
   case measure => simp [intOf]; omega
  ·have hci2 : ¬ ((i : Int) < (n : Int)) := by omega
   go_upto_region 3 with fail
   refine wp_region_lit ?_
   refine zr (.bool false) wo (xo_lssF .i64 (i : Int) (n : Int) (by omega) rfl rfl rfl) ?_
   simp only [Act.put, zA, zB, zC]
   refine wpList_nil ?_
   go_upto_region 8 with fail
   refine wp_region_lit ?_
   refine zr (.string (sB tx)) wo rfl ?_
   simp only [Act.put, zA, zB, zC]
   refine zr (.string (sB tx)) wo rfl ?_
   simp only [Act.put, zA, zB, zC]
   refine wpList_nil ?_
   have he : Qu.ftN l = tx := by rw [← HTX.out, List.take_of_length_le (by omega)]
   have hbf := B0.out
   go_wp2_with fail
   go_ret
   exact ⟨by first | rfl | (rw [he] <;> rfl), hbf⟩
end Go.Proofs.YtlicfidcfhbmpaaDoor

namespace Go.Proofs.YtlicfidcfhbmpaaDoor
set_option maxRecDepth 8000
theorem _root_.Qu.dig_sub (d : Nat) (hd : d < 10) : (Qu.dig d - 48).toNat = d := by
 have h : d = 0 ∨ d = 1 ∨ d = 2 ∨ d = 3 ∨ d = 4 ∨ d = 5 ∨ d = 6 ∨ d = 7 ∨ d = 8 ∨ d = 9 := by omega
 rcases h with rfl | rfl | rfl | rfl | rfl | rfl | rfl | rfl | rfl | rfl <;> rfl
theorem _root_.Qu.dig_dg (d : Nat) (hd : d < 10) : Qu.isDg (Qu.dig d) = true := by
 have h : d = 0 ∨ d = 1 ∨ d = 2 ∨ d = 3 ∨ d = 4 ∨ d = 5 ∨ d = 6 ∨ d = 7 ∨ d = 8 ∨ d = 9 := by omega
 rcases h with rfl | rfl | rfl | rfl | rfl | rfl | rfl | rfl | rfl | rfl <;> rfl
theorem _root_.Qu.numOf_snoc (l : List UInt8) (b : UInt8) : Qu.numOf (l ++ [b]) = min (10 * Qu.numOf l + (b - 48).toNat) 65537 := by
 unfold Qu.numOf
 rw [List.foldl_append]
 rfl
theorem _root_.Qu.numOf_decF : ∀ (f n : Nat), n < 10 ^ f → 1 ≤ f → n ≤ 65537 → Qu.numOf (Qu.decF f n) = n
 | 0, _, _, h, _ => by omega
 | f + 1, n, hn, _, h5 => by
  by_cases h : n < 10
  ·rw [Qu.decF_lt h]
   have := Qu.numOf_snoc [] (Qu.dig n)
   rw [List.nil_append] at this
   rw [this, Qu.dig_sub n h]
   show min (10 * 0 + n) 65537 = n
   omega
  ·rw [Qu.decF_ge h, Qu.numOf_snoc, Qu.dig_sub _ (Nat.mod_lt _ (by decide))]
   rw [Nat.pow_succ] at hn
   have hf : 1 ≤ f := by
    rcases f with _ | f
    ·simp at hn
     omega
    ·omega
   rw [Qu.numOf_decF f (n / 10) (by omega) hf (by omega)]
   omega
/-- a number is read back from its digits -/
theorem _root_.Qu.numOf_decN (n : Nat) (h : n ≤ 65537) : Qu.numOf (Qu.decN n) = n := Qu.numOf_decF 6 n (by omega) (by decide) h
theorem _root_.Qu.decF_dg : ∀ (f n : Nat), (Qu.decF f n).all Qu.isDg = true
 | 0, _ => rfl
 | f + 1, n => by
  by_cases h : n < 10
  ·rw [Qu.decF_lt h]
   simp [Qu.dig_dg n h]
  ·rw [Qu.decF_ge h, List.all_append, Qu.decF_dg f (n / 10)]
   simp [Qu.dig_dg _ (Nat.mod_lt n (by decide : 0 < 10))]
end Go.Proofs.YtlicfidcfhbmpaaDoor

namespace Go.Proofs.YtlicfidcfhbmpaaDoor
set_option maxRecDepth 8000
section
variable {s : List UInt8} {q : Nat}
theorem _root_.Qu.runE_drop {p : UInt8 → Bool} {l r : List UInt8} (hd : s.drop q = l ++ r) (hl : l.all p = true) (hr : ∀ b, r[0]? = some b → p b = false) : Qu.runE p s q = q + l.length := by
 unfold Qu.runE
 rw [hd]
 have h : (l ++ r).takeWhile p = l := by
  rw [List.takeWhile_append_of_pos (by simpa using hl)]
  cases r with
  | nil => simp
  | cons b r => rw [List.takeWhile_cons_of_neg (by rw [hr b rfl]; decide), List.append_nil]
 rw [h]
theorem _root_.Qu.get_drop {l r : List UInt8} (hd : s.drop q = l ++ r) : s[q + l.length]? = r[0]? := by
 rw [← List.getElem?_drop, hd, List.getElem?_append_right (Nat.le_refl _), Nat.sub_self]
theorem _root_.Qu.drop_drop' {l r : List UInt8} (hd : s.drop q = l ++ r) : s.drop (q + l.length) = r := by
 rw [← List.drop_drop, hd, List.drop_left]
theorem _root_.Qu.cut_drop {w r : List UInt8} (hd : s.drop q = w ++ r) : (s.take (q + w.length)).drop q = w := by
 rw [List.drop_take, hd, Nat.add_sub_cancel_left, List.take_left]
theorem _root_.Qu.lt_not_sp {b : UInt8} (h : Qu.isLt b = true) : Qu.isSp b = false := by
 unfold Qu.isLt at h
 unfold Qu.isSp
 simp at h ⊢
 omega
theorem _root_.Qu.dg_not_sp {b : UInt8} (h : Qu.isDg b = true) : Qu.isSp b = false := by
 unfold Qu.isDg at h
 unfold Qu.isSp
 simp at h ⊢
 omega
theorem _root_.Qu.dg_not_lt {b : UInt8} (h : Qu.isDg b = true) : Qu.isLt b = false := by
 unfold Qu.isDg at h
 unfold Qu.isLt
 simp at h ⊢
 omega
variable {sp w r : List UInt8}
/-- a word behind white space -/
theorem _root_.Qu.nxt_word_at (hd : s.drop q = sp ++ (w ++ r)) (hsp : sp.all Qu.isSp = true) (hw : w ≠ []) (hwl : w.all Qu.isLt = true) (hr : ∀ b, r[0]? = some b → Qu.isLt b = false) :
  Qu.nxt s q = ⟨⟨2, w⟩, q + sp.length, q + sp.length + w.length⟩ := by
 obtain ⟨b, w', rfl⟩ := List.exists_cons_of_ne_nil hw
 have hb : Qu.isLt b = true := by simp at hwl; exact hwl.1
 have h1 := Qu.runE_drop hd hsp (fun c hc => by simp at hc; rw [← hc]; exact Qu.lt_not_sp hb)
 have h2 := Qu.get_drop hd
 have h3 := Qu.drop_drop' hd
 have h4 := Qu.runE_drop h3 hwl hr
 rw [Qu.nxt_word h1 (b := b) (by rw [h2]; rfl) hb, h4, Qu.cut_drop h3]
/-- a number behind white space -/
theorem _root_.Qu.nxt_num_at (hd : s.drop q = sp ++ (w ++ r)) (hsp : sp.all Qu.isSp = true) (hw : w ≠ []) (hwl : w.all Qu.isDg = true) (hr : ∀ b, r[0]? = some b → Qu.isDg b = false) :
  Qu.nxt s q = ⟨⟨3, w⟩, q + sp.length, q + sp.length + w.length⟩ := by
 obtain ⟨b, w', rfl⟩ := List.exists_cons_of_ne_nil hw
 have hb : Qu.isDg b = true := by simp at hwl; exact hwl.1
 have h1 := Qu.runE_drop hd hsp (fun c hc => by simp at hc; rw [← hc]; exact Qu.dg_not_sp hb)
 have h2 := Qu.get_drop hd
 have h3 := Qu.drop_drop' hd
 have h4 := Qu.runE_drop h3 hwl hr
 rw [Qu.nxt_num h1 (b := b) (by rw [h2]; rfl) (Qu.dg_not_lt hb) hb, h4, Qu.cut_drop h3]
/-- the end behind white space -/
theorem _root_.Qu.nxt_end_at (hd : s.drop q = sp) (hsp : sp.all Qu.isSp = true) : Qu.nxt s q = ⟨⟨0, []⟩, q + sp.length, q + sp.length⟩ := by
 have hd2 : s.drop q = sp ++ [] := by rw [hd, List.append_nil]
 have h1 := Qu.runE_drop hd2 hsp (fun c hc => by simp at hc)
 have h2 := Qu.get_drop hd2
 rw [Qu.nxt_end h1 (by rw [h2]; rfl)]
/-- two dots behind white space -/
theorem _root_.Qu.nxt_dots_at (hd : s.drop q = sp ++ (46 :: 46 :: r)) (hsp : sp.all Qu.isSp = true) : Qu.nxt s q = ⟨⟨4, []⟩, q + sp.length, q + sp.length + 2⟩ := by
 have h1 := Qu.runE_drop hd hsp (fun c hc => by simp at hc; rw [← hc]; rfl)
 have h2 := Qu.get_drop hd
 have h3 := Qu.drop_drop' hd
 have h4 := Qu.cut_drop (w := [46, 46]) (r := r) h3
 have h5 : Qu.bgN s (q + sp.length) [46, 46] = true := by
  unfold Qu.bgN
  rw [h4]
  have hl := congrArg List.length h3
  simp at hl ⊢
  omega
 rw [Qu.nxt_dots h1 (b := 46) (by rw [h2]; rfl) rfl rfl h5]
end
end Go.Proofs.YtlicfidcfhbmpaaDoor

namespace Go.Proofs.YtlicfidcfhbmpaaDoor
set_option maxRecDepth 8000
theorem _root_.Qu.sp_not_lt {b : UInt8} (h : Qu.isSp b = true) : Qu.isLt b = false := by
 cases h2 : Qu.isLt b with
 | false => rfl
 | true => rw [Qu.lt_not_sp h2] at h; cases h
theorem _root_.Qu.sp_not_dg {b : UInt8} (h : Qu.isSp b = true) : Qu.isDg b = false := by
 cases h2 : Qu.isDg b with
 | false => rfl
 | true => rw [Qu.dg_not_sp h2] at h; cases h
/-- the first byte behind white space -/
theorem _root_.Qu.first_sp {sp t : List UInt8} {b : UInt8} (h : (sp ++ t)[0]? = some b) (hsp : sp.all Qu.isSp = true) : Qu.isSp b = true ∨ (sp = [] ∧ t[0]? = some b) := by
 cases sp with
 | nil => exact .inr ⟨rfl, h⟩
 | cons c sp =>
  simp at h hsp
  subst h
  exact .inl hsp.1
theorem _root_.Qu.decN_ne (n : Nat) : Qu.decN n ≠ [] := by
 unfold Qu.decN
 by_cases h : n < 10
 ·rw [Qu.decF_lt h]
  exact List.cons_ne_nil _ _
 ·rw [Qu.decF_ge h]
  simp
theorem _root_.Qu.findT_name (c : Nat) (hc : c < 4) : Qu.findT Qu.nameN ⟨2, Qu.nameN c⟩ 0 4 = some c := by
 have h4 : c = 0 ∨ c = 1 ∨ c = 2 ∨ c = 3 := by omega
 rcases h4 with rfl | rfl | rfl | rfl <;> rfl
theorem _root_.Qu.nameN_lt (c : Nat) : (Qu.nameN c).all Qu.isLt = true := by
 unfold Qu.nameN
 split <;> rfl
theorem _root_.Qu.nameN_ne (c : Nat) : Qu.nameN c ≠ [] := by
 unfold Qu.nameN
 split <;> exact List.cons_ne_nil _ _
theorem _root_.Qu.numN_at {s : List UInt8} {lo hi v p j : Nat} (h0 : v ≤ 65537) (h1 : lo ≤ v) (h2 : v ≤ hi) : Qu.numN s lo hi ⟨⟨3, Qu.decN v⟩, j, p⟩ = ⟨v, 0, Qu.nxt s p⟩ := by
 unfold Qu.numN
 simp only [Qu.numOf_decN v h0, if_true]
 rw [if_neg (by omega)]
 rfl
theorem _root_.Qu.cond_at {s : List UInt8} {q : Nat} {sp0 sp1 sp2 sp3 sp4 r : List UInt8} {c lo hi : Nat}
  (hd : s.drop q = sp0 ++ (Qu.nameN c ++ (sp1 ++ ([105, 110] ++ (sp2 ++ (Qu.decN lo ++ (sp3 ++ (46 :: 46 :: (sp4 ++ (Qu.decN hi ++ r))))))))))
  (s0 : sp0.all Qu.isSp = true) (s1 : sp1.all Qu.isSp = true) (s2 : sp2.all Qu.isSp = true) (s3 : sp3.all Qu.isSp = true) (s4 : sp4.all Qu.isSp = true) (n1 : sp1 ≠ []) (n2 : sp2 ≠ [])
  (hr : ∀ b, r[0]? = some b → Qu.isDg b = false) (hc : c < 4) (hlo : lo ≤ hi) (hhi : hi ≤ Qu.maxN c) : ∃ q', s.drop q' = r ∧ Qu.condN s (Qu.nxt s q) = ⟨⟨c, lo, hi⟩, 0, Qu.nxt s q'⟩ := by
 have hm : Qu.maxN c ≤ 255 := by unfold Qu.maxN; split <;> decide
 have f1 : ∀ t : List UInt8, ∀ b, (sp1 ++ t)[0]? = some b → Qu.isLt b = false := fun t b hb => by
  rcases Qu.first_sp hb s1 with h | ⟨h, _⟩
  ·exact Qu.sp_not_lt h
  ·exact absurd h n1
 have f2 : ∀ t : List UInt8, ∀ b, (sp2 ++ t)[0]? = some b → Qu.isLt b = false := fun t b hb => by
  rcases Qu.first_sp hb s2 with h | ⟨h, _⟩
  ·exact Qu.sp_not_lt h
  ·exact absurd h n2
 have f3 : ∀ t : List UInt8, ∀ b, (sp3 ++ (46 :: t))[0]? = some b → Qu.isDg b = false := fun t b hb => by
  rcases Qu.first_sp hb s3 with h | ⟨_, h⟩
  ·exact Qu.sp_not_dg h
  ·simp at h
   subst h
   rfl
 have e1 := Qu.nxt_word_at hd s0 (Qu.nameN_ne c) (Qu.nameN_lt c) (f1 _)
 have d1 := Qu.drop_drop' (Qu.drop_drop' hd)
 have e2 := Qu.nxt_word_at d1 s1 (List.cons_ne_nil _ _) rfl (f2 _)
 have d2 := Qu.drop_drop' (Qu.drop_drop' d1)
 have e3 := Qu.nxt_num_at d2 s2 (Qu.decN_ne lo) (Qu.decF_dg 6 lo) (f3 _)
 have d3 := Qu.drop_drop' (Qu.drop_drop' d2)
 have e4 := Qu.nxt_dots_at d3 s3
 have d4 := (show List.drop (_ + 2) s = sp4 ++ (Qu.decN hi ++ r) from Qu.drop_drop' (l := [46, 46]) (Qu.drop_drop' d3))
 have e5 := Qu.nxt_num_at d4 s4 (Qu.decN_ne hi) (Qu.decF_dg 6 hi) hr
 have d5 := Qu.drop_drop' (Qu.drop_drop' d4)
 refine ⟨_, d5, ?_⟩
 have c1 : Qu.colN s (Qu.nxt s q) = ⟨c, 0, Qu.nxt s (q + sp0.length + (Qu.nameN c).length)⟩ := by
  unfold Qu.colN Qu.pickT
  rw [e1]
  simp only [Qu.findT_name c hc]
  rfl
 unfold Qu.condN
 simp only [c1, if_true]
 rw [e2, if_neg (show ¬ (⟨2, [105, 110]⟩ : Qu.Tk) = ⟨5, []⟩ by decide)]
 unfold Qu.expN Qu.accS Qu.adv
 simp only [if_true]
 rw [e3]
 unfold Qu.rangeN
 simp only [Qu.numN_at (show lo ≤ 65537 by omega) (Nat.zero_le _) (show lo ≤ Qu.maxN c by omega), if_true]
 rw [e4]
 unfold Qu.expN Qu.accS Qu.adv
 simp only [if_true]
 rw [e5]
 simp only [Qu.numN_at (show hi ≤ 65537 by omega) hlo hhi, if_true]
end Go.Proofs.YtlicfidcfhbmpaaDoor

namespace Go.Proofs.YtlicfidcfhbmpaaDoor
set_option maxRecDepth 8000
def _root_.Qu.condW (a b d w : List UInt8) (c : Qu.Cd) : List UInt8 := a ++ (w ++ (a ++ (Qu.nameN c.col ++ (a ++ ([105, 110] ++ (a ++ (Qu.decN c.lo ++ (b ++ (46 :: 46 :: (d ++ Qu.decN c.hi))))))))))
def _root_.Qu.ftW (a b d : List UInt8) : List UInt8 → List Qu.Cd → List UInt8
 | _, [] => []
 | w, c :: l => Qu.condW a b d w c ++ Qu.ftW a b d [97, 110, 100] l
section
variable {s a b d r : List UInt8} (ha : a.all Qu.isSp = true) (hb : b.all Qu.isSp = true) (hd : d.all Qu.isSp = true) (hn : a ≠ [])
 (hr : ∀ x, r[0]? = some x → Qu.isDg x = false) (hw1 : ∀ q, s.drop q = r → ¬ (Qu.nxt s q).tok = ⟨2, Qu.whereN⟩) (hw2 : ∀ q, s.drop q = r → ¬ (Qu.nxt s q).tok = ⟨2, [97, 110, 100]⟩)
include ha hb hd hn hr hw1 hw2
theorem _root_.Qu.filter_at : ∀ (l : List Qu.Cd) (n : Nat) (w : List UInt8) (acc : List Qu.Cd) (q : Nat), l.length ≤ n → (w = Qu.whereN ∨ w = [97, 110, 100]) → (∀ e ∈ l, e.col < 4 ∧ e.lo ≤ e.hi ∧ e.hi ≤ Qu.maxN e.col) → s.drop q = Qu.ftW a b d w l ++ r →
  ∃ q', s.drop q' = r ∧ Qu.filterN s n w acc (Qu.nxt s q) = ⟨acc ++ l, 0, Qu.nxt s q'⟩
 | [], n, w, acc, q, _, hw, _, hq => by
  refine ⟨q, hq, ?_⟩
  rw [List.append_nil, Qu.filterN_no]
  rcases hw with rfl | rfl
  ·exact hw1 q hq
  ·exact hw2 q hq
 | c :: l, n, w, acc, q, hl, hw, hok, hq => by
  obtain ⟨h1, h2, h3⟩ := hok c (List.mem_cons_self ..)
  have hwl : w.all Qu.isLt = true := by rcases hw with rfl | rfl <;> rfl
  have hwn : w ≠ [] := by rcases hw with rfl | rfl <;> exact List.cons_ne_nil _ _
  have hf : ∀ t : List UInt8, ∀ x, (a ++ t)[0]? = some x → Qu.isLt x = false := fun t x hx => by
   rcases Qu.first_sp hx ha with h | ⟨h, _⟩
   ·exact Qu.sp_not_lt h
   ·exact absurd h hn
  simp only [Qu.ftW, Qu.condW, List.append_assoc, List.cons_append] at hq
  have e1 := Qu.nxt_word_at hq ha hwn hwl (hf _)
  have d1 := Qu.drop_drop' (Qu.drop_drop' hq)
  have hr2 : ∀ x, (Qu.ftW a b d [97, 110, 100] l ++ r)[0]? = some x → Qu.isDg x = false := fun x hx => by
   cases l with
   | nil => exact hr x hx
   | cons c2 l2 =>
    simp only [Qu.ftW, Qu.condW, List.append_assoc] at hx
    rcases Qu.first_sp hx ha with h | ⟨h, _⟩
    ·exact Qu.sp_not_dg h
    ·exact absurd h hn
  obtain ⟨q2, d2, e2⟩ := Qu.cond_at d1 ha ha ha hb hd hn hn hr2 h1 h2 h3
  obtain ⟨q3, d3, e3⟩ := filter_at l (n - 1) [97, 110, 100] (acc ++ [c]) q2 (by simp at hl; omega) (.inr rfl) (fun e he => hok e (List.mem_cons_of_mem _ he)) d2
  refine ⟨q3, d3, ?_⟩
  have ht : (Qu.nxt s q).tok = ⟨2, w⟩ := by rw [e1]
  have hp : Qu.adv s (Qu.nxt s q) = Qu.nxt s (q + a.length + w.length) := by unfold Qu.adv; rw [e1]
  rw [Qu.filterN_go (c := ⟨⟨c.col, c.lo, c.hi⟩, 0, Qu.nxt s q2⟩) (by simp at hl; omega) ht (by rw [hp, e2]) rfl]
  show Qu.filterN s (n - 1) [97, 110, 100] (acc ++ [c]) (Qu.nxt s q2) = _
  rw [e3, List.append_assoc]
  rfl
end
end Go.Proofs.YtlicfidcfhbmpaaDoor

namespace Go.Proofs.YtlicfidcfhbmpaaDoor
set_option maxRecDepth 8000
theorem _root_.Qu.sp_first_dg {e : List UInt8} (he : e.all Qu.isSp = true) : ∀ x, e[0]? = some x → Qu.isDg x = false := fun x hx => by
 cases e with
 | nil => simp at hx
 | cons y e =>
  simp at hx he
  subst hx
  exact Qu.sp_not_dg he.1
theorem _root_.Qu.sp_first_lt {e : List UInt8} (he : e.all Qu.isSp = true) : ∀ x, e[0]? = some x → Qu.isLt x = false := fun x hx => by
 cases e with
 | nil => simp at hx
 | cons y e =>
  simp at hx he
  subst hx
  exact Qu.sp_not_lt he.1
def OkC (e : Qu.Cd) : Prop := e.col < 4 ∧ e.lo ≤ e.hi ∧ e.hi ≤ Qu.maxN e.col
section
variable {s a b d e : List UInt8} (ha : a.all Qu.isSp = true) (hb : b.all Qu.isSp = true) (hd : d.all Qu.isSp = true) (hn : a ≠ []) (he : e.all Qu.isSp = true)
include ha hb hd hn he
theorem _root_.Qu.filter_end {l : List Qu.Cd} {q : Nat} (hl : l.length ≤ 3) (hok : ∀ c ∈ l, OkC c) (hq : s.drop q = Qu.ftW a b d Qu.whereN l ++ e) : ∃ q', s.drop q' = e ∧ Qu.filterN s 3 Qu.whereN [] (Qu.nxt s q) = ⟨l, 0, Qu.nxt s q'⟩ :=
 Qu.filter_at ha hb hd hn (Qu.sp_first_dg he) (fun q h => by rw [Qu.nxt_end_at h he]; exact (by decide : ¬ (⟨0, []⟩ : Qu.Tk) = ⟨2, Qu.whereN⟩)) (fun q h => by rw [Qu.nxt_end_at h he]; exact (by decide : ¬ (⟨0, []⟩ : Qu.Tk) = ⟨2, [97, 110, 100]⟩)) l 3 Qu.whereN [] q hl (.inl rfl) hok hq
/-- one filter -/
theorem _root_.Qu.filters_one {l : List Qu.Cd} {q : Nat} (hl : l.length ≤ 3) (hok : ∀ c ∈ l, OkC c) (hq : s.drop q = Qu.ftW a b d Qu.whereN l ++ e) : ∃ q', s.drop q' = e ∧ Qu.filtersN s 1 [] (Qu.nxt s q) = ⟨[l], 0, Qu.nxt s q'⟩ := by
 obtain ⟨q1, d1, e1⟩ := Qu.filter_end ha hb hd hn he hl hok hq
 exact ⟨q1, d1, by rw [Qu.filtersN_go0 (by decide) rfl e1 rfl]; rfl⟩
/-- two filters -/
theorem _root_.Qu.filters_two {l m : List Qu.Cd} {q : Nat} (hl : l.length ≤ 3) (hm : m.length ≤ 3) (hok : ∀ c ∈ l, OkC c) (hom : ∀ c ∈ m, OkC c) (hq : s.drop q = Qu.ftW a b d Qu.whereN l ++ (a ++ (Qu.withN ++ (Qu.ftW a b d Qu.whereN m ++ e)))) :
  ∃ q', s.drop q' = e ∧ Qu.filtersN s 2 [] (Qu.nxt s q) = ⟨[l, m], 0, Qu.nxt s q'⟩ := by
 have hf : ∀ x, (Qu.ftW a b d Qu.whereN m ++ e)[0]? = some x → Qu.isLt x = false := fun x hx => by
  cases m with
  | nil => exact Qu.sp_first_lt he x hx
  | cons c2 l2 =>
   simp only [Qu.ftW, Qu.condW, List.append_assoc] at hx
   rcases Qu.first_sp hx ha with h | ⟨h, _⟩
   ·exact Qu.sp_not_lt h
   ·exact absurd h hn
 have hw : ∀ q, s.drop q = a ++ (Qu.withN ++ (Qu.ftW a b d Qu.whereN m ++ e)) → Qu.nxt s q = ⟨⟨2, Qu.withN⟩, q + a.length, q + a.length + Qu.withN.length⟩ := fun q h => Qu.nxt_word_at h ha (List.cons_ne_nil _ _) rfl hf
 have hdg : ∀ x, (a ++ (Qu.withN ++ (Qu.ftW a b d Qu.whereN m ++ e)))[0]? = some x → Qu.isDg x = false := fun x hx => by
  rcases Qu.first_sp hx ha with h | ⟨h, _⟩
  ·exact Qu.sp_not_dg h
  ·exact absurd h hn
 obtain ⟨q1, d1, e1⟩ := Qu.filter_at ha hb hd hn hdg (fun q h => by rw [hw q h]; exact (by decide : ¬ (⟨2, Qu.withN⟩ : Qu.Tk) = ⟨2, Qu.whereN⟩)) (fun q h => by rw [hw q h]; exact (by decide : ¬ (⟨2, Qu.withN⟩ : Qu.Tk) = ⟨2, [97, 110, 100]⟩)) l 3 Qu.whereN [] q hl (.inl rfl) hok hq
 have d2 := Qu.drop_drop' (Qu.drop_drop' d1)
 obtain ⟨q3, d3, e3⟩ := Qu.filter_end ha hb hd hn he hm hom d2
 refine ⟨q3, d3, ?_⟩
 have hp : Qu.adv s (Qu.nxt s q1) = Qu.nxt s (q1 + a.length + Qu.withN.length) := by unfold Qu.adv; rw [hw q1 d1]
 rw [Qu.filtersN_go0 (by decide) rfl e1 rfl]
 show Qu.filtersN s 1 [l] (Qu.nxt s q1) = _
 rw [Qu.filtersN_go1 (c := ⟨m, 0, Qu.nxt s q3⟩) (by decide) (by simp) (by rw [hw q1 d1]) (by rw [hp, e3]) rfl]
 rfl
end
end Go.Proofs.YtlicfidcfhbmpaaDoor

namespace Go.Proofs.YtlicfidcfhbmpaaDoor
set_option maxRecDepth 8000
def _root_.Qu.fsW (a b d : List UInt8) : List (List Qu.Cd) → List UInt8
 | [] => []
 | [l] => Qu.ftW a b d Qu.whereN l
 | l :: m :: _ => Qu.ftW a b d Qu.whereN l ++ (a ++ (Qu.withN ++ Qu.ftW a b d Qu.whereN m))
def _root_.Qu.qyW (a b d : List UInt8) (q : Qu.Qy) : List UInt8 := Qu.kwN q.kind ++ ((if Qu.hasC q.kind = true then a ++ Qu.nameN q.col else []) ++ ((if 0 < Qu.maxK q.kind then a ++ Qu.decN q.k else []) ++ Qu.fsW a b d q.fs))
/-- a valid query of numbers -/
structure OkQ (q : Qu.Qy) : Prop where
 k1 : 1 ≤ q.kind
 k7 : q.kind ≤ 7
 c1 : Qu.hasC q.kind = true → q.col < 4
 c0 : Qu.hasC q.kind = false → q.col = 0
 m1 : 0 < Qu.maxK q.kind → 1 ≤ q.k ∧ q.k ≤ Qu.maxK q.kind
 m0 : ¬ 0 < Qu.maxK q.kind → q.k = 0
 nf : q.fs.length = Qu.numF q.kind
 ok : ∀ l ∈ q.fs, l.length ≤ 3 ∧ ∀ c ∈ l, OkC c
theorem _root_.Qu.findT_kw (k : Nat) (h1 : 1 ≤ k) (h7 : k ≤ 7) : Qu.findT Qu.kwN ⟨2, Qu.kwN k⟩ 1 7 = some k := by
 have h4 : k = 1 ∨ k = 2 ∨ k = 3 ∨ k = 4 ∨ k = 5 ∨ k = 6 ∨ k = 7 := by omega
 rcases h4 with rfl | rfl | rfl | rfl | rfl | rfl | rfl <;> rfl
theorem _root_.Qu.kwN_lt (c : Nat) : (Qu.kwN c).all Qu.isLt = true := by
 unfold Qu.kwN
 split <;> rfl
theorem _root_.Qu.kwN_ne (c : Nat) : Qu.kwN c ≠ [] := by
 unfold Qu.kwN
 split <;> exact List.cons_ne_nil _ _
theorem _root_.Qu.maxK_le' (k : Nat) : Qu.maxK k ≤ 65536 := by
 unfold Qu.maxK
 split <;> decide
/-- what begins with white space, or is empty -/
def Fst (r : List UInt8) : Prop := ∀ x, r[0]? = some x → Qu.isSp x = true
theorem fst_sp {e : List UInt8} (he : e.all Qu.isSp = true) : Fst e := fun x hx => by
 cases e with
 | nil => simp at hx
 | cons y e =>
  simp at hx he
  subst hx
  exact he.1
theorem fst_app {a t : List UInt8} (ha : a.all Qu.isSp = true) (hn : a ≠ []) : Fst (a ++ t) := fun x hx => by
 rcases Qu.first_sp hx ha with h | ⟨h, _⟩
 ·exact h
 ·exact absurd h hn
section
variable {s a b d e s0 : List UInt8} (ha : a.all Qu.isSp = true) (hb : b.all Qu.isSp = true) (hd : d.all Qu.isSp = true) (hn : a ≠ []) (he : e.all Qu.isSp = true)
include ha hn he
theorem fst_ft (w : List UInt8) (l : List Qu.Cd) {t : List UInt8} (ht : Fst t) : Fst (Qu.ftW a b d w l ++ t) := by
 cases l with
 | nil => exact ht
 | cons c l =>
  simp only [Qu.ftW, Qu.condW, List.append_assoc]
  exact fst_app ha hn
theorem fst_fs (fs : List (List Qu.Cd)) : Fst (Qu.fsW a b d fs ++ e) := by
 rcases fs with _ | ⟨l, _ | ⟨m, r⟩⟩
 ·exact fst_sp he
 ·exact fst_ft ha hn he _ _ (fst_sp he)
 ·simp only [Qu.fsW, List.append_assoc]
  exact fst_ft ha hn he _ _ (fst_app ha hn)
include hb hd
theorem _root_.Qu.parse_at {q : Qu.Qy} (hq : OkQ q) (hs0 : s0.all Qu.isSp = true) (hs : s = s0 ++ (Qu.qyW a b d q ++ e)) (hl : s.length ≤ 400) : Qu.parseN s = (q, 0, 0) := by
 obtain ⟨kind, col, k, fs⟩ := q
 obtain ⟨k1, k7, c1, c0, m1, m0, nf, ok⟩ := hq
 replace k1 : 1 ≤ kind := k1
 replace k7 : kind ≤ 7 := k7
 replace c1 : Qu.hasC kind = true → col < 4 := c1
 replace c0 : Qu.hasC kind = false → col = 0 := c0
 replace m1 : 0 < Qu.maxK kind → 1 ≤ k ∧ k ≤ Qu.maxK kind := m1
 replace m0 : ¬ 0 < Qu.maxK kind → k = 0 := m0
 replace nf : fs.length = Qu.numF kind := nf
 have hmk := Qu.maxK_le' kind
 have F3 : Fst (Qu.fsW a b d fs ++ e) := fst_fs ha hn he fs
 have F2 : Fst ((if 0 < Qu.maxK kind then a ++ Qu.decN k else []) ++ (Qu.fsW a b d fs ++ e)) := by
  split
  ·rw [List.append_assoc]; exact fst_app ha hn
  ·exact F3
 have F1 : Fst ((if Qu.hasC kind = true then a ++ Qu.nameN col else []) ++ ((if 0 < Qu.maxK kind then a ++ Qu.decN k else []) ++ (Qu.fsW a b d fs ++ e))) := by
  split
  ·rw [List.append_assoc]; exact fst_app ha hn
  ·exact F2
 have d0 : s.drop 0 = s0 ++ (Qu.kwN kind ++ ((if Qu.hasC kind = true then a ++ Qu.nameN col else []) ++ ((if 0 < Qu.maxK kind then a ++ Qu.decN k else []) ++ (Qu.fsW a b d fs ++ e)))) := by
  rw [List.drop_zero, hs]
  simp only [Qu.qyW, List.append_assoc]
 have e1 := Qu.nxt_word_at d0 hs0 (Qu.kwN_ne kind) (Qu.kwN_lt kind) (fun x hx => Qu.sp_not_lt (F1 x hx))
 have d1 := Qu.drop_drop' (Qu.drop_drop' d0)
 have g1 : Qu.kindN s (Qu.nxt s 0) = ⟨kind, 0, Qu.nxt s (0 + s0.length + (Qu.kwN kind).length)⟩ := by
  unfold Qu.kindN Qu.pickT
  rw [e1]
  simp only [Qu.findT_kw kind k1 k7]
  rfl
 generalize 0 + s0.length + (Qu.kwN kind).length = p1 at d1 g1
 obtain ⟨p2, d2, g2⟩ : ∃ p2, s.drop p2 = (if 0 < Qu.maxK kind then a ++ Qu.decN k else []) ++ (Qu.fsW a b d fs ++ e) ∧ (if Qu.hasC kind = true then Qu.colN s (Qu.nxt s p1) else ⟨0, 0, Qu.nxt s p1⟩) = ⟨col, 0, Qu.nxt s p2⟩ := by
  by_cases hc : Qu.hasC kind = true
  ·rw [if_pos hc, List.append_assoc] at d1
   have e2 := Qu.nxt_word_at d1 ha (Qu.nameN_ne col) (Qu.nameN_lt col) (fun x hx => Qu.sp_not_lt (F2 x hx))
   refine ⟨_, Qu.drop_drop' (Qu.drop_drop' d1), ?_⟩
   rw [if_pos hc]
   unfold Qu.colN Qu.pickT
   rw [e2]
   simp only [Qu.findT_name col (c1 hc)]
   rfl
  ·rw [if_neg hc, List.nil_append] at d1
   exact ⟨p1, d1, by rw [if_neg hc, c0 (by simpa using hc)]⟩
 obtain ⟨p3, d3, g3⟩ : ∃ p3, s.drop p3 = Qu.fsW a b d fs ++ e ∧ (if 0 < Qu.maxK kind then Qu.numN s 1 (Qu.maxK kind) (Qu.nxt s p2) else ⟨0, 0, Qu.nxt s p2⟩) = ⟨k, 0, Qu.nxt s p3⟩ := by
  by_cases hm : 0 < Qu.maxK kind
  ·rw [if_pos hm, List.append_assoc] at d2
   have e2 := Qu.nxt_num_at d2 ha (Qu.decN_ne k) (Qu.decF_dg 6 k) (fun x hx => Qu.sp_not_dg (F3 x hx))
   refine ⟨_, Qu.drop_drop' (Qu.drop_drop' d2), ?_⟩
   rw [if_pos hm, e2, Qu.numN_at (by have := (m1 hm).2; omega) (m1 hm).1 (m1 hm).2]
  ·rw [if_neg hm, List.nil_append] at d2
   exact ⟨p2, d2, by rw [if_neg hm, m0 hm]⟩
 obtain ⟨p4, d4, g4⟩ : ∃ p4, s.drop p4 = e ∧ Qu.filtersN s (Qu.numF kind) [] (Qu.nxt s p3) = ⟨fs, 0, Qu.nxt s p4⟩ := by
  have hn2 : Qu.numF kind = 1 ∨ Qu.numF kind = 2 := by unfold Qu.numF; split <;> simp
  rcases hn2 with h | h
  ·rw [h] at nf ⊢
   obtain ⟨l, rfl⟩ := List.length_eq_one_iff.1 nf
   have o1 := ok l (List.mem_cons_self ..)
   exact Qu.filters_one ha hb hd hn he o1.1 o1.2 d3
  ·rw [h] at nf ⊢
   obtain ⟨l, m, rfl⟩ : ∃ l m, fs = [l, m] := by
    match fs, nf with
    | [l, m], _ => exact ⟨l, m, rfl⟩
   have o1 := ok l (List.mem_cons_self ..)
   have o2 := ok m (List.mem_cons_of_mem _ (List.mem_cons_self ..))
   simp only [Qu.fsW, List.append_assoc] at d3
   exact Qu.filters_two ha hb hd hn he o1.1 o2.1 o1.2 o2.2 d3
 have e5 := Qu.nxt_end_at d4 he
 have hq : Qu.queryN s (Qu.nxt s 0) = ⟨⟨kind, col, k, fs⟩, 0, Qu.adv s (Qu.nxt s p4)⟩ := by
  have ht : (Qu.nxt s p4).tok = ⟨0, []⟩ := by rw [e5]
  simp only [Qu.queryN, g1, if_true, g2, g3, g4, Qu.expN, Qu.accS, if_pos ht]
 unfold Qu.parseN
 rw [if_neg (by omega), hq]
 rfl
end
end Go.Proofs.YtlicfidcfhbmpaaDoor

