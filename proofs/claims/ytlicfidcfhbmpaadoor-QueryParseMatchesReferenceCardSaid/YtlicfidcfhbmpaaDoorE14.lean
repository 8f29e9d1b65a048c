/- Several texts in one: Yq, Yaf, Yag, Yai, Yaj. -/
import Derived.Test.YtlicfidcfhbmpaaDoorE13
set_option linter.unusedVariables false
set_option linter.unusedSimpArgs false
set_option linter.unusedSectionVars false
namespace Go.Proofs.YtlicfidcfhbmpaaDoor
set_option maxRecDepth 8000
open Go.RowKit Go.Proofs.YtlicfidcfhbmpaaDoor.K
attribute [local irreducible] wpList wpQuiet
def _root_.Qu.dig (d : Nat) : UInt8 := UInt8.ofNat (48 + d)
def _root_.Qu.decF : Nat → Nat → List UInt8
 | 0, _ => []
 | f + 1, n => if n < 10 then [Qu.dig n] else Qu.decF f (n / 10) ++ [Qu.dig (n % 10)]
def _root_.Qu.decN (n : Nat) : List UInt8 := Qu.decF 6 n
theorem _root_.Qu.decF_lt {f n : Nat} (h : n < 10) : Qu.decF (f + 1) n = [Qu.dig n] := by
 show (if n < 10 then _ else _) = _
 rw [if_pos h]
theorem _root_.Qu.decF_ge {f n : Nat} (h : ¬ n < 10) : Qu.decF (f + 1) n = Qu.decF f (n / 10) ++ [Qu.dig (n % 10)] := by
 show (if n < 10 then _ else _) = _
 rw [if_neg h]
theorem _root_.Qu.decF_le : ∀ (f n : Nat), (Qu.decF f n).length ≤ f
 | 0, _ => Nat.le_refl _
 | f + 1, n => by
  unfold Qu.decF
  split
  ·exact Nat.succ_le_succ (Nat.zero_le _)
  ·rw [List.length_append]
   exact Nat.succ_le_succ (Qu.decF_le f _)
def _root_.Qu.inT : List UInt8 := [32, 105, 110, 32]
def _root_.Qu.dotT : List UInt8 := [46, 46]
def _root_.Qu.whereT : List UInt8 := [32, 119, 104, 101, 114, 101, 32]
def _root_.Qu.andT : List UInt8 := [32, 97, 110, 100, 32]
def _root_.Qu.condT (w : List UInt8) (c : Qu.Cd) : List UInt8 := w ++ Qu.nameN c.col ++ Qu.inT ++ Qu.decN c.lo ++ Qu.dotT ++ Qu.decN c.hi
def _root_.Qu.ftG (w : List UInt8) : List Qu.Cd → List UInt8
 | [] => []
 | c :: l => Qu.condT w c ++ Qu.ftG Qu.andT l
def _root_.Qu.ftN (l : List Qu.Cd) : List UInt8 := Qu.ftG Qu.whereT l
def _root_.Qu.wdN (i : Nat) : List UInt8 := if i = 0 then Qu.whereT else Qu.andT
theorem _root_.Qu.ftG_snoc (w : List UInt8) (c : Qu.Cd) : ∀ l, Qu.ftG w (l ++ [c]) = Qu.ftG w l ++ Qu.condT (if l.length = 0 then w else Qu.andT) c
 | [] => by simp [Qu.ftG]
 | a :: l => by
  show Qu.condT w a ++ Qu.ftG Qu.andT (l ++ [c]) = Qu.condT w a ++ Qu.ftG Qu.andT l ++ _
  rw [Qu.ftG_snoc Qu.andT c l, List.append_assoc]
  simp
theorem _root_.Qu.ftN_take {l : List Qu.Cd} {i : Nat} {c : Qu.Cd} (h : l[i]? = some c) : Qu.ftN (l.take (i + 1)) = Qu.ftN (l.take i) ++ Qu.condT (Qu.wdN i) c := by
 have hi := (List.getElem?_eq_some_iff.1 h).1
 rw [List.take_add_one, h]
 show Qu.ftG _ (_ ++ [c]) = _
 rw [Qu.ftG_snoc, List.length_take, Nat.min_eq_left (by omega)]
 rfl
theorem _root_.Qu.nameN_le (k : Nat) : (Qu.nameN k).length ≤ 5 := by
 unfold Qu.nameN
 split <;> decide
theorem _root_.Qu.condT_le {w : List UInt8} (hw : w.length ≤ 7) (c : Qu.Cd) : (Qu.condT w c).length ≤ 40 := by
 have h1 := Qu.nameN_le c.col
 have h2 := Qu.decF_le 6 c.lo
 have h3 := Qu.decF_le 6 c.hi
 simp only [Qu.condT, Qu.inT, Qu.dotT, Qu.decN, List.length_append, List.length_cons, List.length_nil]
 omega
theorem _root_.Qu.ftG_le : ∀ {w : List UInt8}, w.length ≤ 7 → ∀ l, (Qu.ftG w l).length ≤ 40 * l.length
 | _, _, [] => Nat.zero_le _
 | w, hw, c :: l => by
  have h1 := Qu.condT_le hw c
  have h2 := Qu.ftG_le (w := Qu.andT) (by decide) l
  simp only [Qu.ftG, List.length_append, List.length_cons]
  omega
theorem _root_.Qu.wdN_le (i : Nat) : (Qu.wdN i).length ≤ 7 := by
 unfold Qu.wdN
 split <;> decide
theorem xs_str1 {P : Program} {ev : Operand → Value} {o : Oper} {w : World} {x : Operand} {src dst e : TypeId} {A : Option Addr} {n c m : Nat} (h : Sg byC 1 w A n c [m]) (hn : 0 < n) (hs : P.underlying src = some (.slice e)) (he : P.underlying e = some (.int .u8)) (hd : P.underlying dst = some .string) (ho : o.op = .convert src dst x) (hx : ev x = .slice A n c) :
  (execOp ev o).run P w = .ok (.value (.string (sB [UInt8.ofNat m]))) w := by
 rw [xg_str h hn hs he hd ho hx]
 simp [strB, strOfNums, sB]
set_option maxRecDepth 100000 in
set_option maxHeartbeats 16000000 in
theorem decimal_any (f : Nat) : f ≤ 6 → 1 ≤ f → ∀ (n : Nat), n < 10 ^ f → ∀ (w : World), Calls Tryd.prog 37 #[.int .i64 (n : Int)] w fun e w' => e = .returned (.string (sB (Qu.decF f n))) ∧ Below w.heap.size w w' := by
 induction f with
 | zero => intro _ h; omega
 | succ f ih =>
  intro hf _ n hn w
  have hn7 : n < 1000000 := Nat.lt_of_lt_of_le hn (Nat.pow_le_pow_right (by decide) hf)
  rw [Nat.pow_succ] at hn
  have hle := Qu.decF_le f (n / 10)
  go_enter Tryd.func37, Tryd.ntmps37
  go_upto_region 1 with fail
  obtain ⟨d, hd⟩ : ∃ d, n % 10 = d := ⟨_, rfl⟩
  obtain ⟨m, hm⟩ : ∃ m, 48 + d = m := ⟨_, rfl⟩
  refine wp_region_lit ?_
  refine zr (.int .i64 (n : Int)) w rfl ?_
  simp only [Act.put, zA]
  refine zr (.int .i64 (d : Int)) w (xo_remN .i64 n 10 d (by omega) hd rfl rfl rfl) ?_
  simp only [Act.put, zA]
  refine zr (.int .u8 (d : Int)) w (xo_cvt .i64 .u8 (d : Int) (d : Int) (by rw [IntKind.wrap_u8]; omega) Tryd.underlying5 Tryd.underlying3 rfl rfl) ?_
  simp only [Act.put, zA]
  refine zr (.int .u8 (m : Int)) w (xo_add .u8 48 (d : Int) (m : Int) (by rw [IntKind.wrap_u8]; omega) rfl rfl rfl) ?_
  simp only [Act.put, zA]
  refine wpList_mk (by kernel_rfl) ([m].flatMap byC).toArray 5 1 1 (xg_lit (E := byC) (bytes := 1) (.int .u8 0) [.tmp 7] [m] 1 Tryd.underlying87 (by kernel_rfl) rfl (by decide) (by decide) rfl rfl) ?_
  intro g8 V1 hge h0 hb
  have Ge0 : Hid (w.heap.size ≤ g8) := zh hge
  have B0 := zh hb
  have Fv1_8 : Hid (RowG byC V1 g8 5 ([m])) := zh (h0)
  have Lt2 : Hid (g8 < V1.heap.size) := zh (xp_lt Fv1_8.out)
  clear hge h0 hb
  simp only [ptr, Act.put, zA]
  refine zr (.string (sB ([UInt8.ofNat m]))) V1 (xs_str1 (RowG.sg (n := 1) (c := 1) Fv1_8.out (show ([m]).length = 1 from rfl) (Nat.le_refl _) (by omega)) (by decide) Tryd.underlying87 Tryd.underlying5 Tryd.underlying9 rfl rfl) ?_
  simp only [Act.put, zA]
  refine zr (.string (sB ([UInt8.ofNat m]))) V1 rfl ?_
  simp only [Act.put, zA]
  refine wpList_nil ?_
  by_cases h10 : n < 10
  ·have hci3 : ((n : Int) < 10) := by omega
   go_upto_region 2 with fail
   refine wp_region_lit ?_
   refine zr (.int .i64 (n : Int)) V1 rfl ?_
   simp only [Act.put, zA]
   refine zr (.bool true) V1 (xo_lssT .i64 (n : Int) 10 (by omega) rfl rfl rfl) ?_
   simp only [Act.put, zA]
   refine wpList_nil ?_
   go_upto_region 3 with fail
   refine wp_region_lit ?_
   refine zr (.string (sB ([UInt8.ofNat m]))) V1 rfl ?_
   simp only [Act.put, zA]
   refine zr (.string (sB ([UInt8.ofNat m]))) V1 rfl ?_
   simp only [Act.put, zA]
   refine wpList_nil ?_
   have hx : Qu.decF (f + 1) n = [UInt8.ofNat m] := by rw [Qu.decF_lt h10, ← hm, ← hd, Nat.mod_eq_of_lt h10]; rfl
   have hbf := B0.out
   go_wp2_with fail
   go_ret
   exact ⟨by first | rfl | (rw [hx] <;> rfl), hbf⟩
  ·have hci3 : ¬ ((n : Int) < 10) := by omega
   go_upto_region 2 with fail
   refine wp_region_lit ?_
   refine zr (.int .i64 (n : Int)) V1 rfl ?_
   simp only [Act.put, zA]
   refine zr (.bool false) V1 (xo_lssF .i64 (n : Int) 10 (by omega) rfl rfl rfl) ?_
   simp only [Act.put, zA]
   refine wpList_nil ?_
   have hf1 : 1 ≤ f := by
       rcases f with _ | f
       ·simp at hn; omega
       ·omega
   go_upto_region 4 with fail
   refine wp_region_lit ?_
   refine zr (.int .i64 (n : Int)) V1 rfl ?_
   simp only [Act.put, zA]
   refine zr (.int .i64 ((n / 10 : Nat) : Int)) V1 (xo_quoN .i64 n 10 (n / 10) (by omega) rfl (by rw [IntKind.wrap_i64]; omega) rfl rfl rfl) ?_
   simp only [Act.put, zA]
   refine wpList_call (by kernel_rfl) 37 Tryd.func37 (by kernel_rfl) (by kernel_rfl) _ _ #[.int .i64 ((n / 10 : Nat) : Int)] rfl (by kernel_rfl) ?_
   refine (ih (by omega) hf1 (n / 10) (by omega) V1).mono ?_
   rintro e V2 ⟨rfl, hb⟩
   have B1 := zh hb
   clear hb 
   refine ⟨_, rfl, ?_⟩
   simp only [Act.put, zA]
   refine zr (.string (sB ([UInt8.ofNat m]))) V2 rfl ?_
   simp only [Act.put, zA]
   refine zr (.string (sB ((Qu.decF f (n / 10)) ++ ([UInt8.ofNat m])))) V2 (xs_add (Qu.decF f (n / 10)) ([UInt8.ofNat m]) (by rw [List.length_singleton]; omega) Tryd.underlying9 rfl rfl rfl) ?_
   simp only [Act.put, zA]
   refine zr (.string (sB ((Qu.decF f (n / 10)) ++ ([UInt8.ofNat m])))) V2 rfl ?_
   simp only [Act.put, zA]
   refine wpList_nil ?_
   have hx : Qu.decF (f + 1) n = Qu.decF f (n / 10) ++ [UInt8.ofNat m] := by rw [Qu.decF_ge h10, ← hm, ← hd]; rfl
   have C0_2 := zb B0 B1
   have hbf := C0_2.out
   go_wp2_with fail
   go_ret
   exact ⟨by first | rfl | (rw [hx] <;> rfl), hbf⟩
theorem Gc.name {w : World} (h : Gc w) (i : Nat) (hi : i < 4) : w.cell? ⟨0, i * 2 + 0, none⟩ = some (.string (sB (Qu.nameN i))) := by
 rcases i with _ | _ | _ | _ | i
 ·exact h 0 _ rfl
 ·exact h 2 _ rfl
 ·exact h 4 _ rfl
 ·exact h 6 _ rfl
 ·omega
theorem decimal_as (n : Nat) (x : List UInt8) (h : Qu.decN n = x) (hn : n < 1000000) (w : World) : Calls Tryd.prog 37 #[.int .i64 (n : Int)] w fun e w' => e = .returned (.string (sB x)) ∧ Below w.heap.size w w' := by
 subst h
 exact decimal_any 6 (Nat.le_refl _) (by decide) n hn w
set_option maxRecDepth 100000 in
set_option maxHeartbeats 32000000 in
theorem filterText_any (A : Option Addr) (n c : Nat) (hn3 : n ≤ 3) (l : List Qu.Cd) (hok : ∀ e ∈ l, e.col < 4 ∧ e.lo ≤ 255 ∧ e.hi ≤ 255) (w : World) (hG : Gc w) (hL : Sg ciC 3 w A n c (l.map Qu.Cd.ci)) :
  Calls Tryd.prog 38 #[.slice A n c] w fun e w' => e = .returned (.string (sB (Qu.ftN l))) ∧ Below w.heap.size w w' := by
 have HL := zh hL
 have HG := zh hG
 have hln : l.length = n := by have := hL.len; rwa [List.length_map] at this
 have hlc := hL.cap
 have hlt := hL.top
 have HOKL := zh hok
 clear hL hG hok
 go_enter Tryd.func38, Tryd.ntmps38
 go_upto_region 1 with fail
 refine wp_region_lit ?_
 refine zr (.string (sB ([]))) w rfl ?_
 simp only [Act.put, zA]
 refine zr (.string (sB ([32, 119, 104, 101, 114, 101, 32]))) w rfl ?_
 simp only [Act.put, zA]
 refine wpList_nil ?_
 go_upto_region 2 with fail
 refine wp_region_lit ?_
 refine zr (.slice A n c) w rfl ?_
 simp only [Act.put, zA]
 refine zr (.int .i64 (n : Int)) w (xo_len A n c Tryd.underlying28 rfl rfl) ?_
 simp only [Act.put, zA]
 refine zr (.int .i64 0) w rfl ?_
 simp only [Act.put, zA]
 refine wpList_nil ?_
 have O0 := (Below.refl w.heap.size w)
 have B0 := zh (Below.refl w.heap.size w)
 go_wp2_with fail
 go_loopw [9, 3, 4] (fun p a u wr => ∃ i : Nat, i ≤ n ∧ p = .int .i64 i ∧ a = .string (sB (Qu.ftN (l.take i))) ∧ u = .string (sB (Qu.wdN i)) ∧ Below w.heap.size w wr) (fun p _ _ _ => n - (intOf p).toNat)
 case atStart => exact ⟨0, Nat.zero_le _, rfl, rfl, rfl, O0⟩
 case round =>
  clear O0
  obtain ⟨wo, rfl⟩ : ∃ wo : World, wo = wr := ⟨_, rfl⟩
  obtain ⟨i, hi, rfl, hHA, hHU, hb0⟩ := hrel
  have hbr := hb0
  clear B0
  have B0 := zh hbr
  clear hbr
  have HA := zh hHA
  have HU := zh hHU
  clear hb0 hHA hHU
  have ea := HA.out
  have eu := HU.out
  subst ea eu
  clear HA HU
  obtain ⟨tx, htx⟩ : ∃ x, Qu.ftN (l.take i) = x := ⟨_, rfl⟩
  have HTX := zh htx
  have htl : tx.length ≤ 120 := by rw [← htx]; have := Qu.ftG_le (w := Qu.whereT) (by decide) (l.take i); rw [List.length_take] at this; exact Nat.le_trans this (by omega)
  rw [htx]
  clear htx
  obtain ⟨u, hu⟩ : ∃ x, Qu.wdN i = x := ⟨_, rfl⟩
  have HU := zh hu
  have hul : u.length ≤ 7 := by rw [← hu]; exact Qu.wdN_le i
  rw [hu]
  clear hu
  by_cases hlt2 : i < n
  ·have hci2 : ((i : Int) < (n : Int)) := by omega
   obtain ⟨e0, hx⟩ : ∃ e, l[i]? = some e := ⟨_, List.getElem?_eq_getElem (by omega)⟩
   obtain ⟨k, lo, hi2⟩ := e0
   obtain ⟨hk4, hlo, hhi⟩ := HOKL.out _ (List.mem_of_getElem? hx)
   replace hk4 : k < 4 := hk4
   replace hlo : lo ≤ 255 := hlo
   replace hhi : hi2 ≤ 255 := hhi
   have HX := zh hx
   have HE : Hid ((l.map Qu.Cd.ci)[i]? = some (Qu.Ci.mk (k : Int) (lo : Int) (hi2 : Int))) := zh (by rw [List.getElem?_map, hx]; rfl)
   clear hx
   go_upto_region 3 with fail
   refine wp_region_lit ?_
   refine zr (.bool true) wo (xo_lssT .i64 (i : Int) (n : Int) (by omega) rfl rfl rfl) ?_
   simp only [Act.put, zA]
   refine wpList_nil ?_
   go_upto_region 4 with fail
   refine wp_region_lit ?_
   refine zr (.pointer (some (gad A (i * 3)))) wo (xg_idx .i64 (HL.out.keep B0.out) HE.out Tryd.underlying28 (by kernel_rfl) rfl rfl rfl) ?_
   simp only [Act.put, zA]
   refine zr (.agg #[.int .i64 (k : Int), .int .i64 (lo : Int), .int .i64 (hi2 : Int)]) wo (xg_loadE (E := ciC) (HL.out.keep B0.out) HE.out Tryd.underlying46 rfl (by kernel_rfl) rfl rfl) ?_
   simp only [Act.put, zA]
   refine wpList_new #[.int .i64 0, .int .i64 0, .int .i64 0] 46 (by kernel_rfl) (xo_alloc #[.int .i64 0, .int .i64 0, .int .i64 0] (by kernel_rfl) rfl) ?_
   intro b6 V2 hge h0 hb
   have Ge3 : Hid (wo.heap.size ≤ b6) := zh hge
   have B1 := zh hb
   have Fv4_6 : Hid (V2.heap[b6]? = some (.cells #[.int .i64 0, .int .i64 0, .int .i64 0] 46 (0, 0))) := zh (h0)
   have Lt5 : Hid (b6 < V2.heap.size) := zh (xp_lt Fv4_6.out)
   clear hge h0 hb
   simp only [ptr, Act.put, zA]
   refine wpList_storeW b6 #[.int .i64 0, .int .i64 0, .int .i64 0] #[.int .i64 (k : Int), .int .i64 (lo : Int), .int .i64 (hi2 : Int)] 46 (by kernel_rfl) Fv4_6.out (xo_storeW b6 #[.int .i64 0, .int .i64 0, .int .i64 0] #[.int .i64 (k : Int), .int .i64 (lo : Int), .int .i64 (hi2 : Int)] Fv4_6.out (by kernel_rfl) rfl (by simp [Value.oneCell']) rfl rfl rfl) ?_
   intro X2_6 h1 hfar hbel hsz
   have hbr := hbel _ _ Ge3.out B1.out
   clear B1
   have B1 := zh hbr
   clear hbr
   clear Fv4_6
   have Fv4_6 : Hid (X2_6.heap[b6]? = some (.cells #[.int .i64 (k : Int), .int .i64 (lo : Int), .int .i64 (hi2 : Int)] 46 (0, 0))) := zh (h1)
   have HszX2_6 := zh hsz
   clear h1 hfar hbel hsz
   simp only [ptr, Act.put, zA]
   refine wpList_nil ?_
   obtain ⟨nm, hnm⟩ : ∃ x, Qu.nameN k = x := ⟨_, rfl⟩
   have hnml : nm.length ≤ 6 := by rw [← hnm]; first | exact Nat.le_trans (Qu.nameN_le _) (by decide) | exact Qu.decF_le 6 _
   have Hnm := zh hnm
   clear hnm
   obtain ⟨dl, hdl⟩ : ∃ x, Qu.decN lo = x := ⟨_, rfl⟩
   have hdll : dl.length ≤ 6 := by rw [← hdl]; first | exact Nat.le_trans (Qu.nameN_le _) (by decide) | exact Qu.decF_le 6 _
   have Hdl := zh hdl
   clear hdl
   obtain ⟨dh, hdh⟩ : ∃ x, Qu.decN hi2 = x := ⟨_, rfl⟩
   have hdhl : dh.length ≤ 6 := by rw [← hdh]; first | exact Nat.le_trans (Qu.nameN_le _) (by decide) | exact Qu.decF_le 6 _
   have Hdh := zh hdh
   clear hdh
   go_upto_region 5 with fail
   try simp only [List.append_eq, List.cons_append, List.nil_append]
   refine wp_ordX (.q 0 (.q 1 (.q 2 (.q 3 (.q 4 (.q 5 (.q 6 (.q 7 (.q 8 (.q 9 (.q 10 (.q 14 (.q 15 (.one 11 (.q 12 (.q 13 (.one 16 (.q 17 (.q 18 (.q 19 .nil)))))))))))))))))))) (by kernel_rfl) (by kernel_rfl) (fun _ _ dt _ _ h => by first | exact h.elim | (cases dt <;> exact h)) (by kernel_rfl) (by kernel_rfl) (fun V3 hb => ?_)
   have B2 := zh hb
   clear hb
   refine wpX_q (.string (sB tx)) rfl (by kernel_rfl) (fun v hW => rfl) ?_
   simp only [ptr, Act.put, zA]
   refine wpX_q (.string (sB u)) rfl (by kernel_rfl) (fun v hW => rfl) ?_
   simp only [ptr, Act.put, zA]
   refine wpX_q (.pointer (some ⟨b6, 0, none⟩)) rfl (by kernel_rfl) (fun v hW => (xo_fld0 0 b6 0 (by kernel_rfl) rfl rfl)) ?_
   simp only [ptr, Act.put, zA]
   refine wpX_q (.int .i64 (k : Int)) rfl (by kernel_rfl) (fun v hW => (xo_load1 ⟨b6, 0, none⟩ _ (cells_at (heap_keep (heap_keep Fv4_6.out B2.out) hW) 0 rfl) Tryd.underlying3 rfl rfl rfl)) ?_
   simp only [ptr, Act.put, zA]
   refine wpX_q (.pointer (some ⟨0, k * 2, none⟩)) rfl (by kernel_rfl) (fun v hW => (xc_iad k (by omega) rfl rfl rfl)) ?_
   simp only [ptr, Act.put, zA]
   refine wpX_q (.pointer (some ⟨0, k * 2 + 0, none⟩)) rfl (by kernel_rfl) (fun v hW => (xo_fld 0 0 (k * 2) 0 (by kernel_rfl) rfl rfl)) ?_
   simp only [ptr, Act.put, zA]
   have C0_2 := zb B0 B1
   have C0_3 := zb C0_2 B2
   refine wpX_q (.string (sB nm)) rfl (by kernel_rfl) (fun v hW => (xo_load1 ⟨0, k * 2 + 0, none⟩ _ (Hnm.out ▸ Gc.name ((HG.out.keep C0_3.out).keep hW) k (by omega)) Tryd.underlying9 rfl rfl rfl)) ?_
   simp only [ptr, Act.put, zA]
   refine wpX_q (.string (sB (u ++ nm))) rfl (by kernel_rfl) (fun v hW => (xs_add u nm (by (try simp only [List.length_append, List.length_cons, List.length_nil]); omega) Tryd.underlying9 rfl rfl rfl)) ?_
   simp only [ptr, Act.put, zA]
   refine wpX_q (.string (sB ((u ++ nm) ++ ([32, 105, 110, 32])))) rfl (by kernel_rfl) (fun v hW => (xs_add (u ++ nm) ([32, 105, 110, 32]) (by (try simp only [List.length_append, List.length_cons, List.length_nil]); omega) Tryd.underlying9 rfl rfl rfl)) ?_
   simp only [ptr, Act.put, zA]
   refine wpX_q (.pointer (some ⟨b6, 1, none⟩)) rfl (by kernel_rfl) (fun v hW => (xo_fld0 1 b6 1 (by kernel_rfl) rfl rfl)) ?_
   simp only [ptr, Act.put, zA]
   refine wpX_q (.int .i64 (lo : Int)) rfl (by kernel_rfl) (fun v hW => (xo_load1 ⟨b6, 1, none⟩ _ (cells_at (heap_keep (heap_keep Fv4_6.out B2.out) hW) 1 rfl) Tryd.underlying3 rfl rfl rfl)) ?_
   simp only [ptr, Act.put, zA]
   refine wpX_q (.pointer (some ⟨b6, 2, none⟩)) rfl (by kernel_rfl) (fun v hW => (xo_fld0 2 b6 2 (by kernel_rfl) rfl rfl)) ?_
   simp only [ptr, Act.put, zA]
   refine wpX_q (.int .i64 (hi2 : Int)) rfl (by kernel_rfl) (fun v hW => (xo_load1 ⟨b6, 2, none⟩ _ (cells_at (heap_keep (heap_keep Fv4_6.out B2.out) hW) 2 rfl) Tryd.underlying3 rfl rfl rfl)) ?_
   simp only [ptr, Act.put, zA]
   refine wpX_one rfl (by kernel_rfl) ?_
   refine hOp_call 37 Tryd.func37 (by kernel_rfl) (by kernel_rfl) _ _ #[.int .i64 (lo : Int)] rfl (by kernel_rfl) ?_
   refine (decimal_as lo dl Hdl.out (by omega) V3).mono ?_
   rintro e V4 ⟨rfl, hb⟩
   have B3 := zh hb
   clear hb 
   refine ⟨_, rfl, B3.out, ?_⟩
   simp only [ptr, Act.put, zA]
   refine wpX_q (.string (sB (((u ++ nm) ++ ([32, 105, 110, 32])) ++ dl))) rfl (by kernel_rfl) (fun v hW => (xs_add ((u ++ nm) ++ ([32, 105, 110, 32])) dl (by (try simp only [List.length_append, List.length_cons, List.length_nil]); omega) Tryd.underlying9 rfl rfl rfl)) ?_
   simp only [ptr, Act.put, zA]
   refine wpX_q (.string (sB ((((u ++ nm) ++ ([32, 105, 110, 32])) ++ dl) ++ ([46, 46])))) rfl (by kernel_rfl) (fun v hW => (xs_add (((u ++ nm) ++ ([32, 105, 110, 32])) ++ dl) ([46, 46]) (by (try simp only [List.length_append, List.length_cons, List.length_nil]); omega) Tryd.underlying9 rfl rfl rfl)) ?_
   simp only [ptr, Act.put, zA]
   refine wpX_one rfl (by kernel_rfl) ?_
   refine hOp_call 37 Tryd.func37 (by kernel_rfl) (by kernel_rfl) _ _ #[.int .i64 (hi2 : Int)] rfl (by kernel_rfl) ?_
   refine (decimal_as hi2 dh Hdh.out (by omega) V4).mono ?_
   rintro e V5 ⟨rfl, hb⟩
   have B4 := zh hb
   clear hb 
   refine ⟨_, rfl, B4.out, ?_⟩
   simp only [ptr, Act.put, zA]
   refine wpX_q (.string (sB (((((u ++ nm) ++ ([32, 105, 110, 32])) ++ dl) ++ ([46, 46])) ++ dh))) rfl (by kernel_rfl) (fun v hW => (xs_add ((((u ++ nm) ++ ([32, 105, 110, 32])) ++ dl) ++ ([46, 46])) dh (by (try simp only [List.length_append, List.length_cons, List.length_nil]); omega) Tryd.underlying9 rfl rfl rfl)) ?_
   simp only [ptr, Act.put, zA]
   refine wpX_q (.string (sB (tx ++ (((((u ++ nm) ++ ([32, 105, 110, 32])) ++ dl) ++ ([46, 46])) ++ dh)))) rfl (by kernel_rfl) (fun v hW => (xs_add tx (((((u ++ nm) ++ ([32, 105, 110, 32])) ++ dl) ++ ([46, 46])) ++ dh) (by (try simp only [List.length_append, List.length_cons, List.length_nil]); omega) Tryd.underlying9 rfl rfl rfl)) ?_
   simp only [ptr, Act.put, zA]
   refine wpX_q (.string (sB (tx ++ (((((u ++ nm) ++ ([32, 105, 110, 32])) ++ dl) ++ ([46, 46])) ++ dh)))) rfl (by kernel_rfl) (fun v hW => rfl) ?_
   simp only [ptr, Act.put, zA]
   refine wpX_nil ?_
   go_upto_region 6 with fail
   refine wp_region_lit ?_
   refine zr (.string (sB ([32, 97, 110, 100, 32]))) V5 rfl ?_
   simp only [Act.put, zA]
   refine wpList_nil ?_
   go_upto_region 7 with fail
   refine wp_region_lit ?_
   refine zr (.int .i64 ((i + 1 : Nat) : Int)) V5 (xo_addI (i : Int) 1 ((i + 1 : Nat) : Int) (by omega) (by omega) (by omega) rfl rfl rfl) ?_
   simp only [Act.put, zA]
   refine zr (.int .i64 ((i + 1 : Nat) : Int)) V5 rfl ?_
   simp only [Act.put, zA]
   refine wpList_nil ?_
   have he : Qu.ftN (l.take (i + 1)) = tx ++ (u ++ nm ++ [32, 105, 110, 32] ++ dl ++ [46, 46] ++ dh) := by rw [Qu.ftN_take HX.out, HTX.out, Qu.condT, HU.out, Hnm.out, Hdl.out, Hdh.out]; rfl
   have C0_4 := zb C0_3 B3
   have C0_5 := zb C0_4 B4
   have hq7 := C0_5.out
   go_wp2_with fail
   go_roundw
   case rel => exact ⟨i + 1, by omega, by go_num, by rw [he], by rw [Qu.wdN, if_neg (by omega)] <;> rfl, hq7⟩
   case measure => simp [intOf]; omega
  ·have hci2 : ¬ ((i : Int) < (n : Int)) := by omega
   go_upto_region 3 with fail
   refine wp_region_lit ?_
   refine zr (.bool false) wo (xo_lssF .i64 (i : Int) (n : Int) (by omega) rfl rfl rfl) ?_
   simp only [Act.put, zA]
   refine wpList_nil ?_
   go_upto_region 8 with fail
   refine wp_region_lit ?_
   refine zr (.string (sB tx)) wo rfl ?_
   simp only [Act.put, zA]
   refine zr (.string (sB tx)) wo rfl ?_
   simp only [Act.put, zA]
   refine wpList_nil ?_
   have he : Qu.ftN l = tx := by rw [← HTX.out, List.take_of_length_le (by omega)]
   have hbf := B0.out
   go_wp2_with fail
   go_ret
   exact ⟨by first | rfl | (rw [he] <;> rfl), hbf⟩
end Go.Proofs.YtlicfidcfhbmpaaDoor

namespace Go.Proofs.YtlicfidcfhbmpaaDoor
set_option maxRecDepth 8000
section
variable {s : List UInt8} {q : Nat}
theorem _root_.Qu.dg_not_lt {b : UInt8} (h : Qu.isDg b = true) : Qu.isLt b = false := by
 unfold Qu.isDg at h
 unfold Qu.isLt
 simp at h ⊢
 omega
variable {sp w r : List UInt8}
end
end Go.Proofs.YtlicfidcfhbmpaaDoor

namespace Go.Proofs.YtlicfidcfhbmpaaDoor
set_option maxRecDepth 8000
theorem _root_.Qu.nameN_lt (c : Nat) : (Qu.nameN c).all Qu.isLt = true := by
 unfold Qu.nameN
 split <;> rfl
theorem _root_.Qu.nameN_ne (c : Nat) : Qu.nameN c ≠ [] := by
 unfold Qu.nameN
 split <;> exact List.cons_ne_nil _ _
end Go.Proofs.YtlicfidcfhbmpaaDoor

namespace Go.Proofs.YtlicfidcfhbmpaaDoor
set_option maxRecDepth 8000
def OkC (e : Qu.Cd) : Prop := e.col < 4 ∧ e.lo ≤ e.hi ∧ e.hi ≤ Qu.maxN e.col
section
variable {s a b d e : List UInt8} (ha : a.all Qu.isSp = true) (hb : b.all Qu.isSp = true) (hd : d.all Qu.isSp = true) (hn : a ≠ []) (he : e.all Qu.isSp = true)
include ha hb hd hn he
end
end Go.Proofs.YtlicfidcfhbmpaaDoor

namespace Go.Proofs.YtlicfidcfhbmpaaDoor
set_option maxRecDepth 8000
/-- a valid query of numbers -/
structure OkQ (q : Qu.Qy) : Prop where
 k1 : 1 ≤ q.kind
 k7 : q.kind ≤ 7
 c1 : Qu.hasC q.kind = true → q.col < 4
 c0 : Qu.hasC q.kind = false → q.col = 0
 m1 : 0 < Qu.maxK q.kind → 1 ≤ q.k ∧ q.k ≤ Qu.maxK q.kind
 m0 : ¬ 0 < Qu.maxK q.kind → q.k = 0
 nf : q.fs.length = Qu.numF q.kind
 ok : ∀ l ∈ q.fs, l.length ≤ 3 ∧ ∀ c ∈ l, OkC c
theorem _root_.Qu.kwN_lt (c : Nat) : (Qu.kwN c).all Qu.isLt = true := by
 unfold Qu.kwN
 split <;> rfl
theorem _root_.Qu.kwN_ne (c : Nat) : Qu.kwN c ≠ [] := by
 unfold Qu.kwN
 split <;> exact List.cons_ne_nil _ _
section
variable {s a b d e s0 : List UInt8} (ha : a.all Qu.isSp = true) (hb : b.all Qu.isSp = true) (hd : d.all Qu.isSp = true) (hn : a ≠ []) (he : e.all Qu.isSp = true)
include ha hn he
include hb hd
end
end Go.Proofs.YtlicfidcfhbmpaaDoor

