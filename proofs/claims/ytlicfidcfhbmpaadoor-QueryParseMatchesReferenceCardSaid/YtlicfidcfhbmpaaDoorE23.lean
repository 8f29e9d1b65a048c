/- Several texts in one: Ybb. -/
import Derived.Deep.CutBlock
import Derived.Test.YtlicfidcfhbmpaaDoorE22
import Derived.Test.YtlicfidcfhbmpaaDoorE11
import Derived.Test.YtlicfidcfhbmpaaDoorE21
import Derived.Test.YtlicfidcfhbmpaaDoorE20
set_option linter.unusedVariables false
set_option linter.unusedSimpArgs false
set_option linter.unusedSectionVars false
namespace Go.Proofs.YtlicfidcfhbmpaaDoor
set_option maxRecDepth 8000
open Go.RowKit Go.Proofs.YtlicfidcfhbmpaaDoor.K
attribute [local irreducible] wpList wpQuiet
namespace K
section
variable {P : Program} {ops : Array Oper} {S : World → Prop} {Q : Exit → Act → World → Prop} {m : Nat}
theorem wp_ordMS (S : World → Prop) (m : Nat) (t : OT) {id : Nat} {a : Act} {w : World} {l : List Oper} (hm : P.follows .mixedOrders = true) (hsel : Region.noSelect l.toArray = true) (hz : l.length = m + 1) (hl : t.len = m) (hs : Region.sinkB .any l.toArray m = true) (hcb : Region.chainB .any l.toArray m = true) (ho : okM l.toArray m t (Array.replicate l.length false) = true)
  (hS : S w.drew) (h : wpOT P l.toArray S (fun _ a w => mOp P l.toArray m (fun a w => Q .normal a w) a w) t a w.drew) : (Code.region id l.toArray true).wp P Q a w := by
 have inv0 : HeadInv .any l.toArray m (Array.replicate l.toArray.size false) :=
  ⟨by simp, fun j oj _ hl => (by rw [getD_replicate_false] at hl; cases hl), fun t _ ht => getD_in (by simpa using ht) (getD_replicate_false _ _)⟩
 refine wp_region_any hm (wpAny_of_wpT (S := S) (m := m) (by simpa using hz) hs hcb _ _ _ _ inv0 hS ?_)
 have := wpT_of_OT (P := P) (Q := Q) (m := m) (ops := l.toArray) (by simpa using hz) hs hcb hsel t (Array.replicate l.length false) a w.drew (by simpa using inv0) hS ho h
 rw [hl] at this
 simpa [hz] using this
end
theorem BW.bel {w W W' : World} (h : BW w W) (hb : Below w.heap.size W W') : BW w W' := ⟨h.b.trans hb⟩
theorem xo_box {P : Program} {ev : Operand → Value} {o : Oper} {w : World} {ty : TypeId} {x : Operand} (cs : Array Value) (ho : o.op = .box ty x) (hx : ev x = .agg cs) : (execOp ev o).run P w = .ok (.value (.pointer (some ⟨w.heap.size, 0, none⟩))) (w.alloc (.cells cs ty)) := by
 unfold execOp
 simp [ho, hx, Instr.box, Sem.run_bind, newVar, newRow, Value.cells]
theorem own_farP {w w' : World} {base p : Nat} {e u : TypeId} {size n : Nat} {v : Value} {cs : List Value} {ds : Array Value} (h : w.ownsRow base e size v n cs) (hb : w.heap[p]? = some (.cells ds u (0, 0))) (hne : u ≠ e) (k : FarC p p w w') : w'.ownsRow base e size v n cs :=
 own_farT h hb hne (fun q o hq ho => k.far q o hq hq ho)
end K
theorem OwnsC.farP {w w' : World} {p base : Nat} {t u : TypeId} {hs : List Hd} {fs : List (List Qu.Cd)} {ds : Array Value} (h : OwnsC w t base hs fs) (hb : w.heap[p]? = some (.cells ds u (0, 0))) (hne : u ≠ t) (k : FarC p p w w') : OwnsC w' t base hs fs := h.farT hb hne (fun q o hq ho => k.far q o hq hq ho)
theorem tryT_none {s : List UInt8} {f : Nat → List UInt8} {x : Qu.X} : ∀ {n i : Nat}, (Qu.tryT s f x i n).1 = none → (Qu.tryT s f x i n).2 = x
 | 0, _, _ => rfl
 | n + 1, i, h => by
  unfold Qu.tryT at h ⊢
  split at h
  ·cases h
  ·next ha =>
   rw [if_neg ha]
   exact tryT_none h
set_option maxRecDepth 100000 in
set_option maxHeartbeats 64000000 in
theorem rparse_as (s : List UInt8) (w : World) (q : Qu.Qy) (off er : Nat) (hr : Qu.refP s = (q, off, er)) :
  Calls Tryd.prog 21 #[.string (sB s)] w fun e w' => ∃ A n c, e = .returned (.tuple #[.agg #[.int .i64 (q.kind : Int), .int .i64 (q.col : Int), .int .i64 (q.k : Int), .slice A n c], .int .i64 (off : Int), .int .i64 (er : Int)]) ∧ FsOwn w' w.heap.size (.slice A n c) q.fs ∧ Below w.heap.size w w' := by
 obtain ⟨V, hV0, hV⟩ := base_world w
 have B0 := zh hV
 clear hV
 have HBW := zh (BW.refl w)
 have HR := zh hr
 clear hr
 obtain ⟨n, hn⟩ : ∃ n, s.length = n := ⟨_, rfl⟩
 have HN := zh hn
 clear hn
 go_enter Tryd.func21, Tryd.ntmps21
 go_upto_region 1 with fail
 refine wp_named1 (fun V2 hb g0 hlt => ?_)
 have B1 := zh hb
 have Fx0 : Hid (V2.heap[w.heap.size]? = some (.cells #[.int .i64 0, .int .i64 0, .int .i64 0, .slice none 0 0] 24 (0, 0))) := zh (g0)
 have Gb0 : Hid (w.heap.size ≤ w.heap.size) := zh (by omega)
 have Lx0 : Hid (w.heap.size < V2.heap.size) := zh (xp_lt Fx0.out)
 clear hb g0 hlt
 by_cases hlong : 400 < n
 ·have hci0 : ((n : Int) > 400) := by omega
  refine wp_region_lit ?_
  refine zr (.string (sB s)) V2 rfl ?_
  simp only [Act.put, zA]
  refine zr (.int .i64 (n : Int)) V2 (xs_lenN s n HN.out Tryd.underlying9 rfl rfl) ?_
  simp only [Act.put, zA]
  refine zr (.bool true) V2 (xo_gtrT .i64 (n : Int) 400 (by omega) rfl rfl rfl) ?_
  simp only [Act.put, zA]
  refine wpList_nil ?_
  go_upto_region 2 with fail
  refine wp_region_lit ?_
  refine zr (.agg #[.int .i64 0, .int .i64 0, .int .i64 0, .slice none 0 0]) V2 (by unfold execOp; go_simp <;> rfl) ?_
  simp only [Act.put, zA]
  refine wpList_storeW w.heap.size #[.int .i64 0, .int .i64 0, .int .i64 0, .slice none 0 0] #[.int .i64 0, .int .i64 0, .int .i64 0, .slice none 0 0] 24 (by kernel_rfl) Fx0.out (xo_storeW w.heap.size #[.int .i64 0, .int .i64 0, .int .i64 0, .slice none 0 0] #[.int .i64 0, .int .i64 0, .int .i64 0, .slice none 0 0] Fx0.out (by kernel_rfl) rfl (by simp [Value.oneCell']) rfl rfl rfl) ?_
  intro X2_1 h1 hfar hbel hsz
  have hbr := hbel _ _ Gb0.out B1.out
  clear B1
  have B1 := zh hbr
  clear hbr
  clear Fx0
  have Fx0 : Hid (X2_1.heap[w.heap.size]? = some (.cells #[.int .i64 0, .int .i64 0, .int .i64 0, .slice none 0 0] 24 (0, 0))) := zh (h1)
  have HszX2_1 := zh hsz
  clear h1 hfar hbel hsz
  simp only [ptr, Act.put, zA]
  refine zr (.int .i64 0) X2_1 rfl ?_
  simp only [Act.put, zA]
  refine zr (.int .i64 2) X2_1 rfl ?_
  simp only [Act.put, zA]
  refine wpList_nil ?_
  have hx := HR.out
  rw [show Qu.refP s = (Qu.zeroQ, 0, 2) by unfold Qu.refP; rw [if_pos (by rw [HN.out]; exact hlong)]] at hx
  injection hx with hq hx2
  injection hx2 with hof her
  subst hq hof her
  have hfo := fsOwn_nil (w := X2_1) (base := w.heap.size)
  have hbw := (HBW.out.keep B1.out).b
  go_wp2_with fail
  refine bodyPost_ret (v := .tuple #[.agg #[.int .i64 0, .int .i64 0, .int .i64 0, .slice none 0 0], .int .i64 0, .int .i64 2]) ?_ rfl ⟨_, _, _, rfl, hfo, hbw⟩
  exact results_row_tmp2 rfl _ _ w.heap.size 24 _ _ _ _ rfl rfl rfl Fx0.out Tryd.underlying24 rfl (by kernel_rfl)
 ·have hci0 : ¬ ((n : Int) > 400) := by omega
  refine wp_region_lit ?_
  refine zr (.string (sB s)) V2 rfl ?_
  simp only [Act.put, zA]
  refine zr (.int .i64 (n : Int)) V2 (xs_lenN s n HN.out Tryd.underlying9 rfl rfl) ?_
  simp only [Act.put, zA]
  refine zr (.bool false) V2 (xo_gtrF .i64 (n : Int) 400 (by omega) rfl rfl rfl) ?_
  simp only [Act.put, zA]
  refine wpList_nil ?_
  have HS4 : Hid (s.length ≤ 1000) := zh (by rw [HN.out]; omega)
  obtain ⟨x0, hx0⟩ : ∃ x, Qu.startX s = x := ⟨_, rfl⟩
  have HX0 := zh hx0
  have he0 : x0.e = 0 ∧ x0.o = 0 := by rw [← hx0]; exact ⟨rfl, rfl⟩
  have hst0 : x0.st = Qu.nxt s 0 := by rw [← hx0]; rfl
  have HST0 := zh hst0
  have HE0 := zh he0
  clear hst0 hx0 he0
  go_upto_region 3 with fail
  refine wp_region_lit ?_
  refine zr (.string (sB s)) V2 rfl ?_
  simp only [Act.put, zA]
  refine wpList_call (by kernel_rfl) 44 Tryd.func44 (by kernel_rfl) (by kernel_rfl) _ _ #[.string (sB s)] rfl (by kernel_rfl) ?_
  refine (tokens_as s HS4.out V2).mono ?_
  rintro e V3 ⟨A, n1, c, ts, rfl, hts, hch, hb⟩
  have B2 := zh hb
  have hln := hts.sg.len
  have hcp := hts.sg.cap
  have htp := hts.sg.top
  have HTS := zh hts 
  have HCH := zh (by rw [HST0.out]; exact hch : Chn s x0.st ts) 
  clear hb 
  refine ⟨_, rfl, ?_⟩
  simp only [Act.put, zA]
  refine zr (.agg #[.slice A n1 c, .int .i64 0, .int .i64 0]) V3 (by unfold execOp; go_simp <;> rfl) ?_
  simp only [Act.put, zA]
  refine wpList_new #[.slice A n1 c, .int .i64 0, .int .i64 0] 79 (by kernel_rfl) (xo_box #[.slice A n1 c, .int .i64 0, .int .i64 0] rfl rfl) ?_
  intro b15 V4 hge h0 hb
  have N1_0 : Hid (w.heap.size ≠ b15) := zh (xp_lt0 (heap_keep Fx0.out B2.out) hge)
  have Ge2 : Hid (V3.heap.size ≤ b15) := zh hge
  have B3 := zh hb
  have Fv3_15 : Hid (V4.heap[b15]? = some (.cells #[.slice A n1 c, .int .i64 0, .int .i64 0] 79 (0, 0))) := zh (h0)
  have Lt4 : Hid (b15 < V4.heap.size) := zh (xp_lt Fv3_15.out)
  clear hge h0 hb
  simp only [ptr, Act.put, zA]
  refine zr (.agg #[.int .i64 0, .int .i64 0, .int .i64 0, .slice none 0 0]) V4 (by unfold execOp; go_simp <;> rfl) ?_
  simp only [Act.put, zA]
  refine wpList_new #[.int .i64 0, .int .i64 0, .int .i64 0, .slice none 0 0] 24 (by kernel_rfl) (xo_alloc #[.int .i64 0, .int .i64 0, .int .i64 0, .slice none 0 0] (by kernel_rfl) rfl) ?_
  intro b6 V5 hge h0 hb
  have C2_4 := zb B2 B3
  have N5_0 : Hid (w.heap.size ≠ b6) := zh (xp_lt0 (heap_keep Fx0.out C2_4.out) hge)
  have N6_1 : Hid (b15 ≠ b6) := zh (xp_lt0 Fv3_15.out hge)
  have Ge7 : Hid (V4.heap.size ≤ b6) := zh hge
  have B4 := zh hb
  have Fv8_6 : Hid (V5.heap[b6]? = some (.cells #[.int .i64 0, .int .i64 0, .int .i64 0, .slice none 0 0] 24 (0, 0))) := zh (h0)
  have Lt9 : Hid (b6 < V5.heap.size) := zh (xp_lt Fv8_6.out)
  clear hge h0 hb
  simp only [ptr, Act.put, zA]
  refine zr (.pointer (some ⟨b15, 0, none⟩)) V5 rfl ?_
  simp only [Act.put, zA]
  refine wpList_storeW b6 #[.int .i64 0, .int .i64 0, .int .i64 0, .slice none 0 0] #[.int .i64 0, .int .i64 0, .int .i64 0, .slice none 0 0] 24 (by kernel_rfl) Fv8_6.out (xo_storeW b6 #[.int .i64 0, .int .i64 0, .int .i64 0, .slice none 0 0] #[.int .i64 0, .int .i64 0, .int .i64 0, .slice none 0 0] Fv8_6.out (by kernel_rfl) rfl (by simp [Value.oneCell']) rfl rfl rfl) ?_
  intro X5_10 h1 hfar hbel hsz
  have hbr := hbel _ _ Ge7.out B4.out
  clear B4
  have B4 := zh hbr
  clear hbr
  clear Fv8_6
  have Fv8_6 : Hid (X5_10.heap[b6]? = some (.cells #[.int .i64 0, .int .i64 0, .int .i64 0, .slice none 0 0] 24 (0, 0))) := zh (h1)
  have HszX5_10 := zh hsz
  clear h1 hfar hbel hsz
  simp only [ptr, Act.put, zA]
  refine wpList_nil ?_
  go_upto_region 4 with fail
  refine wp_region_lit ?_
  refine zr (.int .i64 1) X5_10 rfl ?_
  simp only [Act.put, zA]
  refine wpList_nil ?_
  have C1_3 := zb B1 B2
  have G15 : Hid (w.heap.size ≤ b15) := zh (Nat.le_trans (HBW.out.keep C1_3.out).b.size Ge2.out)
  have C1_4 := zb C1_3 B3
  have G6 : Hid (w.heap.size ≤ b6) := zh (Nat.le_trans (HBW.out.keep C1_4.out).b.size Ge7.out)
  have G2 : Hid (w.heap.size ≤ w.heap.size) := zh Gb0.out
  have HTK0 : Hid (Tkn x0.st) := zh (by rw [HST0.out]; exact Tkn.nxt 0)
  have HOK0 : Hid (Qu.Ok s x0.st) := zh (by rw [HST0.out]; exact Qu.nxt_ok (Nat.zero_le _))
  have C3_5 := zb B3 B4
  have hp0 : PR X5_10 b15 s x0 A n1 c ts := ⟨by have h9 := (heap_keep Fv3_15.out B4.out); rw [HE0.out.1, HE0.out.2]; exact h9, (HTS.out.keep C3_5.out), HCH.out, HTK0.out, HOK0.out⟩
  have HPR := zh hp0
  clear hp0
  obtain ⟨⟨ro, y0⟩, htr⟩ : ∃ p, Qu.tryT s Qu.kwN x0 1 7 = p := ⟨_, rfl⟩
  have HTR := zh htr
  obtain ⟨kd, hkd⟩ : ∃ k, ro.getD 0 = k := ⟨_, rfl⟩
  have HKD := zh hkd
  clear hkd
  have hkr : ∀ j, ro = some j → 1 ≤ j ∧ j < 1 + 7 := fun j hj => tryT_lt (s := s) (f := Qu.kwN) (x := x0) (by rw [htr]; exact hj)
  have HKR := zh hkr
  clear hkr htr
  go_upto_block 0 with fail
  go_cut [] from 17 to 31 (fun wx => (∃ A5 n5 c5 t5, PR wx b15 s y0 A5 n5 c5 t5) ∧ wx.heap[w.heap.size]? = some (.cells #[.int .i64 0, .int .i64 0, .int .i64 0, .slice none 0 0] 24 (0, 0)) ∧ wx.heap[b6]? = some (.cells #[.int .i64 (kd : Int), .int .i64 0, .int .i64 0, .slice none 0 0] 24 (0, 0)) ∧ BW w wx ∧ Below V.heap.size V wx)
  case first =>
   have C2_5 := zb C2_4 B4
   have s2 := (heap_keep Fx0.out C2_5.out)
   have s6 := Fv8_6.out
   have sp := HPR.out
   have C1_5 := zb C1_4 B4
   have sw := (HBW.out.keep C1_5.out)
   have C0_2 := zb B0 B1
   have C0_3 := zb C0_2 B2
   have C0_4 := zb C0_3 B3
   have C0_5 := zb C0_4 B4
   have sv := C0_5.out
   go_wp2_with fail
   go_loopw [7] (fun p wr => ∃ (i kk : Nat) (y : Qu.X), p = .int .i64 (i : Int) ∧ 1 ≤ i ∧ i ≤ 8 ∧ ((kk = 0 ∧ y = x0 ∧ Qu.tryT s Qu.kwN x0 1 7 = Qu.tryT s Qu.kwN x0 i (8 - i)) ∨ (1 ≤ kk ∧ kk ≤ 7 ∧ Qu.tryT s Qu.kwN x0 1 7 = (some kk, y))) ∧ (∃ A5 n5 c5 t5, PR wr b15 s y A5 n5 c5 t5) ∧ wr.heap[w.heap.size]? = some (.cells #[.int .i64 0, .int .i64 0, .int .i64 0, .slice none 0 0] 24 (0, 0)) ∧ wr.heap[b6]? = some (.cells #[.int .i64 (kk : Int), .int .i64 0, .int .i64 0, .slice none 0 0] 24 (0, 0)) ∧ BW w wr ∧ Below V.heap.size V wr) (fun p _ => 8 - (intOf p).toNat)
   case atStart => exact ⟨1, 0, x0, rfl, by omega, by omega, .inl ⟨rfl, rfl, rfl⟩, ⟨_, _, _, _, sp⟩, s2, s6, sw, sv⟩
   case round =>
    clear s2 s6 sp sw sv B0 HPR
    obtain ⟨wo, rfl⟩ : ∃ wo : World, wo = wr := ⟨_, rfl⟩
    obtain ⟨i, kk, y, rfl, hi1, hi8, hst, ⟨A5, n5, c5, t5, hpr⟩, h2, h6, hbw, hbb⟩ := hrel
    have HSTT := zh hst
    clear hst
    try clear B0
    have B0 := zh hbb
    try clear HBW
    have HBW := zh hbw
    try clear Fx0
    have Fx0 := zh h2
    try clear Fv8_6
    have Fv8_6 := zh h6
    try clear Fv3_15
    have Fv3_15 := zh hpr.row
    have Gv11 : Hid (V.heap.size ≤ w.heap.size) := zh (by omega)
    have Lt12 : Hid (w.heap.size < wo.heap.size) := zh (xp_lt Fx0.out)
    have Gv13 : Hid (V.heap.size ≤ b15) := zh (by omega)
    have Lt14 : Hid (b15 < wo.heap.size) := zh (xp_lt Fv3_15.out)
    have Gv15 : Hid (V.heap.size ≤ b6) := zh (by omega)
    have Lt16 : Hid (b6 < wo.heap.size) := zh (xp_lt Fv8_6.out)
    try clear Fv3_15
    have Fv3_15 := zh hpr.row
    try clear HTS
    have HTS := zh hpr.tt
    try clear HCH
    have HCH := zh hpr.ch
    try clear HTK
    have HTK := zh hpr.tk
    try clear HOK
    have HOK := zh hpr.ok
    have hln_17 := hpr.tt.sg.len
    have hcp_17 := hpr.tt.sg.cap
    have htp_17 := hpr.tt.sg.top
    have hps_17 := hpr.ch.pos
    clear hbb hbw h2 h6 hpr
    by_cases hk0 : kk = 0
    ·have hyx : y = x0 ∧ Qu.tryT s Qu.kwN x0 1 7 = Qu.tryT s Qu.kwN x0 i (8 - i) := by
           rcases HSTT.out with ⟨_, h1, h2⟩ | ⟨h1, _⟩
           ·exact ⟨h1, h2⟩
           ·omega
     have HYX := zh hyx
     clear hyx
     by_cases hi7 : i ≤ 7
     ·have hci18 : ((i : Int) ≤ 7) := by omega
      go_upto_region 5 with fail
      refine wp_region_lit ?_
      refine zr (.int .i64 (i : Int)) wo rfl ?_
      simp only [Act.put, zA]
      refine zr (.bool true) wo (xo_leqT .i64 (i : Int) 7 (by omega) rfl rfl rfl) ?_
      simp only [Act.put, zA]
      refine zr (.bool true) wo rfl ?_
      simp only [Act.put, zA]
      refine zr (.pointer (some ⟨b6, 0, none⟩)) wo (xo_fld0 0 b6 0 (by kernel_rfl) rfl rfl) ?_
      simp only [Act.put, zA]
      refine zr (.int .i64 (kk : Int)) wo (xo_load1 ⟨b6, 0, none⟩ _ (cells_at Fv8_6.out 0 rfl) Tryd.underlying3 rfl rfl rfl) ?_
      simp only [Act.put, zA]
      refine zr (.bool true) wo (xo_eqlT .i64 (kk : Int) 0 (by omega) rfl rfl rfl) ?_
      simp only [Act.put, zA]
      refine zr (.bool true) wo rfl ?_
      simp only [Act.put, zA]
      refine wpList_nil ?_
      obtain ⟨kw, hkw⟩ : ∃ x, Qu.kwN i = x := ⟨_, rfl⟩
      have HKW := zh hkw
      clear hkw
      by_cases ha : AccY kw y
      ·go_upto_region 7 with fail
       refine wp_region_lit ?_
       refine zr (.pointer (some ⟨b15, 0, none⟩)) wo rfl ?_
       simp only [Act.put, zA]
       refine zr (.int .i64 (i : Int)) wo rfl ?_
       simp only [Act.put, zA]
       refine wpList_call (by kernel_rfl) 39 Tryd.func39 (by kernel_rfl) (by kernel_rfl) _ _ #[.int .i64 (i : Int)] rfl (by kernel_rfl) ?_
       refine (rkw_as i hi1 hi7 kw HKW.out wo).mono ?_
       rintro e V2 ⟨rfl, hb⟩
       have B1 := zh hb
       clear hb 
       refine ⟨_, rfl, ?_⟩
       simp only [Act.put, zA]
       refine wpList_call (by kernel_rfl) 45 Tryd.func45 (by kernel_rfl) (by kernel_rfl) _ _ #[.pointer (some ⟨b15, 0, none⟩), .string (sB kw)] rfl (by kernel_rfl) ?_
       refine (raccept_yes s b15 y A5 n5 c5 t5 V2 ⟨(heap_keep Fv3_15.out B1.out), (HTS.out.keep B1.out), HCH.out, HTK.out, HOK.out⟩ kw (by rw [← HKW.out]; exact Qu.kwN_ne i) ha).mono ?_
       rintro e W2_19 ⟨rfl, ⟨A_0, n_0, c_0, t_0, hpr⟩, hfc⟩
       have YFx0 : W2_19.heap[w.heap.size]? = some (.cells #[.int .i64 0, .int .i64 0, .int .i64 0, .slice none 0 0] 24 (0, 0)) := hfc.far _ _ N1_0.out N1_0.out (heap_keep Fx0.out B1.out)
       have YFv8_6 : W2_19.heap[b6]? = some (.cells #[.int .i64 (kk : Int), .int .i64 0, .int .i64 0, .slice none 0 0] 24 (0, 0)) := hfc.far _ _ (Ne.symm N6_1.out) (Ne.symm N6_1.out) (heap_keep Fv8_6.out B1.out)
       have YHBW : BW w W2_19 := BW.farC (HBW.out.keep B1.out) G15.out G15.out hfc
       have C0_2 := zb B0 B1
       have hb := farc_bel hV0 C0_2.out hfc
       have hbr := hb
       clear B0
       have B0 := zh hbr
       clear hbr
       clear hb
       clear Fx0
       have Fx0 : Hid (W2_19.heap[w.heap.size]? = some (.cells #[.int .i64 0, .int .i64 0, .int .i64 0, .slice none 0 0] 24 (0, 0))) := zh YFx0
       clear YFx0
       clear Fv8_6
       have Fv8_6 : Hid (W2_19.heap[b6]? = some (.cells #[.int .i64 (kk : Int), .int .i64 0, .int .i64 0, .slice none 0 0] 24 (0, 0))) := zh YFv8_6
       clear YFv8_6
       clear HBW
       have HBW : Hid (BW w W2_19) := zh YHBW
       clear YHBW
       have Gv20 : Hid (V.heap.size ≤ w.heap.size) := zh (by omega)
       have Lt21 : Hid (w.heap.size < W2_19.heap.size) := zh (xp_lt Fx0.out)
       have Gv22 : Hid (V.heap.size ≤ b6) := zh (by omega)
       have Lt23 : Hid (b6 < W2_19.heap.size) := zh (xp_lt Fv8_6.out)
       have hln_0 := hpr.tt.sg.len
       have hcp_0 := hpr.tt.sg.cap
       have htp_0 := hpr.tt.sg.top
       have hps_0 := hpr.ch.pos
       try clear HTS
       have HTS := zh hpr.tt 
       try clear HCH
       have HCH := zh hpr.ch 
       try clear HTK
       have HTK := zh hpr.tk 
       try clear HOK
       have HOK := zh hpr.ok 
       clear Fv3_15
       have Fv3_15 : Hid (W2_19.heap[b15]? = some (.cells #[.slice A_0 n_0 c_0, .int .i64 ((Qu.advT s y).o : Int), .int .i64 ((Qu.advT s y).e : Int)] 79 (0, 0))) := zh (hpr.row)
       have Gv24 : Hid (V.heap.size ≤ b15) := zh (by omega)
       have Lt25 : Hid (b15 < W2_19.heap.size) := zh (xp_lt Fv3_15.out)
       clear hfc 
       refine ⟨_, rfl, ?_⟩
       simp only [Act.put, zA]
       refine wpList_nil ?_
       go_upto_region 8 with fail
       refine wp_region_lit ?_
       refine zr (.int .i64 (i : Int)) W2_19 rfl ?_
       simp only [Act.put, zA]
       refine zr (.pointer (some ⟨b6, 0, none⟩)) W2_19 (xo_fld0 0 b6 0 (by kernel_rfl) rfl rfl) ?_
       simp only [Act.put, zA]
       refine wpList_store1 b6 0 #[.int .i64 (kk : Int), .int .i64 0, .int .i64 0, .slice none 0 0] (.int .i64 (i : Int)) 24 (by kernel_rfl) Fv8_6.out (xo_store1 b6 0 #[.int .i64 (kk : Int), .int .i64 0, .int .i64 0, .slice none 0 0] _ (.int .i64 (i : Int)) Fv8_6.out rfl (by kernel_rfl) rfl rfl rfl rfl) ?_
       intro X1_26 h1 hfar hbel hsz
       have YHBW : BW w X1_26 := BW.store HBW.out G6.out hbel
       have YHTS : TS X1_26 A_0 n_0 c_0 t_0 := TS.far HTS.out Fv8_6.out (by decide) hfar
       have YFx0 : X1_26.heap[w.heap.size]? = some (.cells #[.int .i64 0, .int .i64 0, .int .i64 0, .slice none 0 0] 24 (0, 0)) := hfar _ _ N5_0.out Fx0.out
       have YFv3_15 : X1_26.heap[b15]? = some (.cells #[.slice A_0 n_0 c_0, .int .i64 ((Qu.advT s y).o : Int), .int .i64 ((Qu.advT s y).e : Int)] 79 (0, 0)) := hfar _ _ N6_1.out Fv3_15.out
       -- drops HCH
       -- drops HTK
       -- drops HOK
       have hbr := hbel _ _ Gv22.out B0.out
       clear B0
       have B0 := zh hbr
       clear hbr
       clear Fx0
       have Fx0 : Hid (X1_26.heap[w.heap.size]? = some (.cells #[.int .i64 0, .int .i64 0, .int .i64 0, .slice none 0 0] 24 (0, 0))) := zh YFx0
       clear YFx0
       clear Fv3_15
       have Fv3_15 : Hid (X1_26.heap[b15]? = some (.cells #[.slice A_0 n_0 c_0, .int .i64 ((Qu.advT s y).o : Int), .int .i64 ((Qu.advT s y).e : Int)] 79 (0, 0))) := zh YFv3_15
       clear YFv3_15
       clear HBW
       have HBW := zh YHBW
       clear YHBW
       clear HTS
       have HTS := zh YHTS
       clear YHTS
       clear Fv8_6
       have Fv8_6 : Hid (X1_26.heap[b6]? = some (.cells #[.int .i64 (i : Int), .int .i64 0, .int .i64 0, .slice none 0 0] 24 (0, 0))) := zh (h1)
       have HszX1_26 := zh hsz
       clear h1 hfar hbel hsz
       simp only [ptr, Act.put, zA]
       refine wpList_nil ?_
       go_upto_region 6 with fail
       refine wp_region_lit ?_
       refine zr (.int .i64 (i : Int)) X1_26 rfl ?_
       simp only [Act.put, zA]
       refine zr (.int .i64 ((i + 1 : Nat) : Int)) X1_26 (xo_addI (i : Int) 1 ((i + 1 : Nat) : Int) (by omega) (by omega) (by omega) rfl rfl rfl) ?_
       simp only [Act.put, zA]
       refine zr (.int .i64 ((i + 1 : Nat) : Int)) X1_26 rfl ?_
       simp only [Act.put, zA]
       refine wpList_nil ?_
       have hstep : Qu.tryT s Qu.kwN x0 i (8 - i) = if AccY (Qu.kwN i) x0 then (some i, Qu.advT s x0) else Qu.tryT s Qu.kwN x0 (i + 1) (8 - (i + 1)) := by rw [show 8 - i = (8 - (i + 1)) + 1 by omega]; rfl
       have hac : AccY (Qu.kwN i) x0 := by rw [← HYX.out.1, HKW.out]; exact ha
       rw [if_pos hac] at hstep
       have d0 : Qu.tryT s Qu.kwN x0 1 7 = (some i, Qu.advT s y) := by rw [HYX.out.2, hstep, HYX.out.1]
       clear hstep hac
       have D0 := zh d0
       clear d0
       have m1 : PR X1_26 b15 s (Qu.advT s y) A_0 n_0 c_0 t_0 := ⟨Fv3_15.out, HTS.out, HCH.out, HTK.out, HOK.out⟩
       have m2 := Fx0.out
       have m6 := Fv8_6.out
       have m3 := HBW.out
       have m4 := B0.out
       go_wp2_with fail
       go_roundw
       case rel => exact ⟨i + 1, i, (Qu.advT s y), by go_num, by omega, by omega, .inr ⟨hi1, hi7, D0.out⟩, ⟨_, _, _, _, m1⟩, m2, m6, m3, m4⟩
       case measure => simp [intOf]; omega
      ·go_upto_region 7 with fail
       refine wp_region_lit ?_
       refine zr (.pointer (some ⟨b15, 0, none⟩)) wo rfl ?_
       simp only [Act.put, zA]
       refine zr (.int .i64 (i : Int)) wo rfl ?_
       simp only [Act.put, zA]
       refine wpList_call (by kernel_rfl) 39 Tryd.func39 (by kernel_rfl) (by kernel_rfl) _ _ #[.int .i64 (i : Int)] rfl (by kernel_rfl) ?_
       refine (rkw_as i hi1 hi7 kw HKW.out wo).mono ?_
       rintro e V2 ⟨rfl, hb⟩
       have B1 := zh hb
       clear hb 
       refine ⟨_, rfl, ?_⟩
       simp only [Act.put, zA]
       refine wpList_call (by kernel_rfl) 45 Tryd.func45 (by kernel_rfl) (by kernel_rfl) _ _ #[.pointer (some ⟨b15, 0, none⟩), .string (sB kw)] rfl (by kernel_rfl) ?_
       refine (raccept_no s b15 y A5 n5 c5 t5 V2 ⟨(heap_keep Fv3_15.out B1.out), (HTS.out.keep B1.out), HCH.out, HTK.out, HOK.out⟩ kw ha).mono ?_
       rintro e W2_19 ⟨rfl, ⟨A_1, n_1, c_1, t_1, hpr⟩, hfc⟩
       have YFx0 : W2_19.heap[w.heap.size]? = some (.cells #[.int .i64 0, .int .i64 0, .int .i64 0, .slice none 0 0] 24 (0, 0)) := hfc.far _ _ N1_0.out N1_0.out (heap_keep Fx0.out B1.out)
       have YFv8_6 : W2_19.heap[b6]? = some (.cells #[.int .i64 (kk : Int), .int .i64 0, .int .i64 0, .slice none 0 0] 24 (0, 0)) := hfc.far _ _ (Ne.symm N6_1.out) (Ne.symm N6_1.out) (heap_keep Fv8_6.out B1.out)
       have YHBW : BW w W2_19 := BW.farC (HBW.out.keep B1.out) G15.out G15.out hfc
       have C0_2 := zb B0 B1
       have hb := farc_bel hV0 C0_2.out hfc
       have hbr := hb
       clear B0
       have B0 := zh hbr
       clear hbr
       clear hb
       clear Fx0
       have Fx0 : Hid (W2_19.heap[w.heap.size]? = some (.cells #[.int .i64 0, .int .i64 0, .int .i64 0, .slice none 0 0] 24 (0, 0))) := zh YFx0
       clear YFx0
       clear Fv8_6
       have Fv8_6 : Hid (W2_19.heap[b6]? = some (.cells #[.int .i64 (kk : Int), .int .i64 0, .int .i64 0, .slice none 0 0] 24 (0, 0))) := zh YFv8_6
       clear YFv8_6
       clear HBW
       have HBW : Hid (BW w W2_19) := zh YHBW
       clear YHBW
       have Gv20 : Hid (V.heap.size ≤ w.heap.size) := zh (by omega)
       have Lt21 : Hid (w.heap.size < W2_19.heap.size) := zh (xp_lt Fx0.out)
       have Gv22 : Hid (V.heap.size ≤ b6) := zh (by omega)
       have Lt23 : Hid (b6 < W2_19.heap.size) := zh (xp_lt Fv8_6.out)
       have hln_1 := hpr.tt.sg.len
       have hcp_1 := hpr.tt.sg.cap
       have htp_1 := hpr.tt.sg.top
       have hps_1 := hpr.ch.pos
       try clear HTS
       have HTS := zh hpr.tt 
       try clear HCH
       have HCH := zh hpr.ch 
       try clear HTK
       have HTK := zh hpr.tk 
       try clear HOK
       have HOK := zh hpr.ok 
       clear Fv3_15
       have Fv3_15 : Hid (W2_19.heap[b15]? = some (.cells #[.slice A_1 n_1 c_1, .int .i64 (y.o : Int), .int .i64 (y.e : Int)] 79 (0, 0))) := zh (hpr.row)
       have Gv24 : Hid (V.heap.size ≤ b15) := zh (by omega)
       have Lt25 : Hid (b15 < W2_19.heap.size) := zh (xp_lt Fv3_15.out)
       clear hfc 
       refine ⟨_, rfl, ?_⟩
       simp only [Act.put, zA]
       refine wpList_nil ?_
       go_upto_region 6 with fail
       refine wp_region_lit ?_
       refine zr (.int .i64 (i : Int)) W2_19 rfl ?_
       simp only [Act.put, zA]
       refine zr (.int .i64 ((i + 1 : Nat) : Int)) W2_19 (xo_addI (i : Int) 1 ((i + 1 : Nat) : Int) (by omega) (by omega) (by omega) rfl rfl rfl) ?_
       simp only [Act.put, zA]
       refine zr (.int .i64 ((i + 1 : Nat) : Int)) W2_19 rfl ?_
       simp only [Act.put, zA]
       refine wpList_nil ?_
       have hstep : Qu.tryT s Qu.kwN x0 i (8 - i) = if AccY (Qu.kwN i) x0 then (some i, Qu.advT s x0) else Qu.tryT s Qu.kwN x0 (i + 1) (8 - (i + 1)) := by rw [show 8 - i = (8 - (i + 1)) + 1 by omega]; rfl
       have hac : ¬ AccY (Qu.kwN i) x0 := by rw [← HYX.out.1, HKW.out]; exact ha
       rw [if_neg hac] at hstep
       have D0 := zh (HYX.out.2.trans hstep)
       clear hstep hac
       have m1 : PR W2_19 b15 s y A_1 n_1 c_1 t_1 := ⟨Fv3_15.out, HTS.out, HCH.out, HTK.out, HOK.out⟩
       have m2 := Fx0.out
       have m6 := Fv8_6.out
       have m3 := HBW.out
       have m4 := B0.out
       go_wp2_with fail
       go_roundw
       case rel => exact ⟨i + 1, kk, y, by go_num, by omega, by omega, .inl ⟨hk0, HYX.out.1, D0.out⟩, ⟨_, _, _, _, m1⟩, m2, m6, m3, m4⟩
       case measure => simp [intOf]; omega
     ·have hci18 : ¬ ((i : Int) ≤ 7) := by omega
      go_upto_region 5 with fail
      refine wp_region_lit ?_
      refine zr (.int .i64 (i : Int)) wo rfl ?_
      simp only [Act.put, zA]
      refine zr (.bool false) wo (xo_leqF .i64 (i : Int) 7 (by omega) rfl rfl rfl) ?_
      simp only [Act.put, zA]
      refine zr (.bool false) wo rfl ?_
      simp only [Act.put, zA]
      refine zl ?_
      try simp only [Act.put, zA]
      refine zl ?_
      try simp only [Act.put, zA]
      refine zl ?_
      try simp only [Act.put, zA]
      refine zr (.bool false) wo rfl ?_
      simp only [Act.put, zA]
      refine wpList_nil ?_
      have hkk : kk = kd ∧ y = y0 := by
             have h1 := HYX.out.2
             rw [show 8 - i = 0 by omega, HTR.out] at h1
             have h2 : (ro, y0) = (none, x0) := h1
             injection h2 with h3 h4
             rw [← HKD.out, h3, h4, HYX.out.1]
             exact ⟨hk0, rfl⟩
      obtain ⟨hk1, hk2⟩ := hkk
      have m1 : PR wo b15 s y A5 n5 c5 t5 := ⟨Fv3_15.out, HTS.out, HCH.out, HTK.out, HOK.out⟩
      have m2 := Fx0.out
      have m6 := Fv8_6.out
      have m3 := HBW.out
      have m4 := B0.out
      rw [hk2] at m1
      rw [hk1] at m6
      have HK1 := zh hk1
      clear hk1 hk2
      go_wp2_with fail
      go_meet
      case rel => exact ⟨⟨_, _, _, _, m1⟩, m2, m6, m3, m4⟩
    ·by_cases hi7 : i ≤ 7
     ·have hci18 : ((i : Int) ≤ 7) := by omega
      go_upto_region 5 with fail
      refine wp_region_lit ?_
      refine zr (.int .i64 (i : Int)) wo rfl ?_
      simp only [Act.put, zA]
      refine zr (.bool true) wo (xo_leqT .i64 (i : Int) 7 (by omega) rfl rfl rfl) ?_
      simp only [Act.put, zA]
      refine zr (.bool true) wo rfl ?_
      simp only [Act.put, zA]
      refine zr (.pointer (some ⟨b6, 0, none⟩)) wo (xo_fld0 0 b6 0 (by kernel_rfl) rfl rfl) ?_
      simp only [Act.put, zA]
      refine zr (.int .i64 (kk : Int)) wo (xo_load1 ⟨b6, 0, none⟩ _ (cells_at Fv8_6.out 0 rfl) Tryd.underlying3 rfl rfl rfl) ?_
      simp only [Act.put, zA]
      refine zr (.bool false) wo (xo_eqlF .i64 (kk : Int) 0 (by omega) rfl rfl rfl) ?_
      simp only [Act.put, zA]
      refine zr (.bool false) wo rfl ?_
      simp only [Act.put, zA]
      refine wpList_nil ?_
      have hkk : kk = kd ∧ y = y0 := by
             rcases HSTT.out with ⟨h0, _⟩ | ⟨_, _, h3⟩
             ·omega
             ·rw [HTR.out] at h3; injection h3 with h4 h5; rw [← HKD.out, h4, h5]; exact ⟨rfl, rfl⟩
      obtain ⟨hk1, hk2⟩ := hkk
      have m1 : PR wo b15 s y A5 n5 c5 t5 := ⟨Fv3_15.out, HTS.out, HCH.out, HTK.out, HOK.out⟩
      have m2 := Fx0.out
      have m6 := Fv8_6.out
      have m3 := HBW.out
      have m4 := B0.out
      rw [hk2] at m1
      rw [hk1] at m6
      have HK1 := zh hk1
      clear hk1 hk2
      go_wp2_with fail
      go_meet
      case rel => exact ⟨⟨_, _, _, _, m1⟩, m2, m6, m3, m4⟩
     ·have hci18 : ¬ ((i : Int) ≤ 7) := by omega
      go_upto_region 5 with fail
      refine wp_region_lit ?_
      refine zr (.int .i64 (i : Int)) wo rfl ?_
      simp only [Act.put, zA]
      refine zr (.bool false) wo (xo_leqF .i64 (i : Int) 7 (by omega) rfl rfl rfl) ?_
      simp only [Act.put, zA]
      refine zr (.bool false) wo rfl ?_
      simp only [Act.put, zA]
      refine zl ?_
      try simp only [Act.put, zA]
      refine zl ?_
      try simp only [Act.put, zA]
      refine zl ?_
      try simp only [Act.put, zA]
      refine zr (.bool false) wo rfl ?_
      simp only [Act.put, zA]
      refine wpList_nil ?_
      have hkk : kk = kd ∧ y = y0 := by
             rcases HSTT.out with ⟨h0, _⟩ | ⟨_, _, h3⟩
             ·omega
             ·rw [HTR.out] at h3; injection h3 with h4 h5; rw [← HKD.out, h4, h5]; exact ⟨rfl, rfl⟩
      obtain ⟨hk1, hk2⟩ := hkk
      have m1 : PR wo b15 s y A5 n5 c5 t5 := ⟨Fv3_15.out, HTS.out, HCH.out, HTK.out, HOK.out⟩
      have m2 := Fx0.out
      have m6 := Fv8_6.out
      have m3 := HBW.out
      have m4 := B0.out
      rw [hk2] at m1
      rw [hk1] at m6
      have HK1 := zh hk1
      clear hk1 hk2
      go_wp2_with fail
      go_meet
      case rel => exact ⟨⟨_, _, _, _, m1⟩, m2, m6, m3, m4⟩
  case rest =>
   obtain ⟨wa, rfl⟩ : ∃ W, W = wc := ⟨_, rfl⟩
   obtain ⟨⟨A5, n5, c5, t5, hpr⟩, h2, h6, hbw, hbb⟩ := hcut
   clear HPR B0 HBW HTS HCH
   try clear B0
   have B0 := zh hbb
   try clear HBW
   have HBW := zh hbw
   try clear Fx0
   have Fx0 := zh h2
   try clear Fv8_6
   have Fv8_6 := zh h6
   try clear Fv3_15
   have Fv3_15 := zh hpr.row
   have Gv28 : Hid (V.heap.size ≤ w.heap.size) := zh (by omega)
   have Lt29 : Hid (w.heap.size < wa.heap.size) := zh (xp_lt Fx0.out)
   have Gv30 : Hid (V.heap.size ≤ b15) := zh (by omega)
   have Lt31 : Hid (b15 < wa.heap.size) := zh (xp_lt Fv3_15.out)
   have Gv32 : Hid (V.heap.size ≤ b6) := zh (by omega)
   have Lt33 : Hid (b6 < wa.heap.size) := zh (xp_lt Fv8_6.out)
   try clear Fv3_15
   have Fv3_15 := zh hpr.row
   try clear HTS
   have HTS := zh hpr.tt
   try clear HCH
   have HCH := zh hpr.ch
   try clear HTK
   have HTK := zh hpr.tk
   try clear HOK
   have HOK := zh hpr.ok
   have hln_34 := hpr.tt.sg.len
   have hcp_34 := hpr.tt.sg.cap
   have htp_34 := hpr.tt.sg.top
   have hps_34 := hpr.ch.pos
   clear hbb hbw h2 h6 hpr
   by_cases hkd0 : kd = 0
   ·have hro : ro = none := by
         cases hr0 : ro with
         | none => rfl
         | some j => have h1 := HKR.out j hr0; have h2 := HKD.out; rw [hr0] at h2; have h3 : j = kd := h2; omega
    have hy0 : y0 = x0 := by have h1 := tryT_none (s := s) (f := Qu.kwN) (x := x0) (n := 7) (i := 1) (by rw [HTR.out]; exact hro); rw [HTR.out] at h1; exact h1
    have HRO := zh (And.intro hro hy0)
    clear hro hy0
    go_upto_region 9 with fail
    refine wp_region_lit ?_
    refine zr (.pointer (some ⟨b6, 0, none⟩)) wa (xo_fld0 0 b6 0 (by kernel_rfl) rfl rfl) ?_
    simp only [Act.put, zA]
    refine zr (.int .i64 (kd : Int)) wa (xo_load1 ⟨b6, 0, none⟩ _ (cells_at Fv8_6.out 0 rfl) Tryd.underlying3 rfl rfl rfl) ?_
    simp only [Act.put, zA]
    refine zr (.bool true) wa (xo_eqlT .i64 (kd : Int) 0 (by omega) rfl rfl rfl) ?_
    simp only [Act.put, zA]
    refine wpList_nil ?_
    go_upto_region 10 with fail
    refine wp_region_lit ?_
    refine zr (.pointer (some ⟨b15, 0, none⟩)) wa rfl ?_
    simp only [Act.put, zA]
    refine wpList_call (by kernel_rfl) 46 Tryd.func46 (by kernel_rfl) (by kernel_rfl) _ _ #[.pointer (some ⟨b15, 0, none⟩)] rfl (by kernel_rfl) ?_
    refine (unexp_as s b15 y0 A5 n5 c5 t5 wa ⟨Fv3_15.out, HTS.out, HCH.out, HTK.out, HOK.out⟩).mono ?_
    rintro e W1_35 ⟨rfl, ⟨A_2, n_2, c_2, t_2, hpr⟩, hfc⟩
    have YFx0 : W1_35.heap[w.heap.size]? = some (.cells #[.int .i64 0, .int .i64 0, .int .i64 0, .slice none 0 0] 24 (0, 0)) := hfc.far _ _ N1_0.out N1_0.out Fx0.out
    have YFv8_6 : W1_35.heap[b6]? = some (.cells #[.int .i64 (kd : Int), .int .i64 0, .int .i64 0, .slice none 0 0] 24 (0, 0)) := hfc.far _ _ (Ne.symm N6_1.out) (Ne.symm N6_1.out) Fv8_6.out
    have YHBW : BW w W1_35 := BW.farC HBW.out G15.out G15.out hfc
    have hb := farc_bel hV0 B0.out hfc
    have hbr := hb
    clear B0
    have B0 := zh hbr
    clear hbr
    clear hb
    clear Fx0
    have Fx0 : Hid (W1_35.heap[w.heap.size]? = some (.cells #[.int .i64 0, .int .i64 0, .int .i64 0, .slice none 0 0] 24 (0, 0))) := zh YFx0
    clear YFx0
    clear Fv8_6
    have Fv8_6 : Hid (W1_35.heap[b6]? = some (.cells #[.int .i64 (kd : Int), .int .i64 0, .int .i64 0, .slice none 0 0] 24 (0, 0))) := zh YFv8_6
    clear YFv8_6
    clear HBW
    have HBW : Hid (BW w W1_35) := zh YHBW
    clear YHBW
    have Gv36 : Hid (V.heap.size ≤ w.heap.size) := zh (by omega)
    have Lt37 : Hid (w.heap.size < W1_35.heap.size) := zh (xp_lt Fx0.out)
    have Gv38 : Hid (V.heap.size ≤ b6) := zh (by omega)
    have Lt39 : Hid (b6 < W1_35.heap.size) := zh (xp_lt Fv8_6.out)
    have hln_2 := hpr.tt.sg.len
    have hcp_2 := hpr.tt.sg.cap
    have htp_2 := hpr.tt.sg.top
    have hps_2 := hpr.ch.pos
    try clear HTS
    have HTS := zh hpr.tt 
    try clear HCH
    have HCH := zh hpr.ch 
    try clear HTK
    have HTK := zh hpr.tk 
    try clear HOK
    have HOK := zh hpr.ok 
    clear Fv3_15
    have Fv3_15 : Hid (W1_35.heap[b15]? = some (.cells #[.slice A_2 n_2 c_2, .int .i64 ((Qu.unT y0).o : Int), .int .i64 ((Qu.unT y0).e : Int)] 79 (0, 0))) := zh (hpr.row)
    have Gv40 : Hid (V.heap.size ≤ b15) := zh (by omega)
    have Lt41 : Hid (b15 < W1_35.heap.size) := zh (xp_lt Fv3_15.out)
    clear hfc 
    refine ⟨_, rfl, ?_⟩
    simp only [Act.put, zA]
    refine wpList_nil ?_
    have hS0 := Fv3_15.out
    go_upto_region 11 with fail
    try simp only [List.append_eq, List.cons_append, List.nil_append]
    refine wp_ordT (fun W => W.heap[b15]? = some (.cells #[.slice A_2 n_2 c_2, .int .i64 ((Qu.unT y0).o : Int), .int .i64 ((Qu.unT y0).e : Int)] 79 (0, 0))) (.q 0 (.q 1 (.q 2 (.q 3 (.q 4 (.q 5 (.q 6 (.q 7 (.q 8 (.one 9 (.q 10 (.q 11 .nil)))))))))))) (by kernel_rfl) (by kernel_rfl) (fun _ _ dt _ _ h => by first | exact h.elim | (cases dt <;> exact h)) (by kernel_rfl) (by kernel_rfl) hS0 ?_
    have hb : Below W1_35.heap.size W1_35 W1_35.drew := (Below.refl _ _).drew
    generalize W1_35.drew = V2 at hb ⊢
    have B1 := zh hb
    clear hb
    refine wpOT_q (.agg #[.int .i64 0, .int .i64 0, .int .i64 0, .slice none 0 0]) rfl (by kernel_rfl) (fun v hW => (by unfold execOp; go_simp <;> rfl)) ?_
    simp only [ptr, Act.put, zA]
    refine wpOT_q (.pointer (some ⟨b15, 0, none⟩)) rfl (by kernel_rfl) (fun v hW => rfl) ?_
    simp only [ptr, Act.put, zA]
    refine wpOT_q (.pointer (some ⟨b15, 0, none⟩)) rfl (by kernel_rfl) (fun v hW => (xo_nil _ rfl rfl)) ?_
    simp only [ptr, Act.put, zA]
    refine wpOT_q (.pointer (some ⟨b15, 1, none⟩)) rfl (by kernel_rfl) (fun v hW => (xo_fld0 1 b15 1 (by kernel_rfl) rfl rfl)) ?_
    simp only [ptr, Act.put, zA]
    refine wpOT_q (.int .i64 ((Qu.unT y0).o : Int)) rfl (by kernel_rfl) (fun v hW => (xo_load1 ⟨b15, 1, none⟩ _ (cells_at hW 1 rfl) Tryd.underlying3 rfl rfl rfl)) ?_
    simp only [ptr, Act.put, zA]
    refine wpOT_q (.pointer (some ⟨b15, 0, none⟩)) rfl (by kernel_rfl) (fun v hW => rfl) ?_
    simp only [ptr, Act.put, zA]
    refine wpOT_q (.pointer (some ⟨b15, 0, none⟩)) rfl (by kernel_rfl) (fun v hW => (xo_nil _ rfl rfl)) ?_
    simp only [ptr, Act.put, zA]
    refine wpOT_q (.pointer (some ⟨b15, 2, none⟩)) rfl (by kernel_rfl) (fun v hW => (xo_fld0 2 b15 2 (by kernel_rfl) rfl rfl)) ?_
    simp only [ptr, Act.put, zA]
    refine wpOT_q (.int .i64 ((Qu.unT y0).e : Int)) rfl (by kernel_rfl) (fun v hW => (xo_load1 ⟨b15, 2, none⟩ _ (cells_at hW 2 rfl) Tryd.underlying35 rfl rfl rfl)) ?_
    simp only [ptr, Act.put, zA]
    refine wpOT_one rfl (by kernel_rfl) ?_
    refine hOp_storeW w.heap.size #[.int .i64 0, .int .i64 0, .int .i64 0, .slice none 0 0] #[.int .i64 0, .int .i64 0, .int .i64 0, .slice none 0 0] 24 (heap_keep Fx0.out B1.out) (xo_storeW w.heap.size #[.int .i64 0, .int .i64 0, .int .i64 0, .slice none 0 0] #[.int .i64 0, .int .i64 0, .int .i64 0, .slice none 0 0] (heap_keep Fx0.out B1.out) (by kernel_rfl) rfl (by simp [Value.oneCell']) rfl rfl rfl) ?_
    intro X2_42 h1 hfar hbel hsz
    have YHBW : BW w X2_42 := BW.store (HBW.out.keep B1.out) G2.out hbel
    have YHTS : TS X2_42 A_2 n_2 c_2 t_2 := TS.far (HTS.out.keep B1.out) (heap_keep Fx0.out B1.out) (by decide) hfar
    have YFv3_15 : X2_42.heap[b15]? = some (.cells #[.slice A_2 n_2 c_2, .int .i64 ((Qu.unT y0).o : Int), .int .i64 ((Qu.unT y0).e : Int)] 79 (0, 0)) := hfar _ _ (Ne.symm N1_0.out) (heap_keep Fv3_15.out B1.out)
    have YFv8_6 : X2_42.heap[b6]? = some (.cells #[.int .i64 (kd : Int), .int .i64 0, .int .i64 0, .slice none 0 0] 24 (0, 0)) := hfar _ _ (Ne.symm N5_0.out) (heap_keep Fv8_6.out B1.out)
    -- drops HCH
    -- drops HTK
    -- drops HOK
    have C0_2 := zb B0 B1
    have hbr := hbel _ _ Gv36.out C0_2.out
    clear B0
    have B0 := zh hbr
    clear hbr
    clear Fv3_15
    have Fv3_15 : Hid (X2_42.heap[b15]? = some (.cells #[.slice A_2 n_2 c_2, .int .i64 ((Qu.unT y0).o : Int), .int .i64 ((Qu.unT y0).e : Int)] 79 (0, 0))) := zh YFv3_15
    clear YFv3_15
    clear Fv8_6
    have Fv8_6 : Hid (X2_42.heap[b6]? = some (.cells #[.int .i64 (kd : Int), .int .i64 0, .int .i64 0, .slice none 0 0] 24 (0, 0))) := zh YFv8_6
    clear YFv8_6
    clear HBW
    have HBW := zh YHBW
    clear YHBW
    clear HTS
    have HTS := zh YHTS
    clear YHTS
    clear Fx0
    have Fx0 : Hid (X2_42.heap[w.heap.size]? = some (.cells #[.int .i64 0, .int .i64 0, .int .i64 0, .slice none 0 0] 24 (0, 0))) := zh (h1)
    have HszX2_42 := zh hsz
    clear h1 hfar hbel hsz
    simp only [ptr, Act.put, zA]
    refine ⟨Fv3_15.out, ?_⟩
    try simp only [ptr, Act.put, zA]
    refine wpOT_q (.int .i64 ((Qu.unT y0).o : Int)) rfl (by kernel_rfl) (fun v hW => rfl) ?_
    simp only [ptr, Act.put, zA]
    refine wpOT_q (.int .i64 ((Qu.unT y0).e : Int)) rfl (by kernel_rfl) (fun v hW => rfl) ?_
    simp only [ptr, Act.put, zA]
    refine wpOT_nil ?_
    have hx := HR.out
    rw [show Qu.refP s = (Qu.zeroQ, (Qu.unT y0).o, (Qu.unT y0).e) by unfold Qu.refP; rw [if_neg (by rw [HN.out]; exact hlong), HX0.out, HTR.out, HRO.out.1, HRO.out.2]] at hx
    injection hx with hq hx2
    injection hx2 with hof her
    subst hq hof her
    have hfo := fsOwn_nil (w := X2_42) (base := w.heap.size)
    have hbw := HBW.out.b
    go_wp2_with fail
    refine bodyPost_ret (v := .tuple #[.agg #[.int .i64 0, .int .i64 0, .int .i64 0, .slice none 0 0], .int .i64 ((Qu.unT y0).o : Int), .int .i64 ((Qu.unT y0).e : Int)]) ?_ rfl ⟨_, _, _, rfl, hfo, hbw⟩
    exact results_row_tmp2 rfl _ _ w.heap.size 24 _ _ _ _ rfl rfl rfl Fx0.out Tryd.underlying24 rfl (by kernel_rfl)
   ·have hro : ro = some kd := by
         cases hr0 : ro with
         | none => have h2 := HKD.out; rw [hr0] at h2; exact absurd h2.symm hkd0
         | some j => have h2 := HKD.out; rw [hr0] at h2; exact congrArg _ h2
    have hk17 := HKR.out kd hro
    have HRO := zh hro
    clear hro
    have HREF : Hid (Qu.refP s = Qu.restT s kd y0) := zh (by unfold Qu.refP; rw [if_neg (by rw [HN.out]; exact hlong), HX0.out, HTR.out, HRO.out])
    go_upto_region 9 with fail
    refine wp_region_lit ?_
    refine zr (.pointer (some ⟨b6, 0, none⟩)) wa (xo_fld0 0 b6 0 (by kernel_rfl) rfl rfl) ?_
    simp only [Act.put, zA]
    refine zr (.int .i64 (kd : Int)) wa (xo_load1 ⟨b6, 0, none⟩ _ (cells_at Fv8_6.out 0 rfl) Tryd.underlying3 rfl rfl rfl) ?_
    simp only [Act.put, zA]
    refine zr (.bool false) wa (xo_eqlF .i64 (kd : Int) 0 (by omega) rfl rfl rfl) ?_
    simp only [Act.put, zA]
    refine wpList_nil ?_
    obtain ⟨cb, hcb⟩ : ∃ cb, Qu.hasC kd = cb := ⟨_, rfl⟩
    have HCB := zh hcb
    clear hcb
    obtain ⟨mk, hmk⟩ : ∃ mk, Qu.maxK kd = mk := ⟨_, rfl⟩
    have HMK := zh hmk
    clear hmk
    have lmk : mk ≤ 65536 := by rw [← HMK.out]; exact Qu.maxK_le _
    obtain ⟨⟨cv, y1⟩, h0⟩ : ∃ p, Qu.colS s kd y0 = p := ⟨_, rfl⟩
    have HC1 := zh h0
    clear h0
    obtain ⟨⟨kv, y2⟩, h0⟩ : ∃ p, Qu.numS s kd y1 = p := ⟨_, rfl⟩
    have HC2 := zh h0
    clear h0
    go_upto_region 12 with fail
    refine wp_region_lit ?_
    refine zr (.pointer (some ⟨b6, 0, none⟩)) wa (xo_fld0 0 b6 0 (by kernel_rfl) rfl rfl) ?_
    simp only [Act.put, zA]
    refine zr (.int .i64 (kd : Int)) wa (xo_load1 ⟨b6, 0, none⟩ _ (cells_at Fv8_6.out 0 rfl) Tryd.underlying3 rfl rfl rfl) ?_
    simp only [Act.put, zA]
    refine wpList_call (by kernel_rfl) 32 Tryd.func32 (by kernel_rfl) (by kernel_rfl) _ _ #[.int .i64 (kd : Int)] rfl (by kernel_rfl) ?_
    refine (rhasC_as kd cb HCB.out wa).mono ?_
    rintro e W1 ⟨rfl, hw1⟩
    rw [hw1]
    clear hw1 W1
    refine ⟨_, rfl, ?_⟩
    simp only [Act.put, zA]
    refine wpList_nil ?_
    go_upto_if 48 with fail
    go_cut [] from 46 to 51 (fun wx => (∃ A5 n5 c5 t5, PR wx b15 s y1 A5 n5 c5 t5) ∧ wx.heap[w.heap.size]? = some (.cells #[.int .i64 0, .int .i64 0, .int .i64 0, .slice none 0 0] 24 (0, 0)) ∧ wx.heap[b6]? = some (.cells #[.int .i64 (kd : Int), .int .i64 (cv : Int), .int .i64 0, .slice none 0 0] 24 (0, 0)) ∧ BW w wx ∧ Below V.heap.size V wx)
    case first =>
     cases cb with
     | true =>
      have HCX : Hid (Qu.colT s y0 = (cv, y1)) := zh (by rw [← HC1.out]; unfold Qu.colS; rw [if_pos HCB.out])
      go_upto_region 13 with fail
      refine wp_region_lit ?_
      refine zr (.pointer (some ⟨b15, 0, none⟩)) wa rfl ?_
      simp only [Act.put, zA]
      refine wpList_call (by kernel_rfl) 47 Tryd.func47 (by kernel_rfl) (by kernel_rfl) _ _ #[.pointer (some ⟨b15, 0, none⟩)] rfl (by kernel_rfl) ?_
      refine (rcolumn_eq s b15 y0 A5 n5 c5 t5 wa ⟨Fv3_15.out, HTS.out, HCH.out, HTK.out, HOK.out⟩ cv y1 HCX.out).mono ?_
      rintro e W1_35 ⟨rfl, ⟨A_3, n_3, c_3, t_3, hpr⟩, hfc⟩
      have YFx0 : W1_35.heap[w.heap.size]? = some (.cells #[.int .i64 0, .int .i64 0, .int .i64 0, .slice none 0 0] 24 (0, 0)) := hfc.far _ _ N1_0.out N1_0.out Fx0.out
      have YFv8_6 : W1_35.heap[b6]? = some (.cells #[.int .i64 (kd : Int), .int .i64 0, .int .i64 0, .slice none 0 0] 24 (0, 0)) := hfc.far _ _ (Ne.symm N6_1.out) (Ne.symm N6_1.out) Fv8_6.out
      have YHBW : BW w W1_35 := BW.farC HBW.out G15.out G15.out hfc
      have hb := farc_bel hV0 B0.out hfc
      have hbr := hb
      clear B0
      have B0 := zh hbr
      clear hbr
      clear hb
      clear Fx0
      have Fx0 : Hid (W1_35.heap[w.heap.size]? = some (.cells #[.int .i64 0, .int .i64 0, .int .i64 0, .slice none 0 0] 24 (0, 0))) := zh YFx0
      clear YFx0
      clear Fv8_6
      have Fv8_6 : Hid (W1_35.heap[b6]? = some (.cells #[.int .i64 (kd : Int), .int .i64 0, .int .i64 0, .slice none 0 0] 24 (0, 0))) := zh YFv8_6
      clear YFv8_6
      clear HBW
      have HBW : Hid (BW w W1_35) := zh YHBW
      clear YHBW
      have Gv36 : Hid (V.heap.size ≤ w.heap.size) := zh (by omega)
      have Lt37 : Hid (w.heap.size < W1_35.heap.size) := zh (xp_lt Fx0.out)
      have Gv38 : Hid (V.heap.size ≤ b6) := zh (by omega)
      have Lt39 : Hid (b6 < W1_35.heap.size) := zh (xp_lt Fv8_6.out)
      have hln_3 := hpr.tt.sg.len
      have hcp_3 := hpr.tt.sg.cap
      have htp_3 := hpr.tt.sg.top
      have hps_3 := hpr.ch.pos
      try clear HTS
      have HTS := zh hpr.tt 
      try clear HCH
      have HCH := zh hpr.ch 
      try clear HTK
      have HTK := zh hpr.tk 
      try clear HOK
      have HOK := zh hpr.ok 
      clear Fv3_15
      have Fv3_15 : Hid (W1_35.heap[b15]? = some (.cells #[.slice A_3 n_3 c_3, .int .i64 (y1.o : Int), .int .i64 (y1.e : Int)] 79 (0, 0))) := zh (hpr.row)
      have Gv40 : Hid (V.heap.size ≤ b15) := zh (by omega)
      have Lt41 : Hid (b15 < W1_35.heap.size) := zh (xp_lt Fv3_15.out)
      clear hfc 
      refine ⟨_, rfl, ?_⟩
      simp only [Act.put, zA]
      refine zr (.pointer (some ⟨b6, 1, none⟩)) W1_35 (xo_fld0 1 b6 1 (by kernel_rfl) rfl rfl) ?_
      simp only [Act.put, zA]
      refine wpList_store1 b6 1 #[.int .i64 (kd : Int), .int .i64 0, .int .i64 0, .slice none 0 0] (.int .i64 (cv : Int)) 24 (by kernel_rfl) Fv8_6.out (xo_store1 b6 1 #[.int .i64 (kd : Int), .int .i64 0, .int .i64 0, .slice none 0 0] _ (.int .i64 (cv : Int)) Fv8_6.out rfl (by kernel_rfl) rfl rfl rfl rfl) ?_
      intro X1_42 h1 hfar hbel hsz
      have YHBW : BW w X1_42 := BW.store HBW.out G6.out hbel
      have YHTS : TS X1_42 A_3 n_3 c_3 t_3 := TS.far HTS.out Fv8_6.out (by decide) hfar
      have YFx0 : X1_42.heap[w.heap.size]? = some (.cells #[.int .i64 0, .int .i64 0, .int .i64 0, .slice none 0 0] 24 (0, 0)) := hfar _ _ N5_0.out Fx0.out
      have YFv3_15 : X1_42.heap[b15]? = some (.cells #[.slice A_3 n_3 c_3, .int .i64 (y1.o : Int), .int .i64 (y1.e : Int)] 79 (0, 0)) := hfar _ _ N6_1.out Fv3_15.out
      -- drops HCH
      -- drops HTK
      -- drops HOK
      have hbr := hbel _ _ Gv38.out B0.out
      clear B0
      have B0 := zh hbr
      clear hbr
      clear Fx0
      have Fx0 : Hid (X1_42.heap[w.heap.size]? = some (.cells #[.int .i64 0, .int .i64 0, .int .i64 0, .slice none 0 0] 24 (0, 0))) := zh YFx0
      clear YFx0
      clear Fv3_15
      have Fv3_15 : Hid (X1_42.heap[b15]? = some (.cells #[.slice A_3 n_3 c_3, .int .i64 (y1.o : Int), .int .i64 (y1.e : Int)] 79 (0, 0))) := zh YFv3_15
      clear YFv3_15
      clear HBW
      have HBW := zh YHBW
      clear YHBW
      clear HTS
      have HTS := zh YHTS
      clear YHTS
      clear Fv8_6
      have Fv8_6 : Hid (X1_42.heap[b6]? = some (.cells #[.int .i64 (kd : Int), .int .i64 (cv : Int), .int .i64 0, .slice none 0 0] 24 (0, 0))) := zh (h1)
      have HszX1_42 := zh hsz
      clear h1 hfar hbel hsz
      simp only [ptr, Act.put, zA]
      refine wpList_nil ?_
      have m1 : PR X1_42 b15 s y1 A_3 n_3 c_3 t_3 := ⟨Fv3_15.out, HTS.out, HCH.out, HTK.out, HOK.out⟩
      have m2 := Fx0.out
      have m6 := Fv8_6.out
      have m3 := HBW.out
      have m4 := B0.out
      go_wp2_with fail
      go_meet
      case rel => exact ⟨⟨_, _, _, _, m1⟩, m2, m6, m3, m4⟩
     | false =>
      have e0 : (0, y0) = (cv, y1) := by rw [← HC1.out]; unfold Qu.colS; rw [if_neg (by rw [HCB.out]; decide)]
      injection e0 with e1 e2
      subst e1 e2
      have m1 : PR wa b15 s y0 A5 n5 c5 t5 := ⟨Fv3_15.out, HTS.out, HCH.out, HTK.out, HOK.out⟩
      have m2 := Fx0.out
      have m6 := Fv8_6.out
      have m3 := HBW.out
      have m4 := B0.out
      go_wp2_with fail
      go_meet
      case rel => exact ⟨⟨_, _, _, _, m1⟩, m2, m6, m3, m4⟩
    case rest =>
     obtain ⟨wa45, rfl⟩ : ∃ W, W = wc := ⟨_, rfl⟩
     obtain ⟨⟨A45, n45, c45, t45, hpr⟩, h2, h6, hbw, hbb⟩ := hcut
     clear B0 HBW HTS HCH
     try clear B0
     have B0 := zh hbb
     try clear HBW
     have HBW := zh hbw
     try clear Fx0
     have Fx0 := zh h2
     try clear Fv8_6
     have Fv8_6 := zh h6
     try clear Fv3_15
     have Fv3_15 := zh hpr.row
     have Gv46 : Hid (V.heap.size ≤ w.heap.size) := zh (by omega)
     have Lt47 : Hid (w.heap.size < wa45.heap.size) := zh (xp_lt Fx0.out)
     have Gv48 : Hid (V.heap.size ≤ b15) := zh (by omega)
     have Lt49 : Hid (b15 < wa45.heap.size) := zh (xp_lt Fv3_15.out)
     have Gv50 : Hid (V.heap.size ≤ b6) := zh (by omega)
     have Lt51 : Hid (b6 < wa45.heap.size) := zh (xp_lt Fv8_6.out)
     try clear Fv3_15
     have Fv3_15 := zh hpr.row
     try clear HTS
     have HTS := zh hpr.tt
     try clear HCH
     have HCH := zh hpr.ch
     try clear HTK
     have HTK := zh hpr.tk
     try clear HOK
     have HOK := zh hpr.ok
     have hln_52 := hpr.tt.sg.len
     have hcp_52 := hpr.tt.sg.cap
     have htp_52 := hpr.tt.sg.top
     have hps_52 := hpr.ch.pos
     clear hbb hbw h2 h6 hpr
     go_upto_region 14 with fail
     refine wp_region_lit ?_
     refine zr (.pointer (some ⟨b6, 0, none⟩)) wa45 (xo_fld0 0 b6 0 (by kernel_rfl) rfl rfl) ?_
     simp only [Act.put, zA]
     refine zr (.int .i64 (kd : Int)) wa45 (xo_load1 ⟨b6, 0, none⟩ _ (cells_at Fv8_6.out 0 rfl) Tryd.underlying3 rfl rfl rfl) ?_
     simp only [Act.put, zA]
     refine wpList_call (by kernel_rfl) 33 Tryd.func33 (by kernel_rfl) (by kernel_rfl) _ _ #[.int .i64 (kd : Int)] rfl (by kernel_rfl) ?_
     refine (rmaxK_as kd mk HMK.out wa45).mono ?_
     rintro e W1 ⟨rfl, hw1⟩
     rw [hw1]
     clear hw1 W1
     refine ⟨_, rfl, ?_⟩
     simp only [Act.put, zA]
     refine zr (.bool (decide (0 < mk))) wa45 (xo_cmp .gtr .i64 (mk : Int) 0 (decide (0 < mk)) (.inr (.inr (.inr (.inr (.inl ⟨rfl, (by rw [decide_eq_decide]; omega)⟩))))) rfl rfl rfl) ?_
     simp only [Act.put, zA]
     refine wpList_nil ?_
     go_upto_if 55 with fail
     go_cut [] from 52 to 61 (fun wx => (∃ A5 n5 c5 t5, PR wx b15 s y2 A5 n5 c5 t5) ∧ wx.heap[w.heap.size]? = some (.cells #[.int .i64 0, .int .i64 0, .int .i64 0, .slice none 0 0] 24 (0, 0)) ∧ wx.heap[b6]? = some (.cells #[.int .i64 (kd : Int), .int .i64 (cv : Int), .int .i64 (kv : Int), .slice none 0 0] 24 (0, 0)) ∧ BW w wx ∧ Below V.heap.size V wx)
     case first =>
      by_cases hmp : 0 < mk
      ·have hd : decide (0 < mk) = true := decide_eq_true hmp
       have HNX : Hid (Qu.numT s 1 mk y1 = (kv, y2)) := zh (by rw [← HC2.out]; unfold Qu.numS; rw [HMK.out, if_pos hmp])
       go_upto_region 15 with fail
       refine wp_region_lit ?_
       refine zr (.pointer (some ⟨b15, 0, none⟩)) wa45 rfl ?_
       simp only [Act.put, zA]
       refine zr (.pointer (some ⟨b6, 0, none⟩)) wa45 (xo_fld0 0 b6 0 (by kernel_rfl) rfl rfl) ?_
       simp only [Act.put, zA]
       refine zr (.int .i64 (kd : Int)) wa45 (xo_load1 ⟨b6, 0, none⟩ _ (cells_at Fv8_6.out 0 rfl) Tryd.underlying3 rfl rfl rfl) ?_
       simp only [Act.put, zA]
       refine wpList_call (by kernel_rfl) 33 Tryd.func33 (by kernel_rfl) (by kernel_rfl) _ _ #[.int .i64 (kd : Int)] rfl (by kernel_rfl) ?_
       refine (rmaxK_as kd mk HMK.out wa45).mono ?_
       rintro e W1 ⟨rfl, hw1⟩
       rw [hw1]
       clear hw1 W1
       refine ⟨_, rfl, ?_⟩
       simp only [Act.put, zA]
       refine wpList_call (by kernel_rfl) 48 Tryd.func48 (by kernel_rfl) (by kernel_rfl) _ _ #[.pointer (some ⟨b15, 0, none⟩), .int .i64 1, .int .i64 (mk : Int)] rfl (by kernel_rfl) ?_
       refine (rnumber_eq s b15 y1 A45 n45 c45 t45 wa45 ⟨Fv3_15.out, HTS.out, HCH.out, HTK.out, HOK.out⟩ HS4.out 1 mk (by omega) (by omega) kv y2 HNX.out).mono ?_
       rintro e W1_53 ⟨rfl, ⟨A_4, n_4, c_4, t_4, hpr⟩, hfc⟩
       have YFx0 : W1_53.heap[w.heap.size]? = some (.cells #[.int .i64 0, .int .i64 0, .int .i64 0, .slice none 0 0] 24 (0, 0)) := hfc.far _ _ N1_0.out N1_0.out Fx0.out
       have YFv8_6 : W1_53.heap[b6]? = some (.cells #[.int .i64 (kd : Int), .int .i64 (cv : Int), .int .i64 0, .slice none 0 0] 24 (0, 0)) := hfc.far _ _ (Ne.symm N6_1.out) (Ne.symm N6_1.out) Fv8_6.out
       have YHBW : BW w W1_53 := BW.farC HBW.out G15.out G15.out hfc
       have hb := farc_bel hV0 B0.out hfc
       have hbr := hb
       clear B0
       have B0 := zh hbr
       clear hbr
       clear hb
       clear Fx0
       have Fx0 : Hid (W1_53.heap[w.heap.size]? = some (.cells #[.int .i64 0, .int .i64 0, .int .i64 0, .slice none 0 0] 24 (0, 0))) := zh YFx0
       clear YFx0
       clear Fv8_6
       have Fv8_6 : Hid (W1_53.heap[b6]? = some (.cells #[.int .i64 (kd : Int), .int .i64 (cv : Int), .int .i64 0, .slice none 0 0] 24 (0, 0))) := zh YFv8_6
       clear YFv8_6
       clear HBW
       have HBW : Hid (BW w W1_53) := zh YHBW
       clear YHBW
       have Gv54 : Hid (V.heap.size ≤ w.heap.size) := zh (by omega)
       have Lt55 : Hid (w.heap.size < W1_53.heap.size) := zh (xp_lt Fx0.out)
       have Gv56 : Hid (V.heap.size ≤ b6) := zh (by omega)
       have Lt57 : Hid (b6 < W1_53.heap.size) := zh (xp_lt Fv8_6.out)
       have hln_4 := hpr.tt.sg.len
       have hcp_4 := hpr.tt.sg.cap
       have htp_4 := hpr.tt.sg.top
       have hps_4 := hpr.ch.pos
       try clear HTS
       have HTS := zh hpr.tt 
       try clear HCH
       have HCH := zh hpr.ch 
       try clear HTK
       have HTK := zh hpr.tk 
       try clear HOK
       have HOK := zh hpr.ok 
       clear Fv3_15
       have Fv3_15 : Hid (W1_53.heap[b15]? = some (.cells #[.slice A_4 n_4 c_4, .int .i64 (y2.o : Int), .int .i64 (y2.e : Int)] 79 (0, 0))) := zh (hpr.row)
       have Gv58 : Hid (V.heap.size ≤ b15) := zh (by omega)
       have Lt59 : Hid (b15 < W1_53.heap.size) := zh (xp_lt Fv3_15.out)
       clear hfc 
       refine ⟨_, rfl, ?_⟩
       simp only [Act.put, zA]
       refine zr (.pointer (some ⟨b6, 2, none⟩)) W1_53 (xo_fld0 2 b6 2 (by kernel_rfl) rfl rfl) ?_
       simp only [Act.put, zA]
       refine wpList_store1 b6 2 #[.int .i64 (kd : Int), .int .i64 (cv : Int), .int .i64 0, .slice none 0 0] (.int .i64 (kv : Int)) 24 (by kernel_rfl) Fv8_6.out (xo_store1 b6 2 #[.int .i64 (kd : Int), .int .i64 (cv : Int), .int .i64 0, .slice none 0 0] _ (.int .i64 (kv : Int)) Fv8_6.out rfl (by kernel_rfl) rfl rfl rfl rfl) ?_
       intro X1_60 h1 hfar hbel hsz
       have YHBW : BW w X1_60 := BW.store HBW.out G6.out hbel
       have YHTS : TS X1_60 A_4 n_4 c_4 t_4 := TS.far HTS.out Fv8_6.out (by decide) hfar
       have YFx0 : X1_60.heap[w.heap.size]? = some (.cells #[.int .i64 0, .int .i64 0, .int .i64 0, .slice none 0 0] 24 (0, 0)) := hfar _ _ N5_0.out Fx0.out
       have YFv3_15 : X1_60.heap[b15]? = some (.cells #[.slice A_4 n_4 c_4, .int .i64 (y2.o : Int), .int .i64 (y2.e : Int)] 79 (0, 0)) := hfar _ _ N6_1.out Fv3_15.out
       -- drops HCH
       -- drops HTK
       -- drops HOK
       have hbr := hbel _ _ Gv56.out B0.out
       clear B0
       have B0 := zh hbr
       clear hbr
       clear Fx0
       have Fx0 : Hid (X1_60.heap[w.heap.size]? = some (.cells #[.int .i64 0, .int .i64 0, .int .i64 0, .slice none 0 0] 24 (0, 0))) := zh YFx0
       clear YFx0
       clear Fv3_15
       have Fv3_15 : Hid (X1_60.heap[b15]? = some (.cells #[.slice A_4 n_4 c_4, .int .i64 (y2.o : Int), .int .i64 (y2.e : Int)] 79 (0, 0))) := zh YFv3_15
       clear YFv3_15
       clear HBW
       have HBW := zh YHBW
       clear YHBW
       clear HTS
       have HTS := zh YHTS
       clear YHTS
       clear Fv8_6
       have Fv8_6 : Hid (X1_60.heap[b6]? = some (.cells #[.int .i64 (kd : Int), .int .i64 (cv : Int), .int .i64 (kv : Int), .slice none 0 0] 24 (0, 0))) := zh (h1)
       have HszX1_60 := zh hsz
       clear h1 hfar hbel hsz
       simp only [ptr, Act.put, zA]
       refine wpList_nil ?_
       have m1 : PR X1_60 b15 s y2 A_4 n_4 c_4 t_4 := ⟨Fv3_15.out, HTS.out, HCH.out, HTK.out, HOK.out⟩
       have m2 := Fx0.out
       have m6 := Fv8_6.out
       have m3 := HBW.out
       have m4 := B0.out
       go_wp2_with fail
       go_meet
       case rel => exact ⟨⟨_, _, _, _, m1⟩, m2, m6, m3, m4⟩
      ·have hd : decide (0 < mk) = false := decide_eq_false hmp
       have e0 : (0, y1) = (kv, y2) := by rw [← HC2.out]; unfold Qu.numS; rw [HMK.out, if_neg hmp]
       injection e0 with e1 e2
       subst e1 e2
       have m1 : PR wa45 b15 s y1 A45 n45 c45 t45 := ⟨Fv3_15.out, HTS.out, HCH.out, HTK.out, HOK.out⟩
       have m2 := Fx0.out
       have m6 := Fv8_6.out
       have m3 := HBW.out
       have m4 := B0.out
       go_wp2_with fail
       go_meet
       case rel => exact ⟨⟨_, _, _, _, m1⟩, m2, m6, m3, m4⟩
     case rest =>
      obtain ⟨wa63, rfl⟩ : ∃ W, W = wc := ⟨_, rfl⟩
      obtain ⟨⟨A63, n63, c63, t63, hpr⟩, h2, h6, hbw, hbb⟩ := hcut
      clear B0 HBW HTS HCH
      try clear B0
      have B0 := zh hbb
      try clear HBW
      have HBW := zh hbw
      try clear Fx0
      have Fx0 := zh h2
      try clear Fv8_6
      have Fv8_6 := zh h6
      try clear Fv3_15
      have Fv3_15 := zh hpr.row
      have Gv64 : Hid (V.heap.size ≤ w.heap.size) := zh (by omega)
      have Lt65 : Hid (w.heap.size < wa63.heap.size) := zh (xp_lt Fx0.out)
      have Gv66 : Hid (V.heap.size ≤ b15) := zh (by omega)
      have Lt67 : Hid (b15 < wa63.heap.size) := zh (xp_lt Fv3_15.out)
      have Gv68 : Hid (V.heap.size ≤ b6) := zh (by omega)
      have Lt69 : Hid (b6 < wa63.heap.size) := zh (xp_lt Fv8_6.out)
      try clear Fv3_15
      have Fv3_15 := zh hpr.row
      try clear HTS
      have HTS := zh hpr.tt
      try clear HCH
      have HCH := zh hpr.ch
      try clear HTK
      have HTK := zh hpr.tk
      try clear HOK
      have HOK := zh hpr.ok
      have hln_70 := hpr.tt.sg.len
      have hcp_70 := hpr.tt.sg.cap
      have htp_70 := hpr.tt.sg.top
      have hps_70 := hpr.ch.pos
      clear hbb hbw h2 h6 hpr
      obtain ⟨⟨l1, y3⟩, h0⟩ : ∃ p, Qu.filT s y2 = p := ⟨_, rfl⟩
      have HF1 := zh h0
      clear h0
      have HOWq : Hid (wa63.ownsRow w.heap.size 28 1 (.slice none 0 0) 0 (fl hdC [])) := zh own_nil
      have HIn : Hid (OwnsC wa63 46 w.heap.size [] []) := zh OwnsC.nil
      have hS0 := Fv8_6.out
      go_upto_region 16 with fail
      try simp only [List.append_eq, List.cons_append, List.nil_append]
      refine wp_ordMS (fun W => W.heap[b6]? = some (.cells #[.int .i64 (kd : Int), .int .i64 (cv : Int), .int .i64 (kv : Int), .slice none 0 0] 24 (0, 0))) 7 (.q 0 (.q 1 (.q 2 (.one 3 (.one 4 (.one 5 (.q 6 .nil))))))) (by kernel_rfl) (by kernel_rfl) (by kernel_rfl) (by kernel_rfl) (by kernel_rfl) (by kernel_rfl) (by kernel_rfl) hS0 ?_
      have hb : Below wa63.heap.size wa63 wa63.drew := (Below.refl _ _).drew
      generalize wa63.drew = V2 at hb ⊢
      have B1 := zh hb
      clear hb
      refine wpOT_q (.pointer (some ⟨b6, 3, none⟩)) rfl (by kernel_rfl) (fun v hW => (xo_fld0 3 b6 3 (by kernel_rfl) rfl rfl)) ?_
      simp only [ptr, Act.put, zA]
      refine wpOT_q (.slice none 0 0) rfl (by kernel_rfl) (fun v hW => (xo_load1 ⟨b6, 3, none⟩ _ (cells_at hW 3 rfl) Tryd.underlying22 rfl rfl rfl)) ?_
      simp only [ptr, Act.put, zA]
      refine wpOT_q (.pointer (some ⟨b15, 0, none⟩)) rfl (by kernel_rfl) (fun v hW => rfl) ?_
      simp only [ptr, Act.put, zA]
      refine wpOT_one rfl (by kernel_rfl) ?_
      have hsz_1f := zh (HBW.out.keep B1.out).b.size
      refine hOp_call 49 Tryd.func49 (by kernel_rfl) (by kernel_rfl) _ _ #[.pointer (some ⟨b15, 0, none⟩)] rfl (by kernel_rfl) ?_
      refine (rfilter_eq s b15 y2 A63 n63 c63 t63 V2 ⟨(heap_keep Fv3_15.out B1.out), (HTS.out.keep B1.out), HCH.out, HTK.out, HOK.out⟩ HS4.out l1 y3 HF1.out).mono ?_
      rintro e W2_71 ⟨vl, rfl, how, ⟨A_5, n_5, c_5, t_5, hpr⟩, hfc⟩
      have YFx0 : W2_71.heap[w.heap.size]? = some (.cells #[.int .i64 0, .int .i64 0, .int .i64 0, .slice none 0 0] 24 (0, 0)) := hfc.far _ _ N1_0.out N1_0.out (heap_keep Fx0.out B1.out)
      have YFv8_6 : W2_71.heap[b6]? = some (.cells #[.int .i64 (kd : Int), .int .i64 (cv : Int), .int .i64 (kv : Int), .slice none 0 0] 24 (0, 0)) := hfc.far _ _ (Ne.symm N6_1.out) (Ne.symm N6_1.out) (heap_keep Fv8_6.out B1.out)
      have YHOWq : W2_71.ownsRow w.heap.size 28 1 (.slice none 0 0) 0 (fl hdC ([])) := own_farP (own_keep HOWq.out B1.out) (heap_keep Fv3_15.out B1.out) (by decide) hfc
      have YHBW : BW w W2_71 := BW.farC (HBW.out.keep B1.out) G15.out G15.out hfc
      have YHIn : OwnsC W2_71 46 w.heap.size [] [] := OwnsC.farP (HIn.out.keep B1.out) (heap_keep Fv3_15.out B1.out) (by decide) hfc
      have C0_2 := zb B0 B1
      have hb := farc_bel hV0 C0_2.out hfc
      have hbr := hb
      clear B0
      have B0 := zh hbr
      clear hbr
      clear hb
      clear Fx0
      have Fx0 : Hid (W2_71.heap[w.heap.size]? = some (.cells #[.int .i64 0, .int .i64 0, .int .i64 0, .slice none 0 0] 24 (0, 0))) := zh YFx0
      clear YFx0
      clear Fv8_6
      have Fv8_6 : Hid (W2_71.heap[b6]? = some (.cells #[.int .i64 (kd : Int), .int .i64 (cv : Int), .int .i64 (kv : Int), .slice none 0 0] 24 (0, 0))) := zh YFv8_6
      clear YFv8_6
      clear HOWq
      have HOWq : Hid (W2_71.ownsRow w.heap.size 28 1 (.slice none 0 0) 0 (fl hdC ([]))) := zh YHOWq
      clear YHOWq
      clear HBW
      have HBW : Hid (BW w W2_71) := zh YHBW
      clear YHBW
      clear HIn
      have HIn : Hid (OwnsC W2_71 46 w.heap.size [] []) := zh YHIn
      clear YHIn
      have Gv72 : Hid (V.heap.size ≤ w.heap.size) := zh (by omega)
      have Lt73 : Hid (w.heap.size < W2_71.heap.size) := zh (xp_lt Fx0.out)
      have Gv74 : Hid (V.heap.size ≤ b6) := zh (by omega)
      have Lt75 : Hid (b6 < W2_71.heap.size) := zh (xp_lt Fv8_6.out)
      have hln_5 := hpr.tt.sg.len
      have hcp_5 := hpr.tt.sg.cap
      have htp_5 := hpr.tt.sg.top
      have hps_5 := hpr.ch.pos
      have hnw := own_mono how hsz_1f.out
      obtain ⟨A1f, c1f, rfl⟩ := own_form hnw
      have hlw := hnw.1
      clear how hlw
      try clear HTS
      have HTS := zh hpr.tt 
      try clear HCH
      have HCH := zh hpr.ch 
      try clear HTK
      have HTK := zh hpr.tk 
      try clear HOK
      have HOK := zh hpr.ok 
      try clear HNw
      have HNw := zh hnw 
      clear Fv3_15
      have Fv3_15 : Hid (W2_71.heap[b15]? = some (.cells #[.slice A_5 n_5 c_5, .int .i64 (y3.o : Int), .int .i64 (y3.e : Int)] 79 (0, 0))) := zh (hpr.row)
      have Gv76 : Hid (V.heap.size ≤ b15) := zh (by omega)
      have Lt77 : Hid (b15 < W2_71.heap.size) := zh (xp_lt Fv3_15.out)
      clear hfc 
      refine ⟨_, rfl, Fv8_6.out, ?_⟩
      simp only [ptr, Act.put, zA]
      refine wpOT_one rfl (by kernel_rfl) ?_
      refine hOp_mk ([(Hd.mk A1f l1.length c1f)].flatMap hdC).toArray 28 1 1 (xg_lit (E := hdC) (bytes := 24) (.slice none 0 0) [.tmp 65] [(Hd.mk A1f l1.length c1f)] 1 Tryd.underlying22 (by kernel_rfl) rfl (by decide) (by decide) rfl rfl) ?_
      intro g66 V2 hge h0 hb
      have N78_0 : Hid (w.heap.size ≠ g66) := zh (xp_lt0 Fx0.out hge)
      have N79_1 : Hid (b15 ≠ g66) := zh (xp_lt0 Fv3_15.out hge)
      have N80_2 : Hid (b6 ≠ g66) := zh (xp_lt0 Fv8_6.out hge)
      have Ge81 : Hid (W2_71.heap.size ≤ g66) := zh hge
      have B1 := zh hb
      have Fv82_66 : Hid (RowG hdC V2 g66 28 ([(Hd.mk A1f l1.length c1f)])) := zh (h0)
      have Lt83 : Hid (g66 < V2.heap.size) := zh (xp_lt Fv82_66.out)
      clear hge h0 hb
      refine ⟨(heap_keep Fv8_6.out B1.out), ?_⟩
      simp only [ptr, Act.put, zA]
      refine wpOT_one rfl (by kernel_rfl) ?_
      refine hOp_app (size := 1) (.tmp 63) (.tmp 66) 22 rfl (.slice none 0 0) 24 Tryd.underlying22 (by kernel_rfl) rfl (by decide) rfl (own_keep HOWq.out B1.out) (some ⟨g66, 0, none⟩) 1 1 (fl hdC ([(Hd.mk A1f l1.length c1f)])) rfl (RowG.sg (n := 1) (c := 1) Fv82_66.out (show ([(Hd.mk A1f l1.length c1f)]).length = 1 from rfl) (Nat.le_refl _) (by omega)).src (by unfold maxLen; omega) (by omega) (HBW.out.keep B1.out).b.size ?_
      intro v67 X2_84 ho hg hloc
      have hb1 := own_below (own_keep HOWq.out B1.out) hg (HBW.out.keep B1.out).b.size
      have hox : X2_84.ownsRow w.heap.size 28 1 v67 1 (fl hdC ([(Hd.mk A1f l1.length c1f)])) := by first | exact ho | simpa using ho
      have YFx0 : X2_84.heap[w.heap.size]? = some (.cells #[.int .i64 0, .int .i64 0, .int .i64 0, .slice none 0 0] 24 (0, 0)) := own_rowkeep (own_keep HOWq.out B1.out) hg (heap_keep Fx0.out B1.out) (by decide)
      have YFv3_15 : X2_84.heap[b15]? = some (.cells #[.slice A_5 n_5 c_5, .int .i64 (y3.o : Int), .int .i64 (y3.e : Int)] 79 (0, 0)) := own_rowkeep (own_keep HOWq.out B1.out) hg (heap_keep Fv3_15.out B1.out) (by decide)
      have YFv8_6 : X2_84.heap[b6]? = some (.cells #[.int .i64 (kd : Int), .int .i64 (cv : Int), .int .i64 (kv : Int), .slice none 0 0] 24 (0, 0)) := own_rowkeep (own_keep HOWq.out B1.out) hg (heap_keep Fv8_6.out B1.out) (by decide)
      have YHBW : BW w X2_84 := BW.bel (HBW.out.keep B1.out) hb1
      have YHTS : TS X2_84 A_5 n_5 c_5 t_5 := TS.grown (HTS.out.keep B1.out) (own_keep HOWq.out B1.out) hg (by decide)
      have YHIn : OwnsC X2_84 46 w.heap.size [] [] := OwnsC.grown (HIn.out.keep B1.out) (own_keep HOWq.out B1.out) hg (by decide)
      have YHNw : X2_84.ownsRow w.heap.size 46 3 (.slice A1f l1.length c1f) l1.length (fl cdC l1) := own_growT (own_keep HNw.out B1.out) (own_keep HOWq.out B1.out) hg (by decide)
      have C0_2 := zb B0 B1
      have hbV := belV hV0 C0_2.out hb1
      have hbr := hbV
      clear B0
      have B0 := zh hbr
      clear hbr
      clear hbV
      clear Fx0
      have Fx0 : Hid (X2_84.heap[w.heap.size]? = some (.cells #[.int .i64 0, .int .i64 0, .int .i64 0, .slice none 0 0] 24 (0, 0))) := zh YFx0
      clear YFx0
      clear Fv3_15
      have Fv3_15 : Hid (X2_84.heap[b15]? = some (.cells #[.slice A_5 n_5 c_5, .int .i64 (y3.o : Int), .int .i64 (y3.e : Int)] 79 (0, 0))) := zh YFv3_15
      clear YFv3_15
      clear Fv8_6
      have Fv8_6 : Hid (X2_84.heap[b6]? = some (.cells #[.int .i64 (kd : Int), .int .i64 (cv : Int), .int .i64 (kv : Int), .slice none 0 0] 24 (0, 0))) := zh YFv8_6
      clear YFv8_6
      clear HBW
      have HBW : Hid (BW w X2_84) := zh YHBW
      clear YHBW
      clear HTS
      have HTS : Hid (TS X2_84 A_5 n_5 c_5 t_5) := zh YHTS
      clear YHTS
      clear HIn
      have HIn : Hid (OwnsC X2_84 46 w.heap.size [] []) := zh YHIn
      clear YHIn
      clear HNw
      have HNw : Hid (X2_84.ownsRow w.heap.size 46 3 (.slice A1f l1.length c1f) l1.length (fl cdC l1)) := zh YHNw
      clear YHNw
      have Gv85 : Hid (V.heap.size ≤ w.heap.size) := zh (by omega)
      have Lt86 : Hid (w.heap.size < X2_84.heap.size) := zh (xp_lt Fx0.out)
      have Gv87 : Hid (V.heap.size ≤ b15) := zh (by omega)
      have Lt88 : Hid (b15 < X2_84.heap.size) := zh (xp_lt Fv3_15.out)
      have Gv89 : Hid (V.heap.size ≤ b6) := zh (by omega)
      have Lt90 : Hid (b6 < X2_84.heap.size) := zh (xp_lt Fv8_6.out)
      have Ow67_91 := zh hox
      clear ho hox hb1 hg hloc
      obtain ⟨A92, c92, rfl⟩ := own_form Ow67_91.out
      refine ⟨Fv8_6.out, ?_⟩
      simp only [ptr, Act.put, zA]
      refine wpOT_q (.pointer (some ⟨b6, 3, none⟩)) rfl (by kernel_rfl) (fun v hW => (xo_fld0 3 b6 3 (by kernel_rfl) rfl rfl)) ?_
      simp only [ptr, Act.put, zA]
      refine wpOT_nil ?_
      have hfs := Fv8_6.out
      have hgb := Gv89.out
      have hbs := B0.out
      have hfar : ∀ k o, k ≠ b6 → X2_84.heap[k]? = some o → (X2_84.setRow b6 #[.int .i64 (kd : Int), .int .i64 (cv : Int), .int .i64 (kv : Int), .slice A92 1 c92]).heap[k]? = some o := fun k o hk h0 => heap_farRow h0 hk _
      have hbel : ∀ B v0, B ≤ b6 → Below B v0 X2_84 → Below B v0 (X2_84.setRow b6 #[.int .i64 (kd : Int), .int .i64 (cv : Int), .int .i64 (kv : Int), .slice A92 1 c92]) := fun B v0 h1 h2 => bel_setRow h2 h1 #[.int .i64 (kd : Int), .int .i64 (cv : Int), .int .i64 (kv : Int), .slice A92 1 c92]
      have YOw67_91 := own_farT Ow67_91.out hfs (by decide) hfar
      have YHBW := BW.store HBW.out G6.out hbel
      have YHTS := TS.far HTS.out Fv8_6.out (by decide) hfar
      have YHIn := OwnsC.farT HIn.out Fv8_6.out (by decide) hfar
      have YHNw := own_farT HNw.out Fv8_6.out (by decide) hfar
      have YFx0 : (X2_84.setRow b6 #[.int .i64 (kd : Int), .int .i64 (cv : Int), .int .i64 (kv : Int), .slice A92 1 c92]).heap[w.heap.size]? = some (.cells #[.int .i64 0, .int .i64 0, .int .i64 0, .slice none 0 0] 24 (0, 0)) := hfar _ _ N5_0.out Fx0.out
      have YFv3_15 : (X2_84.setRow b6 #[.int .i64 (kd : Int), .int .i64 (cv : Int), .int .i64 (kv : Int), .slice A92 1 c92]).heap[b15]? = some (.cells #[.slice A_5 n_5 c_5, .int .i64 (y3.o : Int), .int .i64 (y3.e : Int)] 79 (0, 0)) := hfar _ _ N6_1.out Fv3_15.out
      refine mOp_run0 _ rfl rfl (xo_storeM b6 3 #[.int .i64 (kd : Int), .int .i64 (cv : Int), .int .i64 (kv : Int), .slice none 0 0] #[.int .i64 (kd : Int), .int .i64 (cv : Int), .int .i64 (kv : Int), .slice A92 1 c92] [.slice A92 1 c92] hfs rfl (by simp) (by kernel_rfl) (by simp [Value.oneCell']) rfl rfl rfl) ?_
      try simp only [List.getElem_toArray, List.getElem_cons_succ, List.getElem_cons_zero, ptr, Act.put, zA]
      have hfn := setRow_heap X2_84 b6 _ #[.int .i64 (kd : Int), .int .i64 (cv : Int), .int .i64 (kv : Int), .slice A92 1 c92] _ _ hfs
      have hbn := bel_setRow hbs hgb #[.int .i64 (kd : Int), .int .i64 (cv : Int), .int .i64 (kv : Int), .slice A92 1 c92]
      clear hfar
      generalize X2_84.setRow b6 #[.int .i64 (kd : Int), .int .i64 (cv : Int), .int .i64 (kv : Int), .slice A92 1 c92] = X93 at *
      have hbr := hbn
      clear B0
      have B0 := zh hbr
      clear hbr
      clear Fx0
      have Fx0 := zh YFx0
      clear YFx0
      clear Fv3_15
      have Fv3_15 := zh YFv3_15
      clear YFv3_15
      clear Fv8_6
      have Fv8_6 : Hid (X93.heap[b6]? = some (.cells #[.int .i64 (kd : Int), .int .i64 (cv : Int), .int .i64 (kv : Int), .slice A92 1 c92] 24 (0, 0))) := zh hfn
      clear HBW
      have HBW : Hid (BW w X93) := zh YHBW
      clear YHBW
      clear HTS
      have HTS : Hid (TS X93 A_5 n_5 c_5 t_5) := zh YHTS
      clear YHTS
      clear HIn
      have HIn : Hid (OwnsC X93 46 w.heap.size [] []) := zh YHIn
      clear YHIn
      clear HNw
      have HNw : Hid (X93.ownsRow w.heap.size 46 3 (.slice A1f l1.length c1f) l1.length (fl cdC l1)) := zh YHNw
      clear YHNw
      clear Ow67_91
      have Ow67_91 : Hid (X93.ownsRow w.heap.size 28 1 (.slice A92 1 c92) 1 (fl hdC ([(Hd.mk A1f l1.length c1f)]))) := zh YOw67_91
      clear YOw67_91
      clear hbel
      clear hfs hgb hbs hfn hbn
      have hin0 := OwnsC.push HIn.out HNw.out rfl
      clear HIn HNw
      have HIn := zh hin0
      clear hin0
      by_cases h7 : kd = 7
      ·have H7 := zh h7
       clear h7
       go_upto_region 17 with fail
       refine wp_region_lit ?_
       refine zr (.pointer (some ⟨b6, 0, none⟩)) X93 (xo_fld0 0 b6 0 (by kernel_rfl) rfl rfl) ?_
       simp only [Act.put, zA]
       refine zr (.int .i64 (kd : Int)) X93 (xo_load1 ⟨b6, 0, none⟩ _ (cells_at Fv8_6.out 0 rfl) Tryd.underlying3 rfl rfl rfl) ?_
       simp only [Act.put, zA]
       refine zr (.bool true) X93 (xo_eqlT .i64 (kd : Int) 7 (by have := H7.out; omega) rfl rfl rfl) ?_
       simp only [Act.put, zA]
       refine wpList_nil ?_
       obtain ⟨y4, h0⟩ : ∃ p, Qu.expT s Qu.withN y3 = p := ⟨_, rfl⟩
       have HX4 := zh h0
       clear h0
       obtain ⟨⟨l2, y5⟩, h0⟩ : ∃ p, Qu.filT s y4 = p := ⟨_, rfl⟩
       have HF2 := zh h0
       clear h0
       go_upto_region 18 with fail
       refine wp_region_lit ?_
       refine zr (.pointer (some ⟨b15, 0, none⟩)) X93 rfl ?_
       simp only [Act.put, zA]
       refine wpList_call (by kernel_rfl) 50 Tryd.func50 (by kernel_rfl) (by kernel_rfl) _ _ #[.pointer (some ⟨b15, 0, none⟩), .string (sB ([119, 105, 116, 104]))] rfl (by kernel_rfl) ?_
       refine (rexpect_eq s b15 y3 A_5 n_5 c_5 t_5 X93 ⟨Fv3_15.out, HTS.out, HCH.out, HTK.out, HOK.out⟩ Qu.withN (List.cons_ne_nil _ _) y4 HX4.out).mono ?_
       rintro e W1_94 ⟨rfl, ⟨A_6, n_6, c_6, t_6, hpr⟩, hfc⟩
       have YFx0 : W1_94.heap[w.heap.size]? = some (.cells #[.int .i64 0, .int .i64 0, .int .i64 0, .slice none 0 0] 24 (0, 0)) := hfc.far _ _ N1_0.out N1_0.out Fx0.out
       have YFv8_6 : W1_94.heap[b6]? = some (.cells #[.int .i64 (kd : Int), .int .i64 (cv : Int), .int .i64 (kv : Int), .slice A92 1 c92] 24 (0, 0)) := hfc.far _ _ (Ne.symm N6_1.out) (Ne.symm N6_1.out) Fv8_6.out
       have YOw67_91 : W1_94.ownsRow w.heap.size 28 1 (.slice A92 1 c92) 1 (fl hdC ([(Hd.mk A1f l1.length c1f)])) := own_farP Ow67_91.out Fv3_15.out (by decide) hfc
       have YHBW : BW w W1_94 := BW.farC HBW.out G15.out G15.out hfc
       have YHIn : OwnsC W1_94 46 w.heap.size ([] ++ [Hd.mk A1f l1.length c1f]) ([] ++ [l1]) := OwnsC.farP HIn.out Fv3_15.out (by decide) hfc
       have hb := farc_bel hV0 B0.out hfc
       have hbr := hb
       clear B0
       have B0 := zh hbr
       clear hbr
       clear hb
       clear Fx0
       have Fx0 : Hid (W1_94.heap[w.heap.size]? = some (.cells #[.int .i64 0, .int .i64 0, .int .i64 0, .slice none 0 0] 24 (0, 0))) := zh YFx0
       clear YFx0
       clear Fv8_6
       have Fv8_6 : Hid (W1_94.heap[b6]? = some (.cells #[.int .i64 (kd : Int), .int .i64 (cv : Int), .int .i64 (kv : Int), .slice A92 1 c92] 24 (0, 0))) := zh YFv8_6
       clear YFv8_6
       clear Ow67_91
       have Ow67_91 : Hid (W1_94.ownsRow w.heap.size 28 1 (.slice A92 1 c92) 1 (fl hdC ([(Hd.mk A1f l1.length c1f)]))) := zh YOw67_91
       clear YOw67_91
       clear HBW
       have HBW : Hid (BW w W1_94) := zh YHBW
       clear YHBW
       clear HIn
       have HIn : Hid (OwnsC W1_94 46 w.heap.size ([] ++ [Hd.mk A1f l1.length c1f]) ([] ++ [l1])) := zh YHIn
       clear YHIn
       have Gv95 : Hid (V.heap.size ≤ w.heap.size) := zh (by omega)
       have Lt96 : Hid (w.heap.size < W1_94.heap.size) := zh (xp_lt Fx0.out)
       have Gv97 : Hid (V.heap.size ≤ b6) := zh (by omega)
       have Lt98 : Hid (b6 < W1_94.heap.size) := zh (xp_lt Fv8_6.out)
       have hln_6 := hpr.tt.sg.len
       have hcp_6 := hpr.tt.sg.cap
       have htp_6 := hpr.tt.sg.top
       have hps_6 := hpr.ch.pos
       try clear HTS
       have HTS := zh hpr.tt 
       try clear HCH
       have HCH := zh hpr.ch 
       try clear HTK
       have HTK := zh hpr.tk 
       try clear HOK
       have HOK := zh hpr.ok 
       clear Fv3_15
       have Fv3_15 : Hid (W1_94.heap[b15]? = some (.cells #[.slice A_6 n_6 c_6, .int .i64 (y4.o : Int), .int .i64 (y4.e : Int)] 79 (0, 0))) := zh (hpr.row)
       have Gv99 : Hid (V.heap.size ≤ b15) := zh (by omega)
       have Lt100 : Hid (b15 < W1_94.heap.size) := zh (xp_lt Fv3_15.out)
       clear hfc 
       refine ⟨_, rfl, ?_⟩
       simp only [Act.put, zA]
       refine wpList_nil ?_
       have hS0 := Fv8_6.out
       go_upto_region 19 with fail
       try simp only [List.append_eq, List.cons_append, List.nil_append]
       refine wp_ordMS (fun W => W.heap[b6]? = some (.cells #[.int .i64 (kd : Int), .int .i64 (cv : Int), .int .i64 (kv : Int), .slice A92 1 c92] 24 (0, 0))) 7 (.q 0 (.q 1 (.q 2 (.one 3 (.one 4 (.one 5 (.q 6 .nil))))))) (by kernel_rfl) (by kernel_rfl) (by kernel_rfl) (by kernel_rfl) (by kernel_rfl) (by kernel_rfl) (by kernel_rfl) hS0 ?_
       have hb : Below W1_94.heap.size W1_94 W1_94.drew := (Below.refl _ _).drew
       generalize W1_94.drew = V2 at hb ⊢
       have B1 := zh hb
       clear hb
       refine wpOT_q (.pointer (some ⟨b6, 3, none⟩)) rfl (by kernel_rfl) (fun v hW => (xo_fld0 3 b6 3 (by kernel_rfl) rfl rfl)) ?_
       simp only [ptr, Act.put, zA]
       refine wpOT_q (.slice A92 1 c92) rfl (by kernel_rfl) (fun v hW => (xo_load1 ⟨b6, 3, none⟩ _ (cells_at hW 3 rfl) Tryd.underlying22 rfl rfl rfl)) ?_
       simp only [ptr, Act.put, zA]
       refine wpOT_q (.pointer (some ⟨b15, 0, none⟩)) rfl (by kernel_rfl) (fun v hW => rfl) ?_
       simp only [ptr, Act.put, zA]
       refine wpOT_one rfl (by kernel_rfl) ?_
       have hsz_2f := zh (HBW.out.keep B1.out).b.size
       refine hOp_call 49 Tryd.func49 (by kernel_rfl) (by kernel_rfl) _ _ #[.pointer (some ⟨b15, 0, none⟩)] rfl (by kernel_rfl) ?_
       refine (rfilter_eq s b15 y4 A_6 n_6 c_6 t_6 V2 ⟨(heap_keep Fv3_15.out B1.out), (HTS.out.keep B1.out), HCH.out, HTK.out, HOK.out⟩ HS4.out l2 y5 HF2.out).mono ?_
       rintro e W2_101 ⟨vl, rfl, how, ⟨A_7, n_7, c_7, t_7, hpr⟩, hfc⟩
       have YFx0 : W2_101.heap[w.heap.size]? = some (.cells #[.int .i64 0, .int .i64 0, .int .i64 0, .slice none 0 0] 24 (0, 0)) := hfc.far _ _ N1_0.out N1_0.out (heap_keep Fx0.out B1.out)
       have YFv8_6 : W2_101.heap[b6]? = some (.cells #[.int .i64 (kd : Int), .int .i64 (cv : Int), .int .i64 (kv : Int), .slice A92 1 c92] 24 (0, 0)) := hfc.far _ _ (Ne.symm N6_1.out) (Ne.symm N6_1.out) (heap_keep Fv8_6.out B1.out)
       have YOw67_91 : W2_101.ownsRow w.heap.size 28 1 (.slice A92 1 c92) 1 (fl hdC ([(Hd.mk A1f l1.length c1f)])) := own_farP (own_keep Ow67_91.out B1.out) (heap_keep Fv3_15.out B1.out) (by decide) hfc
       have YHBW : BW w W2_101 := BW.farC (HBW.out.keep B1.out) G15.out G15.out hfc
       have YHIn : OwnsC W2_101 46 w.heap.size ([] ++ [Hd.mk A1f l1.length c1f]) ([] ++ [l1]) := OwnsC.farP (HIn.out.keep B1.out) (heap_keep Fv3_15.out B1.out) (by decide) hfc
       have C0_2 := zb B0 B1
       have hb := farc_bel hV0 C0_2.out hfc
       have hbr := hb
       clear B0
       have B0 := zh hbr
       clear hbr
       clear hb
       clear Fx0
       have Fx0 : Hid (W2_101.heap[w.heap.size]? = some (.cells #[.int .i64 0, .int .i64 0, .int .i64 0, .slice none 0 0] 24 (0, 0))) := zh YFx0
       clear YFx0
       clear Fv8_6
       have Fv8_6 : Hid (W2_101.heap[b6]? = some (.cells #[.int .i64 (kd : Int), .int .i64 (cv : Int), .int .i64 (kv : Int), .slice A92 1 c92] 24 (0, 0))) := zh YFv8_6
       clear YFv8_6
       clear Ow67_91
       have Ow67_91 : Hid (W2_101.ownsRow w.heap.size 28 1 (.slice A92 1 c92) 1 (fl hdC ([(Hd.mk A1f l1.length c1f)]))) := zh YOw67_91
       clear YOw67_91
       clear HBW
       have HBW : Hid (BW w W2_101) := zh YHBW
       clear YHBW
       clear HIn
       have HIn : Hid (OwnsC W2_101 46 w.heap.size ([] ++ [Hd.mk A1f l1.length c1f]) ([] ++ [l1])) := zh YHIn
       clear YHIn
       have Gv102 : Hid (V.heap.size ≤ w.heap.size) := zh (by omega)
       have Lt103 : Hid (w.heap.size < W2_101.heap.size) := zh (xp_lt Fx0.out)
       have Gv104 : Hid (V.heap.size ≤ b6) := zh (by omega)
       have Lt105 : Hid (b6 < W2_101.heap.size) := zh (xp_lt Fv8_6.out)
       have hln_7 := hpr.tt.sg.len
       have hcp_7 := hpr.tt.sg.cap
       have htp_7 := hpr.tt.sg.top
       have hps_7 := hpr.ch.pos
       have hnw := own_mono how hsz_2f.out
       obtain ⟨A2f, c2f, rfl⟩ := own_form hnw
       have hlw := hnw.1
       clear how hlw
       try clear HTS
       have HTS := zh hpr.tt 
       try clear HCH
       have HCH := zh hpr.ch 
       try clear HTK
       have HTK := zh hpr.tk 
       try clear HOK
       have HOK := zh hpr.ok 
       try clear HNw
       have HNw := zh hnw 
       clear Fv3_15
       have Fv3_15 : Hid (W2_101.heap[b15]? = some (.cells #[.slice A_7 n_7 c_7, .int .i64 (y5.o : Int), .int .i64 (y5.e : Int)] 79 (0, 0))) := zh (hpr.row)
       have Gv106 : Hid (V.heap.size ≤ b15) := zh (by omega)
       have Lt107 : Hid (b15 < W2_101.heap.size) := zh (xp_lt Fv3_15.out)
       clear hfc 
       refine ⟨_, rfl, Fv8_6.out, ?_⟩
       simp only [ptr, Act.put, zA]
       refine wpOT_one rfl (by kernel_rfl) ?_
       refine hOp_mk ([(Hd.mk A2f l2.length c2f)].flatMap hdC).toArray 28 1 1 (xg_lit (E := hdC) (bytes := 24) (.slice none 0 0) [.tmp 77] [(Hd.mk A2f l2.length c2f)] 1 Tryd.underlying22 (by kernel_rfl) rfl (by decide) (by decide) rfl rfl) ?_
       intro g78 V2 hge h0 hb
       have N108_0 : Hid (w.heap.size ≠ g78) := zh (xp_lt0 Fx0.out hge)
       have N109_1 : Hid (b15 ≠ g78) := zh (xp_lt0 Fv3_15.out hge)
       have N110_2 : Hid (b6 ≠ g78) := zh (xp_lt0 Fv8_6.out hge)
       have Ge111 : Hid (W2_101.heap.size ≤ g78) := zh hge
       have B1 := zh hb
       have Fv112_78 : Hid (RowG hdC V2 g78 28 ([(Hd.mk A2f l2.length c2f)])) := zh (h0)
       have Lt113 : Hid (g78 < V2.heap.size) := zh (xp_lt Fv112_78.out)
       clear hge h0 hb
       refine ⟨(heap_keep Fv8_6.out B1.out), ?_⟩
       simp only [ptr, Act.put, zA]
       refine wpOT_one rfl (by kernel_rfl) ?_
       refine hOp_app (size := 1) (.tmp 75) (.tmp 78) 22 rfl (.slice none 0 0) 24 Tryd.underlying22 (by kernel_rfl) rfl (by decide) rfl (own_keep Ow67_91.out B1.out) (some ⟨g78, 0, none⟩) 1 1 (fl hdC ([(Hd.mk A2f l2.length c2f)])) rfl (RowG.sg (n := 1) (c := 1) Fv112_78.out (show ([(Hd.mk A2f l2.length c2f)]).length = 1 from rfl) (Nat.le_refl _) (by omega)).src (by unfold maxLen; omega) (by omega) (HBW.out.keep B1.out).b.size ?_
       intro v79 X2_114 ho hg hloc
       have hb1 := own_below (own_keep Ow67_91.out B1.out) hg (HBW.out.keep B1.out).b.size
       have hox : X2_114.ownsRow w.heap.size 28 1 v79 2 (fl hdC (([(Hd.mk A1f l1.length c1f)]) ++ ([(Hd.mk A2f l2.length c2f)]))) := by rw [fl_append]; exact ho
       have YFx0 : X2_114.heap[w.heap.size]? = some (.cells #[.int .i64 0, .int .i64 0, .int .i64 0, .slice none 0 0] 24 (0, 0)) := own_rowkeep (own_keep Ow67_91.out B1.out) hg (heap_keep Fx0.out B1.out) (by decide)
       have YFv3_15 : X2_114.heap[b15]? = some (.cells #[.slice A_7 n_7 c_7, .int .i64 (y5.o : Int), .int .i64 (y5.e : Int)] 79 (0, 0)) := own_rowkeep (own_keep Ow67_91.out B1.out) hg (heap_keep Fv3_15.out B1.out) (by decide)
       have YFv8_6 : X2_114.heap[b6]? = some (.cells #[.int .i64 (kd : Int), .int .i64 (cv : Int), .int .i64 (kv : Int), .slice A92 1 c92] 24 (0, 0)) := own_rowkeep (own_keep Ow67_91.out B1.out) hg (heap_keep Fv8_6.out B1.out) (by decide)
       have YHBW : BW w X2_114 := BW.bel (HBW.out.keep B1.out) hb1
       have YHTS : TS X2_114 A_7 n_7 c_7 t_7 := TS.grown (HTS.out.keep B1.out) (own_keep Ow67_91.out B1.out) hg (by decide)
       have YHIn : OwnsC X2_114 46 w.heap.size ([] ++ [Hd.mk A1f l1.length c1f]) ([] ++ [l1]) := OwnsC.grown (HIn.out.keep B1.out) (own_keep Ow67_91.out B1.out) hg (by decide)
       have YHNw : X2_114.ownsRow w.heap.size 46 3 (.slice A2f l2.length c2f) l2.length (fl cdC l2) := own_growT (own_keep HNw.out B1.out) (own_keep Ow67_91.out B1.out) hg (by decide)
       have C0_2 := zb B0 B1
       have hbV := belV hV0 C0_2.out hb1
       have hbr := hbV
       clear B0
       have B0 := zh hbr
       clear hbr
       clear hbV
       clear Fx0
       have Fx0 : Hid (X2_114.heap[w.heap.size]? = some (.cells #[.int .i64 0, .int .i64 0, .int .i64 0, .slice none 0 0] 24 (0, 0))) := zh YFx0
       clear YFx0
       clear Fv3_15
       have Fv3_15 : Hid (X2_114.heap[b15]? = some (.cells #[.slice A_7 n_7 c_7, .int .i64 (y5.o : Int), .int .i64 (y5.e : Int)] 79 (0, 0))) := zh YFv3_15
       clear YFv3_15
       clear Fv8_6
       have Fv8_6 : Hid (X2_114.heap[b6]? = some (.cells #[.int .i64 (kd : Int), .int .i64 (cv : Int), .int .i64 (kv : Int), .slice A92 1 c92] 24 (0, 0))) := zh YFv8_6
       clear YFv8_6
       clear HBW
       have HBW : Hid (BW w X2_114) := zh YHBW
       clear YHBW
       clear HTS
       have HTS : Hid (TS X2_114 A_7 n_7 c_7 t_7) := zh YHTS
       clear YHTS
       clear HIn
       have HIn : Hid (OwnsC X2_114 46 w.heap.size ([] ++ [Hd.mk A1f l1.length c1f]) ([] ++ [l1])) := zh YHIn
       clear YHIn
       clear HNw
       have HNw : Hid (X2_114.ownsRow w.heap.size 46 3 (.slice A2f l2.length c2f) l2.length (fl cdC l2)) := zh YHNw
       clear YHNw
       have Gv115 : Hid (V.heap.size ≤ w.heap.size) := zh (by omega)
       have Lt116 : Hid (w.heap.size < X2_114.heap.size) := zh (xp_lt Fx0.out)
       have Gv117 : Hid (V.heap.size ≤ b15) := zh (by omega)
       have Lt118 : Hid (b15 < X2_114.heap.size) := zh (xp_lt Fv3_15.out)
       have Gv119 : Hid (V.heap.size ≤ b6) := zh (by omega)
       have Lt120 : Hid (b6 < X2_114.heap.size) := zh (xp_lt Fv8_6.out)
       have Ow79_121 := zh hox
       clear ho hox hb1 hg hloc
       obtain ⟨A122, c122, rfl⟩ := own_form Ow79_121.out
       refine ⟨Fv8_6.out, ?_⟩
       simp only [ptr, Act.put, zA]
       refine wpOT_q (.pointer (some ⟨b6, 3, none⟩)) rfl (by kernel_rfl) (fun v hW => (xo_fld0 3 b6 3 (by kernel_rfl) rfl rfl)) ?_
       simp only [ptr, Act.put, zA]
       refine wpOT_nil ?_
       have hfs := Fv8_6.out
       have hgb := Gv119.out
       have hbs := B0.out
       have hfar : ∀ k o, k ≠ b6 → X2_114.heap[k]? = some o → (X2_114.setRow b6 #[.int .i64 (kd : Int), .int .i64 (cv : Int), .int .i64 (kv : Int), .slice A122 2 c122]).heap[k]? = some o := fun k o hk h0 => heap_farRow h0 hk _
       have hbel : ∀ B v0, B ≤ b6 → Below B v0 X2_114 → Below B v0 (X2_114.setRow b6 #[.int .i64 (kd : Int), .int .i64 (cv : Int), .int .i64 (kv : Int), .slice A122 2 c122]) := fun B v0 h1 h2 => bel_setRow h2 h1 #[.int .i64 (kd : Int), .int .i64 (cv : Int), .int .i64 (kv : Int), .slice A122 2 c122]
       have YOw79_121 := own_farT Ow79_121.out hfs (by decide) hfar
       have YHBW := BW.store HBW.out G6.out hbel
       have YHTS := TS.far HTS.out Fv8_6.out (by decide) hfar
       have YHIn := OwnsC.farT HIn.out Fv8_6.out (by decide) hfar
       have YHNw := own_farT HNw.out Fv8_6.out (by decide) hfar
       have YFx0 : (X2_114.setRow b6 #[.int .i64 (kd : Int), .int .i64 (cv : Int), .int .i64 (kv : Int), .slice A122 2 c122]).heap[w.heap.size]? = some (.cells #[.int .i64 0, .int .i64 0, .int .i64 0, .slice none 0 0] 24 (0, 0)) := hfar _ _ N5_0.out Fx0.out
       have YFv3_15 : (X2_114.setRow b6 #[.int .i64 (kd : Int), .int .i64 (cv : Int), .int .i64 (kv : Int), .slice A122 2 c122]).heap[b15]? = some (.cells #[.slice A_7 n_7 c_7, .int .i64 (y5.o : Int), .int .i64 (y5.e : Int)] 79 (0, 0)) := hfar _ _ N6_1.out Fv3_15.out
       refine mOp_run0 _ rfl rfl (xo_storeM b6 3 #[.int .i64 (kd : Int), .int .i64 (cv : Int), .int .i64 (kv : Int), .slice A92 1 c92] #[.int .i64 (kd : Int), .int .i64 (cv : Int), .int .i64 (kv : Int), .slice A122 2 c122] [.slice A122 2 c122] hfs rfl (by simp) (by kernel_rfl) (by simp [Value.oneCell']) rfl rfl rfl) ?_
       try simp only [List.getElem_toArray, List.getElem_cons_succ, List.getElem_cons_zero, ptr, Act.put, zA]
       have hfn := setRow_heap X2_114 b6 _ #[.int .i64 (kd : Int), .int .i64 (cv : Int), .int .i64 (kv : Int), .slice A122 2 c122] _ _ hfs
       have hbn := bel_setRow hbs hgb #[.int .i64 (kd : Int), .int .i64 (cv : Int), .int .i64 (kv : Int), .slice A122 2 c122]
       clear hfar
       generalize X2_114.setRow b6 #[.int .i64 (kd : Int), .int .i64 (cv : Int), .int .i64 (kv : Int), .slice A122 2 c122] = X123 at *
       have hbr := hbn
       clear B0
       have B0 := zh hbr
       clear hbr
       clear Fx0
       have Fx0 := zh YFx0
       clear YFx0
       clear Fv3_15
       have Fv3_15 := zh YFv3_15
       clear YFv3_15
       clear Fv8_6
       have Fv8_6 : Hid (X123.heap[b6]? = some (.cells #[.int .i64 (kd : Int), .int .i64 (cv : Int), .int .i64 (kv : Int), .slice A122 2 c122] 24 (0, 0))) := zh hfn
       clear HBW
       have HBW : Hid (BW w X123) := zh YHBW
       clear YHBW
       clear HTS
       have HTS : Hid (TS X123 A_7 n_7 c_7 t_7) := zh YHTS
       clear YHTS
       clear HIn
       have HIn : Hid (OwnsC X123 46 w.heap.size ([] ++ [Hd.mk A1f l1.length c1f]) ([] ++ [l1])) := zh YHIn
       clear YHIn
       clear HNw
       have HNw : Hid (X123.ownsRow w.heap.size 46 3 (.slice A2f l2.length c2f) l2.length (fl cdC l2)) := zh YHNw
       clear YHNw
       clear Ow79_121
       have Ow79_121 : Hid (X123.ownsRow w.heap.size 28 1 (.slice A122 2 c122) 2 (fl hdC (([(Hd.mk A1f l1.length c1f)]) ++ ([(Hd.mk A2f l2.length c2f)])))) := zh YOw79_121
       clear YOw79_121
       clear hbel
       clear hfs hgb hbs hfn hbn
       have hin0 := OwnsC.push HIn.out HNw.out rfl
       clear HIn HNw
       have HIn := zh hin0
       clear hin0
       have HFS : Hid (Qu.filS s kd y2 = ([l1, l2], y5)) := zh (by unfold Qu.filS; rw [if_pos H7.out, HF1.out, HX4.out, HF2.out])
       have HREF2 : Hid (Qu.refP s = Qu.outT (⟨kd, cv, kv, [l1, l2]⟩ : Qu.Qy) (Qu.endT y5)) := zh (by rw [HREF.out]; unfold Qu.restT; rw [HC1.out]; simp only; rw [HC2.out]; simp only; rw [HFS.out])
       by_cases hle : y5.e = 0
       ·by_cases hkr0 : Qu.kdR y5.st.tok = 0
        ·go_upto_region 20 with fail
         refine wp_region_lit ?_
         refine zr (.pointer (some ⟨b15, 0, none⟩)) X123 rfl ?_
         simp only [Act.put, zA]
         refine zr (.pointer (some ⟨b15, 0, none⟩)) X123 (xo_nil _ rfl rfl) ?_
         simp only [Act.put, zA]
         refine zr (.pointer (some ⟨b15, 2, none⟩)) X123 (xo_fld0 2 b15 2 (by kernel_rfl) rfl rfl) ?_
         simp only [Act.put, zA]
         refine zr (.int .i64 (y5.e : Int)) X123 (xo_load1 ⟨b15, 2, none⟩ _ (cells_at Fv3_15.out 2 rfl) Tryd.underlying35 rfl rfl rfl) ?_
         simp only [Act.put, zA]
         refine zr (.bool true) X123 (xo_eqlT .i64 ((y5.e : Nat) : Int) 0 (by omega) rfl rfl rfl) ?_
         simp only [Act.put, zA]
         refine zr (.bool true) X123 rfl ?_
         simp only [Act.put, zA]
         refine zr (.pointer (some ⟨b15, 0, none⟩)) X123 rfl ?_
         simp only [Act.put, zA]
         refine zr (.pointer (some ⟨b15, 0, none⟩)) X123 (xo_nil _ rfl rfl) ?_
         simp only [Act.put, zA]
         refine zr (.pointer (some ⟨b15, 0, none⟩)) X123 (xo_fld0 0 b15 0 (by kernel_rfl) rfl rfl) ?_
         simp only [Act.put, zA]
         refine zr (.slice A_7 n_7 c_7) X123 (xo_load1 ⟨b15, 0, none⟩ _ (cells_at Fv3_15.out 0 rfl) Tryd.underlying76 rfl rfl rfl) ?_
         simp only [Act.put, zA]
         refine zr (.pointer (some (gad A_7 (0 * 3)))) X123 (xg_idx .i64 HTS.out.sg HCH.out.head Tryd.underlying76 (by kernel_rfl) rfl rfl rfl) ?_
         simp only [Act.put, zA]
         refine zr (.pointer (some (gad A_7 ((0 * 3) + 0)))) X123 (xg_fld 0 HTS.out.sg HCH.out.head (by kernel_rfl) rfl rfl) ?_
         simp only [Act.put, zA]
         refine zr (.int .i64 ((Qu.tokR y5.st).kind : Int)) X123 (xg_load1 (E := tkR) (i := 0) (j := 0) HTS.out.sg HCH.out.head rfl rfl Tryd.underlying3 rfl rfl rfl) ?_
         simp only [Act.put, zA]
         refine zr (.bool false) X123 (xo_neqF .i64 (((Qu.tokR y5.st).kind : Nat) : Int) 0 (show ((Qu.kdR y5.st.tok : Nat) : Int) = 0 by omega) rfl rfl rfl) ?_
         simp only [Act.put, zA]
         refine zr (.bool false) X123 rfl ?_
         simp only [Act.put, zA]
         refine wpList_nil ?_
         have hye := hle
         go_upto_region 22 with fail
         refine wp_region_lit ?_
         refine zr (.pointer (some ⟨b15, 0, none⟩)) X123 rfl ?_
         simp only [Act.put, zA]
         refine zr (.pointer (some ⟨b15, 0, none⟩)) X123 (xo_nil _ rfl rfl) ?_
         simp only [Act.put, zA]
         refine zr (.pointer (some ⟨b15, 2, none⟩)) X123 (xo_fld0 2 b15 2 (by kernel_rfl) rfl rfl) ?_
         simp only [Act.put, zA]
         refine zr (.int .i64 (y5.e : Int)) X123 (xo_load1 ⟨b15, 2, none⟩ _ (cells_at Fv3_15.out 2 rfl) Tryd.underlying35 rfl rfl rfl) ?_
         simp only [Act.put, zA]
         refine zr (.bool false) X123 (xo_neqF .i64 ((y5.e : Nat) : Int) 0 (by omega) rfl rfl rfl) ?_
         simp only [Act.put, zA]
         refine wpList_nil ?_
         go_upto_region 24 with fail
         refine wp_region_lit ?_
         refine zr (.agg #[.int .i64 (kd : Int), .int .i64 (cv : Int), .int .i64 (kv : Int), .slice A122 2 c122]) X123 (xo_loadW b6 _ Fv8_6.out Tryd.underlying24 rfl (by kernel_rfl) rfl rfl) ?_
         simp only [Act.put, zA]
         refine wpList_storeW w.heap.size #[.int .i64 0, .int .i64 0, .int .i64 0, .slice none 0 0] #[.int .i64 (kd : Int), .int .i64 (cv : Int), .int .i64 (kv : Int), .slice A122 2 c122] 24 (by kernel_rfl) Fx0.out (xo_storeW w.heap.size #[.int .i64 0, .int .i64 0, .int .i64 0, .slice none 0 0] #[.int .i64 (kd : Int), .int .i64 (cv : Int), .int .i64 (kv : Int), .slice A122 2 c122] Fx0.out (by kernel_rfl) rfl (by simp [Value.oneCell']) rfl rfl rfl) ?_
         intro X1_124 h1 hfar hbel hsz
         have YHBW : BW w X1_124 := BW.store HBW.out G2.out hbel
         have YHTS : TS X1_124 A_7 n_7 c_7 t_7 := TS.far HTS.out Fx0.out (by decide) hfar
         have YHIn : OwnsC X1_124 46 w.heap.size ([] ++ [Hd.mk A1f l1.length c1f] ++ [Hd.mk A2f l2.length c2f]) ([] ++ [l1] ++ [l2]) := OwnsC.farT HIn.out Fx0.out (by decide) hfar
         have YOw79_121 : X1_124.ownsRow w.heap.size 28 1 (.slice A122 2 c122) 2 (fl hdC (([(Hd.mk A1f l1.length c1f)]) ++ ([(Hd.mk A2f l2.length c2f)]))) := own_farT Ow79_121.out Fx0.out (by decide) hfar
         have YFv3_15 : X1_124.heap[b15]? = some (.cells #[.slice A_7 n_7 c_7, .int .i64 (y5.o : Int), .int .i64 (y5.e : Int)] 79 (0, 0)) := hfar _ _ (Ne.symm N1_0.out) Fv3_15.out
         have YFv8_6 : X1_124.heap[b6]? = some (.cells #[.int .i64 (kd : Int), .int .i64 (cv : Int), .int .i64 (kv : Int), .slice A122 2 c122] 24 (0, 0)) := hfar _ _ (Ne.symm N5_0.out) Fv8_6.out
         have hbr := hbel _ _ Gv115.out B0.out
         clear B0
         have B0 := zh hbr
         clear hbr
         clear Fv3_15
         have Fv3_15 : Hid (X1_124.heap[b15]? = some (.cells #[.slice A_7 n_7 c_7, .int .i64 (y5.o : Int), .int .i64 (y5.e : Int)] 79 (0, 0))) := zh YFv3_15
         clear YFv3_15
         clear Fv8_6
         have Fv8_6 : Hid (X1_124.heap[b6]? = some (.cells #[.int .i64 (kd : Int), .int .i64 (cv : Int), .int .i64 (kv : Int), .slice A122 2 c122] 24 (0, 0))) := zh YFv8_6
         clear YFv8_6
         clear HBW
         have HBW := zh YHBW
         clear YHBW
         clear HTS
         have HTS := zh YHTS
         clear YHTS
         clear HIn
         have HIn := zh YHIn
         clear YHIn
         clear Ow79_121
         have Ow79_121 := zh YOw79_121
         clear YOw79_121
         clear Fx0
         have Fx0 : Hid (X1_124.heap[w.heap.size]? = some (.cells #[.int .i64 (kd : Int), .int .i64 (cv : Int), .int .i64 (kv : Int), .slice A122 2 c122] 24 (0, 0))) := zh (h1)
         have HszX1_124 := zh hsz
         clear h1 hfar hbel hsz
         simp only [ptr, Act.put, zA]
         refine zr (.int .i64 0) X1_124 rfl ?_
         simp only [Act.put, zA]
         refine zr (.int .i64 0) X1_124 rfl ?_
         simp only [Act.put, zA]
         refine wpList_nil ?_
         have hfo0 : FsOwn X1_124 w.heap.size (.slice A122 2 c122) [l1, l2] := ⟨_, _, _, rfl, Ow79_121.out, HIn.out⟩
         have hx := HR.out
         rw [show Qu.refP s = ((⟨kd, cv, kv, [l1, l2]⟩ : Qu.Qy), 0, 0) by rw [HREF2.out, show Qu.endT y5 = y5 by unfold Qu.endT; rw [if_neg (fun a => a.2 hkr0)]]; unfold Qu.outT; rw [if_pos hye]] at hx
         injection hx with hq hx2
         injection hx2 with hof her
         subst hq hof her
         have hfo := hfo0
         have hbw := HBW.out.b
         go_wp2_with fail
         refine bodyPost_ret (v := .tuple #[.agg #[.int .i64 (kd : Int), .int .i64 (cv : Int), .int .i64 (kv : Int), .slice A122 2 c122], .int .i64 0, .int .i64 0]) ?_ rfl ⟨_, _, _, rfl, hfo, hbw⟩
         exact results_row_tmp2 rfl _ _ w.heap.size 24 _ _ _ _ rfl rfl rfl Fx0.out Tryd.underlying24 rfl (by kernel_rfl)
        ·go_upto_region 20 with fail
         refine wp_region_lit ?_
         refine zr (.pointer (some ⟨b15, 0, none⟩)) X123 rfl ?_
         simp only [Act.put, zA]
         refine zr (.pointer (some ⟨b15, 0, none⟩)) X123 (xo_nil _ rfl rfl) ?_
         simp only [Act.put, zA]
         refine zr (.pointer (some ⟨b15, 2, none⟩)) X123 (xo_fld0 2 b15 2 (by kernel_rfl) rfl rfl) ?_
         simp only [Act.put, zA]
         refine zr (.int .i64 (y5.e : Int)) X123 (xo_load1 ⟨b15, 2, none⟩ _ (cells_at Fv3_15.out 2 rfl) Tryd.underlying35 rfl rfl rfl) ?_
         simp only [Act.put, zA]
         refine zr (.bool true) X123 (xo_eqlT .i64 ((y5.e : Nat) : Int) 0 (by omega) rfl rfl rfl) ?_
         simp only [Act.put, zA]
         refine zr (.bool true) X123 rfl ?_
         simp only [Act.put, zA]
         refine zr (.pointer (some ⟨b15, 0, none⟩)) X123 rfl ?_
         simp only [Act.put, zA]
         refine zr (.pointer (some ⟨b15, 0, none⟩)) X123 (xo_nil _ rfl rfl) ?_
         simp only [Act.put, zA]
         refine zr (.pointer (some ⟨b15, 0, none⟩)) X123 (xo_fld0 0 b15 0 (by kernel_rfl) rfl rfl) ?_
         simp only [Act.put, zA]
         refine zr (.slice A_7 n_7 c_7) X123 (xo_load1 ⟨b15, 0, none⟩ _ (cells_at Fv3_15.out 0 rfl) Tryd.underlying76 rfl rfl rfl) ?_
         simp only [Act.put, zA]
         refine zr (.pointer (some (gad A_7 (0 * 3)))) X123 (xg_idx .i64 HTS.out.sg HCH.out.head Tryd.underlying76 (by kernel_rfl) rfl rfl rfl) ?_
         simp only [Act.put, zA]
         refine zr (.pointer (some (gad A_7 ((0 * 3) + 0)))) X123 (xg_fld 0 HTS.out.sg HCH.out.head (by kernel_rfl) rfl rfl) ?_
         simp only [Act.put, zA]
         refine zr (.int .i64 ((Qu.tokR y5.st).kind : Int)) X123 (xg_load1 (E := tkR) (i := 0) (j := 0) HTS.out.sg HCH.out.head rfl rfl Tryd.underlying3 rfl rfl rfl) ?_
         simp only [Act.put, zA]
         refine zr (.bool true) X123 (xo_neqT .i64 (((Qu.tokR y5.st).kind : Nat) : Int) 0 (show ¬ ((Qu.kdR y5.st.tok : Nat) : Int) = 0 by omega) rfl rfl rfl) ?_
         simp only [Act.put, zA]
         refine zr (.bool true) X123 rfl ?_
         simp only [Act.put, zA]
         refine wpList_nil ?_
         go_upto_region 21 with fail
         refine wp_region_lit ?_
         refine zr (.pointer (some ⟨b15, 0, none⟩)) X123 rfl ?_
         simp only [Act.put, zA]
         refine wpList_call (by kernel_rfl) 46 Tryd.func46 (by kernel_rfl) (by kernel_rfl) _ _ #[.pointer (some ⟨b15, 0, none⟩)] rfl (by kernel_rfl) ?_
         refine (unexp_as s b15 y5 A_7 n_7 c_7 t_7 X123 ⟨Fv3_15.out, HTS.out, HCH.out, HTK.out, HOK.out⟩).mono ?_
         rintro e W1_124 ⟨rfl, ⟨A_8, n_8, c_8, t_8, hpr⟩, hfc⟩
         have YFx0 : W1_124.heap[w.heap.size]? = some (.cells #[.int .i64 0, .int .i64 0, .int .i64 0, .slice none 0 0] 24 (0, 0)) := hfc.far _ _ N1_0.out N1_0.out Fx0.out
         have YFv8_6 : W1_124.heap[b6]? = some (.cells #[.int .i64 (kd : Int), .int .i64 (cv : Int), .int .i64 (kv : Int), .slice A122 2 c122] 24 (0, 0)) := hfc.far _ _ (Ne.symm N6_1.out) (Ne.symm N6_1.out) Fv8_6.out
         have YOw79_121 : W1_124.ownsRow w.heap.size 28 1 (.slice A122 2 c122) 2 (fl hdC (([(Hd.mk A1f l1.length c1f)]) ++ ([(Hd.mk A2f l2.length c2f)]))) := own_farP Ow79_121.out Fv3_15.out (by decide) hfc
         have YHBW : BW w W1_124 := BW.farC HBW.out G15.out G15.out hfc
         have YHIn : OwnsC W1_124 46 w.heap.size ([] ++ [Hd.mk A1f l1.length c1f] ++ [Hd.mk A2f l2.length c2f]) ([] ++ [l1] ++ [l2]) := OwnsC.farP HIn.out Fv3_15.out (by decide) hfc
         have hb := farc_bel hV0 B0.out hfc
         have hbr := hb
         clear B0
         have B0 := zh hbr
         clear hbr
         clear hb
         clear Fx0
         have Fx0 : Hid (W1_124.heap[w.heap.size]? = some (.cells #[.int .i64 0, .int .i64 0, .int .i64 0, .slice none 0 0] 24 (0, 0))) := zh YFx0
         clear YFx0
         clear Fv8_6
         have Fv8_6 : Hid (W1_124.heap[b6]? = some (.cells #[.int .i64 (kd : Int), .int .i64 (cv : Int), .int .i64 (kv : Int), .slice A122 2 c122] 24 (0, 0))) := zh YFv8_6
         clear YFv8_6
         clear Ow79_121
         have Ow79_121 : Hid (W1_124.ownsRow w.heap.size 28 1 (.slice A122 2 c122) 2 (fl hdC (([(Hd.mk A1f l1.length c1f)]) ++ ([(Hd.mk A2f l2.length c2f)])))) := zh YOw79_121
         clear YOw79_121
         clear HBW
         have HBW : Hid (BW w W1_124) := zh YHBW
         clear YHBW
         clear HIn
         have HIn : Hid (OwnsC W1_124 46 w.heap.size ([] ++ [Hd.mk A1f l1.length c1f] ++ [Hd.mk A2f l2.length c2f]) ([] ++ [l1] ++ [l2])) := zh YHIn
         clear YHIn
         have Gv125 : Hid (V.heap.size ≤ w.heap.size) := zh (by omega)
         have Lt126 : Hid (w.heap.size < W1_124.heap.size) := zh (xp_lt Fx0.out)
         have Gv127 : Hid (V.heap.size ≤ b6) := zh (by omega)
         have Lt128 : Hid (b6 < W1_124.heap.size) := zh (xp_lt Fv8_6.out)
         have hln_8 := hpr.tt.sg.len
         have hcp_8 := hpr.tt.sg.cap
         have htp_8 := hpr.tt.sg.top
         have hps_8 := hpr.ch.pos
         try clear HTS
         have HTS := zh hpr.tt 
         try clear HCH
         have HCH := zh hpr.ch 
         try clear HTK
         have HTK := zh hpr.tk 
         try clear HOK
         have HOK := zh hpr.ok 
         clear Fv3_15
         have Fv3_15 : Hid (W1_124.heap[b15]? = some (.cells #[.slice A_8 n_8 c_8, .int .i64 ((Qu.unT y5).o : Int), .int .i64 ((Qu.unT y5).e : Int)] 79 (0, 0))) := zh (hpr.row)
         have Gv129 : Hid (V.heap.size ≤ b15) := zh (by omega)
         have Lt130 : Hid (b15 < W1_124.heap.size) := zh (xp_lt Fv3_15.out)
         clear hfc 
         refine ⟨_, rfl, ?_⟩
         simp only [Act.put, zA]
         refine wpList_nil ?_
         by_cases hye : (Qu.unT y5).e = 0
         ·go_upto_region 22 with fail
          refine wp_region_lit ?_
          refine zr (.pointer (some ⟨b15, 0, none⟩)) W1_124 rfl ?_
          simp only [Act.put, zA]
          refine zr (.pointer (some ⟨b15, 0, none⟩)) W1_124 (xo_nil _ rfl rfl) ?_
          simp only [Act.put, zA]
          refine zr (.pointer (some ⟨b15, 2, none⟩)) W1_124 (xo_fld0 2 b15 2 (by kernel_rfl) rfl rfl) ?_
          simp only [Act.put, zA]
          refine zr (.int .i64 ((Qu.unT y5).e : Int)) W1_124 (xo_load1 ⟨b15, 2, none⟩ _ (cells_at Fv3_15.out 2 rfl) Tryd.underlying35 rfl rfl rfl) ?_
          simp only [Act.put, zA]
          refine zr (.bool false) W1_124 (xo_neqF .i64 (((Qu.unT y5).e : Nat) : Int) 0 (by omega) rfl rfl rfl) ?_
          simp only [Act.put, zA]
          refine wpList_nil ?_
          go_upto_region 24 with fail
          refine wp_region_lit ?_
          refine zr (.agg #[.int .i64 (kd : Int), .int .i64 (cv : Int), .int .i64 (kv : Int), .slice A122 2 c122]) W1_124 (xo_loadW b6 _ Fv8_6.out Tryd.underlying24 rfl (by kernel_rfl) rfl rfl) ?_
          simp only [Act.put, zA]
          refine wpList_storeW w.heap.size #[.int .i64 0, .int .i64 0, .int .i64 0, .slice none 0 0] #[.int .i64 (kd : Int), .int .i64 (cv : Int), .int .i64 (kv : Int), .slice A122 2 c122] 24 (by kernel_rfl) Fx0.out (xo_storeW w.heap.size #[.int .i64 0, .int .i64 0, .int .i64 0, .slice none 0 0] #[.int .i64 (kd : Int), .int .i64 (cv : Int), .int .i64 (kv : Int), .slice A122 2 c122] Fx0.out (by kernel_rfl) rfl (by simp [Value.oneCell']) rfl rfl rfl) ?_
          intro X1_131 h1 hfar hbel hsz
          have YHBW : BW w X1_131 := BW.store HBW.out G2.out hbel
          have YHTS : TS X1_131 A_8 n_8 c_8 t_8 := TS.far HTS.out Fx0.out (by decide) hfar
          have YHIn : OwnsC X1_131 46 w.heap.size ([] ++ [Hd.mk A1f l1.length c1f] ++ [Hd.mk A2f l2.length c2f]) ([] ++ [l1] ++ [l2]) := OwnsC.farT HIn.out Fx0.out (by decide) hfar
          have YOw79_121 : X1_131.ownsRow w.heap.size 28 1 (.slice A122 2 c122) 2 (fl hdC (([(Hd.mk A1f l1.length c1f)]) ++ ([(Hd.mk A2f l2.length c2f)]))) := own_farT Ow79_121.out Fx0.out (by decide) hfar
          have YFv3_15 : X1_131.heap[b15]? = some (.cells #[.slice A_8 n_8 c_8, .int .i64 ((Qu.unT y5).o : Int), .int .i64 ((Qu.unT y5).e : Int)] 79 (0, 0)) := hfar _ _ (Ne.symm N1_0.out) Fv3_15.out
          have YFv8_6 : X1_131.heap[b6]? = some (.cells #[.int .i64 (kd : Int), .int .i64 (cv : Int), .int .i64 (kv : Int), .slice A122 2 c122] 24 (0, 0)) := hfar _ _ (Ne.symm N5_0.out) Fv8_6.out
          -- drops HCH
          -- drops HTK
          -- drops HOK
          have hbr := hbel _ _ Gv125.out B0.out
          clear B0
          have B0 := zh hbr
          clear hbr
          clear Fv3_15
          have Fv3_15 : Hid (X1_131.heap[b15]? = some (.cells #[.slice A_8 n_8 c_8, .int .i64 ((Qu.unT y5).o : Int), .int .i64 ((Qu.unT y5).e : Int)] 79 (0, 0))) := zh YFv3_15
          clear YFv3_15
          clear Fv8_6
          have Fv8_6 : Hid (X1_131.heap[b6]? = some (.cells #[.int .i64 (kd : Int), .int .i64 (cv : Int), .int .i64 (kv : Int), .slice A122 2 c122] 24 (0, 0))) := zh YFv8_6
          clear YFv8_6
          clear HBW
          have HBW := zh YHBW
          clear YHBW
          clear HTS
          have HTS := zh YHTS
          clear YHTS
          clear HIn
          have HIn := zh YHIn
          clear YHIn
          clear Ow79_121
          have Ow79_121 := zh YOw79_121
          clear YOw79_121
          clear Fx0
          have Fx0 : Hid (X1_131.heap[w.heap.size]? = some (.cells #[.int .i64 (kd : Int), .int .i64 (cv : Int), .int .i64 (kv : Int), .slice A122 2 c122] 24 (0, 0))) := zh (h1)
          have HszX1_131 := zh hsz
          clear h1 hfar hbel hsz
          simp only [ptr, Act.put, zA]
          refine zr (.int .i64 0) X1_131 rfl ?_
          simp only [Act.put, zA]
          refine zr (.int .i64 0) X1_131 rfl ?_
          simp only [Act.put, zA]
          refine wpList_nil ?_
          have hfo0 : FsOwn X1_131 w.heap.size (.slice A122 2 c122) [l1, l2] := ⟨_, _, _, rfl, Ow79_121.out, HIn.out⟩
          have hx := HR.out
          rw [show Qu.refP s = ((⟨kd, cv, kv, [l1, l2]⟩ : Qu.Qy), 0, 0) by rw [HREF2.out, show Qu.endT y5 = Qu.unT y5 by unfold Qu.endT; rw [if_pos ⟨hle, hkr0⟩]]; unfold Qu.outT; rw [if_pos hye]] at hx
          injection hx with hq hx2
          injection hx2 with hof her
          subst hq hof her
          have hfo := hfo0
          have hbw := HBW.out.b
          go_wp2_with fail
          refine bodyPost_ret (v := .tuple #[.agg #[.int .i64 (kd : Int), .int .i64 (cv : Int), .int .i64 (kv : Int), .slice A122 2 c122], .int .i64 0, .int .i64 0]) ?_ rfl ⟨_, _, _, rfl, hfo, hbw⟩
          exact results_row_tmp2 rfl _ _ w.heap.size 24 _ _ _ _ rfl rfl rfl Fx0.out Tryd.underlying24 rfl (by kernel_rfl)
         ·go_upto_region 22 with fail
          refine wp_region_lit ?_
          refine zr (.pointer (some ⟨b15, 0, none⟩)) W1_124 rfl ?_
          simp only [Act.put, zA]
          refine zr (.pointer (some ⟨b15, 0, none⟩)) W1_124 (xo_nil _ rfl rfl) ?_
          simp only [Act.put, zA]
          refine zr (.pointer (some ⟨b15, 2, none⟩)) W1_124 (xo_fld0 2 b15 2 (by kernel_rfl) rfl rfl) ?_
          simp only [Act.put, zA]
          refine zr (.int .i64 ((Qu.unT y5).e : Int)) W1_124 (xo_load1 ⟨b15, 2, none⟩ _ (cells_at Fv3_15.out 2 rfl) Tryd.underlying35 rfl rfl rfl) ?_
          simp only [Act.put, zA]
          refine zr (.bool true) W1_124 (xo_neqT .i64 (((Qu.unT y5).e : Nat) : Int) 0 (by omega) rfl rfl rfl) ?_
          simp only [Act.put, zA]
          refine wpList_nil ?_
          have hS0 := Fv3_15.out
          go_upto_region 23 with fail
          try simp only [List.append_eq, List.cons_append, List.nil_append]
          refine wp_ordT (fun W => W.heap[b15]? = some (.cells #[.slice A_8 n_8 c_8, .int .i64 ((Qu.unT y5).o : Int), .int .i64 ((Qu.unT y5).e : Int)] 79 (0, 0))) (.q 0 (.q 1 (.q 2 (.q 3 (.q 4 (.q 5 (.q 6 (.q 7 (.q 8 (.one 9 (.q 10 (.q 11 .nil)))))))))))) (by kernel_rfl) (by kernel_rfl) (fun _ _ dt _ _ h => by first | exact h.elim | (cases dt <;> exact h)) (by kernel_rfl) (by kernel_rfl) hS0 ?_
          have hb : Below W1_124.heap.size W1_124 W1_124.drew := (Below.refl _ _).drew
          generalize W1_124.drew = V2 at hb ⊢
          have B1 := zh hb
          clear hb
          refine wpOT_q (.agg #[.int .i64 0, .int .i64 0, .int .i64 0, .slice none 0 0]) rfl (by kernel_rfl) (fun v hW => (by unfold execOp; go_simp <;> rfl)) ?_
          simp only [ptr, Act.put, zA]
          refine wpOT_q (.pointer (some ⟨b15, 0, none⟩)) rfl (by kernel_rfl) (fun v hW => rfl) ?_
          simp only [ptr, Act.put, zA]
          refine wpOT_q (.pointer (some ⟨b15, 0, none⟩)) rfl (by kernel_rfl) (fun v hW => (xo_nil _ rfl rfl)) ?_
          simp only [ptr, Act.put, zA]
          refine wpOT_q (.pointer (some ⟨b15, 1, none⟩)) rfl (by kernel_rfl) (fun v hW => (xo_fld0 1 b15 1 (by kernel_rfl) rfl rfl)) ?_
          simp only [ptr, Act.put, zA]
          refine wpOT_q (.int .i64 ((Qu.unT y5).o : Int)) rfl (by kernel_rfl) (fun v hW => (xo_load1 ⟨b15, 1, none⟩ _ (cells_at hW 1 rfl) Tryd.underlying3 rfl rfl rfl)) ?_
          simp only [ptr, Act.put, zA]
          refine wpOT_q (.pointer (some ⟨b15, 0, none⟩)) rfl (by kernel_rfl) (fun v hW => rfl) ?_
          simp only [ptr, Act.put, zA]
          refine wpOT_q (.pointer (some ⟨b15, 0, none⟩)) rfl (by kernel_rfl) (fun v hW => (xo_nil _ rfl rfl)) ?_
          simp only [ptr, Act.put, zA]
          refine wpOT_q (.pointer (some ⟨b15, 2, none⟩)) rfl (by kernel_rfl) (fun v hW => (xo_fld0 2 b15 2 (by kernel_rfl) rfl rfl)) ?_
          simp only [ptr, Act.put, zA]
          refine wpOT_q (.int .i64 ((Qu.unT y5).e : Int)) rfl (by kernel_rfl) (fun v hW => (xo_load1 ⟨b15, 2, none⟩ _ (cells_at hW 2 rfl) Tryd.underlying35 rfl rfl rfl)) ?_
          simp only [ptr, Act.put, zA]
          refine wpOT_one rfl (by kernel_rfl) ?_
          refine hOp_storeW w.heap.size #[.int .i64 0, .int .i64 0, .int .i64 0, .slice none 0 0] #[.int .i64 0, .int .i64 0, .int .i64 0, .slice none 0 0] 24 (heap_keep Fx0.out B1.out) (xo_storeW w.heap.size #[.int .i64 0, .int .i64 0, .int .i64 0, .slice none 0 0] #[.int .i64 0, .int .i64 0, .int .i64 0, .slice none 0 0] (heap_keep Fx0.out B1.out) (by kernel_rfl) rfl (by simp [Value.oneCell']) rfl rfl rfl) ?_
          intro X2_131 h1 hfar hbel hsz
          have YHBW : BW w X2_131 := BW.store (HBW.out.keep B1.out) G2.out hbel
          have YHTS : TS X2_131 A_8 n_8 c_8 t_8 := TS.far (HTS.out.keep B1.out) (heap_keep Fx0.out B1.out) (by decide) hfar
          have YHIn : OwnsC X2_131 46 w.heap.size ([] ++ [Hd.mk A1f l1.length c1f] ++ [Hd.mk A2f l2.length c2f]) ([] ++ [l1] ++ [l2]) := OwnsC.farT (HIn.out.keep B1.out) (heap_keep Fx0.out B1.out) (by decide) hfar
          have YOw79_121 : X2_131.ownsRow w.heap.size 28 1 (.slice A122 2 c122) 2 (fl hdC (([(Hd.mk A1f l1.length c1f)]) ++ ([(Hd.mk A2f l2.length c2f)]))) := own_farT (own_keep Ow79_121.out B1.out) (heap_keep Fx0.out B1.out) (by decide) hfar
          have YFv3_15 : X2_131.heap[b15]? = some (.cells #[.slice A_8 n_8 c_8, .int .i64 ((Qu.unT y5).o : Int), .int .i64 ((Qu.unT y5).e : Int)] 79 (0, 0)) := hfar _ _ (Ne.symm N1_0.out) (heap_keep Fv3_15.out B1.out)
          have YFv8_6 : X2_131.heap[b6]? = some (.cells #[.int .i64 (kd : Int), .int .i64 (cv : Int), .int .i64 (kv : Int), .slice A122 2 c122] 24 (0, 0)) := hfar _ _ (Ne.symm N5_0.out) (heap_keep Fv8_6.out B1.out)
          -- drops HCH
          -- drops HTK
          -- drops HOK
          have C0_2 := zb B0 B1
          have hbr := hbel _ _ Gv125.out C0_2.out
          clear B0
          have B0 := zh hbr
          clear hbr
          clear Fv3_15
          have Fv3_15 : Hid (X2_131.heap[b15]? = some (.cells #[.slice A_8 n_8 c_8, .int .i64 ((Qu.unT y5).o : Int), .int .i64 ((Qu.unT y5).e : Int)] 79 (0, 0))) := zh YFv3_15
          clear YFv3_15
          clear Fv8_6
          have Fv8_6 : Hid (X2_131.heap[b6]? = some (.cells #[.int .i64 (kd : Int), .int .i64 (cv : Int), .int .i64 (kv : Int), .slice A122 2 c122] 24 (0, 0))) := zh YFv8_6
          clear YFv8_6
          clear HBW
          have HBW := zh YHBW
          clear YHBW
          clear HTS
          have HTS := zh YHTS
          clear YHTS
          clear HIn
          have HIn := zh YHIn
          clear YHIn
          clear Ow79_121
          have Ow79_121 := zh YOw79_121
          clear YOw79_121
          clear Fx0
          have Fx0 : Hid (X2_131.heap[w.heap.size]? = some (.cells #[.int .i64 0, .int .i64 0, .int .i64 0, .slice none 0 0] 24 (0, 0))) := zh (h1)
          have HszX2_131 := zh hsz
          clear h1 hfar hbel hsz
          simp only [ptr, Act.put, zA]
          refine ⟨Fv3_15.out, ?_⟩
          try simp only [ptr, Act.put, zA]
          refine wpOT_q (.int .i64 ((Qu.unT y5).o : Int)) rfl (by kernel_rfl) (fun v hW => rfl) ?_
          simp only [ptr, Act.put, zA]
          refine wpOT_q (.int .i64 ((Qu.unT y5).e : Int)) rfl (by kernel_rfl) (fun v hW => rfl) ?_
          simp only [ptr, Act.put, zA]
          refine wpOT_nil ?_
          have hx := HR.out
          rw [show Qu.refP s = (Qu.zeroQ, (Qu.unT y5).o, (Qu.unT y5).e) by rw [HREF2.out, show Qu.endT y5 = Qu.unT y5 by unfold Qu.endT; rw [if_pos ⟨hle, hkr0⟩]]; unfold Qu.outT; rw [if_neg hye]] at hx
          injection hx with hq hx2
          injection hx2 with hof her
          subst hq hof her
          have hfo := fsOwn_nil (w := X2_131) (base := w.heap.size)
          have hbw := HBW.out.b
          go_wp2_with fail
          refine bodyPost_ret (v := .tuple #[.agg #[.int .i64 0, .int .i64 0, .int .i64 0, .slice none 0 0], .int .i64 ((Qu.unT y5).o : Int), .int .i64 ((Qu.unT y5).e : Int)]) ?_ rfl ⟨_, _, _, rfl, hfo, hbw⟩
          exact results_row_tmp2 rfl _ _ w.heap.size 24 _ _ _ _ rfl rfl rfl Fx0.out Tryd.underlying24 rfl (by kernel_rfl)
       ·go_upto_region 20 with fail
        refine wp_region_lit ?_
        refine zr (.pointer (some ⟨b15, 0, none⟩)) X123 rfl ?_
        simp only [Act.put, zA]
        refine zr (.pointer (some ⟨b15, 0, none⟩)) X123 (xo_nil _ rfl rfl) ?_
        simp only [Act.put, zA]
        refine zr (.pointer (some ⟨b15, 2, none⟩)) X123 (xo_fld0 2 b15 2 (by kernel_rfl) rfl rfl) ?_
        simp only [Act.put, zA]
        refine zr (.int .i64 (y5.e : Int)) X123 (xo_load1 ⟨b15, 2, none⟩ _ (cells_at Fv3_15.out 2 rfl) Tryd.underlying35 rfl rfl rfl) ?_
        simp only [Act.put, zA]
        refine zr (.bool false) X123 (xo_eqlF .i64 ((y5.e : Nat) : Int) 0 (by omega) rfl rfl rfl) ?_
        simp only [Act.put, zA]
        refine zr (.bool false) X123 rfl ?_
        simp only [Act.put, zA]
        refine zl ?_
        try simp only [Act.put, zA]
        refine zl ?_
        try simp only [Act.put, zA]
        refine zl ?_
        try simp only [Act.put, zA]
        refine zl ?_
        try simp only [Act.put, zA]
        refine zl ?_
        try simp only [Act.put, zA]
        refine zl ?_
        try simp only [Act.put, zA]
        refine zl ?_
        try simp only [Act.put, zA]
        refine zl ?_
        try simp only [Act.put, zA]
        refine zr (.bool false) X123 rfl ?_
        simp only [Act.put, zA]
        refine wpList_nil ?_
        by_cases hye : y5.e = 0
        ·go_upto_region 22 with fail
         refine wp_region_lit ?_
         refine zr (.pointer (some ⟨b15, 0, none⟩)) X123 rfl ?_
         simp only [Act.put, zA]
         refine zr (.pointer (some ⟨b15, 0, none⟩)) X123 (xo_nil _ rfl rfl) ?_
         simp only [Act.put, zA]
         refine zr (.pointer (some ⟨b15, 2, none⟩)) X123 (xo_fld0 2 b15 2 (by kernel_rfl) rfl rfl) ?_
         simp only [Act.put, zA]
         refine zr (.int .i64 (y5.e : Int)) X123 (xo_load1 ⟨b15, 2, none⟩ _ (cells_at Fv3_15.out 2 rfl) Tryd.underlying35 rfl rfl rfl) ?_
         simp only [Act.put, zA]
         refine zr (.bool false) X123 (xo_neqF .i64 ((y5.e : Nat) : Int) 0 (by omega) rfl rfl rfl) ?_
         simp only [Act.put, zA]
         refine wpList_nil ?_
         go_upto_region 24 with fail
         refine wp_region_lit ?_
         refine zr (.agg #[.int .i64 (kd : Int), .int .i64 (cv : Int), .int .i64 (kv : Int), .slice A122 2 c122]) X123 (xo_loadW b6 _ Fv8_6.out Tryd.underlying24 rfl (by kernel_rfl) rfl rfl) ?_
         simp only [Act.put, zA]
         refine wpList_storeW w.heap.size #[.int .i64 0, .int .i64 0, .int .i64 0, .slice none 0 0] #[.int .i64 (kd : Int), .int .i64 (cv : Int), .int .i64 (kv : Int), .slice A122 2 c122] 24 (by kernel_rfl) Fx0.out (xo_storeW w.heap.size #[.int .i64 0, .int .i64 0, .int .i64 0, .slice none 0 0] #[.int .i64 (kd : Int), .int .i64 (cv : Int), .int .i64 (kv : Int), .slice A122 2 c122] Fx0.out (by kernel_rfl) rfl (by simp [Value.oneCell']) rfl rfl rfl) ?_
         intro X1_124 h1 hfar hbel hsz
         have YHBW : BW w X1_124 := BW.store HBW.out G2.out hbel
         have YHTS : TS X1_124 A_7 n_7 c_7 t_7 := TS.far HTS.out Fx0.out (by decide) hfar
         have YHIn : OwnsC X1_124 46 w.heap.size ([] ++ [Hd.mk A1f l1.length c1f] ++ [Hd.mk A2f l2.length c2f]) ([] ++ [l1] ++ [l2]) := OwnsC.farT HIn.out Fx0.out (by decide) hfar
         have YOw79_121 : X1_124.ownsRow w.heap.size 28 1 (.slice A122 2 c122) 2 (fl hdC (([(Hd.mk A1f l1.length c1f)]) ++ ([(Hd.mk A2f l2.length c2f)]))) := own_farT Ow79_121.out Fx0.out (by decide) hfar
         have YFv3_15 : X1_124.heap[b15]? = some (.cells #[.slice A_7 n_7 c_7, .int .i64 (y5.o : Int), .int .i64 (y5.e : Int)] 79 (0, 0)) := hfar _ _ (Ne.symm N1_0.out) Fv3_15.out
         have YFv8_6 : X1_124.heap[b6]? = some (.cells #[.int .i64 (kd : Int), .int .i64 (cv : Int), .int .i64 (kv : Int), .slice A122 2 c122] 24 (0, 0)) := hfar _ _ (Ne.symm N5_0.out) Fv8_6.out
         have hbr := hbel _ _ Gv115.out B0.out
         clear B0
         have B0 := zh hbr
         clear hbr
         clear Fv3_15
         have Fv3_15 : Hid (X1_124.heap[b15]? = some (.cells #[.slice A_7 n_7 c_7, .int .i64 (y5.o : Int), .int .i64 (y5.e : Int)] 79 (0, 0))) := zh YFv3_15
         clear YFv3_15
         clear Fv8_6
         have Fv8_6 : Hid (X1_124.heap[b6]? = some (.cells #[.int .i64 (kd : Int), .int .i64 (cv : Int), .int .i64 (kv : Int), .slice A122 2 c122] 24 (0, 0))) := zh YFv8_6
         clear YFv8_6
         clear HBW
         have HBW := zh YHBW
         clear YHBW
         clear HTS
         have HTS := zh YHTS
         clear YHTS
         clear HIn
         have HIn := zh YHIn
         clear YHIn
         clear Ow79_121
         have Ow79_121 := zh YOw79_121
         clear YOw79_121
         clear Fx0
         have Fx0 : Hid (X1_124.heap[w.heap.size]? = some (.cells #[.int .i64 (kd : Int), .int .i64 (cv : Int), .int .i64 (kv : Int), .slice A122 2 c122] 24 (0, 0))) := zh (h1)
         have HszX1_124 := zh hsz
         clear h1 hfar hbel hsz
         simp only [ptr, Act.put, zA]
         refine zr (.int .i64 0) X1_124 rfl ?_
         simp only [Act.put, zA]
         refine zr (.int .i64 0) X1_124 rfl ?_
         simp only [Act.put, zA]
         refine wpList_nil ?_
         have hfo0 : FsOwn X1_124 w.heap.size (.slice A122 2 c122) [l1, l2] := ⟨_, _, _, rfl, Ow79_121.out, HIn.out⟩
         have hx := HR.out
         rw [show Qu.refP s = ((⟨kd, cv, kv, [l1, l2]⟩ : Qu.Qy), 0, 0) by rw [HREF2.out, show Qu.endT y5 = y5 by unfold Qu.endT; rw [if_neg (fun a => hle a.1)]]; unfold Qu.outT; rw [if_pos hye]] at hx
         injection hx with hq hx2
         injection hx2 with hof her
         subst hq hof her
         have hfo := hfo0
         have hbw := HBW.out.b
         go_wp2_with fail
         refine bodyPost_ret (v := .tuple #[.agg #[.int .i64 (kd : Int), .int .i64 (cv : Int), .int .i64 (kv : Int), .slice A122 2 c122], .int .i64 0, .int .i64 0]) ?_ rfl ⟨_, _, _, rfl, hfo, hbw⟩
         exact results_row_tmp2 rfl _ _ w.heap.size 24 _ _ _ _ rfl rfl rfl Fx0.out Tryd.underlying24 rfl (by kernel_rfl)
        ·go_upto_region 22 with fail
         refine wp_region_lit ?_
         refine zr (.pointer (some ⟨b15, 0, none⟩)) X123 rfl ?_
         simp only [Act.put, zA]
         refine zr (.pointer (some ⟨b15, 0, none⟩)) X123 (xo_nil _ rfl rfl) ?_
         simp only [Act.put, zA]
         refine zr (.pointer (some ⟨b15, 2, none⟩)) X123 (xo_fld0 2 b15 2 (by kernel_rfl) rfl rfl) ?_
         simp only [Act.put, zA]
         refine zr (.int .i64 (y5.e : Int)) X123 (xo_load1 ⟨b15, 2, none⟩ _ (cells_at Fv3_15.out 2 rfl) Tryd.underlying35 rfl rfl rfl) ?_
         simp only [Act.put, zA]
         refine zr (.bool true) X123 (xo_neqT .i64 ((y5.e : Nat) : Int) 0 (by omega) rfl rfl rfl) ?_
         simp only [Act.put, zA]
         refine wpList_nil ?_
         have hS0 := Fv3_15.out
         go_upto_region 23 with fail
         try simp only [List.append_eq, List.cons_append, List.nil_append]
         refine wp_ordT (fun W => W.heap[b15]? = some (.cells #[.slice A_7 n_7 c_7, .int .i64 (y5.o : Int), .int .i64 (y5.e : Int)] 79 (0, 0))) (.q 0 (.q 1 (.q 2 (.q 3 (.q 4 (.q 5 (.q 6 (.q 7 (.q 8 (.one 9 (.q 10 (.q 11 .nil)))))))))))) (by kernel_rfl) (by kernel_rfl) (fun _ _ dt _ _ h => by first | exact h.elim | (cases dt <;> exact h)) (by kernel_rfl) (by kernel_rfl) hS0 ?_
         have hb : Below X123.heap.size X123 X123.drew := (Below.refl _ _).drew
         generalize X123.drew = V2 at hb ⊢
         have B1 := zh hb
         clear hb
         refine wpOT_q (.agg #[.int .i64 0, .int .i64 0, .int .i64 0, .slice none 0 0]) rfl (by kernel_rfl) (fun v hW => (by unfold execOp; go_simp <;> rfl)) ?_
         simp only [ptr, Act.put, zA]
         refine wpOT_q (.pointer (some ⟨b15, 0, none⟩)) rfl (by kernel_rfl) (fun v hW => rfl) ?_
         simp only [ptr, Act.put, zA]
         refine wpOT_q (.pointer (some ⟨b15, 0, none⟩)) rfl (by kernel_rfl) (fun v hW => (xo_nil _ rfl rfl)) ?_
         simp only [ptr, Act.put, zA]
         refine wpOT_q (.pointer (some ⟨b15, 1, none⟩)) rfl (by kernel_rfl) (fun v hW => (xo_fld0 1 b15 1 (by kernel_rfl) rfl rfl)) ?_
         simp only [ptr, Act.put, zA]
         refine wpOT_q (.int .i64 (y5.o : Int)) rfl (by kernel_rfl) (fun v hW => (xo_load1 ⟨b15, 1, none⟩ _ (cells_at hW 1 rfl) Tryd.underlying3 rfl rfl rfl)) ?_
         simp only [ptr, Act.put, zA]
         refine wpOT_q (.pointer (some ⟨b15, 0, none⟩)) rfl (by kernel_rfl) (fun v hW => rfl) ?_
         simp only [ptr, Act.put, zA]
         refine wpOT_q (.pointer (some ⟨b15, 0, none⟩)) rfl (by kernel_rfl) (fun v hW => (xo_nil _ rfl rfl)) ?_
         simp only [ptr, Act.put, zA]
         refine wpOT_q (.pointer (some ⟨b15, 2, none⟩)) rfl (by kernel_rfl) (fun v hW => (xo_fld0 2 b15 2 (by kernel_rfl) rfl rfl)) ?_
         simp only [ptr, Act.put, zA]
         refine wpOT_q (.int .i64 (y5.e : Int)) rfl (by kernel_rfl) (fun v hW => (xo_load1 ⟨b15, 2, none⟩ _ (cells_at hW 2 rfl) Tryd.underlying35 rfl rfl rfl)) ?_
         simp only [ptr, Act.put, zA]
         refine wpOT_one rfl (by kernel_rfl) ?_
         refine hOp_storeW w.heap.size #[.int .i64 0, .int .i64 0, .int .i64 0, .slice none 0 0] #[.int .i64 0, .int .i64 0, .int .i64 0, .slice none 0 0] 24 (heap_keep Fx0.out B1.out) (xo_storeW w.heap.size #[.int .i64 0, .int .i64 0, .int .i64 0, .slice none 0 0] #[.int .i64 0, .int .i64 0, .int .i64 0, .slice none 0 0] (heap_keep Fx0.out B1.out) (by kernel_rfl) rfl (by simp [Value.oneCell']) rfl rfl rfl) ?_
         intro X2_124 h1 hfar hbel hsz
         have YHBW : BW w X2_124 := BW.store (HBW.out.keep B1.out) G2.out hbel
         have YHTS : TS X2_124 A_7 n_7 c_7 t_7 := TS.far (HTS.out.keep B1.out) (heap_keep Fx0.out B1.out) (by decide) hfar
         have YHIn : OwnsC X2_124 46 w.heap.size ([] ++ [Hd.mk A1f l1.length c1f] ++ [Hd.mk A2f l2.length c2f]) ([] ++ [l1] ++ [l2]) := OwnsC.farT (HIn.out.keep B1.out) (heap_keep Fx0.out B1.out) (by decide) hfar
         have YOw79_121 : X2_124.ownsRow w.heap.size 28 1 (.slice A122 2 c122) 2 (fl hdC (([(Hd.mk A1f l1.length c1f)]) ++ ([(Hd.mk A2f l2.length c2f)]))) := own_farT (own_keep Ow79_121.out B1.out) (heap_keep Fx0.out B1.out) (by decide) hfar
         have YFv3_15 : X2_124.heap[b15]? = some (.cells #[.slice A_7 n_7 c_7, .int .i64 (y5.o : Int), .int .i64 (y5.e : Int)] 79 (0, 0)) := hfar _ _ (Ne.symm N1_0.out) (heap_keep Fv3_15.out B1.out)
         have YFv8_6 : X2_124.heap[b6]? = some (.cells #[.int .i64 (kd : Int), .int .i64 (cv : Int), .int .i64 (kv : Int), .slice A122 2 c122] 24 (0, 0)) := hfar _ _ (Ne.symm N5_0.out) (heap_keep Fv8_6.out B1.out)
         have C0_2 := zb B0 B1
         have hbr := hbel _ _ Gv115.out C0_2.out
         clear B0
         have B0 := zh hbr
         clear hbr
         clear Fv3_15
         have Fv3_15 : Hid (X2_124.heap[b15]? = some (.cells #[.slice A_7 n_7 c_7, .int .i64 (y5.o : Int), .int .i64 (y5.e : Int)] 79 (0, 0))) := zh YFv3_15
         clear YFv3_15
         clear Fv8_6
         have Fv8_6 : Hid (X2_124.heap[b6]? = some (.cells #[.int .i64 (kd : Int), .int .i64 (cv : Int), .int .i64 (kv : Int), .slice A122 2 c122] 24 (0, 0))) := zh YFv8_6
         clear YFv8_6
         clear HBW
         have HBW := zh YHBW
         clear YHBW
         clear HTS
         have HTS := zh YHTS
         clear YHTS
         clear HIn
         have HIn := zh YHIn
         clear YHIn
         clear Ow79_121
         have Ow79_121 := zh YOw79_121
         clear YOw79_121
         clear Fx0
         have Fx0 : Hid (X2_124.heap[w.heap.size]? = some (.cells #[.int .i64 0, .int .i64 0, .int .i64 0, .slice none 0 0] 24 (0, 0))) := zh (h1)
         have HszX2_124 := zh hsz
         clear h1 hfar hbel hsz
         simp only [ptr, Act.put, zA]
         refine ⟨Fv3_15.out, ?_⟩
         try simp only [ptr, Act.put, zA]
         refine wpOT_q (.int .i64 (y5.o : Int)) rfl (by kernel_rfl) (fun v hW => rfl) ?_
         simp only [ptr, Act.put, zA]
         refine wpOT_q (.int .i64 (y5.e : Int)) rfl (by kernel_rfl) (fun v hW => rfl) ?_
         simp only [ptr, Act.put, zA]
         refine wpOT_nil ?_
         have hx := HR.out
         rw [show Qu.refP s = (Qu.zeroQ, y5.o, y5.e) by rw [HREF2.out, show Qu.endT y5 = y5 by unfold Qu.endT; rw [if_neg (fun a => hle a.1)]]; unfold Qu.outT; rw [if_neg hye]] at hx
         injection hx with hq hx2
         injection hx2 with hof her
         subst hq hof her
         have hfo := fsOwn_nil (w := X2_124) (base := w.heap.size)
         have hbw := HBW.out.b
         go_wp2_with fail
         refine bodyPost_ret (v := .tuple #[.agg #[.int .i64 0, .int .i64 0, .int .i64 0, .slice none 0 0], .int .i64 (y5.o : Int), .int .i64 (y5.e : Int)]) ?_ rfl ⟨_, _, _, rfl, hfo, hbw⟩
         exact results_row_tmp2 rfl _ _ w.heap.size 24 _ _ _ _ rfl rfl rfl Fx0.out Tryd.underlying24 rfl (by kernel_rfl)
      ·have hci94 : ¬ ((kd : Int) = 7) := by omega
       go_upto_region 17 with fail
       refine wp_region_lit ?_
       refine zr (.pointer (some ⟨b6, 0, none⟩)) X93 (xo_fld0 0 b6 0 (by kernel_rfl) rfl rfl) ?_
       simp only [Act.put, zA]
       refine zr (.int .i64 (kd : Int)) X93 (xo_load1 ⟨b6, 0, none⟩ _ (cells_at Fv8_6.out 0 rfl) Tryd.underlying3 rfl rfl rfl) ?_
       simp only [Act.put, zA]
       refine zr (.bool false) X93 (xo_eqlF .i64 (kd : Int) 7 (by omega) rfl rfl rfl) ?_
       simp only [Act.put, zA]
       refine wpList_nil ?_
       have HFS : Hid (Qu.filS s kd y2 = ([l1], y3)) := zh (by unfold Qu.filS; rw [if_neg h7, HF1.out])
       have HREF2 : Hid (Qu.refP s = Qu.outT (⟨kd, cv, kv, [l1]⟩ : Qu.Qy) (Qu.endT y3)) := zh (by rw [HREF.out]; unfold Qu.restT; rw [HC1.out]; simp only; rw [HC2.out]; simp only; rw [HFS.out])
       by_cases hle : y3.e = 0
       ·by_cases hkr0 : Qu.kdR y3.st.tok = 0
        ·go_upto_region 20 with fail
         refine wp_region_lit ?_
         refine zr (.pointer (some ⟨b15, 0, none⟩)) X93 rfl ?_
         simp only [Act.put, zA]
         refine zr (.pointer (some ⟨b15, 0, none⟩)) X93 (xo_nil _ rfl rfl) ?_
         simp only [Act.put, zA]
         refine zr (.pointer (some ⟨b15, 2, none⟩)) X93 (xo_fld0 2 b15 2 (by kernel_rfl) rfl rfl) ?_
         simp only [Act.put, zA]
         refine zr (.int .i64 (y3.e : Int)) X93 (xo_load1 ⟨b15, 2, none⟩ _ (cells_at Fv3_15.out 2 rfl) Tryd.underlying35 rfl rfl rfl) ?_
         simp only [Act.put, zA]
         refine zr (.bool true) X93 (xo_eqlT .i64 ((y3.e : Nat) : Int) 0 (by omega) rfl rfl rfl) ?_
         simp only [Act.put, zA]
         refine zr (.bool true) X93 rfl ?_
         simp only [Act.put, zA]
         refine zr (.pointer (some ⟨b15, 0, none⟩)) X93 rfl ?_
         simp only [Act.put, zA]
         refine zr (.pointer (some ⟨b15, 0, none⟩)) X93 (xo_nil _ rfl rfl) ?_
         simp only [Act.put, zA]
         refine zr (.pointer (some ⟨b15, 0, none⟩)) X93 (xo_fld0 0 b15 0 (by kernel_rfl) rfl rfl) ?_
         simp only [Act.put, zA]
         refine zr (.slice A_5 n_5 c_5) X93 (xo_load1 ⟨b15, 0, none⟩ _ (cells_at Fv3_15.out 0 rfl) Tryd.underlying76 rfl rfl rfl) ?_
         simp only [Act.put, zA]
         refine zr (.pointer (some (gad A_5 (0 * 3)))) X93 (xg_idx .i64 HTS.out.sg HCH.out.head Tryd.underlying76 (by kernel_rfl) rfl rfl rfl) ?_
         simp only [Act.put, zA]
         refine zr (.pointer (some (gad A_5 ((0 * 3) + 0)))) X93 (xg_fld 0 HTS.out.sg HCH.out.head (by kernel_rfl) rfl rfl) ?_
         simp only [Act.put, zA]
         refine zr (.int .i64 ((Qu.tokR y3.st).kind : Int)) X93 (xg_load1 (E := tkR) (i := 0) (j := 0) HTS.out.sg HCH.out.head rfl rfl Tryd.underlying3 rfl rfl rfl) ?_
         simp only [Act.put, zA]
         refine zr (.bool false) X93 (xo_neqF .i64 (((Qu.tokR y3.st).kind : Nat) : Int) 0 (show ((Qu.kdR y3.st.tok : Nat) : Int) = 0 by omega) rfl rfl rfl) ?_
         simp only [Act.put, zA]
         refine zr (.bool false) X93 rfl ?_
         simp only [Act.put, zA]
         refine wpList_nil ?_
         have hye := hle
         go_upto_region 22 with fail
         refine wp_region_lit ?_
         refine zr (.pointer (some ⟨b15, 0, none⟩)) X93 rfl ?_
         simp only [Act.put, zA]
         refine zr (.pointer (some ⟨b15, 0, none⟩)) X93 (xo_nil _ rfl rfl) ?_
         simp only [Act.put, zA]
         refine zr (.pointer (some ⟨b15, 2, none⟩)) X93 (xo_fld0 2 b15 2 (by kernel_rfl) rfl rfl) ?_
         simp only [Act.put, zA]
         refine zr (.int .i64 (y3.e : Int)) X93 (xo_load1 ⟨b15, 2, none⟩ _ (cells_at Fv3_15.out 2 rfl) Tryd.underlying35 rfl rfl rfl) ?_
         simp only [Act.put, zA]
         refine zr (.bool false) X93 (xo_neqF .i64 ((y3.e : Nat) : Int) 0 (by omega) rfl rfl rfl) ?_
         simp only [Act.put, zA]
         refine wpList_nil ?_
         go_upto_region 24 with fail
         refine wp_region_lit ?_
         refine zr (.agg #[.int .i64 (kd : Int), .int .i64 (cv : Int), .int .i64 (kv : Int), .slice A92 1 c92]) X93 (xo_loadW b6 _ Fv8_6.out Tryd.underlying24 rfl (by kernel_rfl) rfl rfl) ?_
         simp only [Act.put, zA]
         refine wpList_storeW w.heap.size #[.int .i64 0, .int .i64 0, .int .i64 0, .slice none 0 0] #[.int .i64 (kd : Int), .int .i64 (cv : Int), .int .i64 (kv : Int), .slice A92 1 c92] 24 (by kernel_rfl) Fx0.out (xo_storeW w.heap.size #[.int .i64 0, .int .i64 0, .int .i64 0, .slice none 0 0] #[.int .i64 (kd : Int), .int .i64 (cv : Int), .int .i64 (kv : Int), .slice A92 1 c92] Fx0.out (by kernel_rfl) rfl (by simp [Value.oneCell']) rfl rfl rfl) ?_
         intro X1_95 h1 hfar hbel hsz
         have YHBW : BW w X1_95 := BW.store HBW.out G2.out hbel
         have YHTS : TS X1_95 A_5 n_5 c_5 t_5 := TS.far HTS.out Fx0.out (by decide) hfar
         have YHIn : OwnsC X1_95 46 w.heap.size ([] ++ [Hd.mk A1f l1.length c1f]) ([] ++ [l1]) := OwnsC.farT HIn.out Fx0.out (by decide) hfar
         have YOw67_91 : X1_95.ownsRow w.heap.size 28 1 (.slice A92 1 c92) 1 (fl hdC ([(Hd.mk A1f l1.length c1f)])) := own_farT Ow67_91.out Fx0.out (by decide) hfar
         have YFv3_15 : X1_95.heap[b15]? = some (.cells #[.slice A_5 n_5 c_5, .int .i64 (y3.o : Int), .int .i64 (y3.e : Int)] 79 (0, 0)) := hfar _ _ (Ne.symm N1_0.out) Fv3_15.out
         have YFv8_6 : X1_95.heap[b6]? = some (.cells #[.int .i64 (kd : Int), .int .i64 (cv : Int), .int .i64 (kv : Int), .slice A92 1 c92] 24 (0, 0)) := hfar _ _ (Ne.symm N5_0.out) Fv8_6.out
         have hbr := hbel _ _ Gv85.out B0.out
         clear B0
         have B0 := zh hbr
         clear hbr
         clear Fv3_15
         have Fv3_15 : Hid (X1_95.heap[b15]? = some (.cells #[.slice A_5 n_5 c_5, .int .i64 (y3.o : Int), .int .i64 (y3.e : Int)] 79 (0, 0))) := zh YFv3_15
         clear YFv3_15
         clear Fv8_6
         have Fv8_6 : Hid (X1_95.heap[b6]? = some (.cells #[.int .i64 (kd : Int), .int .i64 (cv : Int), .int .i64 (kv : Int), .slice A92 1 c92] 24 (0, 0))) := zh YFv8_6
         clear YFv8_6
         clear HBW
         have HBW := zh YHBW
         clear YHBW
         clear HTS
         have HTS := zh YHTS
         clear YHTS
         clear HIn
         have HIn := zh YHIn
         clear YHIn
         clear Ow67_91
         have Ow67_91 := zh YOw67_91
         clear YOw67_91
         clear Fx0
         have Fx0 : Hid (X1_95.heap[w.heap.size]? = some (.cells #[.int .i64 (kd : Int), .int .i64 (cv : Int), .int .i64 (kv : Int), .slice A92 1 c92] 24 (0, 0))) := zh (h1)
         have HszX1_95 := zh hsz
         clear h1 hfar hbel hsz
         simp only [ptr, Act.put, zA]
         refine zr (.int .i64 0) X1_95 rfl ?_
         simp only [Act.put, zA]
         refine zr (.int .i64 0) X1_95 rfl ?_
         simp only [Act.put, zA]
         refine wpList_nil ?_
         have hfo0 : FsOwn X1_95 w.heap.size (.slice A92 1 c92) [l1] := ⟨_, _, _, rfl, Ow67_91.out, HIn.out⟩
         have hx := HR.out
         rw [show Qu.refP s = ((⟨kd, cv, kv, [l1]⟩ : Qu.Qy), 0, 0) by rw [HREF2.out, show Qu.endT y3 = y3 by unfold Qu.endT; rw [if_neg (fun a => a.2 hkr0)]]; unfold Qu.outT; rw [if_pos hye]] at hx
         injection hx with hq hx2
         injection hx2 with hof her
         subst hq hof her
         have hfo := hfo0
         have hbw := HBW.out.b
         go_wp2_with fail
         refine bodyPost_ret (v := .tuple #[.agg #[.int .i64 (kd : Int), .int .i64 (cv : Int), .int .i64 (kv : Int), .slice A92 1 c92], .int .i64 0, .int .i64 0]) ?_ rfl ⟨_, _, _, rfl, hfo, hbw⟩
         exact results_row_tmp2 rfl _ _ w.heap.size 24 _ _ _ _ rfl rfl rfl Fx0.out Tryd.underlying24 rfl (by kernel_rfl)
        ·go_upto_region 20 with fail
         refine wp_region_lit ?_
         refine zr (.pointer (some ⟨b15, 0, none⟩)) X93 rfl ?_
         simp only [Act.put, zA]
         refine zr (.pointer (some ⟨b15, 0, none⟩)) X93 (xo_nil _ rfl rfl) ?_
         simp only [Act.put, zA]
         refine zr (.pointer (some ⟨b15, 2, none⟩)) X93 (xo_fld0 2 b15 2 (by kernel_rfl) rfl rfl) ?_
         simp only [Act.put, zA]
         refine zr (.int .i64 (y3.e : Int)) X93 (xo_load1 ⟨b15, 2, none⟩ _ (cells_at Fv3_15.out 2 rfl) Tryd.underlying35 rfl rfl rfl) ?_
         simp only [Act.put, zA]
         refine zr (.bool true) X93 (xo_eqlT .i64 ((y3.e : Nat) : Int) 0 (by omega) rfl rfl rfl) ?_
         simp only [Act.put, zA]
         refine zr (.bool true) X93 rfl ?_
         simp only [Act.put, zA]
         refine zr (.pointer (some ⟨b15, 0, none⟩)) X93 rfl ?_
         simp only [Act.put, zA]
         refine zr (.pointer (some ⟨b15, 0, none⟩)) X93 (xo_nil _ rfl rfl) ?_
         simp only [Act.put, zA]
         refine zr (.pointer (some ⟨b15, 0, none⟩)) X93 (xo_fld0 0 b15 0 (by kernel_rfl) rfl rfl) ?_
         simp only [Act.put, zA]
         refine zr (.slice A_5 n_5 c_5) X93 (xo_load1 ⟨b15, 0, none⟩ _ (cells_at Fv3_15.out 0 rfl) Tryd.underlying76 rfl rfl rfl) ?_
         simp only [Act.put, zA]
         refine zr (.pointer (some (gad A_5 (0 * 3)))) X93 (xg_idx .i64 HTS.out.sg HCH.out.head Tryd.underlying76 (by kernel_rfl) rfl rfl rfl) ?_
         simp only [Act.put, zA]
         refine zr (.pointer (some (gad A_5 ((0 * 3) + 0)))) X93 (xg_fld 0 HTS.out.sg HCH.out.head (by kernel_rfl) rfl rfl) ?_
         simp only [Act.put, zA]
         refine zr (.int .i64 ((Qu.tokR y3.st).kind : Int)) X93 (xg_load1 (E := tkR) (i := 0) (j := 0) HTS.out.sg HCH.out.head rfl rfl Tryd.underlying3 rfl rfl rfl) ?_
         simp only [Act.put, zA]
         refine zr (.bool true) X93 (xo_neqT .i64 (((Qu.tokR y3.st).kind : Nat) : Int) 0 (show ¬ ((Qu.kdR y3.st.tok : Nat) : Int) = 0 by omega) rfl rfl rfl) ?_
         simp only [Act.put, zA]
         refine zr (.bool true) X93 rfl ?_
         simp only [Act.put, zA]
         refine wpList_nil ?_
         go_upto_region 21 with fail
         refine wp_region_lit ?_
         refine zr (.pointer (some ⟨b15, 0, none⟩)) X93 rfl ?_
         simp only [Act.put, zA]
         refine wpList_call (by kernel_rfl) 46 Tryd.func46 (by kernel_rfl) (by kernel_rfl) _ _ #[.pointer (some ⟨b15, 0, none⟩)] rfl (by kernel_rfl) ?_
         refine (unexp_as s b15 y3 A_5 n_5 c_5 t_5 X93 ⟨Fv3_15.out, HTS.out, HCH.out, HTK.out, HOK.out⟩).mono ?_
         rintro e W1_95 ⟨rfl, ⟨A_9, n_9, c_9, t_9, hpr⟩, hfc⟩
         have YFx0 : W1_95.heap[w.heap.size]? = some (.cells #[.int .i64 0, .int .i64 0, .int .i64 0, .slice none 0 0] 24 (0, 0)) := hfc.far _ _ N1_0.out N1_0.out Fx0.out
         have YFv8_6 : W1_95.heap[b6]? = some (.cells #[.int .i64 (kd : Int), .int .i64 (cv : Int), .int .i64 (kv : Int), .slice A92 1 c92] 24 (0, 0)) := hfc.far _ _ (Ne.symm N6_1.out) (Ne.symm N6_1.out) Fv8_6.out
         have YOw67_91 : W1_95.ownsRow w.heap.size 28 1 (.slice A92 1 c92) 1 (fl hdC ([(Hd.mk A1f l1.length c1f)])) := own_farP Ow67_91.out Fv3_15.out (by decide) hfc
         have YHBW : BW w W1_95 := BW.farC HBW.out G15.out G15.out hfc
         have YHIn : OwnsC W1_95 46 w.heap.size ([] ++ [Hd.mk A1f l1.length c1f]) ([] ++ [l1]) := OwnsC.farP HIn.out Fv3_15.out (by decide) hfc
         have hb := farc_bel hV0 B0.out hfc
         have hbr := hb
         clear B0
         have B0 := zh hbr
         clear hbr
         clear hb
         clear Fx0
         have Fx0 : Hid (W1_95.heap[w.heap.size]? = some (.cells #[.int .i64 0, .int .i64 0, .int .i64 0, .slice none 0 0] 24 (0, 0))) := zh YFx0
         clear YFx0
         clear Fv8_6
         have Fv8_6 : Hid (W1_95.heap[b6]? = some (.cells #[.int .i64 (kd : Int), .int .i64 (cv : Int), .int .i64 (kv : Int), .slice A92 1 c92] 24 (0, 0))) := zh YFv8_6
         clear YFv8_6
         clear Ow67_91
         have Ow67_91 : Hid (W1_95.ownsRow w.heap.size 28 1 (.slice A92 1 c92) 1 (fl hdC ([(Hd.mk A1f l1.length c1f)]))) := zh YOw67_91
         clear YOw67_91
         clear HBW
         have HBW : Hid (BW w W1_95) := zh YHBW
         clear YHBW
         clear HIn
         have HIn : Hid (OwnsC W1_95 46 w.heap.size ([] ++ [Hd.mk A1f l1.length c1f]) ([] ++ [l1])) := zh YHIn
         clear YHIn
         have Gv96 : Hid (V.heap.size ≤ w.heap.size) := zh (by omega)
         have Lt97 : Hid (w.heap.size < W1_95.heap.size) := zh (xp_lt Fx0.out)
         have Gv98 : Hid (V.heap.size ≤ b6) := zh (by omega)
         have Lt99 : Hid (b6 < W1_95.heap.size) := zh (xp_lt Fv8_6.out)
         have hln_9 := hpr.tt.sg.len
         have hcp_9 := hpr.tt.sg.cap
         have htp_9 := hpr.tt.sg.top
         have hps_9 := hpr.ch.pos
         try clear HTS
         have HTS := zh hpr.tt 
         try clear HCH
         have HCH := zh hpr.ch 
         try clear HTK
         have HTK := zh hpr.tk 
         try clear HOK
         have HOK := zh hpr.ok 
         clear Fv3_15
         have Fv3_15 : Hid (W1_95.heap[b15]? = some (.cells #[.slice A_9 n_9 c_9, .int .i64 ((Qu.unT y3).o : Int), .int .i64 ((Qu.unT y3).e : Int)] 79 (0, 0))) := zh (hpr.row)
         have Gv100 : Hid (V.heap.size ≤ b15) := zh (by omega)
         have Lt101 : Hid (b15 < W1_95.heap.size) := zh (xp_lt Fv3_15.out)
         clear hfc 
         refine ⟨_, rfl, ?_⟩
         simp only [Act.put, zA]
         refine wpList_nil ?_
         by_cases hye : (Qu.unT y3).e = 0
         ·go_upto_region 22 with fail
          refine wp_region_lit ?_
          refine zr (.pointer (some ⟨b15, 0, none⟩)) W1_95 rfl ?_
          simp only [Act.put, zA]
          refine zr (.pointer (some ⟨b15, 0, none⟩)) W1_95 (xo_nil _ rfl rfl) ?_
          simp only [Act.put, zA]
          refine zr (.pointer (some ⟨b15, 2, none⟩)) W1_95 (xo_fld0 2 b15 2 (by kernel_rfl) rfl rfl) ?_
          simp only [Act.put, zA]
          refine zr (.int .i64 ((Qu.unT y3).e : Int)) W1_95 (xo_load1 ⟨b15, 2, none⟩ _ (cells_at Fv3_15.out 2 rfl) Tryd.underlying35 rfl rfl rfl) ?_
          simp only [Act.put, zA]
          refine zr (.bool false) W1_95 (xo_neqF .i64 (((Qu.unT y3).e : Nat) : Int) 0 (by omega) rfl rfl rfl) ?_
          simp only [Act.put, zA]
          refine wpList_nil ?_
          go_upto_region 24 with fail
          refine wp_region_lit ?_
          refine zr (.agg #[.int .i64 (kd : Int), .int .i64 (cv : Int), .int .i64 (kv : Int), .slice A92 1 c92]) W1_95 (xo_loadW b6 _ Fv8_6.out Tryd.underlying24 rfl (by kernel_rfl) rfl rfl) ?_
          simp only [Act.put, zA]
          refine wpList_storeW w.heap.size #[.int .i64 0, .int .i64 0, .int .i64 0, .slice none 0 0] #[.int .i64 (kd : Int), .int .i64 (cv : Int), .int .i64 (kv : Int), .slice A92 1 c92] 24 (by kernel_rfl) Fx0.out (xo_storeW w.heap.size #[.int .i64 0, .int .i64 0, .int .i64 0, .slice none 0 0] #[.int .i64 (kd : Int), .int .i64 (cv : Int), .int .i64 (kv : Int), .slice A92 1 c92] Fx0.out (by kernel_rfl) rfl (by simp [Value.oneCell']) rfl rfl rfl) ?_
          intro X1_102 h1 hfar hbel hsz
          have YHBW : BW w X1_102 := BW.store HBW.out G2.out hbel
          have YHTS : TS X1_102 A_9 n_9 c_9 t_9 := TS.far HTS.out Fx0.out (by decide) hfar
          have YHIn : OwnsC X1_102 46 w.heap.size ([] ++ [Hd.mk A1f l1.length c1f]) ([] ++ [l1]) := OwnsC.farT HIn.out Fx0.out (by decide) hfar
          have YOw67_91 : X1_102.ownsRow w.heap.size 28 1 (.slice A92 1 c92) 1 (fl hdC ([(Hd.mk A1f l1.length c1f)])) := own_farT Ow67_91.out Fx0.out (by decide) hfar
          have YFv3_15 : X1_102.heap[b15]? = some (.cells #[.slice A_9 n_9 c_9, .int .i64 ((Qu.unT y3).o : Int), .int .i64 ((Qu.unT y3).e : Int)] 79 (0, 0)) := hfar _ _ (Ne.symm N1_0.out) Fv3_15.out
          have YFv8_6 : X1_102.heap[b6]? = some (.cells #[.int .i64 (kd : Int), .int .i64 (cv : Int), .int .i64 (kv : Int), .slice A92 1 c92] 24 (0, 0)) := hfar _ _ (Ne.symm N5_0.out) Fv8_6.out
          -- drops HCH
          -- drops HTK
          -- drops HOK
          have hbr := hbel _ _ Gv96.out B0.out
          clear B0
          have B0 := zh hbr
          clear hbr
          clear Fv3_15
          have Fv3_15 : Hid (X1_102.heap[b15]? = some (.cells #[.slice A_9 n_9 c_9, .int .i64 ((Qu.unT y3).o : Int), .int .i64 ((Qu.unT y3).e : Int)] 79 (0, 0))) := zh YFv3_15
          clear YFv3_15
          clear Fv8_6
          have Fv8_6 : Hid (X1_102.heap[b6]? = some (.cells #[.int .i64 (kd : Int), .int .i64 (cv : Int), .int .i64 (kv : Int), .slice A92 1 c92] 24 (0, 0))) := zh YFv8_6
          clear YFv8_6
          clear HBW
          have HBW := zh YHBW
          clear YHBW
          clear HTS
          have HTS := zh YHTS
          clear YHTS
          clear HIn
          have HIn := zh YHIn
          clear YHIn
          clear Ow67_91
          have Ow67_91 := zh YOw67_91
          clear YOw67_91
          clear Fx0
          have Fx0 : Hid (X1_102.heap[w.heap.size]? = some (.cells #[.int .i64 (kd : Int), .int .i64 (cv : Int), .int .i64 (kv : Int), .slice A92 1 c92] 24 (0, 0))) := zh (h1)
          have HszX1_102 := zh hsz
          clear h1 hfar hbel hsz
          simp only [ptr, Act.put, zA]
          refine zr (.int .i64 0) X1_102 rfl ?_
          simp only [Act.put, zA]
          refine zr (.int .i64 0) X1_102 rfl ?_
          simp only [Act.put, zA]
          refine wpList_nil ?_
          have hfo0 : FsOwn X1_102 w.heap.size (.slice A92 1 c92) [l1] := ⟨_, _, _, rfl, Ow67_91.out, HIn.out⟩
          have hx := HR.out
          rw [show Qu.refP s = ((⟨kd, cv, kv, [l1]⟩ : Qu.Qy), 0, 0) by rw [HREF2.out, show Qu.endT y3 = Qu.unT y3 by unfold Qu.endT; rw [if_pos ⟨hle, hkr0⟩]]; unfold Qu.outT; rw [if_pos hye]] at hx
          injection hx with hq hx2
          injection hx2 with hof her
          subst hq hof her
          have hfo := hfo0
          have hbw := HBW.out.b
          go_wp2_with fail
          refine bodyPost_ret (v := .tuple #[.agg #[.int .i64 (kd : Int), .int .i64 (cv : Int), .int .i64 (kv : Int), .slice A92 1 c92], .int .i64 0, .int .i64 0]) ?_ rfl ⟨_, _, _, rfl, hfo, hbw⟩
          exact results_row_tmp2 rfl _ _ w.heap.size 24 _ _ _ _ rfl rfl rfl Fx0.out Tryd.underlying24 rfl (by kernel_rfl)
         ·go_upto_region 22 with fail
          refine wp_region_lit ?_
          refine zr (.pointer (some ⟨b15, 0, none⟩)) W1_95 rfl ?_
          simp only [Act.put, zA]
          refine zr (.pointer (some ⟨b15, 0, none⟩)) W1_95 (xo_nil _ rfl rfl) ?_
          simp only [Act.put, zA]
          refine zr (.pointer (some ⟨b15, 2, none⟩)) W1_95 (xo_fld0 2 b15 2 (by kernel_rfl) rfl rfl) ?_
          simp only [Act.put, zA]
          refine zr (.int .i64 ((Qu.unT y3).e : Int)) W1_95 (xo_load1 ⟨b15, 2, none⟩ _ (cells_at Fv3_15.out 2 rfl) Tryd.underlying35 rfl rfl rfl) ?_
          simp only [Act.put, zA]
          refine zr (.bool true) W1_95 (xo_neqT .i64 (((Qu.unT y3).e : Nat) : Int) 0 (by omega) rfl rfl rfl) ?_
          simp only [Act.put, zA]
          refine wpList_nil ?_
          have hS0 := Fv3_15.out
          go_upto_region 23 with fail
          try simp only [List.append_eq, List.cons_append, List.nil_append]
          refine wp_ordT (fun W => W.heap[b15]? = some (.cells #[.slice A_9 n_9 c_9, .int .i64 ((Qu.unT y3).o : Int), .int .i64 ((Qu.unT y3).e : Int)] 79 (0, 0))) (.q 0 (.q 1 (.q 2 (.q 3 (.q 4 (.q 5 (.q 6 (.q 7 (.q 8 (.one 9 (.q 10 (.q 11 .nil)))))))))))) (by kernel_rfl) (by kernel_rfl) (fun _ _ dt _ _ h => by first | exact h.elim | (cases dt <;> exact h)) (by kernel_rfl) (by kernel_rfl) hS0 ?_
          have hb : Below W1_95.heap.size W1_95 W1_95.drew := (Below.refl _ _).drew
          generalize W1_95.drew = V2 at hb ⊢
          have B1 := zh hb
          clear hb
          refine wpOT_q (.agg #[.int .i64 0, .int .i64 0, .int .i64 0, .slice none 0 0]) rfl (by kernel_rfl) (fun v hW => (by unfold execOp; go_simp <;> rfl)) ?_
          simp only [ptr, Act.put, zA]
          refine wpOT_q (.pointer (some ⟨b15, 0, none⟩)) rfl (by kernel_rfl) (fun v hW => rfl) ?_
          simp only [ptr, Act.put, zA]
          refine wpOT_q (.pointer (some ⟨b15, 0, none⟩)) rfl (by kernel_rfl) (fun v hW => (xo_nil _ rfl rfl)) ?_
          simp only [ptr, Act.put, zA]
          refine wpOT_q (.pointer (some ⟨b15, 1, none⟩)) rfl (by kernel_rfl) (fun v hW => (xo_fld0 1 b15 1 (by kernel_rfl) rfl rfl)) ?_
          simp only [ptr, Act.put, zA]
          refine wpOT_q (.int .i64 ((Qu.unT y3).o : Int)) rfl (by kernel_rfl) (fun v hW => (xo_load1 ⟨b15, 1, none⟩ _ (cells_at hW 1 rfl) Tryd.underlying3 rfl rfl rfl)) ?_
          simp only [ptr, Act.put, zA]
          refine wpOT_q (.pointer (some ⟨b15, 0, none⟩)) rfl (by kernel_rfl) (fun v hW => rfl) ?_
          simp only [ptr, Act.put, zA]
          refine wpOT_q (.pointer (some ⟨b15, 0, none⟩)) rfl (by kernel_rfl) (fun v hW => (xo_nil _ rfl rfl)) ?_
          simp only [ptr, Act.put, zA]
          refine wpOT_q (.pointer (some ⟨b15, 2, none⟩)) rfl (by kernel_rfl) (fun v hW => (xo_fld0 2 b15 2 (by kernel_rfl) rfl rfl)) ?_
          simp only [ptr, Act.put, zA]
          refine wpOT_q (.int .i64 ((Qu.unT y3).e : Int)) rfl (by kernel_rfl) (fun v hW => (xo_load1 ⟨b15, 2, none⟩ _ (cells_at hW 2 rfl) Tryd.underlying35 rfl rfl rfl)) ?_
          simp only [ptr, Act.put, zA]
          refine wpOT_one rfl (by kernel_rfl) ?_
          refine hOp_storeW w.heap.size #[.int .i64 0, .int .i64 0, .int .i64 0, .slice none 0 0] #[.int .i64 0, .int .i64 0, .int .i64 0, .slice none 0 0] 24 (heap_keep Fx0.out B1.out) (xo_storeW w.heap.size #[.int .i64 0, .int .i64 0, .int .i64 0, .slice none 0 0] #[.int .i64 0, .int .i64 0, .int .i64 0, .slice none 0 0] (heap_keep Fx0.out B1.out) (by kernel_rfl) rfl (by simp [Value.oneCell']) rfl rfl rfl) ?_
          intro X2_102 h1 hfar hbel hsz
          have YHBW : BW w X2_102 := BW.store (HBW.out.keep B1.out) G2.out hbel
          have YHTS : TS X2_102 A_9 n_9 c_9 t_9 := TS.far (HTS.out.keep B1.out) (heap_keep Fx0.out B1.out) (by decide) hfar
          have YHIn : OwnsC X2_102 46 w.heap.size ([] ++ [Hd.mk A1f l1.length c1f]) ([] ++ [l1]) := OwnsC.farT (HIn.out.keep B1.out) (heap_keep Fx0.out B1.out) (by decide) hfar
          have YOw67_91 : X2_102.ownsRow w.heap.size 28 1 (.slice A92 1 c92) 1 (fl hdC ([(Hd.mk A1f l1.length c1f)])) := own_farT (own_keep Ow67_91.out B1.out) (heap_keep Fx0.out B1.out) (by decide) hfar
          have YFv3_15 : X2_102.heap[b15]? = some (.cells #[.slice A_9 n_9 c_9, .int .i64 ((Qu.unT y3).o : Int), .int .i64 ((Qu.unT y3).e : Int)] 79 (0, 0)) := hfar _ _ (Ne.symm N1_0.out) (heap_keep Fv3_15.out B1.out)
          have YFv8_6 : X2_102.heap[b6]? = some (.cells #[.int .i64 (kd : Int), .int .i64 (cv : Int), .int .i64 (kv : Int), .slice A92 1 c92] 24 (0, 0)) := hfar _ _ (Ne.symm N5_0.out) (heap_keep Fv8_6.out B1.out)
          -- drops HCH
          -- drops HTK
          -- drops HOK
          have C0_2 := zb B0 B1
          have hbr := hbel _ _ Gv96.out C0_2.out
          clear B0
          have B0 := zh hbr
          clear hbr
          clear Fv3_15
          have Fv3_15 : Hid (X2_102.heap[b15]? = some (.cells #[.slice A_9 n_9 c_9, .int .i64 ((Qu.unT y3).o : Int), .int .i64 ((Qu.unT y3).e : Int)] 79 (0, 0))) := zh YFv3_15
          clear YFv3_15
          clear Fv8_6
          have Fv8_6 : Hid (X2_102.heap[b6]? = some (.cells #[.int .i64 (kd : Int), .int .i64 (cv : Int), .int .i64 (kv : Int), .slice A92 1 c92] 24 (0, 0))) := zh YFv8_6
          clear YFv8_6
          clear HBW
          have HBW := zh YHBW
          clear YHBW
          clear HTS
          have HTS := zh YHTS
          clear YHTS
          clear HIn
          have HIn := zh YHIn
          clear YHIn
          clear Ow67_91
          have Ow67_91 := zh YOw67_91
          clear YOw67_91
          clear Fx0
          have Fx0 : Hid (X2_102.heap[w.heap.size]? = some (.cells #[.int .i64 0, .int .i64 0, .int .i64 0, .slice none 0 0] 24 (0, 0))) := zh (h1)
          have HszX2_102 := zh hsz
          clear h1 hfar hbel hsz
          simp only [ptr, Act.put, zA]
          refine ⟨Fv3_15.out, ?_⟩
          try simp only [ptr, Act.put, zA]
          refine wpOT_q (.int .i64 ((Qu.unT y3).o : Int)) rfl (by kernel_rfl) (fun v hW => rfl) ?_
          simp only [ptr, Act.put, zA]
          refine wpOT_q (.int .i64 ((Qu.unT y3).e : Int)) rfl (by kernel_rfl) (fun v hW => rfl) ?_
          simp only [ptr, Act.put, zA]
          refine wpOT_nil ?_
          have hx := HR.out
          rw [show Qu.refP s = (Qu.zeroQ, (Qu.unT y3).o, (Qu.unT y3).e) by rw [HREF2.out, show Qu.endT y3 = Qu.unT y3 by unfold Qu.endT; rw [if_pos ⟨hle, hkr0⟩]]; unfold Qu.outT; rw [if_neg hye]] at hx
          injection hx with hq hx2
          injection hx2 with hof her
          subst hq hof her
          have hfo := fsOwn_nil (w := X2_102) (base := w.heap.size)
          have hbw := HBW.out.b
          go_wp2_with fail
          refine bodyPost_ret (v := .tuple #[.agg #[.int .i64 0, .int .i64 0, .int .i64 0, .slice none 0 0], .int .i64 ((Qu.unT y3).o : Int), .int .i64 ((Qu.unT y3).e : Int)]) ?_ rfl ⟨_, _, _, rfl, hfo, hbw⟩
          exact results_row_tmp2 rfl _ _ w.heap.size 24 _ _ _ _ rfl rfl rfl Fx0.out Tryd.underlying24 rfl (by kernel_rfl)
       ·go_upto_region 20 with fail
        refine wp_region_lit ?_
        refine zr (.pointer (some ⟨b15, 0, none⟩)) X93 rfl ?_
        simp only [Act.put, zA]
        refine zr (.pointer (some ⟨b15, 0, none⟩)) X93 (xo_nil _ rfl rfl) ?_
        simp only [Act.put, zA]
        refine zr (.pointer (some ⟨b15, 2, none⟩)) X93 (xo_fld0 2 b15 2 (by kernel_rfl) rfl rfl) ?_
        simp only [Act.put, zA]
        refine zr (.int .i64 (y3.e : Int)) X93 (xo_load1 ⟨b15, 2, none⟩ _ (cells_at Fv3_15.out 2 rfl) Tryd.underlying35 rfl rfl rfl) ?_
        simp only [Act.put, zA]
        refine zr (.bool false) X93 (xo_eqlF .i64 ((y3.e : Nat) : Int) 0 (by omega) rfl rfl rfl) ?_
        simp only [Act.put, zA]
        refine zr (.bool false) X93 rfl ?_
        simp only [Act.put, zA]
        refine zl ?_
        try simp only [Act.put, zA]
        refine zl ?_
        try simp only [Act.put, zA]
        refine zl ?_
        try simp only [Act.put, zA]
        refine zl ?_
        try simp only [Act.put, zA]
        refine zl ?_
        try simp only [Act.put, zA]
        refine zl ?_
        try simp only [Act.put, zA]
        refine zl ?_
        try simp only [Act.put, zA]
        refine zl ?_
        try simp only [Act.put, zA]
        refine zr (.bool false) X93 rfl ?_
        simp only [Act.put, zA]
        refine wpList_nil ?_
        by_cases hye : y3.e = 0
        ·go_upto_region 22 with fail
         refine wp_region_lit ?_
         refine zr (.pointer (some ⟨b15, 0, none⟩)) X93 rfl ?_
         simp only [Act.put, zA]
         refine zr (.pointer (some ⟨b15, 0, none⟩)) X93 (xo_nil _ rfl rfl) ?_
         simp only [Act.put, zA]
         refine zr (.pointer (some ⟨b15, 2, none⟩)) X93 (xo_fld0 2 b15 2 (by kernel_rfl) rfl rfl) ?_
         simp only [Act.put, zA]
         refine zr (.int .i64 (y3.e : Int)) X93 (xo_load1 ⟨b15, 2, none⟩ _ (cells_at Fv3_15.out 2 rfl) Tryd.underlying35 rfl rfl rfl) ?_
         simp only [Act.put, zA]
         refine zr (.bool false) X93 (xo_neqF .i64 ((y3.e : Nat) : Int) 0 (by omega) rfl rfl rfl) ?_
         simp only [Act.put, zA]
         refine wpList_nil ?_
         go_upto_region 24 with fail
         refine wp_region_lit ?_
         refine zr (.agg #[.int .i64 (kd : Int), .int .i64 (cv : Int), .int .i64 (kv : Int), .slice A92 1 c92]) X93 (xo_loadW b6 _ Fv8_6.out Tryd.underlying24 rfl (by kernel_rfl) rfl rfl) ?_
         simp only [Act.put, zA]
         refine wpList_storeW w.heap.size #[.int .i64 0, .int .i64 0, .int .i64 0, .slice none 0 0] #[.int .i64 (kd : Int), .int .i64 (cv : Int), .int .i64 (kv : Int), .slice A92 1 c92] 24 (by kernel_rfl) Fx0.out (xo_storeW w.heap.size #[.int .i64 0, .int .i64 0, .int .i64 0, .slice none 0 0] #[.int .i64 (kd : Int), .int .i64 (cv : Int), .int .i64 (kv : Int), .slice A92 1 c92] Fx0.out (by kernel_rfl) rfl (by simp [Value.oneCell']) rfl rfl rfl) ?_
         intro X1_95 h1 hfar hbel hsz
         have YHBW : BW w X1_95 := BW.store HBW.out G2.out hbel
         have YHTS : TS X1_95 A_5 n_5 c_5 t_5 := TS.far HTS.out Fx0.out (by decide) hfar
         have YHIn : OwnsC X1_95 46 w.heap.size ([] ++ [Hd.mk A1f l1.length c1f]) ([] ++ [l1]) := OwnsC.farT HIn.out Fx0.out (by decide) hfar
         have YOw67_91 : X1_95.ownsRow w.heap.size 28 1 (.slice A92 1 c92) 1 (fl hdC ([(Hd.mk A1f l1.length c1f)])) := own_farT Ow67_91.out Fx0.out (by decide) hfar
         have YFv3_15 : X1_95.heap[b15]? = some (.cells #[.slice A_5 n_5 c_5, .int .i64 (y3.o : Int), .int .i64 (y3.e : Int)] 79 (0, 0)) := hfar _ _ (Ne.symm N1_0.out) Fv3_15.out
         have YFv8_6 : X1_95.heap[b6]? = some (.cells #[.int .i64 (kd : Int), .int .i64 (cv : Int), .int .i64 (kv : Int), .slice A92 1 c92] 24 (0, 0)) := hfar _ _ (Ne.symm N5_0.out) Fv8_6.out
         have hbr := hbel _ _ Gv85.out B0.out
         clear B0
         have B0 := zh hbr
         clear hbr
         clear Fv3_15
         have Fv3_15 : Hid (X1_95.heap[b15]? = some (.cells #[.slice A_5 n_5 c_5, .int .i64 (y3.o : Int), .int .i64 (y3.e : Int)] 79 (0, 0))) := zh YFv3_15
         clear YFv3_15
         clear Fv8_6
         have Fv8_6 : Hid (X1_95.heap[b6]? = some (.cells #[.int .i64 (kd : Int), .int .i64 (cv : Int), .int .i64 (kv : Int), .slice A92 1 c92] 24 (0, 0))) := zh YFv8_6
         clear YFv8_6
         clear HBW
         have HBW := zh YHBW
         clear YHBW
         clear HTS
         have HTS := zh YHTS
         clear YHTS
         clear HIn
         have HIn := zh YHIn
         clear YHIn
         clear Ow67_91
         have Ow67_91 := zh YOw67_91
         clear YOw67_91
         clear Fx0
         have Fx0 : Hid (X1_95.heap[w.heap.size]? = some (.cells #[.int .i64 (kd : Int), .int .i64 (cv : Int), .int .i64 (kv : Int), .slice A92 1 c92] 24 (0, 0))) := zh (h1)
         have HszX1_95 := zh hsz
         clear h1 hfar hbel hsz
         simp only [ptr, Act.put, zA]
         refine zr (.int .i64 0) X1_95 rfl ?_
         simp only [Act.put, zA]
         refine zr (.int .i64 0) X1_95 rfl ?_
         simp only [Act.put, zA]
         refine wpList_nil ?_
         have hfo0 : FsOwn X1_95 w.heap.size (.slice A92 1 c92) [l1] := ⟨_, _, _, rfl, Ow67_91.out, HIn.out⟩
         have hx := HR.out
         rw [show Qu.refP s = ((⟨kd, cv, kv, [l1]⟩ : Qu.Qy), 0, 0) by rw [HREF2.out, show Qu.endT y3 = y3 by unfold Qu.endT; rw [if_neg (fun a => hle a.1)]]; unfold Qu.outT; rw [if_pos hye]] at hx
         injection hx with hq hx2
         injection hx2 with hof her
         subst hq hof her
         have hfo := hfo0
         have hbw := HBW.out.b
         go_wp2_with fail
         refine bodyPost_ret (v := .tuple #[.agg #[.int .i64 (kd : Int), .int .i64 (cv : Int), .int .i64 (kv : Int), .slice A92 1 c92], .int .i64 0, .int .i64 0]) ?_ rfl ⟨_, _, _, rfl, hfo, hbw⟩
         exact results_row_tmp2 rfl _ _ w.heap.size 24 _ _ _ _ rfl rfl rfl Fx0.out Tryd.underlying24 rfl (by kernel_rfl)
        ·go_upto_region 22 with fail
         refine wp_region_lit ?_
         refine zr (.pointer (some ⟨b15, 0, none⟩)) X93 rfl ?_
         simp only [Act.put, zA]
         refine zr (.pointer (some ⟨b15, 0, none⟩)) X93 (xo_nil _ rfl rfl) ?_
         simp only [Act.put, zA]
         refine zr (.pointer (some ⟨b15, 2, none⟩)) X93 (xo_fld0 2 b15 2 (by kernel_rfl) rfl rfl) ?_
         simp only [Act.put, zA]
         refine zr (.int .i64 (y3.e : Int)) X93 (xo_load1 ⟨b15, 2, none⟩ _ (cells_at Fv3_15.out 2 rfl) Tryd.underlying35 rfl rfl rfl) ?_
         simp only [Act.put, zA]
         refine zr (.bool true) X93 (xo_neqT .i64 ((y3.e : Nat) : Int) 0 (by omega) rfl rfl rfl) ?_
         simp only [Act.put, zA]
         refine wpList_nil ?_
         have hS0 := Fv3_15.out
         go_upto_region 23 with fail
         try simp only [List.append_eq, List.cons_append, List.nil_append]
         refine wp_ordT (fun W => W.heap[b15]? = some (.cells #[.slice A_5 n_5 c_5, .int .i64 (y3.o : Int), .int .i64 (y3.e : Int)] 79 (0, 0))) (.q 0 (.q 1 (.q 2 (.q 3 (.q 4 (.q 5 (.q 6 (.q 7 (.q 8 (.one 9 (.q 10 (.q 11 .nil)))))))))))) (by kernel_rfl) (by kernel_rfl) (fun _ _ dt _ _ h => by first | exact h.elim | (cases dt <;> exact h)) (by kernel_rfl) (by kernel_rfl) hS0 ?_
         have hb : Below X93.heap.size X93 X93.drew := (Below.refl _ _).drew
         generalize X93.drew = V2 at hb ⊢
         have B1 := zh hb
         clear hb
         refine wpOT_q (.agg #[.int .i64 0, .int .i64 0, .int .i64 0, .slice none 0 0]) rfl (by kernel_rfl) (fun v hW => (by unfold execOp; go_simp <;> rfl)) ?_
         simp only [ptr, Act.put, zA]
         refine wpOT_q (.pointer (some ⟨b15, 0, none⟩)) rfl (by kernel_rfl) (fun v hW => rfl) ?_
         simp only [ptr, Act.put, zA]
         refine wpOT_q (.pointer (some ⟨b15, 0, none⟩)) rfl (by kernel_rfl) (fun v hW => (xo_nil _ rfl rfl)) ?_
         simp only [ptr, Act.put, zA]
         refine wpOT_q (.pointer (some ⟨b15, 1, none⟩)) rfl (by kernel_rfl) (fun v hW => (xo_fld0 1 b15 1 (by kernel_rfl) rfl rfl)) ?_
         simp only [ptr, Act.put, zA]
         refine wpOT_q (.int .i64 (y3.o : Int)) rfl (by kernel_rfl) (fun v hW => (xo_load1 ⟨b15, 1, none⟩ _ (cells_at hW 1 rfl) Tryd.underlying3 rfl rfl rfl)) ?_
         simp only [ptr, Act.put, zA]
         refine wpOT_q (.pointer (some ⟨b15, 0, none⟩)) rfl (by kernel_rfl) (fun v hW => rfl) ?_
         simp only [ptr, Act.put, zA]
         refine wpOT_q (.pointer (some ⟨b15, 0, none⟩)) rfl (by kernel_rfl) (fun v hW => (xo_nil _ rfl rfl)) ?_
         simp only [ptr, Act.put, zA]
         refine wpOT_q (.pointer (some ⟨b15, 2, none⟩)) rfl (by kernel_rfl) (fun v hW => (xo_fld0 2 b15 2 (by kernel_rfl) rfl rfl)) ?_
         simp only [ptr, Act.put, zA]
         refine wpOT_q (.int .i64 (y3.e : Int)) rfl (by kernel_rfl) (fun v hW => (xo_load1 ⟨b15, 2, none⟩ _ (cells_at hW 2 rfl) Tryd.underlying35 rfl rfl rfl)) ?_
         simp only [ptr, Act.put, zA]
         refine wpOT_one rfl (by kernel_rfl) ?_
         refine hOp_storeW w.heap.size #[.int .i64 0, .int .i64 0, .int .i64 0, .slice none 0 0] #[.int .i64 0, .int .i64 0, .int .i64 0, .slice none 0 0] 24 (heap_keep Fx0.out B1.out) (xo_storeW w.heap.size #[.int .i64 0, .int .i64 0, .int .i64 0, .slice none 0 0] #[.int .i64 0, .int .i64 0, .int .i64 0, .slice none 0 0] (heap_keep Fx0.out B1.out) (by kernel_rfl) rfl (by simp [Value.oneCell']) rfl rfl rfl) ?_
         intro X2_95 h1 hfar hbel hsz
         have YHBW : BW w X2_95 := BW.store (HBW.out.keep B1.out) G2.out hbel
         have YHTS : TS X2_95 A_5 n_5 c_5 t_5 := TS.far (HTS.out.keep B1.out) (heap_keep Fx0.out B1.out) (by decide) hfar
         have YHIn : OwnsC X2_95 46 w.heap.size ([] ++ [Hd.mk A1f l1.length c1f]) ([] ++ [l1]) := OwnsC.farT (HIn.out.keep B1.out) (heap_keep Fx0.out B1.out) (by decide) hfar
         have YOw67_91 : X2_95.ownsRow w.heap.size 28 1 (.slice A92 1 c92) 1 (fl hdC ([(Hd.mk A1f l1.length c1f)])) := own_farT (own_keep Ow67_91.out B1.out) (heap_keep Fx0.out B1.out) (by decide) hfar
         have YFv3_15 : X2_95.heap[b15]? = some (.cells #[.slice A_5 n_5 c_5, .int .i64 (y3.o : Int), .int .i64 (y3.e : Int)] 79 (0, 0)) := hfar _ _ (Ne.symm N1_0.out) (heap_keep Fv3_15.out B1.out)
         have YFv8_6 : X2_95.heap[b6]? = some (.cells #[.int .i64 (kd : Int), .int .i64 (cv : Int), .int .i64 (kv : Int), .slice A92 1 c92] 24 (0, 0)) := hfar _ _ (Ne.symm N5_0.out) (heap_keep Fv8_6.out B1.out)
         have C0_2 := zb B0 B1
         have hbr := hbel _ _ Gv85.out C0_2.out
         clear B0
         have B0 := zh hbr
         clear hbr
         clear Fv3_15
         have Fv3_15 : Hid (X2_95.heap[b15]? = some (.cells #[.slice A_5 n_5 c_5, .int .i64 (y3.o : Int), .int .i64 (y3.e : Int)] 79 (0, 0))) := zh YFv3_15
         clear YFv3_15
         clear Fv8_6
         have Fv8_6 : Hid (X2_95.heap[b6]? = some (.cells #[.int .i64 (kd : Int), .int .i64 (cv : Int), .int .i64 (kv : Int), .slice A92 1 c92] 24 (0, 0))) := zh YFv8_6
         clear YFv8_6
         clear HBW
         have HBW := zh YHBW
         clear YHBW
         clear HTS
         have HTS := zh YHTS
         clear YHTS
         clear HIn
         have HIn := zh YHIn
         clear YHIn
         clear Ow67_91
         have Ow67_91 := zh YOw67_91
         clear YOw67_91
         clear Fx0
         have Fx0 : Hid (X2_95.heap[w.heap.size]? = some (.cells #[.int .i64 0, .int .i64 0, .int .i64 0, .slice none 0 0] 24 (0, 0))) := zh (h1)
         have HszX2_95 := zh hsz
         clear h1 hfar hbel hsz
         simp only [ptr, Act.put, zA]
         refine ⟨Fv3_15.out, ?_⟩
         try simp only [ptr, Act.put, zA]
         refine wpOT_q (.int .i64 (y3.o : Int)) rfl (by kernel_rfl) (fun v hW => rfl) ?_
         simp only [ptr, Act.put, zA]
         refine wpOT_q (.int .i64 (y3.e : Int)) rfl (by kernel_rfl) (fun v hW => rfl) ?_
         simp only [ptr, Act.put, zA]
         refine wpOT_nil ?_
         have hx := HR.out
         rw [show Qu.refP s = (Qu.zeroQ, y3.o, y3.e) by rw [HREF2.out, show Qu.endT y3 = y3 by unfold Qu.endT; rw [if_neg (fun a => hle a.1)]]; unfold Qu.outT; rw [if_neg hye]] at hx
         injection hx with hq hx2
         injection hx2 with hof her
         subst hq hof her
         have hfo := fsOwn_nil (w := X2_95) (base := w.heap.size)
         have hbw := HBW.out.b
         go_wp2_with fail
         refine bodyPost_ret (v := .tuple #[.agg #[.int .i64 0, .int .i64 0, .int .i64 0, .slice none 0 0], .int .i64 (y3.o : Int), .int .i64 (y3.e : Int)]) ?_ rfl ⟨_, _, _, rfl, hfo, hbw⟩
         exact results_row_tmp2 rfl _ _ w.heap.size 24 _ _ _ _ rfl rfl rfl Fx0.out Tryd.underlying24 rfl (by kernel_rfl)
end Go.Proofs.YtlicfidcfhbmpaaDoor

