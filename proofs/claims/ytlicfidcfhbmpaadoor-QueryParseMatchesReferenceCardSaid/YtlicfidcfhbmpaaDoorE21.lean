/- Several texts in one: Yba. -/
import Derived.Deep.CutBlock
import Derived.Test.YtlicfidcfhbmpaaDoorE06
import Derived.Test.YtlicfidcfhbmpaaDoorE16
set_option linter.unusedVariables false
set_option linter.unusedSimpArgs false
set_option linter.unusedSectionVars false
namespace Go.Proofs.YtlicfidcfhbmpaaDoor
set_option maxRecDepth 8000
open Go.RowKit Go.Proofs.YtlicfidcfhbmpaaDoor.K
attribute [local irreducible] wpList wpQuiet
theorem bg1 {s : List UInt8} {j : Nat} {b : UInt8} (h : s[j]? = some b) (x : UInt8) : Qu.bgN s j [x] = decide (b = x) := by
 obtain ⟨hj, hb⟩ := List.getElem?_eq_some_iff.1 h
 unfold Qu.bgN
 rw [show [x].length = 1 from rfl, decide_eq_true (by omega : 1 ≤ s.length - j), Bool.true_and, List.drop_take, Nat.add_sub_cancel_left, List.drop_eq_getElem_cons hj, hb]
 simp
theorem bg2 {s : List UInt8} {j : Nat} {b c : UInt8} (h : s[j]? = some b) (h2 : s[j + 1]? = some c) (x y : UInt8) : Qu.bgN s j [x, y] = (decide (b = x) && decide (c = y)) := by
 obtain ⟨hj, hb⟩ := List.getElem?_eq_some_iff.1 h
 obtain ⟨hj2, hc⟩ := List.getElem?_eq_some_iff.1 h2
 unfold Qu.bgN
 rw [show [x, y].length = 2 from rfl, decide_eq_true (by omega : 2 ≤ s.length - j), Bool.true_and, List.drop_take, Nat.add_sub_cancel_left, List.drop_eq_getElem_cons hj, List.drop_eq_getElem_cons hj2, hb, hc]
 rw [Bool.eq_iff_iff]
 simp
theorem bg2_end {s : List UInt8} {j : Nat} (h : s.length ≤ j + 1) (x y : UInt8) : Qu.bgN s j [x, y] = false := by
 unfold Qu.bgN
 rw [show [x, y].length = 2 from rfl, decide_eq_false (by omega), Bool.false_and]
theorem bg2_no {s : List UInt8} {j : Nat} {b : UInt8} (h : s[j]? = some b) {x y : UInt8} (hb : b ≠ x) : Qu.bgN s j [x, y] = false := by
 by_cases h2 : s.length ≤ j + 1
 ·exact bg2_end h2 x y
 ·rw [bg2 h (List.getElem?_eq_getElem (show j + 1 < s.length by omega)), decide_eq_false hb, Bool.false_and]
theorem own_age {w0 w w' : World} {base b size n : Nat} {e : TypeId} {v : Value} {cs : List Value} {o : Obj} (h : w0.ownsRow base e size v n cs) (hb0 : w0.heap.size ≤ b) (hg : w.grownBy w' v.ownBlock) (hb : w.heap[b]? = some o) : w'.heap[b]? = some o :=
 (hg.block b (Array.getElem?_eq_some_iff.1 hb).1 (fun he => by
  rcases h.2 with ⟨rfl, _⟩ | ⟨g, cap, cur, rfl, hbs, hgg, _⟩
  ·cases he
  ·simp only [Value.ownBlock] at he
   injection he with he
   subst he
   have := (Array.getElem?_eq_some_iff.1 hgg).1
   omega)).trans hb
theorem TS.own {w : World} {base : Nat} {A : Option Addr} {n c : Nat} {ts : List Qu.RT} (h : w.ownsRow base 85 3 (.slice A n c) n (fl tkR ts)) : TS w A n c ts := by
 refine ⟨Sg.ownS h, fun a e => ?_⟩
 rcases h.2 with ⟨hn, _⟩ | ⟨g, cap, cur, e1, hb, hg, _⟩
 ·injection hn with h1
  rw [h1] at e
  cases e
 ·injection e1 with h1
  rw [h1] at e
  injection e with e
  subst e
  exact ⟨rfl, cur, hg⟩
set_option maxRecDepth 100000 in
set_option maxHeartbeats 32000000 in
theorem scan_as (s : List UInt8) (hs4 : s.length ≤ 1000) (q : Nat) (hq : q ≤ s.length) (w : World) :
  Calls Tryd.prog 62 #[.string (sB s), .int .i64 (q : Int)] w fun e w' => e = .returned (.agg #[.int .i64 ((Qu.tokR (Qu.nxt s q)).kind : Int), .string (sB (Qu.tokR (Qu.nxt s q)).tx), .int .i64 ((Qu.tokR (Qu.nxt s q)).off : Int)]) ∧ Below w.heap.size w w' := by
 obtain ⟨n, hn⟩ : ∃ n, s.length = n := ⟨_, rfl⟩
 rw [hn] at hs4 hq
 have HN := zh hn
 clear hn
 go_enter Tryd.func62, Tryd.ntmps62
 go_upto_block 0 with fail
 refine wp_named1 (fun V1 hb g0 hlt => ?_)
 have B0 := zh hb
 have Fv0_4 : Hid (V1.heap[w.heap.size]? = some (.cells #[.int .i64 0, .string ByteArray.empty, .int .i64 0] 85 (0, 0))) := zh (g0)
 have Gb0 : Hid (w.heap.size ≤ w.heap.size) := zh (by omega)
 clear hb g0 hlt
 have Lt0 : Hid (w.heap.size < V1.heap.size) := zh (xp_lt Fv0_4.out)
 skip
 go_cut [1] from 6 to 35 (fun s1 wx => s1 = .int .i64 ((Qu.runE Qu.isSp s q : Nat) : Int) ∧ wx.heap[w.heap.size]? = some (.cells #[.int .i64 0, .string ByteArray.empty, .int .i64 0] 85 (0, 0)) ∧ Below w.heap.size w wx)
 case first =>
  have O1 := Fv0_4.out
  have O2 := B0.out
  go_wp2_with fail
  go_loopw [1] (fun p wr => ∃ i : Nat, i ≤ n ∧ p = .int .i64 i ∧ Qu.runE Qu.isSp s q = Qu.runE Qu.isSp s i ∧ wr.heap[w.heap.size]? = some (.cells #[.int .i64 0, .string ByteArray.empty, .int .i64 0] 85 (0, 0)) ∧ Below w.heap.size w wr) (fun p _ => n - (intOf p).toNat)
  case atStart => exact ⟨q, (by omega), rfl, rfl, O1, O2⟩
  case round =>
   clear O1 O2
   obtain ⟨wo, rfl⟩ : ∃ wo : World, wo = wr := ⟨_, rfl⟩
   obtain ⟨i, hi, rfl, hHR, hr0, hb0⟩ := hrel
   have hbr := hb0
   clear B0
   have B0 := zh hbr
   clear hbr
   clear Fv0_4
   have Fv0_4 : Hid (wo.heap[w.heap.size]? = some (.cells #[.int .i64 0, .string ByteArray.empty, .int .i64 0] 85 (0, 0))) := zh (hr0)
   have HR := zh hHR
   clear hb0 hr0 hHR
   by_cases hin : i < n
   ·have hci4 : ((i : Int) < (n : Int)) := by omega
    obtain ⟨b, hb0⟩ : ∃ b, s[i]? = some b := ⟨_, List.getElem?_eq_getElem (by rw [HN.out]; omega)⟩
    have HB := zh hb0
    clear hb0
    have hu : Qu.isSp b = (decide (b.toNat = 32) || (decide (b.toNat = 9) || (decide (b.toNat = 13) || decide (b.toNat = 10)))) := rfl
    have HU := zh hu
    clear hu
    by_cases h32 : b.toNat = 32
    ·have hci5 : (((b.toNat : Nat) : Int) = 32) := by omega
     have hsp : Qu.isSp b = true := by rw [HU.out, decide_eq_true h32]; simp
     have HSP := zh hsp
     clear hsp
     go_upto_region 1 with fail
     refine wp_region_lit ?_
     refine zr (.int .i64 (i : Int)) wo rfl ?_
     simp only [Act.put, zA]
     refine zr (.string (sB s)) wo rfl ?_
     simp only [Act.put, zA]
     refine zr (.int .i64 (n : Int)) wo (xs_lenN s n HN.out Tryd.underlying9 rfl rfl) ?_
     simp only [Act.put, zA]
     refine zr (.bool true) wo (xo_lssT .i64 (i : Int) (n : Int) (by omega) rfl rfl rfl) ?_
     simp only [Act.put, zA]
     refine zr (.bool true) wo rfl ?_
     simp only [Act.put, zA]
     refine zr (.string (sB s)) wo rfl ?_
     simp only [Act.put, zA]
     refine zr (.int .i64 (i : Int)) wo rfl ?_
     simp only [Act.put, zA]
     refine zr (.int .u8 ((b.toNat : Nat) : Int)) wo (xs_idx s i b HB.out Tryd.underlying9 rfl rfl rfl) ?_
     simp only [Act.put, zA]
     refine zr (.bool true) wo (xo_eqlT .u8 ((b.toNat : Nat) : Int) 32 (by omega) rfl rfl rfl) ?_
     simp only [Act.put, zA]
     refine zr (.bool true) wo rfl ?_
     simp only [Act.put, zA]
     refine zl ?_
     try simp only [Act.put, zA]
     refine zl ?_
     try simp only [Act.put, zA]
     refine zl ?_
     try simp only [Act.put, zA]
     refine zl ?_
     try simp only [Act.put, zA]
     refine zr (.bool true) wo rfl ?_
     simp only [Act.put, zA]
     refine zr (.bool true) wo rfl ?_
     simp only [Act.put, zA]
     refine zl ?_
     try simp only [Act.put, zA]
     refine zl ?_
     try simp only [Act.put, zA]
     refine zl ?_
     try simp only [Act.put, zA]
     refine zl ?_
     try simp only [Act.put, zA]
     refine zr (.bool true) wo rfl ?_
     simp only [Act.put, zA]
     refine zr (.bool true) wo rfl ?_
     simp only [Act.put, zA]
     refine zl ?_
     try simp only [Act.put, zA]
     refine zl ?_
     try simp only [Act.put, zA]
     refine zl ?_
     try simp only [Act.put, zA]
     refine zl ?_
     try simp only [Act.put, zA]
     refine zr (.bool true) wo rfl ?_
     simp only [Act.put, zA]
     refine zr (.bool true) wo rfl ?_
     simp only [Act.put, zA]
     refine wpList_nil ?_
     go_upto_region 2 with fail
     refine wp_region_lit ?_
     refine zr (.int .i64 (i : Int)) wo rfl ?_
     simp only [Act.put, zA]
     refine zr (.int .i64 ((i + 1 : Nat) : Int)) wo (xo_addI (i : Int) 1 ((i + 1 : Nat) : Int) (by omega) (by omega) (by omega) rfl rfl rfl) ?_
     simp only [Act.put, zA]
     refine zr (.int .i64 ((i + 1 : Nat) : Int)) wo rfl ?_
     simp only [Act.put, zA]
     refine wpList_nil ?_
     have hnx := HR.out.trans (Qu.runE_yes HB.out HSP.out)
     have hq6 := Fv0_4.out
     have hq7 := B0.out
     go_wp2_with fail
     go_roundw
     case rel => exact ⟨i + 1, by omega, by go_num, hnx, hq6, hq7⟩
     case measure => simp [intOf]; omega
    ·have hci5 : ¬ (((b.toNat : Nat) : Int) = 32) := by omega
     by_cases h9 : b.toNat = 9
     ·have hci6 : (((b.toNat : Nat) : Int) = 9) := by omega
      have hsp : Qu.isSp b = true := by rw [HU.out, decide_eq_true h9]; simp
      have HSP := zh hsp
      clear hsp
      go_upto_region 1 with fail
      refine wp_region_lit ?_
      refine zr (.int .i64 (i : Int)) wo rfl ?_
      simp only [Act.put, zA]
      refine zr (.string (sB s)) wo rfl ?_
      simp only [Act.put, zA]
      refine zr (.int .i64 (n : Int)) wo (xs_lenN s n HN.out Tryd.underlying9 rfl rfl) ?_
      simp only [Act.put, zA]
      refine zr (.bool true) wo (xo_lssT .i64 (i : Int) (n : Int) (by omega) rfl rfl rfl) ?_
      simp only [Act.put, zA]
      refine zr (.bool true) wo rfl ?_
      simp only [Act.put, zA]
      refine zr (.string (sB s)) wo rfl ?_
      simp only [Act.put, zA]
      refine zr (.int .i64 (i : Int)) wo rfl ?_
      simp only [Act.put, zA]
      refine zr (.int .u8 ((b.toNat : Nat) : Int)) wo (xs_idx s i b HB.out Tryd.underlying9 rfl rfl rfl) ?_
      simp only [Act.put, zA]
      refine zr (.bool false) wo (xo_eqlF .u8 ((b.toNat : Nat) : Int) 32 (by omega) rfl rfl rfl) ?_
      simp only [Act.put, zA]
      refine zr (.bool false) wo rfl ?_
      simp only [Act.put, zA]
      refine zr (.string (sB s)) wo rfl ?_
      simp only [Act.put, zA]
      refine zr (.int .i64 (i : Int)) wo rfl ?_
      simp only [Act.put, zA]
      refine zr (.int .u8 ((b.toNat : Nat) : Int)) wo (xs_idx s i b HB.out Tryd.underlying9 rfl rfl rfl) ?_
      simp only [Act.put, zA]
      refine zr (.bool true) wo (xo_eqlT .u8 ((b.toNat : Nat) : Int) 9 (by omega) rfl rfl rfl) ?_
      simp only [Act.put, zA]
      refine zr (.bool true) wo rfl ?_
      simp only [Act.put, zA]
      refine zr (.bool true) wo rfl ?_
      simp only [Act.put, zA]
      refine zl ?_
      try simp only [Act.put, zA]
      refine zl ?_
      try simp only [Act.put, zA]
      refine zl ?_
      try simp only [Act.put, zA]
      refine zl ?_
      try simp only [Act.put, zA]
      refine zr (.bool true) wo rfl ?_
      simp only [Act.put, zA]
      refine zr (.bool true) wo rfl ?_
      simp only [Act.put, zA]
      refine zl ?_
      try simp only [Act.put, zA]
      refine zl ?_
      try simp only [Act.put, zA]
      refine zl ?_
      try simp only [Act.put, zA]
      refine zl ?_
      try simp only [Act.put, zA]
      refine zr (.bool true) wo rfl ?_
      simp only [Act.put, zA]
      refine zr (.bool true) wo rfl ?_
      simp only [Act.put, zA]
      refine wpList_nil ?_
      go_upto_region 2 with fail
      refine wp_region_lit ?_
      refine zr (.int .i64 (i : Int)) wo rfl ?_
      simp only [Act.put, zA]
      refine zr (.int .i64 ((i + 1 : Nat) : Int)) wo (xo_addI (i : Int) 1 ((i + 1 : Nat) : Int) (by omega) (by omega) (by omega) rfl rfl rfl) ?_
      simp only [Act.put, zA]
      refine zr (.int .i64 ((i + 1 : Nat) : Int)) wo rfl ?_
      simp only [Act.put, zA]
      refine wpList_nil ?_
      have hnx := HR.out.trans (Qu.runE_yes HB.out HSP.out)
      have hq7 := Fv0_4.out
      have hq8 := B0.out
      go_wp2_with fail
      go_roundw
      case rel => exact ⟨i + 1, by omega, by go_num, hnx, hq7, hq8⟩
      case measure => simp [intOf]; omega
     ·have hci6 : ¬ (((b.toNat : Nat) : Int) = 9) := by omega
      by_cases h13 : b.toNat = 13
      ·have hci7 : (((b.toNat : Nat) : Int) = 13) := by omega
       have hsp : Qu.isSp b = true := by rw [HU.out, decide_eq_true h13]; simp
       have HSP := zh hsp
       clear hsp
       go_upto_region 1 with fail
       refine wp_region_lit ?_
       refine zr (.int .i64 (i : Int)) wo rfl ?_
       simp only [Act.put, zA]
       refine zr (.string (sB s)) wo rfl ?_
       simp only [Act.put, zA]
       refine zr (.int .i64 (n : Int)) wo (xs_lenN s n HN.out Tryd.underlying9 rfl rfl) ?_
       simp only [Act.put, zA]
       refine zr (.bool true) wo (xo_lssT .i64 (i : Int) (n : Int) (by omega) rfl rfl rfl) ?_
       simp only [Act.put, zA]
       refine zr (.bool true) wo rfl ?_
       simp only [Act.put, zA]
       refine zr (.string (sB s)) wo rfl ?_
       simp only [Act.put, zA]
       refine zr (.int .i64 (i : Int)) wo rfl ?_
       simp only [Act.put, zA]
       refine zr (.int .u8 ((b.toNat : Nat) : Int)) wo (xs_idx s i b HB.out Tryd.underlying9 rfl rfl rfl) ?_
       simp only [Act.put, zA]
       refine zr (.bool false) wo (xo_eqlF .u8 ((b.toNat : Nat) : Int) 32 (by omega) rfl rfl rfl) ?_
       simp only [Act.put, zA]
       refine zr (.bool false) wo rfl ?_
       simp only [Act.put, zA]
       refine zr (.string (sB s)) wo rfl ?_
       simp only [Act.put, zA]
       refine zr (.int .i64 (i : Int)) wo rfl ?_
       simp only [Act.put, zA]
       refine zr (.int .u8 ((b.toNat : Nat) : Int)) wo (xs_idx s i b HB.out Tryd.underlying9 rfl rfl rfl) ?_
       simp only [Act.put, zA]
       refine zr (.bool false) wo (xo_eqlF .u8 ((b.toNat : Nat) : Int) 9 (by omega) rfl rfl rfl) ?_
       simp only [Act.put, zA]
       refine zr (.bool false) wo rfl ?_
       simp only [Act.put, zA]
       refine zr (.bool false) wo rfl ?_
       simp only [Act.put, zA]
       refine zr (.string (sB s)) wo rfl ?_
       simp only [Act.put, zA]
       refine zr (.int .i64 (i : Int)) wo rfl ?_
       simp only [Act.put, zA]
       refine zr (.int .u8 ((b.toNat : Nat) : Int)) wo (xs_idx s i b HB.out Tryd.underlying9 rfl rfl rfl) ?_
       simp only [Act.put, zA]
       refine zr (.bool true) wo (xo_eqlT .u8 ((b.toNat : Nat) : Int) 13 (by omega) rfl rfl rfl) ?_
       simp only [Act.put, zA]
       refine zr (.bool true) wo rfl ?_
       simp only [Act.put, zA]
       refine zr (.bool true) wo rfl ?_
       simp only [Act.put, zA]
       refine zl ?_
       try simp only [Act.put, zA]
       refine zl ?_
       try simp only [Act.put, zA]
       refine zl ?_
       try simp only [Act.put, zA]
       refine zl ?_
       try simp only [Act.put, zA]
       refine zr (.bool true) wo rfl ?_
       simp only [Act.put, zA]
       refine zr (.bool true) wo rfl ?_
       simp only [Act.put, zA]
       refine wpList_nil ?_
       go_upto_region 2 with fail
       refine wp_region_lit ?_
       refine zr (.int .i64 (i : Int)) wo rfl ?_
       simp only [Act.put, zA]
       refine zr (.int .i64 ((i + 1 : Nat) : Int)) wo (xo_addI (i : Int) 1 ((i + 1 : Nat) : Int) (by omega) (by omega) (by omega) rfl rfl rfl) ?_
       simp only [Act.put, zA]
       refine zr (.int .i64 ((i + 1 : Nat) : Int)) wo rfl ?_
       simp only [Act.put, zA]
       refine wpList_nil ?_
       have hnx := HR.out.trans (Qu.runE_yes HB.out HSP.out)
       have hq8 := Fv0_4.out
       have hq9 := B0.out
       go_wp2_with fail
       go_roundw
       case rel => exact ⟨i + 1, by omega, by go_num, hnx, hq8, hq9⟩
       case measure => simp [intOf]; omega
      ·have hci7 : ¬ (((b.toNat : Nat) : Int) = 13) := by omega
       by_cases h10 : b.toNat = 10
       ·have hci8 : (((b.toNat : Nat) : Int) = 10) := by omega
        have hsp : Qu.isSp b = true := by rw [HU.out, decide_eq_true h10]; simp
        have HSP := zh hsp
        clear hsp
        go_upto_region 1 with fail
        refine wp_region_lit ?_
        refine zr (.int .i64 (i : Int)) wo rfl ?_
        simp only [Act.put, zA]
        refine zr (.string (sB s)) wo rfl ?_
        simp only [Act.put, zA]
        refine zr (.int .i64 (n : Int)) wo (xs_lenN s n HN.out Tryd.underlying9 rfl rfl) ?_
        simp only [Act.put, zA]
        refine zr (.bool true) wo (xo_lssT .i64 (i : Int) (n : Int) (by omega) rfl rfl rfl) ?_
        simp only [Act.put, zA]
        refine zr (.bool true) wo rfl ?_
        simp only [Act.put, zA]
        refine zr (.string (sB s)) wo rfl ?_
        simp only [Act.put, zA]
        refine zr (.int .i64 (i : Int)) wo rfl ?_
        simp only [Act.put, zA]
        refine zr (.int .u8 ((b.toNat : Nat) : Int)) wo (xs_idx s i b HB.out Tryd.underlying9 rfl rfl rfl) ?_
        simp only [Act.put, zA]
        refine zr (.bool false) wo (xo_eqlF .u8 ((b.toNat : Nat) : Int) 32 (by omega) rfl rfl rfl) ?_
        simp only [Act.put, zA]
        refine zr (.bool false) wo rfl ?_
        simp only [Act.put, zA]
        refine zr (.string (sB s)) wo rfl ?_
        simp only [Act.put, zA]
        refine zr (.int .i64 (i : Int)) wo rfl ?_
        simp only [Act.put, zA]
        refine zr (.int .u8 ((b.toNat : Nat) : Int)) wo (xs_idx s i b HB.out Tryd.underlying9 rfl rfl rfl) ?_
        simp only [Act.put, zA]
        refine zr (.bool false) wo (xo_eqlF .u8 ((b.toNat : Nat) : Int) 9 (by omega) rfl rfl rfl) ?_
        simp only [Act.put, zA]
        refine zr (.bool false) wo rfl ?_
        simp only [Act.put, zA]
        refine zr (.bool false) wo rfl ?_
        simp only [Act.put, zA]
        refine zr (.string (sB s)) wo rfl ?_
        simp only [Act.put, zA]
        refine zr (.int .i64 (i : Int)) wo rfl ?_
        simp only [Act.put, zA]
        refine zr (.int .u8 ((b.toNat : Nat) : Int)) wo (xs_idx s i b HB.out Tryd.underlying9 rfl rfl rfl) ?_
        simp only [Act.put, zA]
        refine zr (.bool false) wo (xo_eqlF .u8 ((b.toNat : Nat) : Int) 13 (by omega) rfl rfl rfl) ?_
        simp only [Act.put, zA]
        refine zr (.bool false) wo rfl ?_
        simp only [Act.put, zA]
        refine zr (.bool false) wo rfl ?_
        simp only [Act.put, zA]
        refine zr (.string (sB s)) wo rfl ?_
        simp only [Act.put, zA]
        refine zr (.int .i64 (i : Int)) wo rfl ?_
        simp only [Act.put, zA]
        refine zr (.int .u8 ((b.toNat : Nat) : Int)) wo (xs_idx s i b HB.out Tryd.underlying9 rfl rfl rfl) ?_
        simp only [Act.put, zA]
        refine zr (.bool true) wo (xo_eqlT .u8 ((b.toNat : Nat) : Int) 10 (by omega) rfl rfl rfl) ?_
        simp only [Act.put, zA]
        refine zr (.bool true) wo rfl ?_
        simp only [Act.put, zA]
        refine zr (.bool true) wo rfl ?_
        simp only [Act.put, zA]
        refine wpList_nil ?_
        go_upto_region 2 with fail
        refine wp_region_lit ?_
        refine zr (.int .i64 (i : Int)) wo rfl ?_
        simp only [Act.put, zA]
        refine zr (.int .i64 ((i + 1 : Nat) : Int)) wo (xo_addI (i : Int) 1 ((i + 1 : Nat) : Int) (by omega) (by omega) (by omega) rfl rfl rfl) ?_
        simp only [Act.put, zA]
        refine zr (.int .i64 ((i + 1 : Nat) : Int)) wo rfl ?_
        simp only [Act.put, zA]
        refine wpList_nil ?_
        have hnx := HR.out.trans (Qu.runE_yes HB.out HSP.out)
        have hq9 := Fv0_4.out
        have hq10 := B0.out
        go_wp2_with fail
        go_roundw
        case rel => exact ⟨i + 1, by omega, by go_num, hnx, hq9, hq10⟩
        case measure => simp [intOf]; omega
       ·have hci8 : ¬ (((b.toNat : Nat) : Int) = 10) := by omega
        have hsp : Qu.isSp b = false := by rw [HU.out, decide_eq_false h32, decide_eq_false h9, decide_eq_false h13, decide_eq_false h10]; rfl
        have HSP := zh hsp
        clear hsp
        go_upto_region 1 with fail
        refine wp_region_lit ?_
        refine zr (.int .i64 (i : Int)) wo rfl ?_
        simp only [Act.put, zA]
        refine zr (.string (sB s)) wo rfl ?_
        simp only [Act.put, zA]
        refine zr (.int .i64 (n : Int)) wo (xs_lenN s n HN.out Tryd.underlying9 rfl rfl) ?_
        simp only [Act.put, zA]
        refine zr (.bool true) wo (xo_lssT .i64 (i : Int) (n : Int) (by omega) rfl rfl rfl) ?_
        simp only [Act.put, zA]
        refine zr (.bool true) wo rfl ?_
        simp only [Act.put, zA]
        refine zr (.string (sB s)) wo rfl ?_
        simp only [Act.put, zA]
        refine zr (.int .i64 (i : Int)) wo rfl ?_
        simp only [Act.put, zA]
        refine zr (.int .u8 ((b.toNat : Nat) : Int)) wo (xs_idx s i b HB.out Tryd.underlying9 rfl rfl rfl) ?_
        simp only [Act.put, zA]
        refine zr (.bool false) wo (xo_eqlF .u8 ((b.toNat : Nat) : Int) 32 (by omega) rfl rfl rfl) ?_
        simp only [Act.put, zA]
        refine zr (.bool false) wo rfl ?_
        simp only [Act.put, zA]
        refine zr (.string (sB s)) wo rfl ?_
        simp only [Act.put, zA]
        refine zr (.int .i64 (i : Int)) wo rfl ?_
        simp only [Act.put, zA]
        refine zr (.int .u8 ((b.toNat : Nat) : Int)) wo (xs_idx s i b HB.out Tryd.underlying9 rfl rfl rfl) ?_
        simp only [Act.put, zA]
        refine zr (.bool false) wo (xo_eqlF .u8 ((b.toNat : Nat) : Int) 9 (by omega) rfl rfl rfl) ?_
        simp only [Act.put, zA]
        refine zr (.bool false) wo rfl ?_
        simp only [Act.put, zA]
        refine zr (.bool false) wo rfl ?_
        simp only [Act.put, zA]
        refine zr (.string (sB s)) wo rfl ?_
        simp only [Act.put, zA]
        refine zr (.int .i64 (i : Int)) wo rfl ?_
        simp only [Act.put, zA]
        refine zr (.int .u8 ((b.toNat : Nat) : Int)) wo (xs_idx s i b HB.out Tryd.underlying9 rfl rfl rfl) ?_
        simp only [Act.put, zA]
        refine zr (.bool false) wo (xo_eqlF .u8 ((b.toNat : Nat) : Int) 13 (by omega) rfl rfl rfl) ?_
        simp only [Act.put, zA]
        refine zr (.bool false) wo rfl ?_
        simp only [Act.put, zA]
        refine zr (.bool false) wo rfl ?_
        simp only [Act.put, zA]
        refine zr (.string (sB s)) wo rfl ?_
        simp only [Act.put, zA]
        refine zr (.int .i64 (i : Int)) wo rfl ?_
        simp only [Act.put, zA]
        refine zr (.int .u8 ((b.toNat : Nat) : Int)) wo (xs_idx s i b HB.out Tryd.underlying9 rfl rfl rfl) ?_
        simp only [Act.put, zA]
        refine zr (.bool false) wo (xo_eqlF .u8 ((b.toNat : Nat) : Int) 10 (by omega) rfl rfl rfl) ?_
        simp only [Act.put, zA]
        refine zr (.bool false) wo rfl ?_
        simp only [Act.put, zA]
        refine zr (.bool false) wo rfl ?_
        simp only [Act.put, zA]
        refine wpList_nil ?_
        have hm9 := Fv0_4.out
        have hm10 := B0.out
        go_wp2_with fail
        go_meet
        case rel => exact ⟨(by rw [HR.out, Qu.runE_no HB.out HSP.out]), hm9, hm10⟩
   ·have hci4 : ¬ ((i : Int) < (n : Int)) := by omega
    go_upto_region 1 with fail
    refine wp_region_lit ?_
    refine zr (.int .i64 (i : Int)) wo rfl ?_
    simp only [Act.put, zA]
    refine zr (.string (sB s)) wo rfl ?_
    simp only [Act.put, zA]
    refine zr (.int .i64 (n : Int)) wo (xs_lenN s n HN.out Tryd.underlying9 rfl rfl) ?_
    simp only [Act.put, zA]
    refine zr (.bool false) wo (xo_lssF .i64 (i : Int) (n : Int) (by omega) rfl rfl rfl) ?_
    simp only [Act.put, zA]
    refine zr (.bool false) wo rfl ?_
    simp only [Act.put, zA]
    refine zl ?_
    try simp only [Act.put, zA]
    refine zl ?_
    try simp only [Act.put, zA]
    refine zl ?_
    try simp only [Act.put, zA]
    refine zl ?_
    try simp only [Act.put, zA]
    refine zl ?_
    try simp only [Act.put, zA]
    refine zl ?_
    try simp only [Act.put, zA]
    refine zl ?_
    try simp only [Act.put, zA]
    refine zl ?_
    try simp only [Act.put, zA]
    refine zl ?_
    try simp only [Act.put, zA]
    refine zl ?_
    try simp only [Act.put, zA]
    refine zl ?_
    try simp only [Act.put, zA]
    refine zl ?_
    try simp only [Act.put, zA]
    refine zl ?_
    try simp only [Act.put, zA]
    refine zl ?_
    try simp only [Act.put, zA]
    refine zl ?_
    try simp only [Act.put, zA]
    refine zl ?_
    try simp only [Act.put, zA]
    refine zl ?_
    try simp only [Act.put, zA]
    refine zl ?_
    try simp only [Act.put, zA]
    refine zl ?_
    try simp only [Act.put, zA]
    refine zl ?_
    try simp only [Act.put, zA]
    refine zl ?_
    try simp only [Act.put, zA]
    refine zl ?_
    try simp only [Act.put, zA]
    refine zr (.bool false) wo rfl ?_
    simp only [Act.put, zA]
    refine wpList_nil ?_
    have hm5 := Fv0_4.out
    have hm6 := B0.out
    go_wp2_with fail
    go_meet
    case rel => exact ⟨(by rw [HR.out, Qu.runE_end (by rw [HN.out]; omega)]), hm5, hm6⟩
 case rest =>
  obtain ⟨wc4, rfl⟩ : ∃ W, W = wc := ⟨_, rfl⟩
  obtain ⟨hs1, hr0, hb0⟩ := hcut
  have hbr := hb0
  clear B0
  have B0 := zh hbr
  clear hbr
  clear Fv0_4
  have Fv0_4 : Hid (wc4.heap[w.heap.size]? = some (.cells #[.int .i64 0, .string ByteArray.empty, .int .i64 0] 85 (0, 0))) := zh (hr0)
  clear hb0 hr0
  obtain ⟨j, hj⟩ : ∃ j, Qu.runE Qu.isSp s q = j := ⟨_, rfl⟩
  rw [hj] at hs1
  subst hs1
  have ljn : j ≤ n := by rw [← hj, ← HN.out]; exact Qu.runE_le (by rw [HN.out]; exact hq)
  have HJ := zh hj
  clear hj
  by_cases hjn : j = n
  ·have hci6 : ((j : Int) = (n : Int)) := by omega
   go_upto_region 3 with fail
   refine wp_region_lit ?_
   refine zr (.int .i64 (j : Int)) wc4 rfl ?_
   simp only [Act.put, zA]
   refine zr (.string (sB s)) wc4 rfl ?_
   simp only [Act.put, zA]
   refine zr (.int .i64 (n : Int)) wc4 (xs_lenN s n HN.out Tryd.underlying9 rfl rfl) ?_
   simp only [Act.put, zA]
   refine zr (.bool true) wc4 (xo_eqlT .i64 (j : Int) (n : Int) (by omega) rfl rfl rfl) ?_
   simp only [Act.put, zA]
   refine wpList_nil ?_
   go_upto_region 4 with fail
   refine wp_region_lit ?_
   refine zr (.int .i64 (j : Int)) wc4 rfl ?_
   simp only [Act.put, zA]
   refine zr (.agg #[.int .i64 0, .string (sB ([])), .int .i64 (j : Int)]) wc4 (by unfold execOp; go_simp <;> rfl) ?_
   simp only [Act.put, zA]
   refine wpList_storeW w.heap.size #[.int .i64 0, .string ByteArray.empty, .int .i64 0] #[.int .i64 0, .string (sB ([])), .int .i64 (j : Int)] 85 (by kernel_rfl) Fv0_4.out (xo_storeW w.heap.size #[.int .i64 0, .string ByteArray.empty, .int .i64 0] #[.int .i64 0, .string (sB ([])), .int .i64 (j : Int)] Fv0_4.out (by kernel_rfl) rfl (by simp [Value.oneCell']) rfl rfl rfl) ?_
   intro X1_7 h1 hfar hbel hsz
   have hbr := hbel _ _ Gb0.out B0.out
   clear B0
   have B0 := zh hbr
   clear hbr
   clear Fv0_4
   have Fv0_4 : Hid (X1_7.heap[w.heap.size]? = some (.cells #[.int .i64 0, .string (sB ([])), .int .i64 (j : Int)] 85 (0, 0))) := zh (h1)
   have HszX1_7 := zh hsz
   clear h1 hfar hbel hsz
   simp only [ptr, Act.put, zA]
   refine wpList_nil ?_
   have HE : Hid (Qu.nxt s q = ⟨⟨0, []⟩, j, j⟩) := zh (Qu.nxt_end HJ.out (List.getElem?_eq_none (by rw [HN.out]; omega)))
   have hbf := B0.out
   go_wp2_with fail
   refine bodyPost_ret (v := .agg #[.int .i64 0, .string (sB ([])), .int .i64 (j : Int)]) ?_ rfl ⟨by rw [HE.out]; rfl, hbf⟩
   exact results_cell_row rfl _ _ w.heap.size 85 _ (0, 0) _ rfl Fv0_4.out Tryd.underlying85 rfl (by kernel_rfl)
  ·have hci6 : ¬ ((j : Int) = (n : Int)) := by omega
   go_upto_region 3 with fail
   refine wp_region_lit ?_
   refine zr (.int .i64 (j : Int)) wc4 rfl ?_
   simp only [Act.put, zA]
   refine zr (.string (sB s)) wc4 rfl ?_
   simp only [Act.put, zA]
   refine zr (.int .i64 (n : Int)) wc4 (xs_lenN s n HN.out Tryd.underlying9 rfl rfl) ?_
   simp only [Act.put, zA]
   refine zr (.bool false) wc4 (xo_eqlF .i64 (j : Int) (n : Int) (by omega) rfl rfl rfl) ?_
   simp only [Act.put, zA]
   refine wpList_nil ?_
   obtain ⟨b, hb0⟩ : ∃ b, s[j]? = some b := ⟨_, List.getElem?_eq_getElem (by rw [HN.out]; omega)⟩
   have HB := zh hb0
   clear hb0
   go_upto_region 5 with fail
   refine wp_region_lit ?_
   refine zr (.int .i64 (j : Int)) wc4 rfl ?_
   simp only [Act.put, zA]
   refine zr (.int .i64 (j : Int)) wc4 rfl ?_
   simp only [Act.put, zA]
   refine wpList_nil ?_
   go_upto_block 2 with fail
   go_cut [5] from 43 to 60 (fun s5 wx => s5 = .int .i64 ((Qu.runE Qu.isLt s j : Nat) : Int) ∧ wx.heap[w.heap.size]? = some (.cells #[.int .i64 0, .string ByteArray.empty, .int .i64 0] 85 (0, 0)) ∧ Below w.heap.size w wx)
   case first =>
    have O7 := Fv0_4.out
    have O8 := B0.out
    go_wp2_with fail
    go_loopw [5] (fun p wr => ∃ k : Nat, k ≤ n ∧ p = .int .i64 k ∧ Qu.runE Qu.isLt s j = Qu.runE Qu.isLt s k ∧ wr.heap[w.heap.size]? = some (.cells #[.int .i64 0, .string ByteArray.empty, .int .i64 0] 85 (0, 0)) ∧ Below w.heap.size w wr) (fun p _ => n - (intOf p).toNat)
    case atStart => exact ⟨j, (by omega), rfl, rfl, O7, O8⟩
    case round =>
     clear O7 O8
     obtain ⟨wz, rfl⟩ : ∃ wz : World, wz = wr := ⟨_, rfl⟩
     obtain ⟨k, hi, rfl, hHRL, hr0, hb0⟩ := hrel
     have hbr := hb0
     clear B0
     have B0 := zh hbr
     clear hbr
     clear Fv0_4
     have Fv0_4 : Hid (wz.heap[w.heap.size]? = some (.cells #[.int .i64 0, .string ByteArray.empty, .int .i64 0] 85 (0, 0))) := zh (hr0)
     have HRL := zh hHRL
     clear hb0 hr0 hHRL
     by_cases hkn : k < n
     ·have hci10 : ((k : Int) < (n : Int)) := by omega
      obtain ⟨bc, hb0⟩ : ∃ b, s[k]? = some b := ⟨_, List.getElem?_eq_getElem (by rw [HN.out]; omega)⟩
      have HBC := zh hb0
      clear hb0
      have hu : Qu.isLt bc = (decide (97 ≤ bc.toNat) && decide (bc.toNat ≤ 122)) := rfl
      have HUL := zh hu
      clear hu
      by_cases hge : 97 ≤ bc.toNat
      ·have hci11 : (((bc.toNat : Nat) : Int) ≥ 97) := by omega
       by_cases hle : bc.toNat ≤ 122
       ·have hci12 : (((bc.toNat : Nat) : Int) ≤ 122) := by omega
        have HSP : Hid (Qu.isLt bc = true) := zh (by rw [HUL.out, decide_eq_true hge, decide_eq_true hle]; rfl)
        go_upto_region 6 with fail
        refine wp_region_lit ?_
        refine zr (.int .i64 (k : Int)) wz rfl ?_
        simp only [Act.put, zA]
        refine zr (.string (sB s)) wz rfl ?_
        simp only [Act.put, zA]
        refine zr (.int .i64 (n : Int)) wz (xs_lenN s n HN.out Tryd.underlying9 rfl rfl) ?_
        simp only [Act.put, zA]
        refine zr (.bool true) wz (xo_lssT .i64 (k : Int) (n : Int) (by omega) rfl rfl rfl) ?_
        simp only [Act.put, zA]
        refine zr (.bool true) wz rfl ?_
        simp only [Act.put, zA]
        refine zr (.string (sB s)) wz rfl ?_
        simp only [Act.put, zA]
        refine zr (.int .i64 (k : Int)) wz rfl ?_
        simp only [Act.put, zA]
        refine zr (.int .u8 ((bc.toNat : Nat) : Int)) wz (xs_idx s k bc HBC.out Tryd.underlying9 rfl rfl rfl) ?_
        simp only [Act.put, zA]
        refine zr (.bool true) wz (xo_geqT .u8 ((bc.toNat : Nat) : Int) 97 (by omega) rfl rfl rfl) ?_
        simp only [Act.put, zA]
        refine zr (.bool true) wz rfl ?_
        simp only [Act.put, zA]
        refine zr (.bool true) wz rfl ?_
        simp only [Act.put, zA]
        refine zr (.string (sB s)) wz rfl ?_
        simp only [Act.put, zA]
        refine zr (.int .i64 (k : Int)) wz rfl ?_
        simp only [Act.put, zA]
        refine zr (.int .u8 ((bc.toNat : Nat) : Int)) wz (xs_idx s k bc HBC.out Tryd.underlying9 rfl rfl rfl) ?_
        simp only [Act.put, zA]
        refine zr (.bool true) wz (xo_leqT .u8 ((bc.toNat : Nat) : Int) 122 (by omega) rfl rfl rfl) ?_
        simp only [Act.put, zA]
        refine zr (.bool true) wz rfl ?_
        simp only [Act.put, zA]
        refine wpList_nil ?_
        go_upto_region 7 with fail
        refine wp_region_lit ?_
        refine zr (.int .i64 (k : Int)) wz rfl ?_
        simp only [Act.put, zA]
        refine zr (.int .i64 ((k + 1 : Nat) : Int)) wz (xo_addI (k : Int) 1 ((k + 1 : Nat) : Int) (by omega) (by omega) (by omega) rfl rfl rfl) ?_
        simp only [Act.put, zA]
        refine zr (.int .i64 ((k + 1 : Nat) : Int)) wz rfl ?_
        simp only [Act.put, zA]
        refine wpList_nil ?_
        have hnx := HRL.out.trans (Qu.runE_yes HBC.out HSP.out)
        have hq13 := Fv0_4.out
        have hq14 := B0.out
        go_wp2_with fail
        go_roundw
        case rel => exact ⟨k + 1, by omega, by go_num, hnx, hq13, hq14⟩
        case measure => simp [intOf]; omega
       ·have hci12 : ¬ (((bc.toNat : Nat) : Int) ≤ 122) := by omega
        have HSP : Hid (Qu.isLt bc = false) := zh (by rw [HUL.out, decide_eq_false hle, Bool.and_false])
        go_upto_region 6 with fail
        refine wp_region_lit ?_
        refine zr (.int .i64 (k : Int)) wz rfl ?_
        simp only [Act.put, zA]
        refine zr (.string (sB s)) wz rfl ?_
        simp only [Act.put, zA]
        refine zr (.int .i64 (n : Int)) wz (xs_lenN s n HN.out Tryd.underlying9 rfl rfl) ?_
        simp only [Act.put, zA]
        refine zr (.bool true) wz (xo_lssT .i64 (k : Int) (n : Int) (by omega) rfl rfl rfl) ?_
        simp only [Act.put, zA]
        refine zr (.bool true) wz rfl ?_
        simp only [Act.put, zA]
        refine zr (.string (sB s)) wz rfl ?_
        simp only [Act.put, zA]
        refine zr (.int .i64 (k : Int)) wz rfl ?_
        simp only [Act.put, zA]
        refine zr (.int .u8 ((bc.toNat : Nat) : Int)) wz (xs_idx s k bc HBC.out Tryd.underlying9 rfl rfl rfl) ?_
        simp only [Act.put, zA]
        refine zr (.bool true) wz (xo_geqT .u8 ((bc.toNat : Nat) : Int) 97 (by omega) rfl rfl rfl) ?_
        simp only [Act.put, zA]
        refine zr (.bool true) wz rfl ?_
        simp only [Act.put, zA]
        refine zr (.bool true) wz rfl ?_
        simp only [Act.put, zA]
        refine zr (.string (sB s)) wz rfl ?_
        simp only [Act.put, zA]
        refine zr (.int .i64 (k : Int)) wz rfl ?_
        simp only [Act.put, zA]
        refine zr (.int .u8 ((bc.toNat : Nat) : Int)) wz (xs_idx s k bc HBC.out Tryd.underlying9 rfl rfl rfl) ?_
        simp only [Act.put, zA]
        refine zr (.bool false) wz (xo_leqF .u8 ((bc.toNat : Nat) : Int) 122 (by omega) rfl rfl rfl) ?_
        simp only [Act.put, zA]
        refine zr (.bool false) wz rfl ?_
        simp only [Act.put, zA]
        refine wpList_nil ?_
        have hm13 := Fv0_4.out
        have hm14 := B0.out
        go_wp2_with fail
        go_meet
        case rel => exact ⟨(by rw [HRL.out, Qu.runE_no HBC.out HSP.out]), hm13, hm14⟩
      ·have hci11 : ¬ (((bc.toNat : Nat) : Int) ≥ 97) := by omega
       have HSP : Hid (Qu.isLt bc = false) := zh (by rw [HUL.out, decide_eq_false hge, Bool.false_and])
       go_upto_region 6 with fail
       refine wp_region_lit ?_
       refine zr (.int .i64 (k : Int)) wz rfl ?_
       simp only [Act.put, zA]
       refine zr (.string (sB s)) wz rfl ?_
       simp only [Act.put, zA]
       refine zr (.int .i64 (n : Int)) wz (xs_lenN s n HN.out Tryd.underlying9 rfl rfl) ?_
       simp only [Act.put, zA]
       refine zr (.bool true) wz (xo_lssT .i64 (k : Int) (n : Int) (by omega) rfl rfl rfl) ?_
       simp only [Act.put, zA]
       refine zr (.bool true) wz rfl ?_
       simp only [Act.put, zA]
       refine zr (.string (sB s)) wz rfl ?_
       simp only [Act.put, zA]
       refine zr (.int .i64 (k : Int)) wz rfl ?_
       simp only [Act.put, zA]
       refine zr (.int .u8 ((bc.toNat : Nat) : Int)) wz (xs_idx s k bc HBC.out Tryd.underlying9 rfl rfl rfl) ?_
       simp only [Act.put, zA]
       refine zr (.bool false) wz (xo_geqF .u8 ((bc.toNat : Nat) : Int) 97 (by omega) rfl rfl rfl) ?_
       simp only [Act.put, zA]
       refine zr (.bool false) wz rfl ?_
       simp only [Act.put, zA]
       refine zr (.bool false) wz rfl ?_
       simp only [Act.put, zA]
       refine zl ?_
       try simp only [Act.put, zA]
       refine zl ?_
       try simp only [Act.put, zA]
       refine zl ?_
       try simp only [Act.put, zA]
       refine zl ?_
       try simp only [Act.put, zA]
       refine zr (.bool false) wz rfl ?_
       simp only [Act.put, zA]
       refine wpList_nil ?_
       have hm12 := Fv0_4.out
       have hm13 := B0.out
       go_wp2_with fail
       go_meet
       case rel => exact ⟨(by rw [HRL.out, Qu.runE_no HBC.out HSP.out]), hm12, hm13⟩
     ·have hci10 : ¬ ((k : Int) < (n : Int)) := by omega
      go_upto_region 6 with fail
      refine wp_region_lit ?_
      refine zr (.int .i64 (k : Int)) wz rfl ?_
      simp only [Act.put, zA]
      refine zr (.string (sB s)) wz rfl ?_
      simp only [Act.put, zA]
      refine zr (.int .i64 (n : Int)) wz (xs_lenN s n HN.out Tryd.underlying9 rfl rfl) ?_
      simp only [Act.put, zA]
      refine zr (.bool false) wz (xo_lssF .i64 (k : Int) (n : Int) (by omega) rfl rfl rfl) ?_
      simp only [Act.put, zA]
      refine zr (.bool false) wz rfl ?_
      simp only [Act.put, zA]
      refine zl ?_
      try simp only [Act.put, zA]
      refine zl ?_
      try simp only [Act.put, zA]
      refine zl ?_
      try simp only [Act.put, zA]
      refine zl ?_
      try simp only [Act.put, zA]
      refine zr (.bool false) wz rfl ?_
      simp only [Act.put, zA]
      refine zr (.bool false) wz rfl ?_
      simp only [Act.put, zA]
      refine zl ?_
      try simp only [Act.put, zA]
      refine zl ?_
      try simp only [Act.put, zA]
      refine zl ?_
      try simp only [Act.put, zA]
      refine zl ?_
      try simp only [Act.put, zA]
      refine zr (.bool false) wz rfl ?_
      simp only [Act.put, zA]
      refine wpList_nil ?_
      have hm11 := Fv0_4.out
      have hm12 := B0.out
      go_wp2_with fail
      go_meet
      case rel => exact ⟨(by rw [HRL.out, Qu.runE_end (by rw [HN.out]; omega)]), hm11, hm12⟩
   case rest =>
    obtain ⟨wc10, rfl⟩ : ∃ W, W = wc := ⟨_, rfl⟩
    obtain ⟨hs5, hr0, hb0⟩ := hcut
    have hbr := hb0
    clear B0
    have B0 := zh hbr
    clear hbr
    clear Fv0_4
    have Fv0_4 : Hid (wc10.heap[w.heap.size]? = some (.cells #[.int .i64 0, .string ByteArray.empty, .int .i64 0] 85 (0, 0))) := zh (hr0)
    clear hb0 hr0
    by_cases hl : Qu.isLt b = true
    ·obtain ⟨k, hk⟩ : ∃ k, Qu.runE Qu.isLt s j = k := ⟨_, rfl⟩
     rw [hk] at hs5
     subst hs5
     have lkj : j < k := by rw [← hk, Qu.runE_yes HB.out hl]; exact Qu.runE_ge _ _ _
     have lkn : k ≤ s.length := by rw [← hk]; exact Qu.runE_le (by rw [HN.out]; omega)
     have HK := zh hk
     clear hk
     have lkn2 := lkn
     rw [HN.out] at lkn2
     have HLN := zh lkn
     clear lkn
     have hci12 : ((k : Int) > (j : Int)) := by omega
     go_upto_region 8 with fail
     refine wp_region_lit ?_
     refine zr (.int .i64 (k : Int)) wc10 rfl ?_
     simp only [Act.put, zA]
     refine zr (.int .i64 (j : Int)) wc10 rfl ?_
     simp only [Act.put, zA]
     refine zr (.bool true) wc10 (xo_gtrT .i64 (k : Int) (j : Int) (by omega) rfl rfl rfl) ?_
     simp only [Act.put, zA]
     refine wpList_nil ?_
     go_upto_region 9 with fail
     refine wp_region_lit ?_
     refine zr (.string (sB s)) wc10 rfl ?_
     simp only [Act.put, zA]
     refine zr (.int .i64 (j : Int)) wc10 rfl ?_
     simp only [Act.put, zA]
     refine zr (.int .i64 (k : Int)) wc10 rfl ?_
     simp only [Act.put, zA]
     refine zr (.string (sB ((s.take k).drop j))) wc10 (xs_cut s j k (by omega) HLN.out Tryd.underlying9 rfl rfl rfl rfl) ?_
     simp only [Act.put, zA]
     refine zr (.int .i64 (j : Int)) wc10 rfl ?_
     simp only [Act.put, zA]
     refine zr (.agg #[.int .i64 1, .string (sB ((s.take k).drop j)), .int .i64 (j : Int)]) wc10 (by unfold execOp; go_simp <;> rfl) ?_
     simp only [Act.put, zA]
     refine wpList_storeW w.heap.size #[.int .i64 0, .string ByteArray.empty, .int .i64 0] #[.int .i64 1, .string (sB ((s.take k).drop j)), .int .i64 (j : Int)] 85 (by kernel_rfl) Fv0_4.out (xo_storeW w.heap.size #[.int .i64 0, .string ByteArray.empty, .int .i64 0] #[.int .i64 1, .string (sB ((s.take k).drop j)), .int .i64 (j : Int)] Fv0_4.out (by kernel_rfl) rfl (by simp [Value.oneCell']) rfl rfl rfl) ?_
     intro X1_13 h1 hfar hbel hsz
     have hbr := hbel _ _ Gb0.out B0.out
     clear B0
     have B0 := zh hbr
     clear hbr
     clear Fv0_4
     have Fv0_4 : Hid (X1_13.heap[w.heap.size]? = some (.cells #[.int .i64 1, .string (sB ((s.take k).drop j)), .int .i64 (j : Int)] 85 (0, 0))) := zh (h1)
     have HszX1_13 := zh hsz
     clear h1 hfar hbel hsz
     simp only [ptr, Act.put, zA]
     refine wpList_nil ?_
     have HE : Hid (Qu.nxt s q = ⟨⟨2, (s.take k).drop j⟩, j, k⟩) := zh (by rw [Qu.nxt_word HJ.out HB.out hl, HK.out])
     have hbf := B0.out
     go_wp2_with fail
     refine bodyPost_ret (v := .agg #[.int .i64 1, .string (sB ((s.take k).drop j)), .int .i64 (j : Int)]) ?_ rfl ⟨by rw [HE.out]; rfl, hbf⟩
     exact results_cell_row rfl _ _ w.heap.size 85 _ (0, 0) _ rfl Fv0_4.out Tryd.underlying85 rfl (by kernel_rfl)
    ·have hl2 : Qu.isLt b = false := by simpa using hl
     rw [Qu.runE_no HB.out hl2] at hs5
     subst hs5
     have HL2 := zh hl2
     clear hl hl2
     have hci12 : ¬ ((j : Int) > (j : Int)) := by omega
     go_upto_region 8 with fail
     refine wp_region_lit ?_
     refine zr (.int .i64 (j : Int)) wc10 rfl ?_
     simp only [Act.put, zA]
     refine zr (.int .i64 (j : Int)) wc10 rfl ?_
     simp only [Act.put, zA]
     refine zr (.bool false) wc10 (xo_gtrF .i64 (j : Int) (j : Int) (by omega) rfl rfl rfl) ?_
     simp only [Act.put, zA]
     refine wpList_nil ?_
     go_upto_block 4 with fail
     go_cut [5] from 70 to 87 (fun s5 wx => s5 = .int .i64 ((Qu.runE Qu.isDg s j : Nat) : Int) ∧ wx.heap[w.heap.size]? = some (.cells #[.int .i64 0, .string ByteArray.empty, .int .i64 0] 85 (0, 0)) ∧ Below w.heap.size w wx)
     case first =>
      have O13 := Fv0_4.out
      have O14 := B0.out
      go_wp2_with fail
      go_loopw [5] (fun p wr => ∃ k : Nat, k ≤ n ∧ p = .int .i64 k ∧ Qu.runE Qu.isDg s j = Qu.runE Qu.isDg s k ∧ wr.heap[w.heap.size]? = some (.cells #[.int .i64 0, .string ByteArray.empty, .int .i64 0] 85 (0, 0)) ∧ Below w.heap.size w wr) (fun p _ => n - (intOf p).toNat)
      case atStart => exact ⟨j, (by omega), rfl, rfl, O13, O14⟩
      case round =>
       clear O13 O14
       obtain ⟨wz, rfl⟩ : ∃ wz : World, wz = wr := ⟨_, rfl⟩
       obtain ⟨k, hi, rfl, hHRL, hr0, hb0⟩ := hrel
       have hbr := hb0
       clear B0
       have B0 := zh hbr
       clear hbr
       clear Fv0_4
       have Fv0_4 : Hid (wz.heap[w.heap.size]? = some (.cells #[.int .i64 0, .string ByteArray.empty, .int .i64 0] 85 (0, 0))) := zh (hr0)
       have HRL := zh hHRL
       clear hb0 hr0 hHRL
       by_cases hkn : k < n
       ·have hci16 : ((k : Int) < (n : Int)) := by omega
        obtain ⟨bc, hb0⟩ : ∃ b, s[k]? = some b := ⟨_, List.getElem?_eq_getElem (by rw [HN.out]; omega)⟩
        have HBC := zh hb0
        clear hb0
        have hu : Qu.isDg bc = (decide (48 ≤ bc.toNat) && decide (bc.toNat ≤ 57)) := rfl
        have HUL := zh hu
        clear hu
        by_cases hge : 48 ≤ bc.toNat
        ·have hci17 : (((bc.toNat : Nat) : Int) ≥ 48) := by omega
         by_cases hle : bc.toNat ≤ 57
         ·have hci18 : (((bc.toNat : Nat) : Int) ≤ 57) := by omega
          have HSP : Hid (Qu.isDg bc = true) := zh (by rw [HUL.out, decide_eq_true hge, decide_eq_true hle]; rfl)
          go_upto_region 10 with fail
          refine wp_region_lit ?_
          refine zr (.int .i64 (k : Int)) wz rfl ?_
          simp only [Act.put, zA]
          refine zr (.string (sB s)) wz rfl ?_
          simp only [Act.put, zA]
          refine zr (.int .i64 (n : Int)) wz (xs_lenN s n HN.out Tryd.underlying9 rfl rfl) ?_
          simp only [Act.put, zA]
          refine zr (.bool true) wz (xo_lssT .i64 (k : Int) (n : Int) (by omega) rfl rfl rfl) ?_
          simp only [Act.put, zA]
          refine zr (.bool true) wz rfl ?_
          simp only [Act.put, zA]
          refine zr (.string (sB s)) wz rfl ?_
          simp only [Act.put, zA]
          refine zr (.int .i64 (k : Int)) wz rfl ?_
          simp only [Act.put, zA]
          refine zr (.int .u8 ((bc.toNat : Nat) : Int)) wz (xs_idx s k bc HBC.out Tryd.underlying9 rfl rfl rfl) ?_
          simp only [Act.put, zA]
          refine zr (.bool true) wz (xo_geqT .u8 ((bc.toNat : Nat) : Int) 48 (by omega) rfl rfl rfl) ?_
          simp only [Act.put, zA]
          refine zr (.bool true) wz rfl ?_
          simp only [Act.put, zA]
          refine zr (.bool true) wz rfl ?_
          simp only [Act.put, zA]
          refine zr (.string (sB s)) wz rfl ?_
          simp only [Act.put, zA]
          refine zr (.int .i64 (k : Int)) wz rfl ?_
          simp only [Act.put, zA]
          refine zr (.int .u8 ((bc.toNat : Nat) : Int)) wz (xs_idx s k bc HBC.out Tryd.underlying9 rfl rfl rfl) ?_
          simp only [Act.put, zA]
          refine zr (.bool true) wz (xo_leqT .u8 ((bc.toNat : Nat) : Int) 57 (by omega) rfl rfl rfl) ?_
          simp only [Act.put, zA]
          refine zr (.bool true) wz rfl ?_
          simp only [Act.put, zA]
          refine wpList_nil ?_
          go_upto_region 11 with fail
          refine wp_region_lit ?_
          refine zr (.int .i64 (k : Int)) wz rfl ?_
          simp only [Act.put, zA]
          refine zr (.int .i64 ((k + 1 : Nat) : Int)) wz (xo_addI (k : Int) 1 ((k + 1 : Nat) : Int) (by omega) (by omega) (by omega) rfl rfl rfl) ?_
          simp only [Act.put, zA]
          refine zr (.int .i64 ((k + 1 : Nat) : Int)) wz rfl ?_
          simp only [Act.put, zA]
          refine wpList_nil ?_
          have hnx := HRL.out.trans (Qu.runE_yes HBC.out HSP.out)
          have hq19 := Fv0_4.out
          have hq20 := B0.out
          go_wp2_with fail
          go_roundw
          case rel => exact ⟨k + 1, by omega, by go_num, hnx, hq19, hq20⟩
          case measure => simp [intOf]; omega
         ·have hci18 : ¬ (((bc.toNat : Nat) : Int) ≤ 57) := by omega
          have HSP : Hid (Qu.isDg bc = false) := zh (by rw [HUL.out, decide_eq_false hle, Bool.and_false])
          go_upto_region 10 with fail
          refine wp_region_lit ?_
          refine zr (.int .i64 (k : Int)) wz rfl ?_
          simp only [Act.put, zA]
          refine zr (.string (sB s)) wz rfl ?_
          simp only [Act.put, zA]
          refine zr (.int .i64 (n : Int)) wz (xs_lenN s n HN.out Tryd.underlying9 rfl rfl) ?_
          simp only [Act.put, zA]
          refine zr (.bool true) wz (xo_lssT .i64 (k : Int) (n : Int) (by omega) rfl rfl rfl) ?_
          simp only [Act.put, zA]
          refine zr (.bool true) wz rfl ?_
          simp only [Act.put, zA]
          refine zr (.string (sB s)) wz rfl ?_
          simp only [Act.put, zA]
          refine zr (.int .i64 (k : Int)) wz rfl ?_
          simp only [Act.put, zA]
          refine zr (.int .u8 ((bc.toNat : Nat) : Int)) wz (xs_idx s k bc HBC.out Tryd.underlying9 rfl rfl rfl) ?_
          simp only [Act.put, zA]
          refine zr (.bool true) wz (xo_geqT .u8 ((bc.toNat : Nat) : Int) 48 (by omega) rfl rfl rfl) ?_
          simp only [Act.put, zA]
          refine zr (.bool true) wz rfl ?_
          simp only [Act.put, zA]
          refine zr (.bool true) wz rfl ?_
          simp only [Act.put, zA]
          refine zr (.string (sB s)) wz rfl ?_
          simp only [Act.put, zA]
          refine zr (.int .i64 (k : Int)) wz rfl ?_
          simp only [Act.put, zA]
          refine zr (.int .u8 ((bc.toNat : Nat) : Int)) wz (xs_idx s k bc HBC.out Tryd.underlying9 rfl rfl rfl) ?_
          simp only [Act.put, zA]
          refine zr (.bool false) wz (xo_leqF .u8 ((bc.toNat : Nat) : Int) 57 (by omega) rfl rfl rfl) ?_
          simp only [Act.put, zA]
          refine zr (.bool false) wz rfl ?_
          simp only [Act.put, zA]
          refine wpList_nil ?_
          have hm19 := Fv0_4.out
          have hm20 := B0.out
          go_wp2_with fail
          go_meet
          case rel => exact ⟨(by rw [HRL.out, Qu.runE_no HBC.out HSP.out]), hm19, hm20⟩
        ·have hci17 : ¬ (((bc.toNat : Nat) : Int) ≥ 48) := by omega
         have HSP : Hid (Qu.isDg bc = false) := zh (by rw [HUL.out, decide_eq_false hge, Bool.false_and])
         go_upto_region 10 with fail
         refine wp_region_lit ?_
         refine zr (.int .i64 (k : Int)) wz rfl ?_
         simp only [Act.put, zA]
         refine zr (.string (sB s)) wz rfl ?_
         simp only [Act.put, zA]
         refine zr (.int .i64 (n : Int)) wz (xs_lenN s n HN.out Tryd.underlying9 rfl rfl) ?_
         simp only [Act.put, zA]
         refine zr (.bool true) wz (xo_lssT .i64 (k : Int) (n : Int) (by omega) rfl rfl rfl) ?_
         simp only [Act.put, zA]
         refine zr (.bool true) wz rfl ?_
         simp only [Act.put, zA]
         refine zr (.string (sB s)) wz rfl ?_
         simp only [Act.put, zA]
         refine zr (.int .i64 (k : Int)) wz rfl ?_
         simp only [Act.put, zA]
         refine zr (.int .u8 ((bc.toNat : Nat) : Int)) wz (xs_idx s k bc HBC.out Tryd.underlying9 rfl rfl rfl) ?_
         simp only [Act.put, zA]
         refine zr (.bool false) wz (xo_geqF .u8 ((bc.toNat : Nat) : Int) 48 (by omega) rfl rfl rfl) ?_
         simp only [Act.put, zA]
         refine zr (.bool false) wz rfl ?_
         simp only [Act.put, zA]
         refine zr (.bool false) wz rfl ?_
         simp only [Act.put, zA]
         refine zl ?_
         try simp only [Act.put, zA]
         refine zl ?_
         try simp only [Act.put, zA]
         refine zl ?_
         try simp only [Act.put, zA]
         refine zl ?_
         try simp only [Act.put, zA]
         refine zr (.bool false) wz rfl ?_
         simp only [Act.put, zA]
         refine wpList_nil ?_
         have hm18 := Fv0_4.out
         have hm19 := B0.out
         go_wp2_with fail
         go_meet
         case rel => exact ⟨(by rw [HRL.out, Qu.runE_no HBC.out HSP.out]), hm18, hm19⟩
       ·have hci16 : ¬ ((k : Int) < (n : Int)) := by omega
        go_upto_region 10 with fail
        refine wp_region_lit ?_
        refine zr (.int .i64 (k : Int)) wz rfl ?_
        simp only [Act.put, zA]
        refine zr (.string (sB s)) wz rfl ?_
        simp only [Act.put, zA]
        refine zr (.int .i64 (n : Int)) wz (xs_lenN s n HN.out Tryd.underlying9 rfl rfl) ?_
        simp only [Act.put, zA]
        refine zr (.bool false) wz (xo_lssF .i64 (k : Int) (n : Int) (by omega) rfl rfl rfl) ?_
        simp only [Act.put, zA]
        refine zr (.bool false) wz rfl ?_
        simp only [Act.put, zA]
        refine zl ?_
        try simp only [Act.put, zA]
        refine zl ?_
        try simp only [Act.put, zA]
        refine zl ?_
        try simp only [Act.put, zA]
        refine zl ?_
        try simp only [Act.put, zA]
        refine zr (.bool false) wz rfl ?_
        simp only [Act.put, zA]
        refine zr (.bool false) wz rfl ?_
        simp only [Act.put, zA]
        refine zl ?_
        try simp only [Act.put, zA]
        refine zl ?_
        try simp only [Act.put, zA]
        refine zl ?_
        try simp only [Act.put, zA]
        refine zl ?_
        try simp only [Act.put, zA]
        refine zr (.bool false) wz rfl ?_
        simp only [Act.put, zA]
        refine wpList_nil ?_
        have hm17 := Fv0_4.out
        have hm18 := B0.out
        go_wp2_with fail
        go_meet
        case rel => exact ⟨(by rw [HRL.out, Qu.runE_end (by rw [HN.out]; omega)]), hm17, hm18⟩
     case rest =>
      obtain ⟨wc16, rfl⟩ : ∃ W, W = wc := ⟨_, rfl⟩
      obtain ⟨hs5, hr0, hb0⟩ := hcut
      have hbr := hb0
      clear B0
      have B0 := zh hbr
      clear hbr
      clear Fv0_4
      have Fv0_4 : Hid (wc16.heap[w.heap.size]? = some (.cells #[.int .i64 0, .string ByteArray.empty, .int .i64 0] 85 (0, 0))) := zh (hr0)
      clear hb0 hr0
      by_cases hd : Qu.isDg b = true
      ·obtain ⟨k, hk⟩ : ∃ k, Qu.runE Qu.isDg s j = k := ⟨_, rfl⟩
       rw [hk] at hs5
       subst hs5
       have lkj : j < k := by rw [← hk, Qu.runE_yes HB.out hd]; exact Qu.runE_ge _ _ _
       have lkn : k ≤ s.length := by rw [← hk]; exact Qu.runE_le (by rw [HN.out]; omega)
       have HK := zh hk
       clear hk
       have lkn2 := lkn
       rw [HN.out] at lkn2
       have HLN := zh lkn
       clear lkn
       have hci18 : ((k : Int) > (j : Int)) := by omega
       go_upto_region 12 with fail
       refine wp_region_lit ?_
       refine zr (.int .i64 (k : Int)) wc16 rfl ?_
       simp only [Act.put, zA]
       refine zr (.int .i64 (j : Int)) wc16 rfl ?_
       simp only [Act.put, zA]
       refine zr (.bool true) wc16 (xo_gtrT .i64 (k : Int) (j : Int) (by omega) rfl rfl rfl) ?_
       simp only [Act.put, zA]
       refine wpList_nil ?_
       go_upto_region 13 with fail
       refine wp_region_lit ?_
       refine zr (.string (sB s)) wc16 rfl ?_
       simp only [Act.put, zA]
       refine zr (.int .i64 (j : Int)) wc16 rfl ?_
       simp only [Act.put, zA]
       refine zr (.int .i64 (k : Int)) wc16 rfl ?_
       simp only [Act.put, zA]
       refine zr (.string (sB ((s.take k).drop j))) wc16 (xs_cut s j k (by omega) HLN.out Tryd.underlying9 rfl rfl rfl rfl) ?_
       simp only [Act.put, zA]
       refine zr (.int .i64 (j : Int)) wc16 rfl ?_
       simp only [Act.put, zA]
       refine zr (.agg #[.int .i64 2, .string (sB ((s.take k).drop j)), .int .i64 (j : Int)]) wc16 (by unfold execOp; go_simp <;> rfl) ?_
       simp only [Act.put, zA]
       refine wpList_storeW w.heap.size #[.int .i64 0, .string ByteArray.empty, .int .i64 0] #[.int .i64 2, .string (sB ((s.take k).drop j)), .int .i64 (j : Int)] 85 (by kernel_rfl) Fv0_4.out (xo_storeW w.heap.size #[.int .i64 0, .string ByteArray.empty, .int .i64 0] #[.int .i64 2, .string (sB ((s.take k).drop j)), .int .i64 (j : Int)] Fv0_4.out (by kernel_rfl) rfl (by simp [Value.oneCell']) rfl rfl rfl) ?_
       intro X1_19 h1 hfar hbel hsz
       have hbr := hbel _ _ Gb0.out B0.out
       clear B0
       have B0 := zh hbr
       clear hbr
       clear Fv0_4
       have Fv0_4 : Hid (X1_19.heap[w.heap.size]? = some (.cells #[.int .i64 2, .string (sB ((s.take k).drop j)), .int .i64 (j : Int)] 85 (0, 0))) := zh (h1)
       have HszX1_19 := zh hsz
       clear h1 hfar hbel hsz
       simp only [ptr, Act.put, zA]
       refine wpList_nil ?_
       have HE : Hid (Qu.nxt s q = ⟨⟨3, (s.take k).drop j⟩, j, k⟩) := zh (by rw [Qu.nxt_num HJ.out HB.out HL2.out hd, HK.out])
       have hbf := B0.out
       go_wp2_with fail
       refine bodyPost_ret (v := .agg #[.int .i64 2, .string (sB ((s.take k).drop j)), .int .i64 (j : Int)]) ?_ rfl ⟨by rw [HE.out]; rfl, hbf⟩
       exact results_cell_row rfl _ _ w.heap.size 85 _ (0, 0) _ rfl Fv0_4.out Tryd.underlying85 rfl (by kernel_rfl)
      ·have hd2 : Qu.isDg b = false := by simpa using hd
       rw [Qu.runE_no HB.out hd2] at hs5
       subst hs5
       have HD2 := zh hd2
       clear hd hd2
       have hci18 : ¬ ((j : Int) > (j : Int)) := by omega
       go_upto_region 12 with fail
       refine wp_region_lit ?_
       refine zr (.int .i64 (j : Int)) wc16 rfl ?_
       simp only [Act.put, zA]
       refine zr (.int .i64 (j : Int)) wc16 rfl ?_
       simp only [Act.put, zA]
       refine zr (.bool false) wc16 (xo_gtrF .i64 (j : Int) (j : Int) (by omega) rfl rfl rfl) ?_
       simp only [Act.put, zA]
       refine wpList_nil ?_
       by_cases h61 : b = 61
       ·have hbn : b.toNat = 61 := by rw [h61]; rfl
        have hci19 : (((b.toNat : Nat) : Int) = 61) := by omega
        go_upto_region 14 with fail
        refine wp_region_lit ?_
        refine zr (.string (sB s)) wc16 rfl ?_
        simp only [Act.put, zA]
        refine zr (.int .i64 (j : Int)) wc16 rfl ?_
        simp only [Act.put, zA]
        refine zr (.int .u8 ((b.toNat : Nat) : Int)) wc16 (xs_idx s j b HB.out Tryd.underlying9 rfl rfl rfl) ?_
        simp only [Act.put, zA]
        refine zr (.bool true) wc16 (xo_eqlT .u8 ((b.toNat : Nat) : Int) 61 (by omega) rfl rfl rfl) ?_
        simp only [Act.put, zA]
        refine wpList_nil ?_
        go_upto_region 15 with fail
        refine wp_region_lit ?_
        refine zr (.int .i64 (j : Int)) wc16 rfl ?_
        simp only [Act.put, zA]
        refine zr (.agg #[.int .i64 3, .string (sB ([61])), .int .i64 (j : Int)]) wc16 (by unfold execOp; go_simp <;> rfl) ?_
        simp only [Act.put, zA]
        refine wpList_storeW w.heap.size #[.int .i64 0, .string ByteArray.empty, .int .i64 0] #[.int .i64 3, .string (sB ([61])), .int .i64 (j : Int)] 85 (by kernel_rfl) Fv0_4.out (xo_storeW w.heap.size #[.int .i64 0, .string ByteArray.empty, .int .i64 0] #[.int .i64 3, .string (sB ([61])), .int .i64 (j : Int)] Fv0_4.out (by kernel_rfl) rfl (by simp [Value.oneCell']) rfl rfl rfl) ?_
        intro X1_20 h1 hfar hbel hsz
        have hbr := hbel _ _ Gb0.out B0.out
        clear B0
        have B0 := zh hbr
        clear hbr
        clear Fv0_4
        have Fv0_4 : Hid (X1_20.heap[w.heap.size]? = some (.cells #[.int .i64 3, .string (sB ([61])), .int .i64 (j : Int)] 85 (0, 0))) := zh (h1)
        have HszX1_20 := zh hsz
        clear h1 hfar hbel hsz
        simp only [ptr, Act.put, zA]
        refine wpList_nil ?_
        have HE : Hid (Qu.nxt s q = ⟨⟨5, []⟩, j, j + 1⟩) := zh (Qu.nxt_eq HJ.out HB.out HL2.out HD2.out (bg2_no HB.out (by rw [h61]; decide)) (by rw [bg1 HB.out, decide_eq_true h61]))
        have hbf := B0.out
        go_wp2_with fail
        refine bodyPost_ret (v := .agg #[.int .i64 3, .string (sB ([61])), .int .i64 (j : Int)]) ?_ rfl ⟨by rw [HE.out]; rfl, hbf⟩
        exact results_cell_row rfl _ _ w.heap.size 85 _ (0, 0) _ rfl Fv0_4.out Tryd.underlying85 rfl (by kernel_rfl)
       ·have hbn : ¬ b.toNat = 61 := fun e => h61 (UInt8.toNat_inj.1 e)
        have hci19 : ¬ (((b.toNat : Nat) : Int) = 61) := by omega
        go_upto_region 14 with fail
        refine wp_region_lit ?_
        refine zr (.string (sB s)) wc16 rfl ?_
        simp only [Act.put, zA]
        refine zr (.int .i64 (j : Int)) wc16 rfl ?_
        simp only [Act.put, zA]
        refine zr (.int .u8 ((b.toNat : Nat) : Int)) wc16 (xs_idx s j b HB.out Tryd.underlying9 rfl rfl rfl) ?_
        simp only [Act.put, zA]
        refine zr (.bool false) wc16 (xo_eqlF .u8 ((b.toNat : Nat) : Int) 61 (by omega) rfl rfl rfl) ?_
        simp only [Act.put, zA]
        refine wpList_nil ?_
        by_cases h46 : b = 46
        ·have hbd : b.toNat = 46 := by rw [h46]; rfl
         have hci20 : (((b.toNat : Nat) : Int) = 46) := by omega
         by_cases hj1 : j + 1 < n
         ·have hci21 : (((j + 1 : Nat) : Int) < (n : Int)) := by omega
          obtain ⟨bd, hb0⟩ : ∃ b, s[j + 1]? = some b := ⟨_, List.getElem?_eq_getElem (by rw [HN.out]; omega)⟩
          have HBD := zh hb0
          clear hb0
          by_cases h462 : bd = 46
          ·have hbe : bd.toNat = 46 := by rw [h462]; rfl
           have hci22 : (((bd.toNat : Nat) : Int) = 46) := by omega
           go_upto_region 16 with fail
           refine wp_region_lit ?_
           refine zr (.string (sB s)) wc16 rfl ?_
           simp only [Act.put, zA]
           refine zr (.int .i64 (j : Int)) wc16 rfl ?_
           simp only [Act.put, zA]
           refine zr (.int .u8 ((b.toNat : Nat) : Int)) wc16 (xs_idx s j b HB.out Tryd.underlying9 rfl rfl rfl) ?_
           simp only [Act.put, zA]
           refine zr (.bool true) wc16 (xo_eqlT .u8 ((b.toNat : Nat) : Int) 46 (by omega) rfl rfl rfl) ?_
           simp only [Act.put, zA]
           refine zr (.bool true) wc16 rfl ?_
           simp only [Act.put, zA]
           refine zr (.int .i64 (j : Int)) wc16 rfl ?_
           simp only [Act.put, zA]
           refine zr (.int .i64 ((j + 1 : Nat) : Int)) wc16 (xo_addI (j : Int) 1 ((j + 1 : Nat) : Int) (by omega) (by omega) (by omega) rfl rfl rfl) ?_
           simp only [Act.put, zA]
           refine zr (.string (sB s)) wc16 rfl ?_
           simp only [Act.put, zA]
           refine zr (.int .i64 (n : Int)) wc16 (xs_lenN s n HN.out Tryd.underlying9 rfl rfl) ?_
           simp only [Act.put, zA]
           refine zr (.bool true) wc16 (xo_lssT .i64 ((j + 1 : Nat) : Int) (n : Int) (by omega) rfl rfl rfl) ?_
           simp only [Act.put, zA]
           refine zr (.bool true) wc16 rfl ?_
           simp only [Act.put, zA]
           refine zr (.bool true) wc16 rfl ?_
           simp only [Act.put, zA]
           refine zr (.string (sB s)) wc16 rfl ?_
           simp only [Act.put, zA]
           refine zr (.int .i64 (j : Int)) wc16 rfl ?_
           simp only [Act.put, zA]
           refine zr (.int .i64 ((j + 1 : Nat) : Int)) wc16 (xo_addI (j : Int) 1 ((j + 1 : Nat) : Int) (by omega) (by omega) (by omega) rfl rfl rfl) ?_
           simp only [Act.put, zA]
           refine zr (.int .u8 ((bd.toNat : Nat) : Int)) wc16 (xs_idx s (j + 1) bd HBD.out Tryd.underlying9 rfl rfl rfl) ?_
           simp only [Act.put, zA]
           refine zr (.bool true) wc16 (xo_eqlT .u8 ((bd.toNat : Nat) : Int) 46 (by omega) rfl rfl rfl) ?_
           simp only [Act.put, zA]
           refine zr (.bool true) wc16 rfl ?_
           simp only [Act.put, zA]
           refine wpList_nil ?_
           go_upto_region 17 with fail
           refine wp_region_lit ?_
           refine zr (.int .i64 (j : Int)) wc16 rfl ?_
           simp only [Act.put, zA]
           refine zr (.agg #[.int .i64 3, .string (sB ([46, 46])), .int .i64 (j : Int)]) wc16 (by unfold execOp; go_simp <;> rfl) ?_
           simp only [Act.put, zA]
           refine wpList_storeW w.heap.size #[.int .i64 0, .string ByteArray.empty, .int .i64 0] #[.int .i64 3, .string (sB ([46, 46])), .int .i64 (j : Int)] 85 (by kernel_rfl) Fv0_4.out (xo_storeW w.heap.size #[.int .i64 0, .string ByteArray.empty, .int .i64 0] #[.int .i64 3, .string (sB ([46, 46])), .int .i64 (j : Int)] Fv0_4.out (by kernel_rfl) rfl (by simp [Value.oneCell']) rfl rfl rfl) ?_
           intro X1_23 h1 hfar hbel hsz
           have hbr := hbel _ _ Gb0.out B0.out
           clear B0
           have B0 := zh hbr
           clear hbr
           clear Fv0_4
           have Fv0_4 : Hid (X1_23.heap[w.heap.size]? = some (.cells #[.int .i64 3, .string (sB ([46, 46])), .int .i64 (j : Int)] 85 (0, 0))) := zh (h1)
           have HszX1_23 := zh hsz
           clear h1 hfar hbel hsz
           simp only [ptr, Act.put, zA]
           refine wpList_nil ?_
           have HE : Hid (Qu.nxt s q = ⟨⟨4, []⟩, j, j + 2⟩) := zh (Qu.nxt_dots HJ.out HB.out HL2.out HD2.out (by rw [bg2 HB.out HBD.out, decide_eq_true h46, decide_eq_true h462]; rfl))
           have hbf := B0.out
           go_wp2_with fail
           refine bodyPost_ret (v := .agg #[.int .i64 3, .string (sB ([46, 46])), .int .i64 (j : Int)]) ?_ rfl ⟨by rw [HE.out]; rfl, hbf⟩
           exact results_cell_row rfl _ _ w.heap.size 85 _ (0, 0) _ rfl Fv0_4.out Tryd.underlying85 rfl (by kernel_rfl)
          ·have hbe : ¬ bd.toNat = 46 := fun e => h462 (UInt8.toNat_inj.1 e)
           have hci22 : ¬ (((bd.toNat : Nat) : Int) = 46) := by omega
           go_upto_region 16 with fail
           refine wp_region_lit ?_
           refine zr (.string (sB s)) wc16 rfl ?_
           simp only [Act.put, zA]
           refine zr (.int .i64 (j : Int)) wc16 rfl ?_
           simp only [Act.put, zA]
           refine zr (.int .u8 ((b.toNat : Nat) : Int)) wc16 (xs_idx s j b HB.out Tryd.underlying9 rfl rfl rfl) ?_
           simp only [Act.put, zA]
           refine zr (.bool true) wc16 (xo_eqlT .u8 ((b.toNat : Nat) : Int) 46 (by omega) rfl rfl rfl) ?_
           simp only [Act.put, zA]
           refine zr (.bool true) wc16 rfl ?_
           simp only [Act.put, zA]
           refine zr (.int .i64 (j : Int)) wc16 rfl ?_
           simp only [Act.put, zA]
           refine zr (.int .i64 ((j + 1 : Nat) : Int)) wc16 (xo_addI (j : Int) 1 ((j + 1 : Nat) : Int) (by omega) (by omega) (by omega) rfl rfl rfl) ?_
           simp only [Act.put, zA]
           refine zr (.string (sB s)) wc16 rfl ?_
           simp only [Act.put, zA]
           refine zr (.int .i64 (n : Int)) wc16 (xs_lenN s n HN.out Tryd.underlying9 rfl rfl) ?_
           simp only [Act.put, zA]
           refine zr (.bool true) wc16 (xo_lssT .i64 ((j + 1 : Nat) : Int) (n : Int) (by omega) rfl rfl rfl) ?_
           simp only [Act.put, zA]
           refine zr (.bool true) wc16 rfl ?_
           simp only [Act.put, zA]
           refine zr (.bool true) wc16 rfl ?_
           simp only [Act.put, zA]
           refine zr (.string (sB s)) wc16 rfl ?_
           simp only [Act.put, zA]
           refine zr (.int .i64 (j : Int)) wc16 rfl ?_
           simp only [Act.put, zA]
           refine zr (.int .i64 ((j + 1 : Nat) : Int)) wc16 (xo_addI (j : Int) 1 ((j + 1 : Nat) : Int) (by omega) (by omega) (by omega) rfl rfl rfl) ?_
           simp only [Act.put, zA]
           refine zr (.int .u8 ((bd.toNat : Nat) : Int)) wc16 (xs_idx s (j + 1) bd HBD.out Tryd.underlying9 rfl rfl rfl) ?_
           simp only [Act.put, zA]
           refine zr (.bool false) wc16 (xo_eqlF .u8 ((bd.toNat : Nat) : Int) 46 (by omega) rfl rfl rfl) ?_
           simp only [Act.put, zA]
           refine zr (.bool false) wc16 rfl ?_
           simp only [Act.put, zA]
           refine wpList_nil ?_
           go_upto_region 18 with fail
           refine wp_region_lit ?_
           refine zr (.int .i64 (j : Int)) wc16 rfl ?_
           simp only [Act.put, zA]
           refine zr (.agg #[.int .i64 4, .string (sB ([])), .int .i64 (j : Int)]) wc16 (by unfold execOp; go_simp <;> rfl) ?_
           simp only [Act.put, zA]
           refine wpList_storeW w.heap.size #[.int .i64 0, .string ByteArray.empty, .int .i64 0] #[.int .i64 4, .string (sB ([])), .int .i64 (j : Int)] 85 (by kernel_rfl) Fv0_4.out (xo_storeW w.heap.size #[.int .i64 0, .string ByteArray.empty, .int .i64 0] #[.int .i64 4, .string (sB ([])), .int .i64 (j : Int)] Fv0_4.out (by kernel_rfl) rfl (by simp [Value.oneCell']) rfl rfl rfl) ?_
           intro X1_23 h1 hfar hbel hsz
           have hbr := hbel _ _ Gb0.out B0.out
           clear B0
           have B0 := zh hbr
           clear hbr
           clear Fv0_4
           have Fv0_4 : Hid (X1_23.heap[w.heap.size]? = some (.cells #[.int .i64 4, .string (sB ([])), .int .i64 (j : Int)] 85 (0, 0))) := zh (h1)
           have HszX1_23 := zh hsz
           clear h1 hfar hbel hsz
           simp only [ptr, Act.put, zA]
           refine wpList_nil ?_
           have HE : Hid (Qu.nxt s q = ⟨⟨1, []⟩, j, j⟩) := zh (Qu.nxt_bad HJ.out HB.out HL2.out HD2.out (by rw [bg2 HB.out HBD.out, decide_eq_false h462, Bool.and_false]) (by rw [bg1 HB.out, decide_eq_false h61]))
           have hbf := B0.out
           go_wp2_with fail
           refine bodyPost_ret (v := .agg #[.int .i64 4, .string (sB ([])), .int .i64 (j : Int)]) ?_ rfl ⟨by rw [HE.out]; rfl, hbf⟩
           exact results_cell_row rfl _ _ w.heap.size 85 _ (0, 0) _ rfl Fv0_4.out Tryd.underlying85 rfl (by kernel_rfl)
         ·have hci21 : ¬ (((j + 1 : Nat) : Int) < (n : Int)) := by omega
          go_upto_region 16 with fail
          refine wp_region_lit ?_
          refine zr (.string (sB s)) wc16 rfl ?_
          simp only [Act.put, zA]
          refine zr (.int .i64 (j : Int)) wc16 rfl ?_
          simp only [Act.put, zA]
          refine zr (.int .u8 ((b.toNat : Nat) : Int)) wc16 (xs_idx s j b HB.out Tryd.underlying9 rfl rfl rfl) ?_
          simp only [Act.put, zA]
          refine zr (.bool true) wc16 (xo_eqlT .u8 ((b.toNat : Nat) : Int) 46 (by omega) rfl rfl rfl) ?_
          simp only [Act.put, zA]
          refine zr (.bool true) wc16 rfl ?_
          simp only [Act.put, zA]
          refine zr (.int .i64 (j : Int)) wc16 rfl ?_
          simp only [Act.put, zA]
          refine zr (.int .i64 ((j + 1 : Nat) : Int)) wc16 (xo_addI (j : Int) 1 ((j + 1 : Nat) : Int) (by omega) (by omega) (by omega) rfl rfl rfl) ?_
          simp only [Act.put, zA]
          refine zr (.string (sB s)) wc16 rfl ?_
          simp only [Act.put, zA]
          refine zr (.int .i64 (n : Int)) wc16 (xs_lenN s n HN.out Tryd.underlying9 rfl rfl) ?_
          simp only [Act.put, zA]
          refine zr (.bool false) wc16 (xo_lssF .i64 ((j + 1 : Nat) : Int) (n : Int) (by omega) rfl rfl rfl) ?_
          simp only [Act.put, zA]
          refine zr (.bool false) wc16 rfl ?_
          simp only [Act.put, zA]
          refine zr (.bool false) wc16 rfl ?_
          simp only [Act.put, zA]
          refine zl ?_
          try simp only [Act.put, zA]
          refine zl ?_
          try simp only [Act.put, zA]
          refine zl ?_
          try simp only [Act.put, zA]
          refine zl ?_
          try simp only [Act.put, zA]
          refine zl ?_
          try simp only [Act.put, zA]
          refine zr (.bool false) wc16 rfl ?_
          simp only [Act.put, zA]
          refine wpList_nil ?_
          go_upto_region 18 with fail
          refine wp_region_lit ?_
          refine zr (.int .i64 (j : Int)) wc16 rfl ?_
          simp only [Act.put, zA]
          refine zr (.agg #[.int .i64 4, .string (sB ([])), .int .i64 (j : Int)]) wc16 (by unfold execOp; go_simp <;> rfl) ?_
          simp only [Act.put, zA]
          refine wpList_storeW w.heap.size #[.int .i64 0, .string ByteArray.empty, .int .i64 0] #[.int .i64 4, .string (sB ([])), .int .i64 (j : Int)] 85 (by kernel_rfl) Fv0_4.out (xo_storeW w.heap.size #[.int .i64 0, .string ByteArray.empty, .int .i64 0] #[.int .i64 4, .string (sB ([])), .int .i64 (j : Int)] Fv0_4.out (by kernel_rfl) rfl (by simp [Value.oneCell']) rfl rfl rfl) ?_
          intro X1_22 h1 hfar hbel hsz
          have hbr := hbel _ _ Gb0.out B0.out
          clear B0
          have B0 := zh hbr
          clear hbr
          clear Fv0_4
          have Fv0_4 : Hid (X1_22.heap[w.heap.size]? = some (.cells #[.int .i64 4, .string (sB ([])), .int .i64 (j : Int)] 85 (0, 0))) := zh (h1)
          have HszX1_22 := zh hsz
          clear h1 hfar hbel hsz
          simp only [ptr, Act.put, zA]
          refine wpList_nil ?_
          have HE : Hid (Qu.nxt s q = ⟨⟨1, []⟩, j, j⟩) := zh (Qu.nxt_bad HJ.out HB.out HL2.out HD2.out (bg2_end (by rw [HN.out]; omega) _ _) (by rw [bg1 HB.out, decide_eq_false h61]))
          have hbf := B0.out
          go_wp2_with fail
          refine bodyPost_ret (v := .agg #[.int .i64 4, .string (sB ([])), .int .i64 (j : Int)]) ?_ rfl ⟨by rw [HE.out]; rfl, hbf⟩
          exact results_cell_row rfl _ _ w.heap.size 85 _ (0, 0) _ rfl Fv0_4.out Tryd.underlying85 rfl (by kernel_rfl)
        ·have hbd : ¬ b.toNat = 46 := fun e => h46 (UInt8.toNat_inj.1 e)
         have hci20 : ¬ (((b.toNat : Nat) : Int) = 46) := by omega
         go_upto_region 16 with fail
         refine wp_region_lit ?_
         refine zr (.string (sB s)) wc16 rfl ?_
         simp only [Act.put, zA]
         refine zr (.int .i64 (j : Int)) wc16 rfl ?_
         simp only [Act.put, zA]
         refine zr (.int .u8 ((b.toNat : Nat) : Int)) wc16 (xs_idx s j b HB.out Tryd.underlying9 rfl rfl rfl) ?_
         simp only [Act.put, zA]
         refine zr (.bool false) wc16 (xo_eqlF .u8 ((b.toNat : Nat) : Int) 46 (by omega) rfl rfl rfl) ?_
         simp only [Act.put, zA]
         refine zr (.bool false) wc16 rfl ?_
         simp only [Act.put, zA]
         refine zl ?_
         try simp only [Act.put, zA]
         refine zl ?_
         try simp only [Act.put, zA]
         refine zl ?_
         try simp only [Act.put, zA]
         refine zl ?_
         try simp only [Act.put, zA]
         refine zl ?_
         try simp only [Act.put, zA]
         refine zr (.bool false) wc16 rfl ?_
         simp only [Act.put, zA]
         refine zr (.bool false) wc16 rfl ?_
         simp only [Act.put, zA]
         refine zl ?_
         try simp only [Act.put, zA]
         refine zl ?_
         try simp only [Act.put, zA]
         refine zl ?_
         try simp only [Act.put, zA]
         refine zl ?_
         try simp only [Act.put, zA]
         refine zl ?_
         try simp only [Act.put, zA]
         refine zr (.bool false) wc16 rfl ?_
         simp only [Act.put, zA]
         refine wpList_nil ?_
         go_upto_region 18 with fail
         refine wp_region_lit ?_
         refine zr (.int .i64 (j : Int)) wc16 rfl ?_
         simp only [Act.put, zA]
         refine zr (.agg #[.int .i64 4, .string (sB ([])), .int .i64 (j : Int)]) wc16 (by unfold execOp; go_simp <;> rfl) ?_
         simp only [Act.put, zA]
         refine wpList_storeW w.heap.size #[.int .i64 0, .string ByteArray.empty, .int .i64 0] #[.int .i64 4, .string (sB ([])), .int .i64 (j : Int)] 85 (by kernel_rfl) Fv0_4.out (xo_storeW w.heap.size #[.int .i64 0, .string ByteArray.empty, .int .i64 0] #[.int .i64 4, .string (sB ([])), .int .i64 (j : Int)] Fv0_4.out (by kernel_rfl) rfl (by simp [Value.oneCell']) rfl rfl rfl) ?_
         intro X1_21 h1 hfar hbel hsz
         have hbr := hbel _ _ Gb0.out B0.out
         clear B0
         have B0 := zh hbr
         clear hbr
         clear Fv0_4
         have Fv0_4 : Hid (X1_21.heap[w.heap.size]? = some (.cells #[.int .i64 4, .string (sB ([])), .int .i64 (j : Int)] 85 (0, 0))) := zh (h1)
         have HszX1_21 := zh hsz
         clear h1 hfar hbel hsz
         simp only [ptr, Act.put, zA]
         refine wpList_nil ?_
         have HE : Hid (Qu.nxt s q = ⟨⟨1, []⟩, j, j⟩) := zh (Qu.nxt_bad HJ.out HB.out HL2.out HD2.out (bg2_no HB.out h46) (by rw [bg1 HB.out, decide_eq_false h61]))
         have hbf := B0.out
         go_wp2_with fail
         refine bodyPost_ret (v := .agg #[.int .i64 4, .string (sB ([])), .int .i64 (j : Int)]) ?_ rfl ⟨by rw [HE.out]; rfl, hbf⟩
         exact results_cell_row rfl _ _ w.heap.size 85 _ (0, 0) _ rfl Fv0_4.out Tryd.underlying85 rfl (by kernel_rfl)
theorem nxt_off {s : List UInt8} (q : Nat) : q ≤ (Qu.nxt s q).off := by
 have h := Qu.runE_ge Qu.isSp s q
 unfold Qu.nxt
 split
 ·exact h
 ·split
  ·exact h
  ·split
   ·exact h
   ·split
    ·exact h
    ·split <;> exact h
theorem nxt_pos {st : Qu.St} {q : Nat} (h : Tkn st) (hq : q ≤ st.off) (hn : ¬ Ter st) : q < st.pos := by
 have hp := h.ps
 have hl : 0 < (Qu.txR st.tok).length := by
  unfold Qu.txR
  split
  ·exact Nat.succ_pos _
  ·split
   ·exact Nat.succ_pos _
   ·have h5 := h.c5
    have h1 : st.tok.cls ≠ 0 ∧ st.tok.cls ≠ 1 := ⟨fun e => hn (.inl e), fun e => hn (.inr e)⟩
    by_cases h2 : st.tok.cls = 2
    ·exact List.length_pos_iff.2 (h.w2 h2).1
    ·exact List.length_pos_iff.2 (h.w3 (by omega)).1
 omega
set_option maxRecDepth 100000 in
set_option maxHeartbeats 32000000 in
theorem tokens_as (s : List UInt8) (hs4 : s.length ≤ 1000) (w : World) :
  Calls Tryd.prog 44 #[.string (sB s)] w fun e w' => ∃ A n c ts, e = .returned (.slice A n c) ∧ TS w' A n c ts ∧ Chn s (Qu.nxt s 0) ts ∧ Below w.heap.size w w' := by
 obtain ⟨n, hn⟩ : ∃ n, s.length = n := ⟨_, rfl⟩
 have hn4 := hs4
 rw [hn] at hn4
 have HN := zh hn
 have HS4 := zh hs4
 clear hn hs4
 go_enter Tryd.func44, Tryd.ntmps44
 go_upto_region 0 with fail
 refine wp_region_lit ?_
 refine zr (.slice none 0 0) w rfl ?_
 simp only [Act.put, zA]
 refine wpList_nil ?_
 go_upto_region 1 with fail
 refine wp_region_lit ?_
 refine wpList_mk (by kernel_rfl) #[] 85 0 0 (xo_empty (size := 3) Tryd.underlying76 (by kernel_rfl) rfl w) ?_
 intro g6 V1 hge h0 hb
 have hge2 := Nat.le_trans (Below.refl w.heap.size w).size hge
 have B0 := zh hb
 have Ow6 : Hid (V1.ownsRow w.heap.size 85 3 (.slice (some ⟨g6, 0, none⟩) 0 0) 0 (fl tkR [])) := zh (own_new h0 hge2)
 clear hge hge2 h0 hb
 simp only [ptr, Act.put, zA]
 refine zr (.slice (some ⟨g6, 0, none⟩) 0 0) V1 rfl ?_
 simp only [Act.put, zA]
 refine zr (.int .i64 0) V1 rfl ?_
 simp only [Act.put, zA]
 refine wpList_nil ?_
 have ow0 := Ow6.out
 have bb0 := B0.out
 go_wp2_with fail
 go_loopw [4, 3] (fun p v wr => ∃ (q i : Nat) (A0 : Option Addr) (c0 : Nat) (ts : List Qu.RT), p = .int .i64 (q : Int) ∧ v = .slice A0 i c0 ∧ q ≤ n ∧ i ≤ q ∧ ts.length = i ∧ PreC s (Qu.nxt s 0) ts (Qu.nxt s q) ∧ wr.ownsRow w.heap.size 85 3 (.slice A0 i c0) i (fl tkR ts) ∧ Below w.heap.size w wr) (fun p _ _ => n - (intOf p).toNat)
 case atStart => exact ⟨0, 0, _, _, [], rfl, rfl, Nat.zero_le _, Nat.le_refl _, rfl, PreC.start, ow0, bb0⟩
 case round =>
  clear ow0 bb0 Ow6 B0
  obtain ⟨wo, rfl⟩ : ∃ wo : World, wo = wr := ⟨_, rfl⟩
  obtain ⟨q, i, A0, c0, ts, rfl, rfl, hq, hiq, htl, hpc, hov, hbb⟩ := hrel
  have B0 := zh hbb
  have HOW := zh hov
  have HPC := zh hpc
  have HTL := zh htl
  clear hbb hov hpc htl
  obtain ⟨st, hst⟩ : ∃ st, Qu.nxt s q = st := ⟨_, rfl⟩
  have HST := zh hst
  have hok : Qu.Ok s st := by rw [← hst]; exact Qu.nxt_ok (by rw [HN.out]; exact hq)
  have htk : Tkn st := by rw [← hst]; exact Tkn.nxt q
  have hoq : q ≤ st.off := by rw [← hst]; exact nxt_off q
  have hps := htk.ps
  have hpl := hok.1
  rw [HN.out] at hpl
  have hol := hok.2.1
  rw [HN.out] at hol
  have HTK := zh htk
  clear hst hok htk
  go_upto_region 2 with fail
  refine wp_region_lit ?_
  refine zr (.string (sB s)) wo rfl ?_
  simp only [Act.put, zA]
  refine zr (.int .i64 (q : Int)) wo rfl ?_
  simp only [Act.put, zA]
  refine wpList_call (by kernel_rfl) 62 Tryd.func62 (by kernel_rfl) (by kernel_rfl) _ _ #[.string (sB s), .int .i64 (q : Int)] rfl (by kernel_rfl) ?_
  refine (scan_as s HS4.out q (by rw [HN.out]; exact hq) wo).mono ?_
  rintro e V2 ⟨rfl, hb⟩
  have B1 := zh hb
  rw [HST.out]
  clear hb 
  refine ⟨_, rfl, ?_⟩
  simp only [Act.put, zA]
  refine wpList_new #[.int .i64 0, .string ByteArray.empty, .int .i64 0] 85 (by kernel_rfl) (xo_alloc #[.int .i64 0, .string ByteArray.empty, .int .i64 0] (by kernel_rfl) rfl) ?_
  intro b5 V3 hge h0 hb
  have Ge0 : Hid (V2.heap.size ≤ b5) := zh hge
  have B2 := zh hb
  have Fv1_5 : Hid (V3.heap[b5]? = some (.cells #[.int .i64 0, .string ByteArray.empty, .int .i64 0] 85 (0, 0))) := zh (h0)
  have Lt2 : Hid (b5 < V3.heap.size) := zh (xp_lt Fv1_5.out)
  clear hge h0 hb
  simp only [ptr, Act.put, zA]
  refine wpList_storeW b5 #[.int .i64 0, .string ByteArray.empty, .int .i64 0] #[.int .i64 ((Qu.tokR st).kind : Int), .string (sB ((Qu.tokR st).tx)), .int .i64 ((Qu.tokR st).off : Int)] 85 (by kernel_rfl) Fv1_5.out (xo_storeW b5 #[.int .i64 0, .string ByteArray.empty, .int .i64 0] #[.int .i64 ((Qu.tokR st).kind : Int), .string (sB ((Qu.tokR st).tx)), .int .i64 ((Qu.tokR st).off : Int)] Fv1_5.out (by kernel_rfl) rfl (by simp [Value.oneCell']) rfl rfl rfl) ?_
  intro X3_3 h1 hfar hbel hsz
  have hbr := hbel _ _ Ge0.out B2.out
  clear B2
  have B2 := zh hbr
  clear hbr
  clear Fv1_5
  have Fv1_5 : Hid (X3_3.heap[b5]? = some (.cells #[.int .i64 ((Qu.tokR st).kind : Int), .string (sB ((Qu.tokR st).tx)), .int .i64 ((Qu.tokR st).off : Int)] 85 (0, 0))) := zh (h1)
  have HszX3_3 := zh hsz
  clear h1 hfar hbel hsz
  simp only [ptr, Act.put, zA]
  refine wpList_nil ?_
  go_upto_region 3 with fail
  refine wp_region_lit ?_
  refine zr (.slice A0 i c0) X3_3 rfl ?_
  simp only [Act.put, zA]
  refine zr (.agg #[.int .i64 ((Qu.tokR st).kind : Int), .string (sB ((Qu.tokR st).tx)), .int .i64 ((Qu.tokR st).off : Int)]) X3_3 (xo_loadW b5 _ Fv1_5.out Tryd.underlying85 rfl (by kernel_rfl) rfl rfl) ?_
  simp only [Act.put, zA]
  refine wpList_mk (by kernel_rfl) ([(Qu.tokR st)].flatMap tkR).toArray 85 1 1 (xg_lit (E := tkR) (bytes := 32) (.agg #[.int .i64 0, .string ByteArray.empty, .int .i64 0]) [.tmp 11] [(Qu.tokR st)] 1 Tryd.underlying76 (by kernel_rfl) rfl (by decide) (by decide) rfl rfl) ?_
  intro g12 V4 hge h0 hb
  have N4_0 : Hid (b5 ≠ g12) := zh (xp_lt0 Fv1_5.out hge)
  have Ge5 : Hid (X3_3.heap.size ≤ g12) := zh hge
  have B3 := zh hb
  have Fv6_12 : Hid (RowG tkR V4 g12 85 ([(Qu.tokR st)])) := zh (h0)
  have Lt7 : Hid (g12 < V4.heap.size) := zh (xp_lt Fv6_12.out)
  clear hge h0 hb
  simp only [ptr, Act.put, zA]
  have C1_3 := zb B1 B2
  have C1_4 := zb C1_3 B3
  have C0_2 := zb B0 B1
  have C0_3 := zb C0_2 B2
  have C0_4 := zb C0_3 B3
  refine wpList_app2 (size := 3) (by kernel_rfl) (.tmp 10) (.tmp 12) 76 rfl (.agg #[.int .i64 0, .string ByteArray.empty, .int .i64 0]) 32 Tryd.underlying76 (by kernel_rfl) rfl (by decide) rfl (own_keep HOW.out C1_4.out) (some ⟨g12, 0, none⟩) 1 1 (fl tkR ([(Qu.tokR st)])) rfl (RowG.sg (n := 1) (c := 1) Fv6_12.out (show ([(Qu.tokR st)]).length = 1 from rfl) (Nat.le_refl _) (by omega)).src (by unfold maxLen; omega) (by omega) C0_4.out.size ?_
  intro v13 X4_8 ho hb1 hg hloc
  have hox : X4_8.ownsRow w.heap.size 85 3 v13 (i + 1) (fl tkR (ts ++ ([(Qu.tokR st)]))) := by rw [fl_append]; exact ho
  have YFv1_5 : X4_8.heap[b5]? = some (.cells #[.int .i64 ((Qu.tokR st).kind : Int), .string (sB ((Qu.tokR st).tx)), .int .i64 ((Qu.tokR st).off : Int)] 85 (0, 0)) := own_age HOW.out (Nat.le_trans B1.out.size Ge0.out) hg (heap_keep Fv1_5.out B3.out)
  have Gs10 : Hid (w.heap.size ≤ b5) := zh (Nat.le_trans C0_2.out.size Ge0.out)
  have YFv6_12 : RowG tkR X4_8 g12 85 ([(Qu.tokR st)]) := own_age HOW.out (Nat.le_trans C1_3.out.size Ge5.out) hg Fv6_12.out
  have Gs11 : Hid (w.heap.size ≤ g12) := zh (Nat.le_trans C0_3.out.size Ge5.out)
  have hbr := C0_4.out.trans hb1
  clear B0
  have B0 := zh hbr
  clear hbr
  have Ow13_9 := zh hox
  clear Fv1_5
  have Fv1_5 : Hid (X4_8.heap[b5]? = some (.cells #[.int .i64 ((Qu.tokR st).kind : Int), .string (sB ((Qu.tokR st).tx)), .int .i64 ((Qu.tokR st).off : Int)] 85 (0, 0))) := zh YFv1_5
  clear YFv1_5
  have Lt12 : Hid (b5 < X4_8.heap.size) := zh (xp_lt Fv1_5.out)
  clear Fv6_12
  have Fv6_12 : Hid (RowG tkR X4_8 g12 85 ([(Qu.tokR st)])) := zh YFv6_12
  clear YFv6_12
  have Lt13 : Hid (g12 < X4_8.heap.size) := zh (xp_lt Fv6_12.out)
  clear ho hox hb1 hg hloc
  simp only [ptr, Act.put, zA]
  refine zr (v13) X4_8 rfl ?_
  simp only [Act.put, zA]
  refine wpList_nil ?_
  by_cases hter : Ter st
  ·have hkd := ter_iff.1 hter
   by_cases hk0 : Qu.kdR st.tok = 0
   ·go_upto_region 4 with fail
    refine wp_region_lit ?_
    refine zr (.pointer (some ⟨b5, 0, none⟩)) X4_8 (xo_fld0 0 b5 0 (by kernel_rfl) rfl rfl) ?_
    simp only [Act.put, zA]
    refine zr (.int .i64 ((Qu.tokR st).kind : Int)) X4_8 (xo_load1 ⟨b5, 0, none⟩ _ (cells_at Fv1_5.out 0 rfl) Tryd.underlying3 rfl rfl rfl) ?_
    simp only [Act.put, zA]
    refine zr (.bool true) X4_8 (xo_eqlT .i64 (((Qu.tokR st).kind : Nat) : Int) 0 (show ((Qu.kdR st.tok : Nat) : Int) = 0 by omega) rfl rfl rfl) ?_
    simp only [Act.put, zA]
    refine zr (.bool true) X4_8 rfl ?_
    simp only [Act.put, zA]
    refine zl ?_
    try simp only [Act.put, zA]
    refine zl ?_
    try simp only [Act.put, zA]
    refine zl ?_
    try simp only [Act.put, zA]
    refine zr (.bool true) X4_8 rfl ?_
    simp only [Act.put, zA]
    refine wpList_nil ?_
    go_upto_region 5 with fail
    refine wp_region_lit ?_
    refine zr (v13) X4_8 rfl ?_
    simp only [Act.put, zA]
    refine zr (v13) X4_8 rfl ?_
    simp only [Act.put, zA]
    refine wpList_nil ?_
    obtain ⟨A14, c14, rfl⟩ := own_form Ow13_9.out
    have how := Ow13_9.out
    have hbf := B0.out
    have hch : Chn s (Qu.nxt s 0) (ts ++ [Qu.tokR st]) := by have h0 := HPC.out; rw [HST.out] at h0; exact h0.done hter
    have HCN := zh hch
    clear hch hkd
    go_wp2_with fail
    go_ret
    exact ⟨_, _, _, _, rfl, TS.own how, HCN.out, hbf⟩
   ·go_upto_region 4 with fail
    refine wp_region_lit ?_
    refine zr (.pointer (some ⟨b5, 0, none⟩)) X4_8 (xo_fld0 0 b5 0 (by kernel_rfl) rfl rfl) ?_
    simp only [Act.put, zA]
    refine zr (.int .i64 ((Qu.tokR st).kind : Int)) X4_8 (xo_load1 ⟨b5, 0, none⟩ _ (cells_at Fv1_5.out 0 rfl) Tryd.underlying3 rfl rfl rfl) ?_
    simp only [Act.put, zA]
    refine zr (.bool false) X4_8 (xo_eqlF .i64 (((Qu.tokR st).kind : Nat) : Int) 0 (show ¬ ((Qu.kdR st.tok : Nat) : Int) = 0 by omega) rfl rfl rfl) ?_
    simp only [Act.put, zA]
    refine zr (.bool false) X4_8 rfl ?_
    simp only [Act.put, zA]
    refine zr (.pointer (some ⟨b5, 0, none⟩)) X4_8 (xo_fld0 0 b5 0 (by kernel_rfl) rfl rfl) ?_
    simp only [Act.put, zA]
    refine zr (.int .i64 ((Qu.tokR st).kind : Int)) X4_8 (xo_load1 ⟨b5, 0, none⟩ _ (cells_at Fv1_5.out 0 rfl) Tryd.underlying3 rfl rfl rfl) ?_
    simp only [Act.put, zA]
    refine zr (.bool true) X4_8 (xo_eqlT .i64 (((Qu.tokR st).kind : Nat) : Int) 4 (show ((Qu.kdR st.tok : Nat) : Int) = 4 by omega) rfl rfl rfl) ?_
    simp only [Act.put, zA]
    refine zr (.bool true) X4_8 rfl ?_
    simp only [Act.put, zA]
    refine wpList_nil ?_
    go_upto_region 5 with fail
    refine wp_region_lit ?_
    refine zr (v13) X4_8 rfl ?_
    simp only [Act.put, zA]
    refine zr (v13) X4_8 rfl ?_
    simp only [Act.put, zA]
    refine wpList_nil ?_
    obtain ⟨A14, c14, rfl⟩ := own_form Ow13_9.out
    have how := Ow13_9.out
    have hbf := B0.out
    have hch : Chn s (Qu.nxt s 0) (ts ++ [Qu.tokR st]) := by have h0 := HPC.out; rw [HST.out] at h0; exact h0.done hter
    have HCN := zh hch
    clear hch hkd
    go_wp2_with fail
    go_ret
    exact ⟨_, _, _, _, rfl, TS.own how, HCN.out, hbf⟩
  ·have hkd : ¬ (Qu.kdR st.tok = 0 ∨ Qu.kdR st.tok = 4) := fun e => hter (ter_iff.2 e)
   have hpos : q < st.pos := nxt_pos HTK.out hoq hter
   go_upto_region 4 with fail
   refine wp_region_lit ?_
   refine zr (.pointer (some ⟨b5, 0, none⟩)) X4_8 (xo_fld0 0 b5 0 (by kernel_rfl) rfl rfl) ?_
   simp only [Act.put, zA]
   refine zr (.int .i64 ((Qu.tokR st).kind : Int)) X4_8 (xo_load1 ⟨b5, 0, none⟩ _ (cells_at Fv1_5.out 0 rfl) Tryd.underlying3 rfl rfl rfl) ?_
   simp only [Act.put, zA]
   refine zr (.bool false) X4_8 (xo_eqlF .i64 (((Qu.tokR st).kind : Nat) : Int) 0 (show ¬ ((Qu.kdR st.tok : Nat) : Int) = 0 by omega) rfl rfl rfl) ?_
   simp only [Act.put, zA]
   refine zr (.bool false) X4_8 rfl ?_
   simp only [Act.put, zA]
   refine zr (.pointer (some ⟨b5, 0, none⟩)) X4_8 (xo_fld0 0 b5 0 (by kernel_rfl) rfl rfl) ?_
   simp only [Act.put, zA]
   refine zr (.int .i64 ((Qu.tokR st).kind : Int)) X4_8 (xo_load1 ⟨b5, 0, none⟩ _ (cells_at Fv1_5.out 0 rfl) Tryd.underlying3 rfl rfl rfl) ?_
   simp only [Act.put, zA]
   refine zr (.bool false) X4_8 (xo_eqlF .i64 (((Qu.tokR st).kind : Nat) : Int) 4 (show ¬ ((Qu.kdR st.tok : Nat) : Int) = 4 by omega) rfl rfl rfl) ?_
   simp only [Act.put, zA]
   refine zr (.bool false) X4_8 rfl ?_
   simp only [Act.put, zA]
   refine wpList_nil ?_
   go_upto_region 6 with fail
   refine wp_region_lit ?_
   refine zr (.pointer (some ⟨b5, 2, none⟩)) X4_8 (xo_fld0 2 b5 2 (by kernel_rfl) rfl rfl) ?_
   simp only [Act.put, zA]
   refine zr (.int .i64 ((Qu.tokR st).off : Int)) X4_8 (xo_load1 ⟨b5, 2, none⟩ _ (cells_at Fv1_5.out 2 rfl) Tryd.underlying3 rfl rfl rfl) ?_
   simp only [Act.put, zA]
   refine zr (.pointer (some ⟨b5, 1, none⟩)) X4_8 (xo_fld0 1 b5 1 (by kernel_rfl) rfl rfl) ?_
   simp only [Act.put, zA]
   refine zr (.string (sB ((Qu.tokR st).tx))) X4_8 (xo_load1 ⟨b5, 1, none⟩ _ (cells_at Fv1_5.out 1 rfl) Tryd.underlying9 rfl rfl rfl) ?_
   simp only [Act.put, zA]
   refine zr (.int .i64 (((Qu.txR st.tok).length : Nat) : Int)) X4_8 (xs_len (Qu.tokR st).tx Tryd.underlying9 rfl rfl) ?_
   simp only [Act.put, zA]
   refine zr (.int .i64 ((st.pos : Nat) : Int)) X4_8 (xo_addI ((Qu.tokR st).off : Int) (((Qu.txR st.tok).length : Nat) : Int) (st.pos : Int) (show (st.off : Int) + (((Qu.txR st.tok).length : Nat) : Int) = (st.pos : Int) by omega) (by omega) (by omega) rfl rfl rfl) ?_
   simp only [Act.put, zA]
   refine zr (.int .i64 ((st.pos : Nat) : Int)) X4_8 rfl ?_
   simp only [Act.put, zA]
   refine wpList_nil ?_
   obtain ⟨A14, c14, rfl⟩ := own_form Ow13_9.out
   have ow0 := Ow13_9.out
   have bb0 := B0.out
   have pc0 : PreC s (Qu.nxt s 0) (ts ++ [Qu.tokR st]) (Qu.nxt s st.pos) := by have h0 := HPC.out; rw [HST.out] at h0; exact h0.step hter
   have htl := HTL.out
   clear hkd
   go_wp2_with fail
   go_roundw
   case rel => exact ⟨st.pos, i + 1, _, _, ts ++ [Qu.tokR st], rfl, rfl, by omega, by omega, (by rw [List.length_append, htl]; rfl), pc0, ow0, bb0⟩
   case measure => simp [intOf]; omega
end Go.Proofs.YtlicfidcfhbmpaaDoor

