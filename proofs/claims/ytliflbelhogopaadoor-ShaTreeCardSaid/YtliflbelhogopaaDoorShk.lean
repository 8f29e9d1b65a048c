/- Contracts of package sha256: Sum, Leaf. -/
import Derived.Test.YtliflbelhogopaaDoorShi
namespace Go.Proofs.YtliflbelhogopaaDoor
set_option maxRecDepth 8000
open Go.RowKit
theorem Pb.one {w : World} {g : Nat} {t : Nat} {A : Option Addr} {n c : Nat} {bs : List Nat} (hg : w.heap[g]? = some (.cells #[.slice A n c] t (0, 0))) (h : Sb w A n c bs) : Pb w (some ⟨g, 0, none⟩) 1 1 [bs] :=
  Pb.row (vs := [.slice A n c]) hg rfl (Nat.le_refl _) (by omega) fun i p hp => by
    match i, hp with
    | 0, hp => injection hp with hp; subst hp; exact ⟨_, _, _, rfl, h⟩
    | i + 1, hp => simp at hp
theorem Pb.two {w : World} {g : Nat} {t : Nat} {A : Option Addr} {n c : Nat} {B : Option Addr} {m d : Nat} {xs bs : List Nat} (hg : w.heap[g]? = some (.cells #[.slice A n c, .slice B m d] t (0, 0))) (ha : Sb w A n c xs) (hb : Sb w B m d bs) : Pb w (some ⟨g, 0, none⟩) 2 2 [xs, bs] :=
  Pb.row (vs := [.slice A n c, .slice B m d]) hg rfl (Nat.le_refl _) (by omega) fun i p hp => by
    match i, hp with
    | 0, hp => injection hp with hp; subst hp; exact ⟨_, _, _, rfl, ha⟩
    | 1, hp => injection hp with hp; subst hp; exact ⟨_, _, _, rfl, hb⟩
    | i + 2, hp => simp at hp
theorem Pb.three {w : World} {g : Nat} {t : Nat} {A : Option Addr} {n c : Nat} {B : Option Addr} {m d : Nat} {C : Option Addr} {k f : Nat} {xs bs cs : List Nat} (hg : w.heap[g]? = some (.cells #[.slice A n c, .slice B m d, .slice C k f] t (0, 0))) (ha : Sb w A n c xs) (hb : Sb w B m d bs) (hc : Sb w C k f cs) : Pb w (some ⟨g, 0, none⟩) 3 3 [xs, bs, cs] :=
  Pb.row (vs := [.slice A n c, .slice B m d, .slice C k f]) hg rfl (Nat.le_refl _) (by omega) fun i p hp => by
    match i, hp with
    | 0, hp => injection hp with hp; subst hp; exact ⟨_, _, _, rfl, ha⟩
    | 1, hp => injection hp with hp; subst hp; exact ⟨_, _, _, rfl, hb⟩
    | 2, hp => injection hp with hp; subst hp; exact ⟨_, _, _, rfl, hc⟩
    | i + 3, hp => simp at hp
theorem lt_append {xs bs : List Nat} (ha : ∀ x ∈ xs, x < 256) (hb : ∀ x ∈ bs, x < 256) : ∀ x ∈ xs ++ bs, x < 256 := fun x hx => (List.mem_append.1 hx).elim (ha x) (hb x)
/-- hash of one, of two, of three portions -/
theorem hash1 (g : Nat) (A : Option Addr) (n c : Nat) (bs : List Nat) (w : World) {t : Nat} (hg : w.heap[g]? = some (.cells #[.slice A n c] t (0, 0))) (h : Sb w A n c bs) (hn : n ≤ 60000) (hG : Gl w) (R : List Nat) (hR : shaN bs = R) :
    Calls Tryd.prog 31 #[.slice (some ⟨g, 0, none⟩) 1 1] w fun e w' => e = .returned (.agg (celB R).toArray) ∧ Below w.heap.size w w' := by
  have hf : [bs].flatten = bs := by simp
  have := hash_any (some ⟨g, 0, none⟩) 1 1 [bs] w (Pb.one hg h) (by omega) (by omega) (by unfold sumL; rw [hf]; have := h.len; omega) hG (by rw [hf]; exact h.byte)
  rw [hf, hR] at this
  exact this
theorem hash2 (g : Nat) (A : Option Addr) (n c : Nat) (B : Option Addr) (m d : Nat) (xs bs : List Nat) (w : World) {t : Nat} (hg : w.heap[g]? = some (.cells #[.slice A n c, .slice B m d] t (0, 0))) (ha : Sb w A n c xs) (hb : Sb w B m d bs) (hn : n + m ≤ 60000) (hG : Gl w) (R : List Nat) (hR : shaN (xs ++ bs) = R) :
    Calls Tryd.prog 31 #[.slice (some ⟨g, 0, none⟩) 2 2] w fun e w' => e = .returned (.agg (celB R).toArray) ∧ Below w.heap.size w w' := by
  have hf : [xs, bs].flatten = xs ++ bs := by simp
  have := hash_any (some ⟨g, 0, none⟩) 2 2 [xs, bs] w (Pb.two hg ha hb) (by omega) (by omega) (by unfold sumL; rw [hf, List.length_append]; have := ha.len; have := hb.len; omega) hG (by rw [hf]; exact lt_append ha.byte hb.byte)
  rw [hf, hR] at this
  exact this
theorem hash3 (g : Nat) (A : Option Addr) (n c : Nat) (B : Option Addr) (m d : Nat) (C : Option Addr) (k f : Nat) (xs bs cs : List Nat) (w : World) {t : Nat} (hg : w.heap[g]? = some (.cells #[.slice A n c, .slice B m d, .slice C k f] t (0, 0))) (ha : Sb w A n c xs) (hb : Sb w B m d bs) (hc : Sb w C k f cs) (hn : n + m + k ≤ 60000) (hG : Gl w) (R : List Nat) (hR : shaN (xs ++ (bs ++ cs)) = R) :
    Calls Tryd.prog 31 #[.slice (some ⟨g, 0, none⟩) 3 3] w fun e w' => e = .returned (.agg (celB R).toArray) ∧ Below w.heap.size w w' := by
  have hf : [xs, bs, cs].flatten = xs ++ (bs ++ cs) := by simp
  have := hash_any (some ⟨g, 0, none⟩) 3 3 [xs, bs, cs] w (Pb.three hg ha hb hc) (by omega) (by omega) (by unfold sumL; rw [hf, List.length_append, List.length_append]; have := ha.len; have := hb.len; have := hc.len; omega) hG (by rw [hf]; exact lt_append ha.byte (lt_append hb.byte hc.byte))
  rw [hf, hR] at this
  exact this
attribute [local simp] z32_ne z32_run
attribute [-simp] Tryd.zeroValue26 Tryd.isAgg26 Tryd.sizeOf26
set_option maxHeartbeats 1000000 in
theorem sum_any (A : Option Addr) (n c : Nat) (bs : List Nat) (w : World) (h : Sb w A n c bs) (hn : n ≤ 60000) (hG : Gl w) (R : List Nat) (hR : shaN bs = R) :
    Calls Tryd.prog 13 #[.slice A n c] w fun e w' => e = .returned (.agg (celB R).toArray) ∧ Below w.heap.size w w' := by
  have hl : R.length = 32 := by rw [← hR]; exact shaN_length _
  have HR := Lib.hid hR
  clear hR
  go_enter Tryd.func13, Tryd.ntmps13
  go_wp2_with fail
  refine calls_named2 (fun w1 hb1 g0 g1 hlt1 => ?_)
  have H0 : Hid (RowB w1 26 w.heap.size (List.replicate 32 0)) := Lib.hid g0
  have HB1 := Lib.hid hb1
  refine (hash1 (w.heap.size + 1) A n c bs w1 g1 (h.keep hb1) hn (hG.keep hb1) R HR.out).mono ?_
  rintro e w2 ⟨rfl, hb2⟩
  have H2 := Lib.hid (H0.out.keep hb2)
  have HB2 := Lib.hid (bel_step HB1.out hb2)
  clear g0 g1 hb1 hb2 hlt1 H0 HB1 h hG
  have hsc := run_storeB (P := Tryd.prog) (ws := R) H2.out (by rw [hl, List.length_replicate])
  have hsz : (celB R).length = 32 := by rw [celB_length, hl]
  go_wp2_with fail
  simp only [Tryd.sizeOf26, Result.andThen, ↓reduceIte, hsc]
  rw [Oper.upon_skip]
  go_wp2_with fail
  refine bodyPost_ret (v := .agg (celB R).toArray) ?_ rfl ⟨rfl, bel_setRow HB2.out (Nat.le_refl _) _⟩
  exact results_cell_row rfl _ _ w.heap.size 26 _ (0, 0) _ rfl (H2.out.row R) Tryd.underlying26 rfl (dig_size hl)
set_option maxHeartbeats 1000000 in
theorem leaf_any (A : Option Addr) (n c : Nat) (bs : List Nat) (w : World) (h : Sb w A n c bs) (hn : n ≤ 59999) (hG : Gl w) (R : List Nat) (hR : shaN (0 :: bs) = R) :
    Calls Tryd.prog 15 #[.slice A n c] w fun e w' => e = .returned (.agg (celB R).toArray) ∧ Below w.heap.size w w' := by
  have hl : R.length = 32 := by rw [← hR]; exact shaN_length _
  have HR := Lib.hid hR
  clear hR
  go_enter Tryd.func15, Tryd.ntmps15
  go_wp2_with fail
  refine calls_named3 (fun w1 hb1 g0 g1 g2 hlt1 => ?_)
  have H0 : Hid (RowB w1 26 w.heap.size (List.replicate 32 0)) := Lib.hid g0
  have hz : RowB w1 5 (w.heap.size + 1) [0] := g1
  have HB1 := Lib.hid hb1
  refine (hash2 (w.heap.size + 1 + 1) _ 1 1 A n c [0] bs w1 g2 (hz.all (by decide) rfl (Nat.le_refl _) (by omega)) (h.keep hb1) (by omega) (hG.keep hb1) R HR.out).mono ?_
  rintro e w2 ⟨rfl, hb2⟩
  have H2 := Lib.hid (H0.out.keep hb2)
  have HB2 := Lib.hid (bel_step HB1.out hb2)
  clear g0 g1 g2 hb1 hb2 hlt1 H0 HB1 h hG hz
  have hsc := run_storeB (P := Tryd.prog) (ws := R) H2.out (by rw [hl, List.length_replicate])
  have hsz : (celB R).length = 32 := by rw [celB_length, hl]
  go_wp2_with fail
  simp only [Tryd.sizeOf26, Result.andThen, ↓reduceIte, hsc]
  rw [Oper.upon_skip]
  go_wp2_with fail
  refine bodyPost_ret (v := .agg (celB R).toArray) ?_ rfl ⟨rfl, bel_setRow HB2.out (Nat.le_refl _) _⟩
  exact results_cell_row rfl _ _ w.heap.size 26 _ (0, 0) _ rfl (H2.out.row R) Tryd.underlying26 rfl (dig_size hl)
end Go.Proofs.YtliflbelhogopaaDoor
