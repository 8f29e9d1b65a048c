/- Multilinear extensions of tables over the extension field: folding, weights, the equality polynomial; no program, no conditions. -/
import Derived.Test.YtombcjdhjcmhhaaPolI
namespace Gold
set_option maxRecDepth 8000
open E2
attribute [local simp] add_A add_B sub_A sub_B neg_A neg_B mul_A mul_B zero_A zero_B one_A one_B

/-- x + r (y - x) -/
def btw (r x y : E2) : E2 := x + r * (y - x)
/-- x y + (1 - x) (1 - y) -/
def agr (x y : E2) : E2 := x * y + (one - x) * (one - y)

namespace E2
theorem m1 (r x : E2) : x + r * (x - x) = x := ext' (by simp; grind) (by simp; grind)
theorem m2 (x y : E2) : x + zero * (y - x) = x := ext' (by simp; try grind) (by simp; try grind)
theorem m3 (x y : E2) : x + one * (y - x) = y := ext' (by simp; try grind) (by simp; try grind)
theorem m4 (r x y k u v : E2) : (x + k * u) + r * ((y + k * v) - (x + k * u)) = (x + r * (y - x)) + k * (u + r * (v - u)) := ext' (by simp; grind) (by simp; grind)
theorem m5 (x y : E2) : x * y + (one - x) * (one - y) = y * x + (one - y) * (one - x) := ext' (by simp; grind) (by simp; grind)
theorem m6 (y : E2) : zero * y + (one - zero) * (one - y) = one - y := ext' (by simp; try grind) (by simp; try grind)
theorem m7 (y : E2) : one * y + (one - one) * (one - y) = y := ext' (by simp; try grind) (by simp; try grind)
theorem m8 (b a e : E2) : (one - a) * e + b * (a * e - (one - a) * e) = (a * b + (one - a) * (one - b)) * e := ext' (by simp; grind) (by simp; grind)
theorem m9 (r x y s u v : E2) : (x + r * (y - x)) + s * ((u + r * (v - u)) - (x + r * (y - x))) = (x + s * (u - x)) + r * ((y + s * (v - y)) - (x + s * (u - x))) := ext' (by simp; grind) (by simp; grind)
theorem m10 (r e : E2) : e - e * r = e * (one - r) := ext' (by simp; grind) (by simp; grind)
theorem m11 (a b c d : E2) : a + b + (c + d) = a + c + (b + d) := ext' (by simp; grind) (by simp; grind)
theorem m12 (x y r : E2) : x + r * (y - x) = x * (one - r) + y * r := ext' (by simp; grind) (by simp; grind)
theorem m13 (a b c : E2) : a * b + a * c = a * (b + c) := ext' (by simp; grind) (by simp; grind)
theorem m14 (a b c d : E2) : (a + b) + c * d = (a + c * d) + b := ext' (by simp; grind) (by simp; grind)
theorem m15 (d r : E2) : zero + r * (d - zero) = r * d := ext' (by simp; try grind) (by simp; try grind)
theorem m16 (d r : E2) : d + r * (zero - d) = (one - r) * d := ext' (by simp; try grind) (by simp; try grind)
theorem m17 (a b c d : E2) : a * b + a * (c * d) = a * (b + c * d) := ext' (by simp; grind) (by simp; grind)
theorem m18 (e x r : E2) : x * e + r * (zero * e - x * e) = (one - r) * (x * e) := ext' (by simp; try grind) (by simp; try grind)
theorem m19 (r x : E2) : zero + r * (zero - x) = -(r * x) := ext' (by simp; try grind) (by simp; try grind)
theorem sub_zero' (x : E2) : x - zero = x := ext' (by simp; try grind) (by simp; try grind)
theorem add_right_comm' (a b c : E2) : a + b + c = a + c + b := ext' (by simp; grind) (by simp; grind)
end E2

/-- the first n, added up -/
def sumE : Nat → (Nat → E2) → E2
  | 0, _ => zero
  | n + 1, f => sumE n f + f n
theorem sumE_congr {n : Nat} {f g : Nat → E2} (h : ∀ i, i < n → f i = g i) : sumE n f = sumE n g := by
  induction n with
  | zero => rfl
  | succ n ih => rw [sumE, sumE, ih fun i hi => h i (by omega), h n (by omega)]
theorem sumE_add (n : Nat) (f g : Nat → E2) : (sumE n fun i => f i + g i) = sumE n f + sumE n g := by
  induction n with
  | zero => exact (E2.add_zero _).symm
  | succ n ih => rw [sumE, sumE, sumE, ih, m11]
theorem sumE_mul (n : Nat) (c : E2) (f : Nat → E2) : (sumE n fun i => c * f i) = c * sumE n f := by
  induction n with
  | zero => exact (E2.mul_zero _).symm
  | succ n ih => rw [sumE, sumE, ih, m13]
theorem sumE_pairs (n : Nat) (f : Nat → E2) : sumE (2 * n) f = sumE n fun i => f (2 * i) + f (2 * i + 1) := by
  induction n with
  | zero => rfl
  | succ n ih => rw [show 2 * (n + 1) = 2 * n + 1 + 1 by omega, sumE, sumE, sumE, ih, E2.add_assoc]
theorem sumE_shift (n : Nat) (f : Nat → E2) : sumE (n + 1) f = f 0 + sumE n fun i => f (i + 1) := by
  induction n with
  | zero => rw [sumE, sumE, sumE, E2.zero_add, E2.add_zero]
  | succ n ih => rw [sumE, ih, sumE, E2.add_assoc]
theorem sumE_rev (n : Nat) (f : Nat → E2) : (sumE n fun i => f (n - 1 - i)) = sumE n f := by
  induction n with
  | zero => rfl
  | succ n ih =>
    rw [sumE_shift, show n + 1 - 1 - 0 = n by omega, E2.add_comm, sumE, ← ih]
    exact congrArg (· + f n) (sumE_congr fun i hi => by congr 1; omega)

/-- the table with its first variable fixed -/
def bndF (f : Nat → E2) (r : E2) (i : Nat) : E2 := btw r (f (2 * i)) (f (2 * i + 1))
/-- the value of the extension -/
def mleF (f : Nat → E2) : List E2 → E2
  | [] => f 0
  | r :: p => mleF (bndF f r) p
/-- a bit as an element -/
def bitE (i : Nat) : E2 := nd (i % 2)
/-- the weight of an index -/
def eqW (i : Nat) : List E2 → E2
  | [] => one
  | r :: p => agr (bitE i) r * eqW (i / 2) p
theorem bitE_even (i : Nat) : bitE (2 * i) = zero := by unfold bitE; rw [show 2 * i % 2 = 0 by omega]; rfl
theorem bitE_odd (i : Nat) : bitE (2 * i + 1) = one := by unfold bitE; rw [show (2 * i + 1) % 2 = 1 by omega]; rfl
theorem agr_zero (y : E2) : agr zero y = one - y := m6 y
theorem agr_one (y : E2) : agr one y = y := m7 y
theorem agr_comm (x y : E2) : agr x y = agr y x := m5 x y
theorem mleF_congr {f g : Nat → E2} : ∀ {p : List E2}, (∀ i, i < 2 ^ p.length → f i = g i) → mleF f p = mleF g p
  | [], h => h 0 (by simp)
  | r :: p, h => mleF_congr (p := p) fun i hi => by
    have e : 2 ^ (r :: p).length = 2 * 2 ^ p.length := by rw [List.length_cons, Nat.pow_succ]; omega
    unfold bndF
    rw [h (2 * i) (by omega), h (2 * i + 1) (by omega)]
theorem bndF_lin (f g : Nat → E2) (k r : E2) (i : Nat) : bndF (fun i => f i + k * g i) r i = bndF f r i + k * bndF g r i := m4 _ _ _ _ _ _
theorem mleF_lin (k : E2) : ∀ (p : List E2) (f g : Nat → E2), (mleF (fun i => f i + k * g i) p) = mleF f p + k * mleF g p
  | [], _, _ => rfl
  | r :: p, f, g => by
    show mleF (bndF (fun i => f i + k * g i) r) p = _
    rw [mleF_congr (g := fun i => bndF f r i + k * bndF g r i) fun i _ => bndF_lin f g k r i]
    exact mleF_lin k p _ _
theorem mleF_zero : ∀ (p : List E2), mleF (fun _ => zero) p = zero
  | [] => rfl
  | r :: p => by
    show mleF (bndF (fun _ => zero) r) p = _
    rw [mleF_congr (f := bndF (fun _ => zero) r) (g := fun _ => zero) fun i _ => m1 r zero]
    exact mleF_zero p
theorem mleF_const (c : E2) : ∀ (p : List E2), mleF (fun _ => c) p = c
  | [] => rfl
  | r :: p => by
    show mleF (bndF (fun _ => c) r) p = _
    rw [mleF_congr (f := bndF (fun _ => c) r) (g := fun _ => c) fun i _ => m1 r c]
    exact mleF_const c p
theorem mleF_mul (k : E2) (p : List E2) (g : Nat → E2) : mleF (fun i => k * g i) p = k * mleF g p := by
  have h := mleF_lin k p (fun _ => zero) g
  rw [mleF_zero, E2.zero_add] at h
  rw [← h]
  exact mleF_congr fun i _ => (E2.zero_add _).symm
theorem btw_lin (r x y : E2) : btw r x y = (x + r * y) + (-r) * x := by
  unfold btw
  exact ext' (by simp; grind) (by simp; grind)
theorem mleF_btw (r : E2) (p : List E2) (f g : Nat → E2) : (mleF (fun i => btw r (f i) (g i)) p) = btw r (mleF f p) (mleF g p) := by
  rw [mleF_congr (g := fun i => (f i + r * g i) + (-r) * f i) fun i _ => btw_lin r _ _, mleF_lin, mleF_lin, ← btw_lin]
/-- the value at a point, by the weights -/
theorem mleF_sum : ∀ (p : List E2) (f : Nat → E2), mleF f p = sumE (2 ^ p.length) fun i => f i * eqW i p
  | [], f => by
    show f 0 = zero + f 0 * one
    rw [E2.mul_one, E2.zero_add]
  | r :: p, f => by
    show mleF (bndF f r) p = _
    rw [mleF_sum p, show 2 ^ (r :: p).length = 2 * 2 ^ p.length by rw [List.length_cons, Nat.pow_succ]; omega, sumE_pairs]
    refine sumE_congr fun i _ => ?_
    show bndF f r i * eqW i p = f (2 * i) * (agr (bitE (2 * i)) r * eqW (2 * i / 2) p) + f (2 * i + 1) * (agr (bitE (2 * i + 1)) r * eqW ((2 * i + 1) / 2) p)
    rw [bitE_even, bitE_odd, agr_zero, agr_one, show 2 * i / 2 = i by omega, show (2 * i + 1) / 2 = i by omega]
    show (f (2 * i) + r * (f (2 * i + 1) - f (2 * i))) * _ = _
    rw [m12, ← E2.mul_assoc, ← E2.mul_assoc, ← E2.add_mul]
theorem eqW_total (p : List E2) : (sumE (2 ^ p.length) fun i => eqW i p) = one := by
  have h := mleF_sum p fun _ => one
  rw [mleF_const] at h
  rw [h]
  exact sumE_congr fun i _ => (E2.one_mul _).symm
theorem mleF_sum' (p : List E2) (f : Nat → E2) : (sumE (2 ^ p.length) fun i => eqW i p * f i) = mleF f p := by
  rw [mleF_sum]
  exact sumE_congr fun i _ => E2.mul_comm _ _
/-- the vertex of an index -/
def vtx (i n : Nat) : List E2 := tabE n fun k => bitE (i / 2 ^ k)
theorem vtx_length (i n : Nat) : (vtx i n).length = n := tabE_length _ _
theorem tabE_cons (n : Nat) (f : Nat → E2) : tabE (n + 1) f = f 0 :: tabE n fun k => f (k + 1) := by
  unfold tabE
  rw [List.range_succ_eq_map, List.map_cons, List.map_map]
  rfl
theorem vtx_succ (i n : Nat) : vtx i (n + 1) = bitE i :: vtx (i / 2) n := by
  unfold vtx
  rw [tabE_cons, Nat.pow_zero, Nat.div_one]
  congr 1
  refine tabE_congr fun k _ => ?_
  rw [Nat.pow_succ, Nat.mul_comm, Nat.div_div_eq_div_mul]
theorem mleF_vtx : ∀ (n i : Nat) (f : Nat → E2), i < 2 ^ n → mleF f (vtx i n) = f i
  | 0, i, f, h => by
    obtain rfl : i = 0 := by simpa using h
    rfl
  | n + 1, i, f, h => by
    rw [vtx_succ]
    show mleF (bndF f (bitE i)) (vtx (i / 2) n) = f i
    rw [mleF_vtx n (i / 2) _ (by rw [Nat.pow_succ] at h; omega)]
    unfold bndF btw
    rcases Nat.mod_two_eq_zero_or_one i with e | e
    · rw [show 2 * (i / 2) = i by omega, show bitE i = zero by unfold bitE; rw [e]; rfl, m2]
    · rw [show 2 * (i / 2) + 1 = i by omega, show bitE i = one by unfold bitE; rw [e]; rfl, m3]
/-- the equality polynomial, in the order of the loop -/
def eqE (p q : List E2) : E2 := (List.zipWith agr p q).foldl (· * ·) one
theorem foldl_mul (l : List E2) : ∀ c : E2, l.foldl (· * ·) c = c * l.foldl (· * ·) one := by
  induction l with
  | nil => intro c; exact (E2.mul_one c).symm
  | cons a l ih =>
    intro c
    rw [List.foldl_cons, List.foldl_cons, ih (c * a), ih (one * a), E2.one_mul, E2.mul_assoc]
theorem eqE_cons (a b : E2) (p q : List E2) : eqE (a :: p) (b :: q) = agr a b * eqE p q := by
  unfold eqE
  rw [List.zipWith_cons_cons, List.foldl_cons, E2.one_mul, foldl_mul]
theorem eqE_comm : ∀ (p q : List E2), eqE p q = eqE q p
  | [], [] => rfl
  | [], _ :: _ => rfl
  | _ :: _, [] => rfl
  | a :: p, b :: q => by rw [eqE_cons, eqE_cons, eqE_comm p q, agr_comm]
theorem eqE_vtx : ∀ (p : List E2) (i : Nat), eqE (vtx i p.length) p = eqW i p
  | [], _ => rfl
  | r :: p, i => by rw [List.length_cons, vtx_succ, eqE_cons, eqE_vtx p]; rfl
theorem eqE_vtx' (p : List E2) (i n : Nat) (h : p.length = n) : eqE (vtx i n) p = eqW i p := by subst h; exact eqE_vtx p i
theorem bnd_eqW (a b : E2) (p : List E2) (i : Nat) : bndF (fun i => eqW i (a :: p)) b i = agr a b * eqW i p := by
  unfold bndF btw
  show agr (bitE (2 * i)) a * eqW (2 * i / 2) p + b * (agr (bitE (2 * i + 1)) a * eqW ((2 * i + 1) / 2) p - agr (bitE (2 * i)) a * eqW (2 * i / 2) p) = _
  rw [bitE_even, bitE_odd, agr_zero, agr_one, show 2 * i / 2 = i by omega, show (2 * i + 1) / 2 = i by omega, m8]
  rfl
/-- the extension of the weights is the equality polynomial -/
theorem mleF_eqW : ∀ (p q : List E2), p.length = q.length → mleF (fun i => eqW i p) q = eqE p q
  | [], [], _ => rfl
  | [], _ :: _, h => by cases h
  | _ :: _, [], h => by cases h
  | a :: p, b :: q, h => by
    show mleF (bndF (fun i => eqW i (a :: p)) b) q = _
    rw [mleF_congr (g := fun i => agr a b * eqW i p) fun i _ => bnd_eqW a b p i, mleF_mul, mleF_eqW p q (by simpa using h), eqE_cons]
theorem eqE_vertices (n a b : Nat) (ha : a < 2 ^ n) (hb : b < 2 ^ n) : eqE (vtx a n) (vtx b n) = if a = b then one else zero := by
  rw [← mleF_eqW _ _ (by rw [vtx_length, vtx_length]), mleF_vtx n b _ hb]
  induction n generalizing a b with
  | zero =>
    obtain rfl : a = 0 := by simpa using ha
    obtain rfl : b = 0 := by simpa using hb
    rfl
  | succ n ih =>
    rw [Nat.pow_succ] at ha hb
    rw [vtx_succ]
    show agr (bitE b) (bitE a) * eqW (b / 2) (vtx (a / 2) n) = _
    rw [ih (a / 2) (b / 2) (by omega) (by omega)]
    rcases Nat.mod_two_eq_zero_or_one a with e | e <;> rcases Nat.mod_two_eq_zero_or_one b with f | f
    · rw [show bitE a = zero by unfold bitE; rw [e]; rfl, show bitE b = zero by unfold bitE; rw [f]; rfl, agr_zero, E2.sub_zero', E2.one_mul]
      by_cases h : a = b
      · rw [if_pos h, if_pos (by omega)]
      · rw [if_neg h, if_neg (by omega)]
    · rw [show bitE a = zero by unfold bitE; rw [e]; rfl, show bitE b = one by unfold bitE; rw [f]; rfl, agr_one, E2.zero_mul, if_neg (by omega)]
    · rw [show bitE a = one by unfold bitE; rw [e]; rfl, show bitE b = zero by unfold bitE; rw [f]; rfl, agr_zero, E2.sub_self, E2.zero_mul, if_neg (by omega)]
    · rw [show bitE a = one by unfold bitE; rw [e]; rfl, show bitE b = one by unfold bitE; rw [f]; rfl, agr_one, E2.one_mul]
      by_cases h : a = b
      · rw [if_pos h, if_pos (by omega)]
      · rw [if_neg h, if_neg (by omega)]
/-- one element changed -/
def dlt (k i : Nat) : E2 := if i = k then one else zero
theorem bnd_dlt (k : Nat) (r : E2) (i : Nat) : bndF (dlt k) r i = agr (bitE k) r * dlt (k / 2) i := by
  unfold bndF btw dlt
  rcases Nat.mod_two_eq_zero_or_one k with e | e
  · rw [show bitE k = zero by unfold bitE; rw [e]; rfl, agr_zero, if_neg (show ¬ 2 * i + 1 = k by omega)]
    by_cases h : 2 * i = k
    · rw [if_pos h, if_pos (by omega), m16]
    · rw [if_neg h, if_neg (by omega), m1, E2.mul_zero]
  · rw [show bitE k = one by unfold bitE; rw [e]; rfl, agr_one, if_neg (show ¬ 2 * i = k by omega)]
    by_cases h : 2 * i + 1 = k
    · rw [if_pos h, if_pos (by omega), m15]
    · rw [if_neg h, if_neg (by omega), m1, E2.mul_zero]
theorem mleF_dlt : ∀ (p : List E2) (k : Nat), k < 2 ^ p.length → mleF (dlt k) p = eqW k p
  | [], k, h => by
    obtain rfl : k = 0 := by simpa using h
    rfl
  | r :: p, k, h => by
    show mleF (bndF (dlt k) r) p = agr (bitE k) r * eqW (k / 2) p
    rw [mleF_congr (g := fun i => agr (bitE k) r * dlt (k / 2) i) fun i _ => bnd_dlt k r i, mleF_mul, mleF_dlt p (k / 2) (by rw [List.length_cons, Nat.pow_succ] at h; omega)]
/-- an element changes by d: the value changes by d times the weight -/
theorem mleF_upd {f g : Nat → E2} {k : Nat} {d : E2} {p : List E2} (hk : k < 2 ^ p.length) (h : ∀ i, i < 2 ^ p.length → g i = if i = k then f i + d else f i) : mleF g p = mleF f p + d * eqW k p := by
  rw [← mleF_dlt p k hk, ← mleF_lin]
  refine mleF_congr fun i hi => ?_
  rw [h i hi]
  unfold dlt
  by_cases e : i = k
  · rw [if_pos e, if_pos e, E2.mul_one]
  · rw [if_neg e, if_neg e, E2.mul_zero, E2.add_zero]
/-- affine in each coordinate -/
theorem mleF_affine : ∀ (p : List E2) (c : Nat) (x : E2) (f : Nat → E2), p[c]? = some x → mleF f p = btw x (mleF f (p.set c zero)) (mleF f (p.set c one))
  | [], _, _, _, h => by simp at h
  | r :: p, 0, x, f, h => by
    obtain rfl : r = x := by simpa using h
    show mleF (fun i => btw r (f (2 * i)) (f (2 * i + 1))) p = btw r (mleF (bndF f zero) p) (mleF (bndF f one) p)
    rw [mleF_btw, mleF_congr (f := bndF f zero) (g := fun i => f (2 * i)) fun i _ => m2 _ _, mleF_congr (f := bndF f one) (g := fun i => f (2 * i + 1)) fun i _ => m3 _ _]
  | r :: p, c + 1, x, f, h => mleF_affine p c x (bndF f r) (by simpa using h)
/-- the half of a sum -/
theorem mleF_half {h : E2} (hh : nd 2 * h = one) : ∀ (n : Nat) (f : Nat → E2), nd (2 ^ n) * mleF f (List.replicate n h) = sumE (2 ^ n) f
  | 0, f => by
    show nd 1 * f 0 = zero + f 0
    rw [nd_one, E2.one_mul, E2.zero_add]
  | n + 1, f => by
    show nd (2 ^ (n + 1)) * mleF (bndF f h) (List.replicate n h) = _
    have e : nd (2 ^ (n + 1)) = nd 2 * nd (2 ^ n) := by
      have e2 : nd 2 = one + one := (ndZ_add 1 1).symm
      have e3 : nd (2 ^ (n + 1)) = nd (2 ^ n) + nd (2 ^ n) := by
        unfold nd
        rw [ndZ_add]
        congr 1
        rw [Nat.pow_succ]
        omega
      have k : ∀ x : E2, x + x = (one + one) * x := fun x => ext' (by simp; grind) (by simp; grind)
      rw [e3, e2, k]
    rw [e, E2.mul_assoc, mleF_half hh n, ← sumE_mul, show 2 ^ (n + 1) = 2 * 2 ^ n by rw [Nat.pow_succ]; omega, sumE_pairs]
    refine sumE_congr fun i _ => ?_
    have k : ∀ t h x y : E2, t * h = one → t * (x + h * (y - x)) = (t - one) * x + y := fun t h x y e => by
      have e1 := congrArg A e
      have e2 := congrArg B e
      simp at e1 e2
      exact ext' (by simp; grind) (by simp; grind)
    show nd 2 * (f (2 * i) + h * (f (2 * i + 1) - f (2 * i))) = _
    rw [k _ _ _ _ hh, show nd 2 - one = one by rw [← nd_one]; exact (ndZ_sub 2 1), E2.one_mul]
theorem eqW_snoc : ∀ (p : List E2) (r : E2) (i : Nat), eqW i (p ++ [r]) = eqW i p * agr (bitE (i / 2 ^ p.length)) r
  | [], r, i => by
    show agr (bitE i) r * one = one * agr (bitE (i / 1)) r
    rw [E2.mul_one, E2.one_mul, Nat.div_one]
  | a :: p, r, i => by
    show agr (bitE i) a * eqW (i / 2) (p ++ [r]) = agr (bitE i) a * eqW (i / 2) p * _
    rw [eqW_snoc p r (i / 2), E2.mul_assoc, List.length_cons, Nat.pow_succ, Nat.mul_comm (2 ^ p.length), Nat.div_div_eq_div_mul]
theorem eqW_low {p : List E2} {r : E2} {i : Nat} (h : i < 2 ^ p.length) : eqW i (p ++ [r]) = eqW i p - eqW i p * r := by
  rw [eqW_snoc, Nat.div_eq_of_lt h, show bitE 0 = zero from rfl, agr_zero, m10]
theorem eqW_high_bits : ∀ (p : List E2) (i : Nat), eqW (i + 2 ^ p.length) p = eqW i p
  | [], _ => rfl
  | a :: p, i => by
    show agr (bitE (i + 2 ^ (p.length + 1))) a * eqW ((i + 2 ^ (p.length + 1)) / 2) p = agr (bitE i) a * eqW (i / 2) p
    rw [Nat.pow_succ, show (i + 2 ^ p.length * 2) / 2 = i / 2 + 2 ^ p.length by omega, eqW_high_bits p, show bitE (i + 2 ^ p.length * 2) = bitE i by unfold bitE; rw [show (i + 2 ^ p.length * 2) % 2 = i % 2 by omega]]
theorem eqW_high {p : List E2} {r : E2} {i : Nat} (h : i < 2 ^ p.length) : eqW (i + 2 ^ p.length) (p ++ [r]) = eqW i p * r := by
  rw [eqW_snoc, eqW_high_bits, Nat.add_div_right _ (Nat.two_pow_pos _), Nat.div_eq_of_lt h, show bitE (Nat.succ 0) = one from rfl, agr_one]

/-! ### Tables as lists -/
/-- the first variable fixed -/
def bndE (xs : List E2) (r : E2) : List E2 := tabE (xs.length / 2) (bndF (cfE xs) r)
theorem bndE_length (xs : List E2) (r : E2) : (bndE xs r).length = xs.length / 2 := tabE_length _ _
theorem mleF_bndE {xs : List E2} {r : E2} {p : List E2} (h : xs.length = 2 ^ (p.length + 1)) : mleF (cfE (bndE xs r)) p = mleF (cfE xs) (r :: p) := by
  show _ = mleF (bndF (cfE xs) r) p
  refine mleF_congr fun i hi => ?_
  unfold bndE
  rw [cfE_tabE, if_pos (by rw [h, Nat.pow_succ]; omega)]
theorem bndE_pow {xs : List E2} {r : E2} {n : Nat} (h : xs.length = 2 ^ (n + 1)) : (bndE xs r).length = 2 ^ n := by rw [bndE_length, h, Nat.pow_succ]; omega
/-- the value of the extension of a table -/
def mleE (xs p : List E2) : E2 := mleF (cfE xs) p
theorem mleE_nil (xs : List E2) : mleE xs [] = cfE xs 0 := rfl
theorem mleE_cons {xs : List E2} {r : E2} {p : List E2} (h : xs.length = 2 ^ (p.length + 1)) : mleE (bndE xs r) p = mleE xs (r :: p) := mleF_bndE h
/-- the table of the weights -/
def eqT (p : List E2) : List E2 := tabE (2 ^ p.length) fun i => eqW i p
theorem eqT_length (p : List E2) : (eqT p).length = 2 ^ p.length := tabE_length _ _
/-- a point on the line -/
def lineE (p q : List E2) (t : E2) : List E2 := List.zipWith (btw t) p q
theorem lineE_length {p q : List E2} {n : Nat} {t : E2} (hp : p.length = n) (hq : q.length = n) : (lineE p q t).length = n := by unfold lineE; rw [List.length_zipWith]; omega
theorem lineE_zero : ∀ {p q : List E2}, p.length = q.length → lineE p q zero = p
  | [], [], _ => rfl
  | [], _ :: _, h => by cases h
  | _ :: _, [], h => by cases h
  | a :: p, b :: q, h => by
    show btw zero a b :: lineE p q zero = _
    rw [lineE_zero (by simpa using h), show btw zero a b = a from m2 a b]
theorem lineE_one : ∀ {p q : List E2}, p.length = q.length → lineE p q one = q
  | [], [], _ => rfl
  | [], _ :: _, h => by cases h
  | _ :: _, [], h => by cases h
  | a :: p, b :: q, h => by
    show btw one a b :: lineE p q one = _
    rw [lineE_one (by simpa using h), show btw one a b = b from m3 a b]

/-! ### Differences along a line -/
/-- the n-th difference is zero -/
def dg : Nat → (Nat → E2) → Prop
  | 0, f => ∀ j, f j = zero
  | n + 1, f => dg n fun j => f (j + 1) - f j
theorem dg_congr {n : Nat} : ∀ {f g : Nat → E2}, (∀ j, f j = g j) → dg n f → dg n g := by
  intro f g h
  rw [show f = g from funext h]
  exact id
theorem dg_add : ∀ (n : Nat) (f g : Nat → E2), dg n f → dg n g → dg n fun j => f j + g j
  | 0, f, g, hf, hg => fun j => by show f j + g j = zero; rw [hf j, hg j, E2.add_zero]
  | n + 1, f, g, hf, hg => by
    show dg n fun j => f (j + 1) + g (j + 1) - (f j + g j)
    exact dg_congr (fun j => by
      have k : ∀ a b c d : E2, a - b + (c - d) = a + c - (b + d) := fun a b c d => ext' (by simp; grind) (by simp; grind)
      exact k _ _ _ _) (dg_add n _ _ hf hg)
theorem dg_shift : ∀ (n : Nat) (f : Nat → E2), dg n f → dg n fun j => f (j + 1)
  | 0, _, h => fun j => h (j + 1)
  | n + 1, _, h => dg_shift n _ h
theorem dg_mul : ∀ (n : Nat) (c : E2) (f : Nat → E2), dg n f → dg n fun j => c * f j
  | 0, c, f, h => fun j => by show c * f j = zero; rw [h j, E2.mul_zero]
  | n + 1, c, f, h => by
    show dg n fun j => c * f (j + 1) - c * f j
    exact dg_congr (fun j => by
      have k : ∀ c a b : E2, c * (a - b) = c * a - c * b := fun c a b => ext' (by simp; grind) (by simp; grind)
      exact k _ _ _) (dg_mul n c _ h)
/-- times an affine function -/
theorem dg_affine (a b : E2) : ∀ (n : Nat) (f l : Nat → E2), (∀ j, l (j + 1) = l j + b) → dg n f → dg (n + 1) fun j => l j * f j
  | 0, f, l, hl, h => fun j => by
    show l (j + 1) * f (j + 1) - l j * f j = zero
    rw [h (j + 1), h j, E2.mul_zero, E2.mul_zero, E2.sub_self]
  | n + 1, f, l, hl, h => by
    show dg (n + 1) fun j => l (j + 1) * f (j + 1) - l j * f j
    have h1 := dg_affine a b n (fun j => f (j + 1) - f j) l hl h
    have h2 : dg (n + 1) fun j => b * f (j + 1) := dg_mul (n + 1) b _ (dg_shift (n + 1) f h)
    refine dg_congr (fun j => ?_) (dg_add (n + 1) _ _ h1 h2)
    rw [hl j]
    have k : ∀ l b f g : E2, l * (g - f) + b * g = (l + b) * g - l * f := fun l b f g => ext' (by simp; grind) (by simp; grind)
    exact k _ _ _ _
theorem dg_up : ∀ (n : Nat) (f : Nat → E2), dg n f → dg (n + 1) f
  | 0, f, h => fun j => by show f (j + 1) - f j = zero; rw [h (j + 1), h j, E2.sub_self]
  | n + 1, _, h => dg_up n _ h
/-- the values along a line: the difference of order n + 1 vanishes -/
theorem dg_line (t : Nat → E2) (ht : ∀ j, t (j + 1) = t j + one) : ∀ (p q : List E2), p.length = q.length → ∀ (F : Nat → Nat → E2) (m : Nat), (∀ i, dg m fun j => F j i) → dg (m + p.length) fun j => mleF (F j) (lineE p q (t j))
  | [], [], _, F, m, h => h 0
  | [], _ :: _, h, _, _, _ => by cases h
  | _ :: _, [], h, _, _, _ => by cases h
  | a :: p, b :: q, hl, F, m, h => by
    have e : m + (a :: p).length = (m + 1) + p.length := by rw [List.length_cons]; omega
    rw [e]
    refine dg_line t ht p q (by simpa using hl) (fun j => bndF (F j) (btw (t j) a b)) (m + 1) fun i => ?_
    have hb : ∀ j, btw (t (j + 1)) a b = btw (t j) a b + (b - a) := fun j => by
      rw [ht j]
      unfold btw
      exact ext' (by simp; grind) (by simp; grind)
    have h1 := dg_up m _ (h (2 * i))
    have h2 : dg m fun j => F j (2 * i + 1) + (-one) * F j (2 * i) := dg_add m _ _ (h (2 * i + 1)) (dg_mul m _ _ (h (2 * i)))
    have h3 := dg_affine zero (b - a) m _ (fun j => btw (t j) a b) hb h2
    refine dg_congr (fun j => ?_) (dg_add (m + 1) _ _ h1 h3)
    show F j (2 * i) + btw (t j) a b * (F j (2 * i + 1) + -one * F j (2 * i)) = btw (btw (t j) a b) (F j (2 * i)) (F j (2 * i + 1))
    generalize btw (t j) a b = r
    unfold btw
    exact ext' (by simp; grind) (by simp; grind)
theorem dg_const (c : E2) : dg 1 fun _ => c := fun _ => E2.sub_self c
theorem dg_mle (xs : List E2) (t : Nat → E2) (ht : ∀ j, t (j + 1) = t j + one) (p q : List E2) (h : p.length = q.length) : dg (p.length + 1) fun j => mleE xs (lineE p q (t j)) := by
  rw [Nat.add_comm]
  exact dg_line t ht p q h (fun _ => cfE xs) 1 fun i => dg_const _
end Gold
