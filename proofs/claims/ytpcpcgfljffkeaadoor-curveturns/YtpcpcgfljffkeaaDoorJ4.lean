/-
  Own text. Every element but 0 is the u of a point, on one of two curves; so the ladder's multiples commute for all elements.
-/
import Derived.Test.YtpcpcgfljffkeaaDoorJ3
import Derived.Test.YtpcpcgfljffkeaaDoorJ2
import Derived.Test.YtpcpcgfljffkeaaDoorJ1
namespace Go.Proofs.YtpcpcgfljffkeaaDoor
section
variable {n : Nat} [NeZero n] (K : Fd n)
/-- What is asked of the ladder's number k. -/
structure Good (k : Fin n) : Prop where
  nsq : Nsq (k * (k + 1))
  dich : ∀ w : Fin n, (∃ t : Fin n, t * t = w) ∨ (∃ t : Fin n, t * t = 2 * w)
theorem Good.k0 {k : Fin n} (G : Good k) : k ≠ 0 := fun e => G.nsq 0 (by rw [e]; grind)
theorem Good.k1 {k : Fin n} (G : Good k) : k + 1 ≠ 0 := fun e => G.nsq 0 (by rw [e]; grind)
theorem quot_sq {a b i t : Fin n} (hi : b * i = 1) (h : t * t = a * i) : (t * b) * (t * b) = a * b := by grind
include K in
theorem nsq_1 {k : Fin n} (G : Good k) : Nsq (k * K.inv (k + 1)) := fun t h => G.nsq (t * (k + 1)) (quot_sq (K.mul_inv _ G.k1) h)
include K in
theorem nsq_2 {k : Fin n} (G : Good k) : Nsq ((k + 1) * K.inv k) := fun t h => G.nsq (t * k) (by rw [quot_sq (K.mul_inv _ G.k0) h]; grind)
theorem link_1 {k i : Fin n} (hi : (k + 1) * i = 1) : (k + 1) * (1 - k * i) = 1 := by grind
theorem link_2 {k i : Fin n} (hi : k * i = 1) : (-k) * (1 - (k + 1) * i) = 1 := by grind
theorem Good.link1 {k : Fin n} (G : Good k) : Link 1 (k * K.inv (k + 1)) (k + 1) k := ⟨by grind, link_1 (K.mul_inv _ G.k1), by grind, nsq_1 K G⟩
theorem Good.link2 {k : Fin n} (G : Good k) : Link (-1) ((k + 1) * K.inv k) (-k) k := ⟨by grind, link_2 (K.mul_inv _ G.k0), by grind, nsq_2 K G⟩
theorem half_sq {k x h : Fin n} (hh : 2 * h = 1) (hg : x * x + (4 * k + 2) * x + 1 = 0) : ((x + (2 * k + 1)) * h) * ((x + (2 * k + 1)) * h) = k * (k + 1) := by
  have e : (x + (2 * k + 1)) * (x + (2 * k + 1)) = 4 * (k * (k + 1)) := by grind
  have e2 : ((x + (2 * k + 1)) * h) * ((x + (2 * k + 1)) * h) = ((x + (2 * k + 1)) * (x + (2 * k + 1))) * (h * h) := by grind
  rw [e2, e]; grind
include K in
theorem g_ne {k : Fin n} (G : Good k) (x : Fin n) : x * x + (4 * k + 2) * x + 1 ≠ 0 := fun h => G.nsq _ (half_sq (K.mul_inv 2 K.two) h)
/-- On the first curve. -/
theorem on_1 {k i x g j u a t : Fin n} (hi : (k + 1) * i = 1) (hg : g = x * x + (4 * k + 2) * x + 1) (hj : g * j = 1) (hu : (x + 1) * u = 1) (ha : a = k * i) (ht : t * t = (k + 1) * x * g) :
    On a (2 * t * j) ((x - 1) * u) := by
  unfold On
  have e1 : (2 * t * j) * (2 * t * j) = 4 * ((k + 1) * x) * j := by
    have : (2 * t * j) * (2 * t * j) = 4 * (t * t) * (j * j) := by grind
    rw [this, ht]; grind
  have e2 : a * (2 * t * j) * (2 * t * j) * ((x - 1) * u) * ((x - 1) * u) = a * ((2 * t * j) * (2 * t * j)) * (((x - 1) * u) * ((x - 1) * u)) := by grind
  have e3 : a * (4 * ((k + 1) * x) * j) = 4 * (k * x) * j := by rw [ha]; grind
  have e4 : a * ((2 * t * j) * (2 * t * j)) = 4 * (k * x) * j := by rw [e1, e3]
  rw [e2, e4, e1]
  clear e1 e2 e3 e4 ht ha hi
  have key : 4 * ((k + 1) * x) * ((x + 1) * (x + 1)) + (x - 1) * (x - 1) * g = (x + 1) * (x + 1) * g + 4 * (k * x) * ((x - 1) * (x - 1)) := by rw [hg]; grind
  clear hg
  grind
/-- On the second one. -/
theorem on_2 {k i x g j u a t : Fin n} (hi : k * i = 1) (hg : g = x * x + (4 * k + 2) * x + 1) (hj : g * j = 1) (hu : (x - 1) * u = 1) (ha : a = (k + 1) * i) (ht : t * t = k * x * g) :
    On a (2 * t * j) ((x + 1) * u) := by
  unfold On
  have e1 : (2 * t * j) * (2 * t * j) = 4 * (k * x) * j := by
    have : (2 * t * j) * (2 * t * j) = 4 * (t * t) * (j * j) := by grind
    rw [this, ht]; grind
  have e2 : a * (2 * t * j) * (2 * t * j) * ((x + 1) * u) * ((x + 1) * u) = a * ((2 * t * j) * (2 * t * j)) * (((x + 1) * u) * ((x + 1) * u)) := by grind
  have e3 : a * (4 * (k * x) * j) = 4 * ((k + 1) * x) * j := by rw [ha]; grind
  have e4 : a * ((2 * t * j) * (2 * t * j)) = 4 * ((k + 1) * x) * j := by rw [e1, e3]
  rw [e2, e4, e1]
  clear e1 e2 e3 e4 ht ha hi
  have key : 4 * (k * x) * ((x - 1) * (x - 1)) + (x + 1) * (x + 1) * g = (x - 1) * (x - 1) * g + 4 * ((k + 1) * x) * ((x + 1) * (x + 1)) := by rw [hg]; grind
  clear hg
  grind
theorem u_1 {x u : Fin n} (hu : (x + 1) * u = 1) : x * (1 - (x - 1) * u) = 1 * (1 + (x - 1) * u) := by grind
theorem u_2 {x u : Fin n} (hu : (x - 1) * u = 1) : x * (1 - (x + 1) * u) = -1 * (1 + (x + 1) * u) := by grind
include K in
theorem ne_m1 {k x t : Fin n} (G : Good k) (ht : t * t = (k + 1) * x * (x * x + (4 * k + 2) * x + 1)) : x + 1 ≠ 0 := fun e => by
  have hx : x = -1 := by grind -lia
  have hi := K.mul_inv 2 K.two
  rw [hx] at ht
  have h4 : t * t = 4 * (k * (k + 1)) := by rw [ht]; grind
  exact G.nsq (t * K.inv 2) (by
    have e : (t * K.inv 2) * (t * K.inv 2) = (t * t) * (K.inv 2 * K.inv 2) := by grind
    rw [e, h4]
    clear h4 ht e hx
    grind)
include K in
theorem ne_1 {k x t : Fin n} (G : Good k) (ht : t * t = k * x * (x * x + (4 * k + 2) * x + 1)) : x - 1 ≠ 0 := fun e => by
  have hx : x = 1 := by grind -lia
  have hi := K.mul_inv 2 K.two
  rw [hx] at ht
  have h4 : t * t = 4 * (k * (k + 1)) := by rw [ht]; grind
  exact G.nsq (t * K.inv 2) (by
    have e : (t * K.inv 2) * (t * K.inv 2) = (t * t) * (K.inv 2 * K.inv 2) := by grind
    rw [e, h4]
    clear h4 ht e hx
    grind)
theorem both_sq {k x g s t q : Fin n} (hs : s * s = 2 * ((k + 1) * x * g)) (ht : t * t = 2 * (k * x * g)) (hq : 2 * (x * g) * q = 1) : (s * t * q) * (s * t * q) = k * (k + 1) := by
  have e : (s * t * q) * (s * t * q) = (s * s) * (t * t) * (q * q) := by grind
  rw [e, hs, ht]
  have e2 : 2 * ((k + 1) * x * g) * (2 * (k * x * g)) * (q * q) = (k * (k + 1)) * ((2 * (x * g) * q) * (2 * (x * g) * q)) := by grind
  rw [e2, hq]; grind
include K in
/-- Every element but 0 is the u of a point. -/
theorem exists_point {k : Fin n} (G : Good k) (x : Fin n) (hx : x ≠ 0) : ∃ s d c, ∃ _ : Link s d c k, ∃ P : Pt d, x * (1 - P.y) = s * (1 + P.y) := by
  have hg := g_ne K G x
  have hj := K.mul_inv _ hg
  have c1 : ∀ t : Fin n, t * t = (k + 1) * x * (x * x + (4 * k + 2) * x + 1) → ∃ s d c, ∃ _ : Link s d c k, ∃ P : Pt d, x * (1 - P.y) = s * (1 + P.y) := fun t ht =>
    have hu := K.mul_inv _ (ne_m1 K G ht)
    ⟨1, _, _, G.link1 K, ⟨_, _, on_1 (K.mul_inv _ G.k1) rfl hj hu rfl ht⟩, u_1 hu⟩
  have c2 : ∀ t : Fin n, t * t = k * x * (x * x + (4 * k + 2) * x + 1) → ∃ s d c, ∃ _ : Link s d c k, ∃ P : Pt d, x * (1 - P.y) = s * (1 + P.y) := fun t ht =>
    have hu := K.mul_inv _ (ne_1 K G ht)
    ⟨-1, _, _, G.link2 K, ⟨_, _, on_2 (K.mul_inv _ G.k0) rfl hj hu rfl ht⟩, u_2 hu⟩
  rcases G.dich ((k + 1) * x * (x * x + (4 * k + 2) * x + 1)) with ⟨t, ht⟩ | ⟨s, hs⟩
  · exact c1 t ht
  · rcases G.dich (k * x * (x * x + (4 * k + 2) * x + 1)) with ⟨t, ht⟩ | ⟨t, ht⟩
    · exact c2 t ht
    · exact absurd (both_sq hs ht (K.mul_inv _ (K.mul_ne K.two (K.mul_ne hx hg)))) (G.nsq _)
/-- The ladder's multiples commute. -/
theorem lad_turns {k : Fin n} (G : Good k) (x : Fin n) (zs bs : List Bool) (ha : numOfBits 0 zs % 2 = 0) (hb : numOfBits 0 bs % 2 = 0) : Lad K k (Lad K k x bs) zs = Lad K k (Lad K k x zs) bs := by
  by_cases hx : x = 0
  · subst hx
    simp only [lad_zero]
  · obtain ⟨s, d, c, L, P, h⟩ := exists_point K G x hx
    exact lad_comm K L h hx zs bs ha hb
/-- Of a point that l times is none: no 0 comes of it. -/
theorem lad_meets {k : Fin n} (G : Good k) (x : Fin n) (hx : x ≠ 0) (ls zs bs : List Bool) (hz : (Qd.run k x ls (Qd.start x)).Z = 0) (ha : numOfBits 0 zs % 2 = 0)
    (hN : ∃ i j, i * (2 * (numOfBits 0 zs * numOfBits 0 bs)) = j * numOfBits 0 ls + 1) : Lad K k (Lad K k x bs) zs ≠ 0 := by
  obtain ⟨s, d, c, L, P, h⟩ := exists_point K G x hx
  rw [lad_lad K L h hx zs bs ha]
  exact lad_ne K L h (lad_order K L h hx ls hz) hN
end
end Go.Proofs.YtpcpcgfljffkeaaDoor
/-
  Own text. The field of 2^255 - 19 as the numbers below p; roots; the ladder's number 121665 is as asked; the point of u = 9 is of prime order.
-/
namespace Go.Proofs.YtpcpcgfljffkeaaDoor
/-- p. -/
def pN : Nat := 57896044618658097711785492504343953926634992332820282019728792003956564819949
theorem pN_prime : IsPrime pN := prP
instance : NeZero pN := ⟨by decide⟩
theorem pN_int : (pN : Int) = P255 := rfl
abbrev Fp := Fin pN
/-- A whole number as an element. -/
def ofI (x : Int) : Fp := ⟨(x % P255).toNat, by
  have h0 := (mod_lt_P x).1
  have h1 := (mod_lt_P x).2
  have h2 := pN_int
  omega⟩
theorem ofI_val (x : Int) : ((ofI x).val : Int) = x % P255 := Int.toNat_of_nonneg (mod_lt_P x).1
theorem fp_ext {a b : Fp} (h : (a.val : Int) = (b.val : Int)) : a = b := Fin.ext (by omega)
theorem ofI_eq {x y : Int} : ofI x = ofI y ↔ x % P255 = y % P255 :=
  ⟨fun h => by have := congrArg (fun a : Fp => (a.val : Int)) h; simpa only [ofI_val] using this, fun h => fp_ext (by rw [ofI_val, ofI_val, h])⟩
theorem ofI_mod (x : Int) : ofI (x % P255) = ofI x := ofI_eq.2 (Int.emod_emod x P255)
theorem ofI_self (a : Fp) : ofI (a.val : Int) = a := fp_ext (by
  rw [ofI_val]
  exact Int.emod_eq_of_lt (by omega) (by have h := a.isLt; have h2 := pN_int; omega))
theorem ofI_add (x y : Int) : ofI (x + y) = ofI x + ofI y := fp_ext (by
  rw [Fin.val_add, Int.natCast_emod, Int.natCast_add, ofI_val, ofI_val, ofI_val, pN_int, ← Int.add_emod])
theorem ofI_mul (x y : Int) : ofI (x * y) = ofI x * ofI y := fp_ext (by
  rw [Fin.val_mul, Int.natCast_emod, Int.natCast_mul, ofI_val, ofI_val, ofI_val, pN_int, ← Int.mul_emod])
theorem ofI_zero : ofI 0 = 0 := rfl
theorem ofI_one : ofI 1 = 1 := fp_ext (by rw [ofI_val]; decide +kernel)
theorem ofI_sub (x y : Int) : ofI (x - y) = ofI x - ofI y := by
  have h : ofI (x - y) + ofI y = ofI x := by rw [← ofI_add, Int.sub_add_cancel]
  rw [← h]; grind
theorem ofI_ne {x : Int} : ofI x ≠ 0 ↔ x % P255 ≠ 0 := by
  rw [← ofI_zero, Ne, ofI_eq, Int.zero_emod]
/-- The field. -/
def Kp : Fd pN where
  inv a := ofI (invN (a.val : Int))
  mul_inv a ha := by
    have h : (a.val : Int) % P255 ≠ 0 := by rw [← ofI_ne, ofI_self]; exact ha
    have e : a * ofI (invN (a.val : Int)) = ofI ((a.val : Int) * invN (a.val : Int)) := by rw [ofI_mul, ofI_self]
    rw [e, ← ofI_one, ofI_eq, inv_mul h]
    decide +kernel
  two := by
    have : (2 : Fp) = ofI 2 := fp_ext (by rw [ofI_val]; decide +kernel)
    rw [this, ofI_ne]
    decide +kernel
  inv0 := by
    show ofI (invN ((0 : Fp).val : Int)) = 0
    rw [invN_zero (by decide +kernel)]; rfl
theorem Kp_inv (x : Int) : Kp.inv (ofI x) = ofI (invN x) := by
  show ofI (invN ((ofI x).val : Int)) = _
  rw [ofI_val, ofI_eq]
  unfold invN
  rw [emod_pow]
/-- Powers of elements. -/
def fpow (x : Fp) : Nat → Fp
  | 0 => 1
  | k + 1 => fpow x k * x
theorem fpow_add (x : Fp) (j k : Nat) : fpow x (j + k) = fpow x j * fpow x k := by
  induction k with
  | zero => show fpow x j = fpow x j * 1; grind
  | succ k ih => show fpow x (j + k) * x = fpow x j * (fpow x k * x); rw [ih]; grind
theorem fpow_mul (x y : Fp) (k : Nat) : fpow (x * y) k = fpow x k * fpow y k := by
  induction k with
  | zero => show (1 : Fp) = 1 * 1; grind
  | succ k ih => show fpow (x * y) k * (x * y) = fpow x k * x * (fpow y k * y); rw [ih]; grind
theorem fpow_val (x : Fp) (k : Nat) : (fpow x k).val = x.val ^ k % pN := by
  induction k with
  | zero => show (1 : Fp).val = 1 % pN; decide +kernel
  | succ k ih =>
    show (fpow x k * x).val = x.val ^ (k + 1) % pN
    rw [Fin.val_mul, ih, Nat.pow_succ, Nat.mul_mod, Nat.mod_mod, ← Nat.mul_mod]
theorem fpow_fermat {x : Fp} (hx : x ≠ 0) : fpow x (pN - 1) = 1 := by
  apply Fin.ext
  rw [fpow_val]
  have h1 : (1 : Fp).val = 1 := by decide +kernel
  rw [h1]
  refine fermat pN_prime (fun h => hx (Fin.ext ?_))
  have hlt := x.isLt
  obtain ⟨c, hc⟩ := h
  cases c with
  | zero => simpa using hc
  | succ c =>
    exfalso
    rw [hc, Nat.mul_succ] at hlt
    omega
/-- (p - 1) / 4 and (p + 3) / 8. -/
def qN : Nat := 14474011154664524427946373126085988481658748083205070504932198000989141204987
def rN : Nat := 7237005577332262213973186563042994240829374041602535252466099000494570602494
theorem q4 : qN + qN + (qN + qN) = pN - 1 := by decide +kernel
theorem r2 : rN + rN = qN + 1 := by decide +kernel
theorem pow_at (b : Fp) (k f : Nat) (hk : k < 2 ^ f) (v : Nat) (h : powMod pN f b.val k = v) : (fpow b k).val = v := by rw [fpow_val, ← powMod_eq pN f b.val k hk, h]
theorem two_q : fpow 2 (qN + qN) = -1 := Fin.ext ((pow_at 2 (qN + qN) 256 (by decide +kernel) ((-1 : Fp).val) (by decide +kernel)))
theorem fp_two : (2 : Fp) ≠ 0 := Kp.two
theorem sq_of {a : Fp} (h : fpow a qN * fpow a qN = 1) : ∃ t : Fp, t * t = a := by
  have h2 : (fpow a qN - 1) * (fpow a qN + 1) = 0 := by grind -lia
  have hr : fpow a rN * fpow a rN = fpow a qN * a := by rw [← fpow_add, r2, fpow_add]; show fpow a qN * (1 * a) = _; grind
  have ht : fpow 2 qN * fpow 2 qN = -1 := by rw [← fpow_add, two_q]
  rcases Kp.zero_or h2 with h | h
  · exact ⟨fpow a rN, by rw [hr]; generalize fpow a qN = b at *; grind -lia⟩
  · refine ⟨fpow a rN * fpow 2 qN, ?_⟩
    have e : fpow a rN * fpow 2 qN * (fpow a rN * fpow 2 qN) = (fpow a rN * fpow a rN) * (fpow 2 qN * fpow 2 qN) := by grind
    rw [e, hr, ht]
    generalize fpow a qN = b at *
    grind -lia
theorem root_dich (w : Fp) : (∃ t : Fp, t * t = w) ∨ (∃ t : Fp, t * t = 2 * w) := by
  by_cases hw : w = 0
  · exact .inl ⟨0, by rw [hw]; grind⟩
  · have h4 : (fpow w qN * fpow w qN) * (fpow w qN * fpow w qN) = 1 := by rw [← fpow_add, ← fpow_add, q4, fpow_fermat hw]
    have h2 : (fpow w qN * fpow w qN - 1) * (fpow w qN * fpow w qN + 1) = 0 := by
      generalize fpow w qN * fpow w qN = b at *
      grind -lia
    rcases Kp.zero_or h2 with h | h
    · exact .inl (sq_of (by generalize fpow w qN * fpow w qN = b at *; grind -lia))
    · refine .inr (sq_of ?_)
      have ht : fpow 2 qN * fpow 2 qN = -1 := by rw [← fpow_add, two_q]
      rw [fpow_mul]
      have e : fpow 2 qN * fpow w qN * (fpow 2 qN * fpow w qN) = (fpow 2 qN * fpow 2 qN) * (fpow w qN * fpow w qN) := by grind
      rw [e, ht]
      generalize fpow w qN * fpow w qN = b at *
      grind -lia
theorem sub_same (a : Fp) : a - a = 0 := by grind
/-- The ladder's number. -/
def kN : Fp := 121665
theorem kk_q : fpow (kN * (kN + 1)) (qN + qN) = -1 := Fin.ext ((pow_at (kN * (kN + 1)) (qN + qN) 256 (by decide +kernel) ((-1 : Fp).val) (by decide +kernel)))
theorem kN_good : Good kN where
  nsq t h := by
    have ht : t ≠ 0 := fun e => by
      have h0 := kk_q
      rw [← h, e] at h0
      have : fpow ((0 : Fp) * 0) (qN + qN) ≠ -1 := by
        have e0 : (0 : Fp) * 0 = 0 := by grind
        rw [e0]
        intro h
        have h3 := congrArg Fin.val h
        rw [fpow_val] at h3
        have h4 : (0 : Fp).val = 0 := rfl
        rw [h4, Nat.zero_pow (by decide +kernel)] at h3
        exact absurd h3 (by decide +kernel)
      exact this h0
    have h1 := kk_q
    rw [← h, fpow_mul, ← fpow_add, q4, fpow_fermat ht] at h1
    have e : (2 : Fp) = 1 - (-1) := by grind
    exact fp_two (by rw [e, ← h1]; exact sub_same 1)
  dich := root_dich
/-- The order of the point of u = 9. -/
def lN : Nat := 7237005577332262213973186563042994240857116359379907606001950938285454250989
theorem pr1224481 : IsPrime 1224481 := trial (B := 1107) (by omega) (by omega) (by decide +kernel)
theorem pr531581 : IsPrime 531581 := trial (B := 730) (by omega) (by omega) (by decide +kernel)
theorem prG : IsPrime 1257559732178653 := pockC pr1224481 pr531581 (by decide +kernel)
theorem prH : IsPrime 4434155615661930479 := pockA prG (by decide +kernel)
theorem prI : IsPrime 172054593956031949258510691 := pockA prH (by decide +kernel)
theorem prJ : IsPrime 19757330305831588566944191468367130476339 := pockA prI (by decide +kernel)
theorem prK : IsPrime 276602624281642239937218680557139826668747 := pockA prJ (by decide +kernel)
theorem lN_prime : IsPrime lN := pockA prK (by decide +kernel)
def lBits : List Bool := (List.range 253).map fun i => lN.testBit (252 - i)
theorem lBits_num : numOfBits 0 lBits = lN := by decide +kernel
theorem nine_order : (Qd.run kN 9 lBits (Qd.start 9)).Z = 0 := by decide +kernel
end Go.Proofs.YtpcpcgfljffkeaaDoor
/-
  Own text. For keys as they are used (8 times a number below the order of the point of u = 9): the ladders commute, and of 9 no 0 comes.
-/
namespace Go.Proofs.YtpcpcgfljffkeaaDoor
theorem inv_mod {l N : Nat} (hl : IsPrime l) (h : ¬ l ∣ N) : ∃ i j, i * N = j * l + 1 := by
  have hf := fermat hl h
  have h2 := hl.1
  refine ⟨N ^ (l - 2), N ^ (l - 1) / l, ?_⟩
  rw [← Nat.pow_succ, show (l - 2).succ = l - 1 by omega]
  have := Nat.div_add_mod (N ^ (l - 1)) l
  rw [hf, Nat.mul_comm] at this
  omega
theorem small_not_dvd {l m : Nat} (h0 : 0 < m) (h1 : m < l) : ¬ l ∣ m := fun h => by
  have := Nat.le_of_dvd h0 h
  omega
/-- A private key as it is used: 8 times a number below the order. -/
def KeyN (N : Nat) : Prop := ∃ m, N = 8 * m ∧ 0 < m ∧ m < lN
theorem KeyN.even {N : Nat} (h : KeyN N) : N % 2 = 0 := by
  obtain ⟨m, rfl, _⟩ := h
  omega
theorem KeyN.not_dvd {N : Nat} (h : KeyN N) : ¬ lN ∣ N := by
  obtain ⟨m, rfl, h0, h1⟩ := h
  intro hd
  rcases prime_dvd_mul lN_prime hd with h | h
  · exact small_not_dvd (by omega) (by decide +kernel) h
  · exact small_not_dvd h0 h1 h
theorem curve_turns (x : Fp) {us vs : List Bool} (ha : KeyN (numOfBits 0 us)) (hb : KeyN (numOfBits 0 vs)) : Lad Kp kN (Lad Kp kN x vs) us = Lad Kp kN (Lad Kp kN x us) vs :=
  lad_turns Kp kN_good x us vs ha.even hb.even
theorem nine_ne : (9 : Fp) ≠ 0 := by decide +kernel
theorem curve_meets {us vs : List Bool} (ha : KeyN (numOfBits 0 us)) (hb : KeyN (numOfBits 0 vs)) : Lad Kp kN (Lad Kp kN 9 vs) us ≠ 0 := by
  refine lad_meets Kp kN_good 9 nine_ne lBits us vs nine_order ha.even ?_
  rw [lBits_num]
  refine inv_mod lN_prime (fun h => ?_)
  rcases prime_dvd_mul lN_prime h with h | h
  · exact small_not_dvd (by omega) (by decide +kernel) h
  · rcases prime_dvd_mul lN_prime h with h | h
    · exact ha.not_dvd h
    · exact hb.not_dvd h
end Go.Proofs.YtpcpcgfljffkeaaDoor
/-
  Own text. A key as it is used, as a number; its bits; what X25519 tells, as a number; and what follows.
-/
namespace Go.Proofs.YtpcpcgfljffkeaaDoor
/-- 2^254. -/
def H254 : Int := 28948022309329048855892746252171976963317496166410141009864396001978282409984
/-- A private key as it is used. -/
def clampN (k : Int) : Int := k % H254 / 8 * 8 + H254
theorem clampN_range (k : Int) : H254 ≤ clampN k ∧ clampN k < W255 ∧ clampN k % 8 = 0 := by unfold clampN H254 W255; omega
theorem clampN_256 (k : Int) : N256 (clampN k) := by
  have h := clampN_range k
  unfold N256 W256
  unfold H254 W255 at h
  omega
theorem clampN_clampN (k : Int) : clampN (clampN k) = clampN k := by unfold clampN H254; omega
theorem clampN_key (k : Int) : KeyN (clampN k).toNat := by
  have h := clampN_range k
  refine ⟨(clampN k).toNat / 8, by omega, ?_, ?_⟩
  · unfold H254 at h; omega
  · unfold W255 at h; unfold lN; omega
theorem byt_eights (m : Int) (i : Nat) (hi : 1 ≤ i) : byt (m / 8 * 8) i = byt m i := by
  obtain ⟨j, rfl⟩ : ∃ j, i = j + 1 := ⟨i - 1, by omega⟩
  unfold byt
  rw [Int.pow_succ, Int.mul_comm (256 ^ j) 256, ← Int.ediv_ediv_of_nonneg (show (0 : Int) ≤ 256 by decide), ← Int.ediv_ediv_of_nonneg (show (0 : Int) ≤ 256 by decide), show m / 8 * 8 / 256 = m / 256 by omega]
theorem clamp_mid (k : Int) (i : Nat) (h1 : 1 ≤ i) (h2 : i < 31) : byt (clampN k) i = byt k i := by
  have e : clampN k % 256 ^ 31 = k % 256 ^ 31 / 8 * 8 := by unfold clampN H254; omega
  rw [← byt_mod (clampN k) i 31 h2, e, byt_eights _ i h1, byt_mod k i 31 h2]
theorem BA_clamp (k : Int) (hk : N256 k) : ((BA k).setIfInBounds 0 (.int .u8 (byt k 0 / 8 * 8))).setIfInBounds 31 (.int .u8 (byt k 31 % 64 + 64)) = BA (clampN k) := by
  obtain ⟨h0, h1⟩ := hk
  unfold W256 at h1
  apply BA_ext
  · simp [BA_size]
  · intro i hi
    rw [Array.getElem?_setIfInBounds]
    by_cases e : 31 = i
    · subst e
      simp only [if_true, Array.size_setIfInBounds, BA_size]
      rw [if_pos (by omega)]
      congr 2
      unfold byt clampN H254
      omega
    · rw [if_neg e, Array.getElem?_setIfInBounds]
      by_cases e0 : 0 = i
      · subst e0
        simp only [if_true, BA_size]
        rw [if_pos (by omega)]
        congr 2
        unfold byt clampN H254
        omega
      · rw [if_neg e0, BA_get _ _ hi, clamp_mid k i (by omega) (by omega)]
/-- The bits of a number below 2^255, the highest first: the first j of them. -/
def topList (N : Nat) (j : Nat) : List Bool := (List.range j).map fun i => N.testBit (254 - i)
theorem topList_succ (N j : Nat) : topList N (j + 1) = topList N j ++ [N.testBit (254 - j)] := by
  unfold topList; rw [List.range_succ, List.map_append]; rfl
theorem numOfBits_snoc (m : Nat) (bs : List Bool) (b : Bool) : numOfBits m (bs ++ [b]) = 2 * numOfBits m bs + b.toNat := by
  unfold numOfBits; rw [List.foldl_append]; rfl
theorem run_snoc (k x : Fp) (bs : List Bool) (b : Bool) (q : Qd pN) : Qd.run k x (bs ++ [b]) q = Qd.step k x b (Qd.run k x bs q) := by
  unfold Qd.run; rw [List.foldl_append]; rfl
theorem topList_num {N : Nat} (hN : N < 2 ^ 255) (j : Nat) (hj : j ≤ 255) : numOfBits 0 (topList N j) = N / 2 ^ (255 - j) := by
  induction j with
  | zero => rw [Nat.div_eq_of_lt (by simpa using hN)]; rfl
  | succ j ih =>
    rw [topList_succ, numOfBits_snoc, ih (by omega), Nat.testBit_eq_decide_div_mod_eq, show 255 - (j + 1) = 254 - j by omega, show 255 - j = (254 - j) + 1 by omega, Nat.pow_succ, ← Nat.div_div_eq_div_mul]
    generalize N / 2 ^ (254 - j) = G
    by_cases h : G % 2 = 1 <;> simp [h] <;> omega
theorem topList_all {N : Nat} (hN : N < 2 ^ 255) : numOfBits 0 (topList N 255) = N := by rw [topList_num hN 255 (Nat.le_refl _)]; simp
def keyBits (k : Int) : List Bool := topList (clampN k).toNat 255
theorem keyBits_num (k : Int) : numOfBits 0 (keyBits k) = (clampN k).toNat := topList_all (by have h := clampN_range k; unfold W255 at h; omega)
theorem keyBits_key (k : Int) : KeyN (numOfBits 0 (keyBits k)) := by rw [keyBits_num]; exact clampN_key k
/-- X25519, as a number. -/
def tN (k u : Int) : Int := ((Lad Kp kN (ofI (u % W255)) (keyBits k)).val : Int)
theorem tN_range (k u : Int) : 0 ≤ tN k u ∧ tN k u < P255 := by
  have h := (Lad Kp kN (ofI (u % W255)) (keyBits k)).isLt
  have h2 := pN_int
  unfold tN
  omega
theorem tN_256 (k u : Int) : N256 (tN k u) := by
  have h := tN_range k u
  unfold N256 W256
  unfold P255 at h
  omega
theorem tN_self (k u : Int) : ofI (tN k u % W255) = Lad Kp kN (ofI (u % W255)) (keyBits k) := by
  have h := tN_range k u
  rw [Int.emod_eq_of_lt h.1 (by unfold P255 at h; unfold W255; omega)]
  exact ofI_self _
theorem tN_turns (a b u : Int) : tN a (tN b u) = tN b (tN a u) := by
  show ((Lad Kp kN (ofI (tN b u % W255)) (keyBits a)).val : Int) = ((Lad Kp kN (ofI (tN a u % W255)) (keyBits b)).val : Int)
  rw [tN_self, tN_self, curve_turns _ (keyBits_key a) (keyBits_key b)]
theorem nine_of : ofI ((9 : Int) % W255) = 9 := fp_ext (by rw [ofI_val]; decide +kernel)
theorem tN_meets (a b : Int) : tN a (tN b 9) ≠ 0 := by
  show ((Lad Kp kN (ofI (tN b 9 % W255)) (keyBits a)).val : Int) ≠ 0
  rw [tN_self, nine_of]
  intro h
  exact curve_meets (keyBits_key a) (keyBits_key b) (fp_ext (by rw [h]; rfl))
theorem tN_mod (k u : Int) : tN k u % P255 = tN k u := Int.emod_eq_of_lt (tN_range k u).1 (tN_range k u).2
/-- What does not count. -/
theorem tN_loose {k l u v : Int} (hk : clampN l = clampN k) (hu : v % W255 % P255 = u % W255 % P255) : tN l v = tN k u := by
  unfold tN keyBits
  rw [hk, show ofI (v % W255) = ofI (u % W255) from ofI_eq.2 hu]
/-- The four elements on the way, as numbers. -/
def QI (x z v w : Int) : Qd pN := ⟨ofI x, ofI z, ofI v, ofI w⟩
/-- A bit as the code asks it. -/
theorem key_bit (N : Int) (j : Nat) (h0 : 0 ≤ N) :
    (bits BinOp.and IntKind.u8 (byt N ((254 - j) / 8) / 2 ^ ((254 - j) % 8)) 1 == 1) = N.toNat.testBit (254 - j) := by
  have hb := byt_byte N ((254 - j) / 8)
  unfold Byte at hb
  have hp : (0 : Int) < 2 ^ ((254 - j) % 8) := Int.pow_pos (by decide)
  have h1 : 0 ≤ byt N ((254 - j) / 8) / 2 ^ ((254 - j) % 8) := Int.ediv_nonneg hb.1 (by omega)
  have h2 : byt N ((254 - j) / 8) / 2 ^ ((254 - j) % 8) < 256 := by
    have := Int.ediv_le_self (2 ^ ((254 - j) % 8)) hb.1
    omega
  rw [and_one_u8 _ h1 h2, byt_bit N (254 - j) h0, Nat.testBit_eq_decide_div_mod_eq]
  generalize N.toNat / 2 ^ (254 - j) = G
  have hG : G % 2 = 0 ∨ G % 2 = 1 := by omega
  rcases hG with hG | hG <;> simp [hG]
/-- The end. -/
theorem lad_end (k u X Z V W : Int) (h : Qd.run kN (ofI (u % W255)) (keyBits k) (Qd.start (ofI (u % W255))) = QI X Z V W) : (X * invN Z) % P255 = tN k u := by
  unfold tN Lad
  rw [h]
  show _ = ((ofI X * Kp.inv (ofI Z)).val : Int)
  rw [Kp_inv, ← ofI_mul, ofI_val]
end Go.Proofs.YtpcpcgfljffkeaaDoor
/-
  Own text. What the document's step (layer 2) gives: the ladder's step.
-/
namespace Go.Proofs.YtpcpcgfljffkeaaDoor
open Go.RowKit Go.Proofs
theorem enterRTimes (args : Array Value) (w : World) : (callFunc 28 args).run Tryd.prog w = .ok (.enter 28 args) w := by kernel_rfl
theorem enterRPlus (args : Array Value) (w : World) : (callFunc 41 args).run Tryd.prog w = .ok (.enter 41 args) w := by kernel_rfl
theorem enterRSub (args : Array Value) (w : World) : (callFunc 42 args).run Tryd.prog w = .ok (.enter 42 args) w := by kernel_rfl
theorem enterSquare (args : Array Value) (w : World) : (callFunc 43 args).run Tryd.prog w = .ok (.enter 43 args) w := by kernel_rfl
/-- What is known of a slot: a value; or that it points to a row of its own. -/
inductive Kn where
  | val (v : Value)
  | fresh (t : TypeId) (n : Nat)
def kn (B : Nat) (L : List Kn) (i : Nat) (v : Value) (w : World) : Prop :=
  match L.getD i (.val undef) with
  | .val u => v = u
  | .fresh t m => ∃ b, v = .pointer (some ⟨b, 0, none⟩) ∧ B ≤ b ∧ ∃ cs : Array Value, w.heap[b]? = some (.cells cs t (0, 0)) ∧ cs.size = m
theorem kn_fresh {B : Nat} {L : List Kn} {i : Nat} {v : Value} {w : World} {t : TypeId} {m : Nat} (h : kn B L i v w) (hL : L.getD i (.val undef) = .fresh t m) : ∃ b, v = .pointer (some ⟨b, 0, none⟩) ∧ B ≤ b ∧ ∃ cs : Array Value, w.heap[b]? = some (.cells cs t (0, 0)) ∧ cs.size = m := by
  unfold kn at h
  rw [hL] at h
  exact h
theorem kn_val {B : Nat} {L : List Kn} {i : Nat} {v u : Value} {w : World} (h : kn B L i v w) (hL : L.getD i (.val undef) = .val u) : v = u := by
  unfold kn at h
  rw [hL] at h
  exact h
theorem kn_keeps (B : Nat) (L : List Kn) (i : Nat) (v : Value) (w w' : World) (h : kn B L i v w) (hb : Below w.heap.size w w') : kn B L i v w' := by
  unfold kn at *
  split at h
  · exact h
  · obtain ⟨b, e, hB, cs, hc, hs⟩ := h
    exact ⟨b, e, hB, cs, bheap hb hc (heap_lt hc), hs⟩
theorem act_allocP {o : Oper} {a : Act} {w : World} {K : Act → World → Prop} {Q : Exit → Act → World → Prop} (ho : o.op = .alloc 46)
    (h : ∀ w' b, Below w.heap.size w w' → w.heap.size ≤ b → (∃ cs : Array Value, w'.heap[b]? = some (.cells cs 46 (0, 0)) ∧ cs.size = 128) → K (a.put o.dst (.pointer (some ⟨b, 0, none⟩))) w') : o.wp Tryd.prog a w K Q := by
  have hz := zero_point w
  unfold Oper.wp execOp
  simp only [ho]
  simp [go_sem, hz]
  exact h _ _ ((Below.refl _ _).alloc (Nat.le_refl _) _) (Nat.le_refl _) ⟨_, heap_alloc_new w _, Q4_size 0 0 0 0⟩
theorem run_many (w : World) : (Instr.build 22 #[(0, .int .u8 65), (1, .int .u8 219), (2, .int .u8 1)]).run Tryd.prog w = .ok (.agg (BA 121665)) w := by kernel_rfl
theorem exec_many {a : Act} {o : Oper} {w : World} (ho : o.op = .build 22 #[(0, .const (.int .u8 65)), (1, .const (.int .u8 219)), (2, .const (.int .u8 1))]) : (execOp a.eval o).run Tryd.prog w = .ok (.value (.agg (BA 121665))) w := by
  have h := run_many w
  unfold execOp
  simp only [ho, List.map_toArray, List.map_cons, List.map_nil, Act.eval, Sem.run_bind, h, Result.andThen_ok, Sem.run_pure]
theorem kN_ofI : kN = ofI 121665 := fp_ext (by rw [ofI_val]; decide +kernel)
theorem step_link (b : Bool) (x z v w u X Z V W a1 b1 c1 d1 aa bb ee da cb nx t1 t2 nz t3 nv t4 t5 nw : Int) (hX : tb b x v = X) (hZ : tb b z w = Z) (hV : tb b v x = V) (hW : tb b w z = W)
    (ha1 : (X + Z) % P255 = a1) (hb1 : (X - Z) % P255 = b1) (hc1 : (V + W) % P255 = c1) (hd1 : (V - W) % P255 = d1) (haa : a1 * a1 % P255 = aa) (hbb : b1 * b1 % P255 = bb) (hee : (aa - bb) % P255 = ee) (hda : d1 * a1 % P255 = da) (hcb : c1 * b1 % P255 = cb)
    (hnx : aa * bb % P255 = nx) (ht1 : 121665 * ee % P255 = t1) (ht2 : (aa + t1) % P255 = t2) (hnz : ee * t2 % P255 = nz) (ht3 : (da + cb) % P255 = t3) (hnv : t3 * t3 % P255 = nv) (ht4 : (da - cb) % P255 = t4) (ht5 : t4 * t4 % P255 = t5) (hnw : u * t5 % P255 = nw) :
    QI (tb b nx nv) (tb b nz nw) (tb b nv nx) (tb b nw nz) = Qd.step kN (ofI u) b (QI x z v w) := by
  rw [kN_ofI]
  subst hX hZ hV hW ha1 hb1 hc1 hd1 haa hbb hee hda hcb hnx ht1 ht2 hnz ht3 hnv ht4 ht5 hnw
  cases b <;> simp only [tb, QI, Qd.step, Qd.turn, Qd.core, Bool.false_eq_true, if_false, if_true, ofI_mod, ofI_mul, ofI_add, ofI_sub]
theorem tb_256 {b : Bool} {p q : Int} (hp : N256 p) (hq : N256 q) : N256 (tb b p q) := by cases b <;> simp only [tb, Bool.false_eq_true, if_false, if_true] <;> assumption
set_option maxHeartbeats 1000000 in
set_option maxRecDepth 100000 in
theorem step_any (x z v w u : Int) (b : Bool) (wd : World) (hx : N256 x) (hz : N256 z) (hv : N256 v) (hw : N256 w) (NU : N256 u) :
    Calls Tryd.prog 27 #[.agg (Q4 x z v w), .agg (BA u), .bool b] wd fun e w' => (∃ x' z' v' w2, e = .returned (.agg (Q4 x' z' v' w2)) ∧ N256 x' ∧ N256 z' ∧ N256 v' ∧ N256 w2 ∧ QI x' z' v' w2 = Qd.step kN (ofI u) b (QI x z v w)) ∧ Below wd.heap.size wd w' := by
  have hzero := zero_point
  have NX : N256 (tb b x v) := tb_256 hx hv
  have NZ : N256 (tb b z w) := tb_256 hz hw
  have NV : N256 (tb b v x) := tb_256 hv hx
  have NW : N256 (tb b w z) := tb_256 hw hz
  have Nm : N256 121665 := by unfold N256 W256; omega
  obtain ⟨X, hX⟩ : ∃ y, tb b x v = y := ⟨_, rfl⟩
  obtain ⟨Z, hZ⟩ : ∃ y, tb b z w = y := ⟨_, rfl⟩
  obtain ⟨V, hV⟩ : ∃ y, tb b v x = y := ⟨_, rfl⟩
  obtain ⟨W, hW⟩ : ∃ y, tb b w z = y := ⟨_, rfl⟩
  rw [hX] at NX
  rw [hZ] at NZ
  rw [hV] at NV
  rw [hW] at NW
  have HX := Hid.mk hX
  have HZ := Hid.mk hZ
  have HV := Hid.mk hV
  have HW := Hid.mk hW
  clear hX hZ hV hW hx hz hv hw
  go_enter Tryd.func27, Tryd.ntmps27
  go_wp2_with (first | (refine wl_value rfl (exec_many rfl) ?_) | (refine st_bytesS (n := 121665) (by rfl) (by rfl) (heap_a4r wd _ _ _ _) (by rfl) ?_; intro s0 gm o0) | (refine ld_point rfl _ rfl wd.heap.size x z v w rfl ((o0.block _ (by omega)).trans ((Below.heap_alloc _ _ _ (by simp <;> omega)).trans (heap_a31 wd _ _ _))) ?_))
  have gp := (o0.block wd.heap.size (by omega)).trans ((Below.heap_alloc _ _ _ (by simp <;> omega)).trans (heap_a31 wd _ _ _))
  have gu := (o0.block (wd.heap.size + 1) (by omega)).trans ((Below.heap_alloc _ _ _ (by simp <;> omega)).trans (heap_a32 wd _ _ _))
  have gz := (o0.block (wd.heap.size + 1 + 1) (by omega)).trans ((Below.heap_alloc _ _ _ (by simp <;> omega)).trans (heap_a3 wd _ _ _))
  have hB : Below wd.heap.size wd s0 := by
    refine Below.trans ?_ (Only.below (b := wd.heap.size + 1 + 1 + 1) (B := wd.heap.size) o0 (by omega))
    repeat first | exact Below.refl _ _ | refine Below.alloc ?_ (by simp <;> omega) _
  clear o0
  refine (turned_any x z v w b _).mono ?_
  rintro e v0 ⟨rfl, hb0⟩
  rw [HX.out, HZ.out, HV.out, HW.out]
  replace gp := bheap hb0 gp (heap_lt gp)
  replace gu := bheap hb0 gu (heap_lt gu)
  replace gz := bheap hb0 gz (heap_lt gz)
  replace gm := bheap hb0 gm (heap_lt gm)
  replace hB := Below.trans hB (hb0.mono hB.size)
  clear hb0
  go_wp2_with (refine st_point (g := wd.heap.size) (x := X) (z := Z) (v := V) (w := W) (by rfl) (by rfl) gp (Q4_size _ _ _ _) ?_; intro p0 gq o0; refine Hid.out ?_)
  replace gu := (o0.block _ (by omega)).trans gu
  replace gz := (o0.block _ (by omega)).trans gz
  replace gm := (o0.block _ (by omega)).trans gm
  replace hB := Below.trans hB (Only.below (b := wd.heap.size) (B := wd.heap.size) o0 (Nat.le_refl _))
  clear gp o0
  have gp := gq
  clear gq
  refine Hid.mk ?_
  go_wp2_with (first | (refine ld_mid rfl _ rfl wd.heap.size 0 X rfl (range_of gp (fun j hj => by rw [Nat.zero_add]; exact Q4_0 X Z V W j hj)) ?_) | (refine ld_mid rfl _ rfl wd.heap.size 32 Z rfl (range_of gp (Q4_1 X Z V W)) ?_))
  refine (rplus_any X Z _ NX NZ).mono ?_
  rintro e v1 ⟨rfl, hb1⟩
  replace gp := bheap hb1 gp (heap_lt gp)
  replace gu := bheap hb1 gu (heap_lt gu)
  replace gz := bheap hb1 gz (heap_lt gz)
  replace gm := bheap hb1 gm (heap_lt gm)
  replace hB := Below.trans hB (hb1.mono hB.size)
  clear hb1
  have Na1 : N256 ((X + Z) % P255) := N256.mod _
  generalize ha1 : (X + Z) % P255 = a1 at *
  go_wp2_with (refine st_bytesS (by rfl) (by rfl) (heap_alloc_new v1 _) (by rfl) ?_; intro s1 ga o1; refine Hid.out ?_)
  replace gp := (o1.block _ (Nat.ne_of_lt (heap_lt gp))).trans ((Below.heap_alloc v1 _ _ (heap_lt gp)).trans gp)
  replace gu := (o1.block _ (Nat.ne_of_lt (heap_lt gu))).trans ((Below.heap_alloc v1 _ _ (heap_lt gu)).trans gu)
  replace gz := (o1.block _ (Nat.ne_of_lt (heap_lt gz))).trans ((Below.heap_alloc v1 _ _ (heap_lt gz)).trans gz)
  replace gm := (o1.block _ (Nat.ne_of_lt (heap_lt gm))).trans ((Below.heap_alloc v1 _ _ (heap_lt gm)).trans gm)
  replace hB := Below.trans (hB.alloc hB.size _) (Only.below (b := v1.heap.size) (B := wd.heap.size) o1 hB.size)
  clear o1
  generalize v1.heap.size = b8 at *
  refine Hid.mk ?_
  go_wp2_with (first | (refine ld_mid rfl _ rfl wd.heap.size 0 X rfl (range_of gp (fun j hj => by rw [Nat.zero_add]; exact Q4_0 X Z V W j hj)) ?_) | (refine ld_mid rfl _ rfl wd.heap.size 32 Z rfl (range_of gp (Q4_1 X Z V W)) ?_))
  refine (rsub_any X Z _ NX NZ).mono ?_
  rintro e v2 ⟨rfl, hb2⟩
  replace gp := bheap hb2 gp (heap_lt gp)
  replace gu := bheap hb2 gu (heap_lt gu)
  replace gz := bheap hb2 gz (heap_lt gz)
  replace gm := bheap hb2 gm (heap_lt gm)
  replace ga := bheap hb2 ga (heap_lt ga)
  replace hB := Below.trans hB (hb2.mono hB.size)
  clear hb2
  have Nb1 : N256 ((X - Z) % P255) := N256.mod _
  generalize hb1 : (X - Z) % P255 = b1 at *
  go_wp2_with (refine st_bytesS (by rfl) (by rfl) (heap_alloc_new v2 _) (by rfl) ?_; intro s2 gb o2; refine Hid.out ?_)
  replace gp := (o2.block _ (Nat.ne_of_lt (heap_lt gp))).trans ((Below.heap_alloc v2 _ _ (heap_lt gp)).trans gp)
  replace gu := (o2.block _ (Nat.ne_of_lt (heap_lt gu))).trans ((Below.heap_alloc v2 _ _ (heap_lt gu)).trans gu)
  replace gz := (o2.block _ (Nat.ne_of_lt (heap_lt gz))).trans ((Below.heap_alloc v2 _ _ (heap_lt gz)).trans gz)
  replace gm := (o2.block _ (Nat.ne_of_lt (heap_lt gm))).trans ((Below.heap_alloc v2 _ _ (heap_lt gm)).trans gm)
  replace ga := (o2.block _ (Nat.ne_of_lt (heap_lt ga))).trans ((Below.heap_alloc v2 _ _ (heap_lt ga)).trans ga)
  replace hB := Below.trans (hB.alloc hB.size _) (Only.below (b := v2.heap.size) (B := wd.heap.size) o2 hB.size)
  clear o2
  generalize v2.heap.size = b9 at *
  refine Hid.mk ?_
  go_wp2_with (first | (refine ld_mid rfl _ rfl wd.heap.size 64 V rfl (range_of gp (Q4_2 X Z V W)) ?_) | (refine ld_mid rfl _ rfl wd.heap.size 96 W rfl (range_of gp (Q4_3 X Z V W)) ?_))
  refine (rplus_any V W _ NV NW).mono ?_
  rintro e v3 ⟨rfl, hb3⟩
  replace gp := bheap hb3 gp (heap_lt gp)
  replace gu := bheap hb3 gu (heap_lt gu)
  replace gz := bheap hb3 gz (heap_lt gz)
  replace gm := bheap hb3 gm (heap_lt gm)
  replace ga := bheap hb3 ga (heap_lt ga)
  replace gb := bheap hb3 gb (heap_lt gb)
  replace hB := Below.trans hB (hb3.mono hB.size)
  clear hb3
  have Nc1 : N256 ((V + W) % P255) := N256.mod _
  generalize hc1 : (V + W) % P255 = c1 at *
  go_wp2_with (refine st_bytesS (by rfl) (by rfl) (heap_alloc_new v3 _) (by rfl) ?_; intro s3 gc o3; refine Hid.out ?_)
  replace gp := (o3.block _ (Nat.ne_of_lt (heap_lt gp))).trans ((Below.heap_alloc v3 _ _ (heap_lt gp)).trans gp)
  replace gu := (o3.block _ (Nat.ne_of_lt (heap_lt gu))).trans ((Below.heap_alloc v3 _ _ (heap_lt gu)).trans gu)
  replace gz := (o3.block _ (Nat.ne_of_lt (heap_lt gz))).trans ((Below.heap_alloc v3 _ _ (heap_lt gz)).trans gz)
  replace gm := (o3.block _ (Nat.ne_of_lt (heap_lt gm))).trans ((Below.heap_alloc v3 _ _ (heap_lt gm)).trans gm)
  replace ga := (o3.block _ (Nat.ne_of_lt (heap_lt ga))).trans ((Below.heap_alloc v3 _ _ (heap_lt ga)).trans ga)
  replace gb := (o3.block _ (Nat.ne_of_lt (heap_lt gb))).trans ((Below.heap_alloc v3 _ _ (heap_lt gb)).trans gb)
  replace hB := Below.trans (hB.alloc hB.size _) (Only.below (b := v3.heap.size) (B := wd.heap.size) o3 hB.size)
  clear o3
  generalize v3.heap.size = b10 at *
  refine Hid.mk ?_
  go_wp2_with (first | (refine ld_mid rfl _ rfl wd.heap.size 64 V rfl (range_of gp (Q4_2 X Z V W)) ?_) | (refine ld_mid rfl _ rfl wd.heap.size 96 W rfl (range_of gp (Q4_3 X Z V W)) ?_))
  refine (rsub_any V W _ NV NW).mono ?_
  rintro e v4 ⟨rfl, hb4⟩
  replace gp := bheap hb4 gp (heap_lt gp)
  replace gu := bheap hb4 gu (heap_lt gu)
  replace gz := bheap hb4 gz (heap_lt gz)
  replace gm := bheap hb4 gm (heap_lt gm)
  replace ga := bheap hb4 ga (heap_lt ga)
  replace gb := bheap hb4 gb (heap_lt gb)
  replace gc := bheap hb4 gc (heap_lt gc)
  replace hB := Below.trans hB (hb4.mono hB.size)
  clear hb4
  have Nd1 : N256 ((V - W) % P255) := N256.mod _
  generalize hd1 : (V - W) % P255 = d1 at *
  go_wp2_with (refine st_bytesS (by rfl) (by rfl) (heap_alloc_new v4 _) (by rfl) ?_; intro s4 gd o4; refine Hid.out ?_)
  replace gp := (o4.block _ (Nat.ne_of_lt (heap_lt gp))).trans ((Below.heap_alloc v4 _ _ (heap_lt gp)).trans gp)
  replace gu := (o4.block _ (Nat.ne_of_lt (heap_lt gu))).trans ((Below.heap_alloc v4 _ _ (heap_lt gu)).trans gu)
  replace gz := (o4.block _ (Nat.ne_of_lt (heap_lt gz))).trans ((Below.heap_alloc v4 _ _ (heap_lt gz)).trans gz)
  replace gm := (o4.block _ (Nat.ne_of_lt (heap_lt gm))).trans ((Below.heap_alloc v4 _ _ (heap_lt gm)).trans gm)
  replace ga := (o4.block _ (Nat.ne_of_lt (heap_lt ga))).trans ((Below.heap_alloc v4 _ _ (heap_lt ga)).trans ga)
  replace gb := (o4.block _ (Nat.ne_of_lt (heap_lt gb))).trans ((Below.heap_alloc v4 _ _ (heap_lt gb)).trans gb)
  replace gc := (o4.block _ (Nat.ne_of_lt (heap_lt gc))).trans ((Below.heap_alloc v4 _ _ (heap_lt gc)).trans gc)
  replace hB := Below.trans (hB.alloc hB.size _) (Only.below (b := v4.heap.size) (B := wd.heap.size) o4 hB.size)
  clear o4
  generalize v4.heap.size = b11 at *
  refine Hid.mk ?_
  go_wp2_with (first | (refine ld_bytes rfl _ rfl _ _ rfl ga (BA_size _) ?_))
  refine (square_any a1 _ Na1).mono ?_
  rintro e v5 ⟨rfl, hb5⟩
  replace gp := bheap hb5 gp (heap_lt gp)
  replace gu := bheap hb5 gu (heap_lt gu)
  replace gz := bheap hb5 gz (heap_lt gz)
  replace gm := bheap hb5 gm (heap_lt gm)
  replace ga := bheap hb5 ga (heap_lt ga)
  replace gb := bheap hb5 gb (heap_lt gb)
  replace gc := bheap hb5 gc (heap_lt gc)
  replace gd := bheap hb5 gd (heap_lt gd)
  replace hB := Below.trans hB (hb5.mono hB.size)
  clear hb5
  have Naa : N256 (a1 * a1 % P255) := N256.mod _
  generalize haa : a1 * a1 % P255 = aa at *
  go_wp2_with (refine st_bytesS (by rfl) (by rfl) (heap_alloc_new v5 _) (by rfl) ?_; intro s5 gaa o5; refine Hid.out ?_)
  replace gp := (o5.block _ (Nat.ne_of_lt (heap_lt gp))).trans ((Below.heap_alloc v5 _ _ (heap_lt gp)).trans gp)
  replace gu := (o5.block _ (Nat.ne_of_lt (heap_lt gu))).trans ((Below.heap_alloc v5 _ _ (heap_lt gu)).trans gu)
  replace gz := (o5.block _ (Nat.ne_of_lt (heap_lt gz))).trans ((Below.heap_alloc v5 _ _ (heap_lt gz)).trans gz)
  replace gm := (o5.block _ (Nat.ne_of_lt (heap_lt gm))).trans ((Below.heap_alloc v5 _ _ (heap_lt gm)).trans gm)
  replace ga := (o5.block _ (Nat.ne_of_lt (heap_lt ga))).trans ((Below.heap_alloc v5 _ _ (heap_lt ga)).trans ga)
  replace gb := (o5.block _ (Nat.ne_of_lt (heap_lt gb))).trans ((Below.heap_alloc v5 _ _ (heap_lt gb)).trans gb)
  replace gc := (o5.block _ (Nat.ne_of_lt (heap_lt gc))).trans ((Below.heap_alloc v5 _ _ (heap_lt gc)).trans gc)
  replace gd := (o5.block _ (Nat.ne_of_lt (heap_lt gd))).trans ((Below.heap_alloc v5 _ _ (heap_lt gd)).trans gd)
  replace hB := Below.trans (hB.alloc hB.size _) (Only.below (b := v5.heap.size) (B := wd.heap.size) o5 hB.size)
  clear o5
  generalize v5.heap.size = b12 at *
  refine Hid.mk ?_
  go_wp2_with (first | (refine ld_bytes rfl _ rfl _ _ rfl gb (BA_size _) ?_))
  refine (square_any b1 _ Nb1).mono ?_
  rintro e v6 ⟨rfl, hb6⟩
  replace gp := bheap hb6 gp (heap_lt gp)
  replace gu := bheap hb6 gu (heap_lt gu)
  replace gz := bheap hb6 gz (heap_lt gz)
  replace gm := bheap hb6 gm (heap_lt gm)
  replace ga := bheap hb6 ga (heap_lt ga)
  replace gb := bheap hb6 gb (heap_lt gb)
  replace gc := bheap hb6 gc (heap_lt gc)
  replace gd := bheap hb6 gd (heap_lt gd)
  replace gaa := bheap hb6 gaa (heap_lt gaa)
  replace hB := Below.trans hB (hb6.mono hB.size)
  clear hb6
  have Nbb : N256 (b1 * b1 % P255) := N256.mod _
  generalize hbb : b1 * b1 % P255 = bb at *
  go_wp2_with (refine st_bytesS (by rfl) (by rfl) (heap_alloc_new v6 _) (by rfl) ?_; intro s6 gbb o6; refine Hid.out ?_)
  replace gp := (o6.block _ (Nat.ne_of_lt (heap_lt gp))).trans ((Below.heap_alloc v6 _ _ (heap_lt gp)).trans gp)
  replace gu := (o6.block _ (Nat.ne_of_lt (heap_lt gu))).trans ((Below.heap_alloc v6 _ _ (heap_lt gu)).trans gu)
  replace gz := (o6.block _ (Nat.ne_of_lt (heap_lt gz))).trans ((Below.heap_alloc v6 _ _ (heap_lt gz)).trans gz)
  replace gm := (o6.block _ (Nat.ne_of_lt (heap_lt gm))).trans ((Below.heap_alloc v6 _ _ (heap_lt gm)).trans gm)
  replace ga := (o6.block _ (Nat.ne_of_lt (heap_lt ga))).trans ((Below.heap_alloc v6 _ _ (heap_lt ga)).trans ga)
  replace gb := (o6.block _ (Nat.ne_of_lt (heap_lt gb))).trans ((Below.heap_alloc v6 _ _ (heap_lt gb)).trans gb)
  replace gc := (o6.block _ (Nat.ne_of_lt (heap_lt gc))).trans ((Below.heap_alloc v6 _ _ (heap_lt gc)).trans gc)
  replace gd := (o6.block _ (Nat.ne_of_lt (heap_lt gd))).trans ((Below.heap_alloc v6 _ _ (heap_lt gd)).trans gd)
  replace gaa := (o6.block _ (Nat.ne_of_lt (heap_lt gaa))).trans ((Below.heap_alloc v6 _ _ (heap_lt gaa)).trans gaa)
  replace hB := Below.trans (hB.alloc hB.size _) (Only.below (b := v6.heap.size) (B := wd.heap.size) o6 hB.size)
  clear o6
  generalize v6.heap.size = b13 at *
  refine Hid.mk ?_
  go_wp2_with (first | (refine ld_bytes rfl _ rfl _ _ rfl gaa (BA_size _) ?_) | (refine ld_bytes rfl _ rfl _ _ rfl gbb (BA_size _) ?_))
  refine (rsub_any aa bb _ Naa Nbb).mono ?_
  rintro e v7 ⟨rfl, hb7⟩
  replace gp := bheap hb7 gp (heap_lt gp)
  replace gu := bheap hb7 gu (heap_lt gu)
  replace gz := bheap hb7 gz (heap_lt gz)
  replace gm := bheap hb7 gm (heap_lt gm)
  replace ga := bheap hb7 ga (heap_lt ga)
  replace gb := bheap hb7 gb (heap_lt gb)
  replace gc := bheap hb7 gc (heap_lt gc)
  replace gd := bheap hb7 gd (heap_lt gd)
  replace gaa := bheap hb7 gaa (heap_lt gaa)
  replace gbb := bheap hb7 gbb (heap_lt gbb)
  replace hB := Below.trans hB (hb7.mono hB.size)
  clear hb7
  have Nee : N256 ((aa - bb) % P255) := N256.mod _
  generalize hee : (aa - bb) % P255 = ee at *
  go_wp2_with (refine st_bytesS (by rfl) (by rfl) (heap_alloc_new v7 _) (by rfl) ?_; intro s7 gee o7; refine Hid.out ?_)
  replace gp := (o7.block _ (Nat.ne_of_lt (heap_lt gp))).trans ((Below.heap_alloc v7 _ _ (heap_lt gp)).trans gp)
  replace gu := (o7.block _ (Nat.ne_of_lt (heap_lt gu))).trans ((Below.heap_alloc v7 _ _ (heap_lt gu)).trans gu)
  replace gz := (o7.block _ (Nat.ne_of_lt (heap_lt gz))).trans ((Below.heap_alloc v7 _ _ (heap_lt gz)).trans gz)
  replace gm := (o7.block _ (Nat.ne_of_lt (heap_lt gm))).trans ((Below.heap_alloc v7 _ _ (heap_lt gm)).trans gm)
  replace ga := (o7.block _ (Nat.ne_of_lt (heap_lt ga))).trans ((Below.heap_alloc v7 _ _ (heap_lt ga)).trans ga)
  replace gb := (o7.block _ (Nat.ne_of_lt (heap_lt gb))).trans ((Below.heap_alloc v7 _ _ (heap_lt gb)).trans gb)
  replace gc := (o7.block _ (Nat.ne_of_lt (heap_lt gc))).trans ((Below.heap_alloc v7 _ _ (heap_lt gc)).trans gc)
  replace gd := (o7.block _ (Nat.ne_of_lt (heap_lt gd))).trans ((Below.heap_alloc v7 _ _ (heap_lt gd)).trans gd)
  replace gaa := (o7.block _ (Nat.ne_of_lt (heap_lt gaa))).trans ((Below.heap_alloc v7 _ _ (heap_lt gaa)).trans gaa)
  replace gbb := (o7.block _ (Nat.ne_of_lt (heap_lt gbb))).trans ((Below.heap_alloc v7 _ _ (heap_lt gbb)).trans gbb)
  replace hB := Below.trans (hB.alloc hB.size _) (Only.below (b := v7.heap.size) (B := wd.heap.size) o7 hB.size)
  clear o7
  generalize v7.heap.size = b14 at *
  refine Hid.mk ?_
  go_wp2_with (first | (refine ld_bytes rfl _ rfl _ _ rfl gd (BA_size _) ?_) | (refine ld_bytes rfl _ rfl _ _ rfl ga (BA_size _) ?_))
  refine (rtimes_any d1 a1 _ Nd1 Na1).mono ?_
  rintro e v8 ⟨rfl, hb8⟩
  replace gp := bheap hb8 gp (heap_lt gp)
  replace gu := bheap hb8 gu (heap_lt gu)
  replace gz := bheap hb8 gz (heap_lt gz)
  replace gm := bheap hb8 gm (heap_lt gm)
  replace ga := bheap hb8 ga (heap_lt ga)
  replace gb := bheap hb8 gb (heap_lt gb)
  replace gc := bheap hb8 gc (heap_lt gc)
  replace gd := bheap hb8 gd (heap_lt gd)
  replace gaa := bheap hb8 gaa (heap_lt gaa)
  replace gbb := bheap hb8 gbb (heap_lt gbb)
  replace gee := bheap hb8 gee (heap_lt gee)
  replace hB := Below.trans hB (hb8.mono hB.size)
  clear hb8
  have Nda : N256 (d1 * a1 % P255) := N256.mod _
  generalize hda : d1 * a1 % P255 = da at *
  go_wp2_with (refine st_bytesS (by rfl) (by rfl) (heap_alloc_new v8 _) (by rfl) ?_; intro s8 gda o8; refine Hid.out ?_)
  replace gp := (o8.block _ (Nat.ne_of_lt (heap_lt gp))).trans ((Below.heap_alloc v8 _ _ (heap_lt gp)).trans gp)
  replace gu := (o8.block _ (Nat.ne_of_lt (heap_lt gu))).trans ((Below.heap_alloc v8 _ _ (heap_lt gu)).trans gu)
  replace gz := (o8.block _ (Nat.ne_of_lt (heap_lt gz))).trans ((Below.heap_alloc v8 _ _ (heap_lt gz)).trans gz)
  replace gm := (o8.block _ (Nat.ne_of_lt (heap_lt gm))).trans ((Below.heap_alloc v8 _ _ (heap_lt gm)).trans gm)
  replace ga := (o8.block _ (Nat.ne_of_lt (heap_lt ga))).trans ((Below.heap_alloc v8 _ _ (heap_lt ga)).trans ga)
  replace gb := (o8.block _ (Nat.ne_of_lt (heap_lt gb))).trans ((Below.heap_alloc v8 _ _ (heap_lt gb)).trans gb)
  replace gc := (o8.block _ (Nat.ne_of_lt (heap_lt gc))).trans ((Below.heap_alloc v8 _ _ (heap_lt gc)).trans gc)
  replace gd := (o8.block _ (Nat.ne_of_lt (heap_lt gd))).trans ((Below.heap_alloc v8 _ _ (heap_lt gd)).trans gd)
  replace gaa := (o8.block _ (Nat.ne_of_lt (heap_lt gaa))).trans ((Below.heap_alloc v8 _ _ (heap_lt gaa)).trans gaa)
  replace gbb := (o8.block _ (Nat.ne_of_lt (heap_lt gbb))).trans ((Below.heap_alloc v8 _ _ (heap_lt gbb)).trans gbb)
  replace gee := (o8.block _ (Nat.ne_of_lt (heap_lt gee))).trans ((Below.heap_alloc v8 _ _ (heap_lt gee)).trans gee)
  replace hB := Below.trans (hB.alloc hB.size _) (Only.below (b := v8.heap.size) (B := wd.heap.size) o8 hB.size)
  clear o8
  generalize v8.heap.size = b15 at *
  refine Hid.mk ?_
  go_wp2_with (first | (refine ld_bytes rfl _ rfl _ _ rfl gc (BA_size _) ?_) | (refine ld_bytes rfl _ rfl _ _ rfl gb (BA_size _) ?_))
  refine (rtimes_any c1 b1 _ Nc1 Nb1).mono ?_
  rintro e v9 ⟨rfl, hb9⟩
  replace gp := bheap hb9 gp (heap_lt gp)
  replace gu := bheap hb9 gu (heap_lt gu)
  replace gz := bheap hb9 gz (heap_lt gz)
  replace gm := bheap hb9 gm (heap_lt gm)
  replace ga := bheap hb9 ga (heap_lt ga)
  replace gb := bheap hb9 gb (heap_lt gb)
  replace gc := bheap hb9 gc (heap_lt gc)
  replace gd := bheap hb9 gd (heap_lt gd)
  replace gaa := bheap hb9 gaa (heap_lt gaa)
  replace gbb := bheap hb9 gbb (heap_lt gbb)
  replace gee := bheap hb9 gee (heap_lt gee)
  replace gda := bheap hb9 gda (heap_lt gda)
  replace hB := Below.trans hB (hb9.mono hB.size)
  clear hb9
  have Ncb : N256 (c1 * b1 % P255) := N256.mod _
  generalize hcb : c1 * b1 % P255 = cb at *
  go_wp2_with (refine st_bytesS (by rfl) (by rfl) (heap_alloc_new v9 _) (by rfl) ?_; intro s9 gcb o9; refine Hid.out ?_)
  replace gp := (o9.block _ (Nat.ne_of_lt (heap_lt gp))).trans ((Below.heap_alloc v9 _ _ (heap_lt gp)).trans gp)
  replace gu := (o9.block _ (Nat.ne_of_lt (heap_lt gu))).trans ((Below.heap_alloc v9 _ _ (heap_lt gu)).trans gu)
  replace gz := (o9.block _ (Nat.ne_of_lt (heap_lt gz))).trans ((Below.heap_alloc v9 _ _ (heap_lt gz)).trans gz)
  replace gm := (o9.block _ (Nat.ne_of_lt (heap_lt gm))).trans ((Below.heap_alloc v9 _ _ (heap_lt gm)).trans gm)
  replace ga := (o9.block _ (Nat.ne_of_lt (heap_lt ga))).trans ((Below.heap_alloc v9 _ _ (heap_lt ga)).trans ga)
  replace gb := (o9.block _ (Nat.ne_of_lt (heap_lt gb))).trans ((Below.heap_alloc v9 _ _ (heap_lt gb)).trans gb)
  replace gc := (o9.block _ (Nat.ne_of_lt (heap_lt gc))).trans ((Below.heap_alloc v9 _ _ (heap_lt gc)).trans gc)
  replace gd := (o9.block _ (Nat.ne_of_lt (heap_lt gd))).trans ((Below.heap_alloc v9 _ _ (heap_lt gd)).trans gd)
  replace gaa := (o9.block _ (Nat.ne_of_lt (heap_lt gaa))).trans ((Below.heap_alloc v9 _ _ (heap_lt gaa)).trans gaa)
  replace gbb := (o9.block _ (Nat.ne_of_lt (heap_lt gbb))).trans ((Below.heap_alloc v9 _ _ (heap_lt gbb)).trans gbb)
  replace gee := (o9.block _ (Nat.ne_of_lt (heap_lt gee))).trans ((Below.heap_alloc v9 _ _ (heap_lt gee)).trans gee)
  replace gda := (o9.block _ (Nat.ne_of_lt (heap_lt gda))).trans ((Below.heap_alloc v9 _ _ (heap_lt gda)).trans gda)
  replace hB := Below.trans (hB.alloc hB.size _) (Only.below (b := v9.heap.size) (B := wd.heap.size) o9 hB.size)
  clear o9
  generalize v9.heap.size = b16 at *
  refine Hid.mk ?_
  have Ha1 := Hid.mk ha1
  clear ha1
  have Hb1 := Hid.mk hb1
  clear hb1
  have Hc1 := Hid.mk hc1
  clear hc1
  have Hd1 := Hid.mk hd1
  clear hd1
  have Haa := Hid.mk haa
  clear haa
  have Hbb := Hid.mk hbb
  clear hbb
  have Hee := Hid.mk hee
  clear hee
  have Hda := Hid.mk hda
  clear hda
  have Hcb := Hid.mk hcb
  clear hcb
  obtain ⟨nx, hnx⟩ : ∃ y, aa * bb % P255 = y := ⟨_, rfl⟩
  have Nnx : N256 nx := hnx ▸ N256.mod _
  have Hnx := Hid.mk hnx
  clear hnx
  obtain ⟨t1, ht1⟩ : ∃ y, 121665 * ee % P255 = y := ⟨_, rfl⟩
  have Nt1 : N256 t1 := ht1 ▸ N256.mod _
  have Ht1 := Hid.mk ht1
  clear ht1
  obtain ⟨t2, ht2⟩ : ∃ y, (aa + t1) % P255 = y := ⟨_, rfl⟩
  have Nt2 : N256 t2 := ht2 ▸ N256.mod _
  have Ht2 := Hid.mk ht2
  clear ht2
  obtain ⟨nz, hnz⟩ : ∃ y, ee * t2 % P255 = y := ⟨_, rfl⟩
  have Nnz : N256 nz := hnz ▸ N256.mod _
  have Hnz := Hid.mk hnz
  clear hnz
  obtain ⟨t3, ht3⟩ : ∃ y, (da + cb) % P255 = y := ⟨_, rfl⟩
  have Nt3 : N256 t3 := ht3 ▸ N256.mod _
  have Ht3 := Hid.mk ht3
  clear ht3
  obtain ⟨nv, hnv⟩ : ∃ y, t3 * t3 % P255 = y := ⟨_, rfl⟩
  have Nnv : N256 nv := hnv ▸ N256.mod _
  have Hnv := Hid.mk hnv
  clear hnv
  obtain ⟨t4, ht4⟩ : ∃ y, (da - cb) % P255 = y := ⟨_, rfl⟩
  have Nt4 : N256 t4 := ht4 ▸ N256.mod _
  have Ht4 := Hid.mk ht4
  clear ht4
  obtain ⟨t5, ht5⟩ : ∃ y, t4 * t4 % P255 = y := ⟨_, rfl⟩
  have Nt5 : N256 t5 := ht5 ▸ N256.mod _
  have Ht5 := Hid.mk ht5
  clear ht5
  obtain ⟨nw, hnw⟩ : ∃ y, u * t5 % P255 = y := ⟨_, rfl⟩
  have Nnw : N256 nw := hnw ▸ N256.mod _
  have Hnw := Hid.mk hnw
  clear hnw
  go_wp2_with fail
  refine wp_region_steps2 22 _ (fun v => v.heap[b12]? = some (.cells (BA aa) 22 (0, 0)) ∧ v.heap[b13]? = some (.cells (BA bb) 22 (0, 0)) ∧ v.heap[b14]? = some (.cells (BA ee) 22 (0, 0)) ∧ v.heap[b15]? = some (.cells (BA da) 22 (0, 0)) ∧ v.heap[b16]? = some (.cells (BA cb) 22 (0, 0)) ∧ v.heap[(wd.heap.size + 1)]? = some (.cells (BA u) 22 (0, 0)) ∧ v.heap[(wd.heap.size + 1 + 1 + 1)]? = some (.cells (BA 121665) 22 (0, 0)) ∧ v.heap[wd.heap.size + 1 + 1]? = some (.cells (Q4 0 0 0 0) 46 (0, 0)) ∧ Below wd.heap.size wd v) (fun v v' => Below v.heap.size v v') (kn (wd.heap.size + 1 + 1 + 1 + 1) [.val (.agg (BA aa)), .val (.agg (BA bb)), .val (.agg (BA nx)), .val (.agg (BA ee)), .val (.agg (BA aa)), .val (.agg (BA 121665)), .val (.agg (BA ee)), .val (.agg (BA t1)), .val (.agg (BA t2)), .val (.agg (BA nz)), .val (.agg (BA da)), .val (.agg (BA cb)), .val (.agg (BA t3)), .val (.agg (BA nv)), .val (.agg (BA u)), .val (.agg (BA da)), .val (.agg (BA cb)), .val (.agg (BA t4)), .val (.agg (BA t5)), .val (.agg (BA nw)), .val (.agg (Q4 nx nz nv nw)), .fresh 46 128]) [55, 56, 57, 58, 59, 60, 61, 62, 63, 64, 65, 66, 67, 68, 69, 70, 71, 72, 73, 74, 75, 17]
    [(12, .pointer (some ⟨b12, 0, none⟩)), (13, .pointer (some ⟨b13, 0, none⟩)), (14, .pointer (some ⟨b14, 0, none⟩)), (15, .pointer (some ⟨b15, 0, none⟩)), (16, .pointer (some ⟨b16, 0, none⟩)), (4, .pointer (some ⟨(wd.heap.size + 1), 0, none⟩)), (7, .pointer (some ⟨(wd.heap.size + 1 + 1 + 1), 0, none⟩))] [[], [], [0, 1], [], [], [], [], [5, 6], [4, 7], [3, 8], [], [], [10, 11], [12], [], [], [], [15, 16], [17], [14, 18], [2, 9, 13, 19], []] rfl (by kernel_rfl) rfl ⟨rfl, rfl, rfl, rfl, rfl, rfl, rfl, trivial⟩ ⟨gaa, gbb, gee, gda, gcb, gu, gm, gz, Below.drew hB⟩ (fun v v' h hb => ⟨bheap hb h.1 (heap_lt h.1), bheap hb h.2.1 (heap_lt h.2.1), bheap hb h.2.2.1 (heap_lt h.2.2.1), bheap hb h.2.2.2.1 (heap_lt h.2.2.2.1), bheap hb h.2.2.2.2.1 (heap_lt h.2.2.2.2.1), bheap hb h.2.2.2.2.2.1 (heap_lt h.2.2.2.2.2.1), bheap hb h.2.2.2.2.2.2.1 (heap_lt h.2.2.2.2.2.2.1), bheap hb h.2.2.2.2.2.2.2.1 (heap_lt h.2.2.2.2.2.2.2.1), Below.trans h.2.2.2.2.2.2.2.2 (hb.mono h.2.2.2.2.2.2.2.2.size)⟩) (kn_keeps (wd.heap.size + 1 + 1 + 1 + 1) _)
    ⟨
      -- 0
      (fun Q a1 w hS fr kn => ⟨trivial, fun K hK => wp_value (look_bytes rfl _ _ fr.1 (BA_size _) hS.1) (hK _ _ rfl (Below.refl _ _))⟩),
      -- 1
      (fun Q a1 w hS fr kn => ⟨trivial, fun K hK => wp_value (look_bytes rfl _ _ fr.2.1 (BA_size _) hS.2.1) (hK _ _ rfl (Below.refl _ _))⟩),
      -- 2
      (fun Q a1 w hS fr kn => ⟨trivial, fun K hK => call2 enterRTimes _ _ _ rfl _ _ _ kn.1 kn.2.1 (rtimes_any aa bb w Naa Nbb) (fun w' hb => hK _ _ (by rw [Hnx.out]; rfl) hb)⟩),
      -- 3
      (fun Q a1 w hS fr kn => ⟨trivial, fun K hK => wp_value (look_bytes rfl _ _ fr.2.2.1 (BA_size _) hS.2.2.1) (hK _ _ rfl (Below.refl _ _))⟩),
      -- 4
      (fun Q a1 w hS fr kn => ⟨trivial, fun K hK => wp_value (look_bytes rfl _ _ fr.1 (BA_size _) hS.1) (hK _ _ rfl (Below.refl _ _))⟩),
      -- 5
      (fun Q a1 w hS fr kn => ⟨trivial, fun K hK => wp_value (look_bytes rfl _ _ fr.2.2.2.2.2.2.1 (BA_size _) hS.2.2.2.2.2.2.1) (hK _ _ rfl (Below.refl _ _))⟩),
      -- 6
      (fun Q a1 w hS fr kn => ⟨trivial, fun K hK => wp_value (look_bytes rfl _ _ fr.2.2.1 (BA_size _) hS.2.2.1) (hK _ _ rfl (Below.refl _ _))⟩),
      -- 7
      (fun Q a1 w hS fr kn => ⟨trivial, fun K hK => call2 enterRTimes _ _ _ rfl _ _ _ kn.1 kn.2.1 (rtimes_any 121665 ee w Nm Nee) (fun w' hb => hK _ _ (by rw [Ht1.out]; rfl) hb)⟩),
      -- 8
      (fun Q a1 w hS fr kn => ⟨trivial, fun K hK => call2 enterRPlus _ _ _ rfl _ _ _ kn.1 kn.2.1 (rplus_any aa t1 w Naa Nt1) (fun w' hb => hK _ _ (by rw [Ht2.out]; rfl) hb)⟩),
      -- 9
      (fun Q a1 w hS fr kn => ⟨trivial, fun K hK => call2 enterRTimes _ _ _ rfl _ _ _ kn.1 kn.2.1 (rtimes_any ee t2 w Nee Nt2) (fun w' hb => hK _ _ (by rw [Hnz.out]; rfl) hb)⟩),
      -- 10
      (fun Q a1 w hS fr kn => ⟨trivial, fun K hK => wp_value (look_bytes rfl _ _ fr.2.2.2.1 (BA_size _) hS.2.2.2.1) (hK _ _ rfl (Below.refl _ _))⟩),
      -- 11
      (fun Q a1 w hS fr kn => ⟨trivial, fun K hK => wp_value (look_bytes rfl _ _ fr.2.2.2.2.1 (BA_size _) hS.2.2.2.2.1) (hK _ _ rfl (Below.refl _ _))⟩),
      -- 12
      (fun Q a1 w hS fr kn => ⟨trivial, fun K hK => call2 enterRPlus _ _ _ rfl _ _ _ kn.1 kn.2.1 (rplus_any da cb w Nda Ncb) (fun w' hb => hK _ _ (by rw [Ht3.out]; rfl) hb)⟩),
      -- 13
      (fun Q a1 w hS fr kn => ⟨trivial, fun K hK => call1 enterSquare _ _ rfl _ _ kn.1 (square_any t3 w Nt3) (fun w' hb => hK _ _ (by rw [Hnv.out]; rfl) hb)⟩),
      -- 14
      (fun Q a1 w hS fr kn => ⟨trivial, fun K hK => wp_value (look_bytes rfl _ _ fr.2.2.2.2.2.1 (BA_size _) hS.2.2.2.2.2.1) (hK _ _ rfl (Below.refl _ _))⟩),
      -- 15
      (fun Q a1 w hS fr kn => ⟨trivial, fun K hK => wp_value (look_bytes rfl _ _ fr.2.2.2.1 (BA_size _) hS.2.2.2.1) (hK _ _ rfl (Below.refl _ _))⟩),
      -- 16
      (fun Q a1 w hS fr kn => ⟨trivial, fun K hK => wp_value (look_bytes rfl _ _ fr.2.2.2.2.1 (BA_size _) hS.2.2.2.2.1) (hK _ _ rfl (Below.refl _ _))⟩),
      -- 17
      (fun Q a1 w hS fr kn => ⟨trivial, fun K hK => call2 enterRSub _ _ _ rfl _ _ _ kn.1 kn.2.1 (rsub_any da cb w Nda Ncb) (fun w' hb => hK _ _ (by rw [Ht4.out]; rfl) hb)⟩),
      -- 18
      (fun Q a1 w hS fr kn => ⟨trivial, fun K hK => call1 enterSquare _ _ rfl _ _ kn.1 (square_any t4 w Nt4) (fun w' hb => hK _ _ (by rw [Ht5.out]; rfl) hb)⟩),
      -- 19
      (fun Q a1 w hS fr kn => ⟨trivial, fun K hK => call2 enterRTimes _ _ _ rfl _ _ _ kn.1 kn.2.1 (rtimes_any u t5 w NU Nt5) (fun w' hb => hK _ _ (by rw [Hnw.out]; rfl) hb)⟩),
      -- 20
      (fun Q a1 w hS fr kn => ⟨trivial, fun K hK => wp_value (exec_build4 rfl _ _ _ _ kn.1 kn.2.1 kn.2.2.1 kn.2.2.2.1) (hK _ _ rfl (Below.refl _ _))⟩),
      -- 21
      (fun Q a1 w hS fr kn => ⟨trivial, fun K hK => act_allocP rfl (fun w' b hb hle hnew => hK _ _ ⟨b, rfl, Nat.le_trans (heap_lt hS.2.2.2.2.2.2.1) hle, hnew⟩ hb)⟩),
      trivial⟩ ?_
  intro vs v9 hS9 hk9
  have e75 : vs 75 = .agg (Q4 nx nz nv nw) := kn_val (hk9 20 (by decide)) rfl
  refine Exists.elim (kn_fresh (hk9 21 (by decide)) rfl) ?_
  intro b17 h17
  refine Exists.elim h17.2.2 ?_
  intro cs17 h18
  have e17 : vs 17 = .pointer (some ⟨b17, 0, none⟩) := h17.1
  have hle17 := h17.2.1
  have g17 := h18.1
  have s17 := h18.2
  refine last_point (.tmp 17) (.tmp 75) rfl b17 nx nz nv nw ((eval_putAll (by decide) (show 17 < 79 from by decide)).trans e17) ((eval_putAll (by decide) (show 75 < 79 from by decide)).trans e75) cs17 g17 s17 ?_
  intro v10 g10 o10
  simp only [putAll, Act.put, List.setIfInBounds_toArray, List.set_cons_zero, List.set_cons_succ, e75, e17]
  clear hk9
  have gz9 := hS9.2.2.2.2.2.2.2.1
  have hB9 := hS9.2.2.2.2.2.2.2.2
  have gz10 := (o10.block (wd.heap.size + 1 + 1) (by omega)).trans gz9
  have hB10 : Below wd.heap.size wd v10 := Below.trans hB9 (Only.below (b := b17) (B := wd.heap.size) o10 (by omega))
  clear hS9 gz9 hB9 o10 e75 e17 h17 h18 g17 s17
  go_wp2_with (refine ld_point rfl _ rfl b17 nx nz nv nw rfl g10 ?_)
  refine (turned_any nx nz nv nw b _).mono ?_
  rintro e v11 ⟨rfl, hb11⟩
  have gz11 := bheap hb11 gz10 (heap_lt gz10)
  have hB11 := Below.trans hB10 (hb11.mono hB10.size)
  clear hb11 gz10 hB10 g10
  go_wp2_with (refine st_point (g := wd.heap.size + 1 + 1) (by rfl) (by rfl) gz11 (Q4_size 0 0 0 0) ?_; intro v12 g12 o12)
  exact bodyPost_ret (v := .agg (Q4 (tb b nx nv) (tb b nz nw) (tb b nv nx) (tb b nw nz))) (results_cell_row rfl _ _ _ _ _ _ _ rfl g12 Tryd.underlying46 rfl (by rw [Q4_size]; exact info128)) rfl
    ⟨⟨_, _, _, _, rfl, tb_256 Nnx Nnv, tb_256 Nnz Nnw, tb_256 Nnv Nnx, tb_256 Nnw Nnz, step_link b x z v w u X Z V W a1 b1 c1 d1 aa bb ee da cb nx t1 t2 nz t3 nv t4 t5 nw HX.out HZ.out HV.out HW.out Ha1.out Hb1.out Hc1.out Hd1.out Haa.out Hbb.out Hee.out Hda.out Hcb.out Hnx.out Ht1.out Ht2.out Hnz.out Ht3.out Hnv.out Ht4.out Ht5.out Hnw.out⟩,
      Below.trans hB11 (Only.below (b := wd.heap.size + 1 + 1) (B := wd.heap.size) o12 (by omega))⟩
end Go.Proofs.YtpcpcgfljffkeaaDoor
/-
  Own text. What Clamp and Times of the document's answer for layer 2 give.
-/
namespace Go.Proofs.YtpcpcgfljffkeaaDoor
open Go.RowKit Go.Proofs
set_option maxHeartbeats 1000000 in
set_option maxRecDepth 100000 in
theorem rclamp_any (k : Int) (w : World) (hk : N256 k) :
    Calls Tryd.prog 11 #[.agg (BA k)] w fun e w' => e = .returned (.agg (BA (clampN k))) ∧ Below w.heap.size w w' := by
  have HC := Hid.mk (BA_clamp k hk)
  clear hk
  have h0 := byt_byte k 0
  have h31 := byt_byte k 31
  unfold Byte at h0 h31
  obtain ⟨h00, h01⟩ := h0
  obtain ⟨h310, h311⟩ := h31
  have c0 := BA_get k 0 (by omega)
  have c31 := BA_get k 31 (by omega)
  generalize byt k 0 = x0 at *
  generalize byt k 31 = x31 at *
  go_enter Tryd.func11, Tryd.ntmps11
  go_wp2_with (first | (refine ld_bytes rfl _ rfl w.heap.size ((BA k).setIfInBounds 0 (.int .u8 (x0 / 8 * 8)) |>.setIfInBounds 31 (.int .u8 (x31 % 64 + 64))) rfl (heap_alloc2_old w _ _) (by simp [BA_size]) ?_; rw [HC.out]) | (refine st_bytesS (n := clampN k) (by rfl) (by rfl) (heap_alloc2_new w _ _) (by rfl) ?_; intro v3 g3 o3))
  exact bodyPost_ret (v := .agg (BA (clampN k))) (results_cell_row rfl _ _ _ _ _ _ _ rfl g3 Tryd.underlying22 rfl (by rw [BA_size]; exact info32)) rfl
    ⟨rfl, Below.trans (((Below.refl _ w).alloc (Nat.le_refl _) _).alloc (by simp) _) (Only.below (b := w.heap.size + 1) (B := w.heap.size) o3 (by omega))⟩
theorem look_at {a : Act} {o : Oper} {x : Operand} {w : World} (ho : o.op = .load 22 x) (b off : Nat) (n : Int) (hx : a.eval x = .pointer (some ⟨b, off, none⟩)) (hc : w.rangeAt b off (BA n).toList) :
    (execOp a.eval o).run Tryd.prog w = .ok (.value (.agg (BA n))) w := by
  unfold execOp
  simp only [ho, hx, Instr.loadAt, Instr.sureAddr, Sem.run_bind, Sem.run_pure, Result.andThen_ok, run_loadVar_mid w b off 22 (BA n).toList _ hc Tryd.underlying22 rfl (by rw [Array.length_toList, BA_size]; exact info32), Array.toArray_toList]
theorem run_start (x v w : Int) (wd : World) : (Instr.build 46 #[(0, .agg (BA x)), (2, .agg (BA v)), (3, .agg (BA w))]).run Tryd.prog wd = .ok (.agg (Q4 x 0 v w)) wd := by kernel_rfl
theorem exec_start {a : Act} {o : Oper} {wd : World} {A C D : Operand} (ho : o.op = .build 46 #[(0, A), (2, C), (3, D)]) (x v w : Int) (hA : a.eval A = .agg (BA x)) (hC : a.eval C = .agg (BA v)) (hD : a.eval D = .agg (BA w)) :
    (execOp a.eval o).run Tryd.prog wd = .ok (.value (.agg (Q4 x 0 v w))) wd := by
  have h := run_start x v w wd
  unfold execOp
  simp only [ho, List.map_toArray, List.map_cons, List.map_nil, hA, hC, hD, Sem.run_bind, h, Result.andThen_ok, Sem.run_pure]
theorem start_link (x : Int) : QI 1 0 x 1 = Qd.start (ofI x) := by unfold QI Qd.start; rw [ofI_one, ofI_zero]
theorem mix_point {ops : Array Oper} {Q : Exit → Act → World → Prop} {S : World → Prop} {F : Nat → Nat} {T : Nat → Bool} {i : Nat} {l : List Nat} {o : Oper} {rest : List Oper} {a : Act} {wd : World} {X Y : Operand} {g : Nat} {x z v w : Int} {old : Array Value}
    (hF : F i = 0) (hd : ops.toList.drop i = o :: rest) (hw : Region.wanted o (yielded ops a.tmps) = true) (ho : o.op = .store 46 X Y) (hx : a.eval X = .pointer (some ⟨g, 0, none⟩)) (hy : a.eval Y = .agg (Q4 x z v w))
    (hg : wd.heap[g]? = some (.cells old 46 (0, 0))) (hold : old.size = 128) (hT : T i = false)
    (h : ∀ w2, w2.heap[g]? = some (.cells (Q4 x z v w) 46 (0, 0)) → Only g wd w2 → wpMix Tryd.prog ops Q S F T l (a.put o.dst undef) w2) : wpMix Tryd.prog ops Q S F T (i :: l) a wd :=
  mix_act hF hd hw (fun K hK => act_point X Y ho g x z v w hx hy old hg hold (fun w2 h1 h2 => hK _ _ (fun e => by rw [hT] at e; cases e) (h w2 h1 h2)))
theorem N256_1' : N256 1 := by unfold N256 W256; omega
theorem N256_0' : N256 0 := by unfold N256 W256; omega
def tmF (i : Nat) : Nat := [1, 1, 2, 2, 2, 1, 2, 2, 2, 2, 2, 0, 0].getD i 2
def tmT (i : Nat) : Bool := i != 12
def teF (i : Nat) : Nat := [2, 1, 2, 1, 0, 0, 0].getD i 2
def teT (i : Nat) : Bool := i != 6
set_option maxHeartbeats 1000000 in
set_option maxRecDepth 100000 in
theorem rmult_any (k u : Int) (w : World) (hk : N256 k) :
    Calls Tryd.prog 17 #[.agg (BA k), .agg (BA u)] w fun e w' => e = .returned (.agg (BA (tN k u))) ∧ Below w.heap.size w w' := by
  have hzero := zero_point
  have HK := Hid.mk hk
  have HL := Hid.mk (BA_low u)
  have hx0 : N256 (u % W255) := by unfold N256 W256 W255; omega
  have HX0 := Hid.mk hx0
  have hb31 := byt_byte u 31
  unfold Byte at hb31
  obtain ⟨hb310, hb311⟩ := hb31
  clear hk hx0
  go_enter Tryd.func17, Tryd.ntmps17
  go_wp2_with (refine ld_bytes rfl _ rfl _ _ rfl (heap_a31 w _ _ _) (BA_size _) ?_)
  refine (rclamp_any k _ HK.out).mono ?_
  rintro e v1 ⟨rfl, hb1⟩
  have gk := bheap hb1 (heap_a31 w _ _ _) (by simp <;> omega)
  have gu := bheap hb1 (heap_a32 w _ _ _) (by simp <;> omega)
  have gz := bheap hb1 (heap_a3 w _ _ _) (by simp <;> omega)
  have hB : Below w.heap.size w v1 := by
    refine Below.trans ?_ (hb1.mono (by simp <;> omega))
    repeat first | exact Below.refl _ _ | refine Below.alloc ?_ (by simp <;> omega) _
  clear hb1
  go_wp2_with (refine st_bytesS (by rfl) (by rfl) gk (BA_size _) ?_; intro v2 gk2 o2; refine Hid.out ?_)
  replace gu := (o2.block _ (by omega)).trans gu
  replace gz := (o2.block _ (by omega)).trans gz
  replace hB := Below.trans hB (Only.below (b := w.heap.size) (B := w.heap.size) o2 (Nat.le_refl _))
  clear gk o2
  refine Hid.mk ?_
  have cu := (cell_of_row v2 (w.heap.size + 1) 31 _ _ _ gu).trans (BA_get u 31 (by omega))
  have fu := frozen_of_row v2 (w.heap.size + 1) 31 _ _ gu
  generalize byt u 31 = x31 at *
  go_wp2_with (refine ld_bytes rfl _ rfl (w.heap.size + 1) _ rfl (heap_setCell_same _ _ _ _ _ _ gu) (by simp [BA_size]) ?_; rw [HL.out])
  refine (rcanon_any (u % W255) _ HX0.out).mono ?_
  rintro e v3 ⟨rfl, hb3⟩
  have gk3 := bheap hb3 ((heap_setCell_other _ _ _ _ (by simp)).trans gk2) (by have := heap_lt gk2; simp; omega)
  have gz3 := bheap hb3 ((heap_setCell_other _ _ _ _ (by simp)).trans gz) (by have := heap_lt gz; simp; omega)
  have hB3 : Below w.heap.size w v3 := Below.trans (Below.setCell hB (by simp) _) (hb3.mono (by have := hB.size; simp; omega))
  clear hb3 gk2 gz hB gu cu fu
  have NX := N256.mod (u % W255)
  obtain ⟨x, hxe⟩ : ∃ x, u % W255 % P255 = x := ⟨_, rfl⟩
  rw [hxe] at NX ⊢
  have HXE := Hid.mk hxe
  clear hxe
  go_wp2_with (refine st_bytesS (by rfl) (by rfl) (heap_alloc_new v3 _) (by rfl) ?_; intro v4 gx o4; refine Hid.out ?_)
  have hs3 := heap_lt gz3
  replace gk3 := (o4.block _ (Nat.ne_of_lt (heap_lt gk3))).trans ((Below.heap_alloc v3 _ _ (heap_lt gk3)).trans gk3)
  replace gz3 := (o4.block _ (Nat.ne_of_lt (heap_lt gz3))).trans ((Below.heap_alloc v3 _ _ (heap_lt gz3)).trans gz3)
  replace hB3 := Below.trans (hB3.alloc hB3.size _) (Only.below (b := v3.heap.size) (B := w.heap.size) o4 hB3.size)
  clear o4
  generalize v3.heap.size = bx at *
  refine Hid.mk ?_
  go_wp2_with (first | (refine wl_value rfl (exec_build 0 1 rfl 1 (build1 _)) ?_) | (refine ld_bytes rfl _ rfl bx _ rfl gx (BA_size _) ?_) | (refine wl_value rfl (exec_start rfl 1 x 1 rfl rfl rfl) ?_) | (refine st_point (g := v4.heap.size) (x := 1) (z := 0) (v := x) (w := 1) (old := Q4 0 0 0 0) (by rfl) (by rfl) (heap_alloc_new v4 _) (Q4_size 0 0 0 0) ?_; intro v5 gp o5))
  have hs4 := heap_lt gx
  replace gk3 := (o5.block _ (Nat.ne_of_lt (heap_lt gk3))).trans ((Below.heap_alloc v4 _ _ (heap_lt gk3)).trans gk3)
  replace gz3 := (o5.block _ (Nat.ne_of_lt (heap_lt gz3))).trans ((Below.heap_alloc v4 _ _ (heap_lt gz3)).trans gz3)
  replace gx := (o5.block _ (Nat.ne_of_lt (heap_lt gx))).trans ((Below.heap_alloc v4 _ _ (heap_lt gx)).trans gx)
  replace hB3 := Below.trans (hB3.alloc hB3.size _) (Only.below (b := v4.heap.size) (B := w.heap.size) o5 hB3.size)
  clear o5
  generalize v4.heap.size = bp at *
  have NN := clampN_256 k
  obtain ⟨N, hN⟩ : ∃ N, clampN k = N := ⟨_, rfl⟩
  have HN := Hid.mk hN
  rw [hN] at gk3 NN
  clear hN
  go_loopg [7] 255 (fun m i v => ∃ (j : Nat) (X Z V W : Int), Hid (m + j = 255) ∧ i = .int .i64 (254 - (j : Int)) ∧ N256 X ∧ N256 Z ∧ N256 V ∧ N256 W ∧ Hid (QI X Z V W = Qd.run kN (ofI x) (topList N.toNat j) (Qd.start (ofI x))) ∧
    v.heap[w.heap.size]? = some (.cells (BA N) 22 (0, 0)) ∧ v.heap[w.heap.size + 1 + 1]? = some (.cells (BA 0) 22 (0, 0)) ∧ v.heap[bx]? = some (.cells (BA x) 22 (0, 0)) ∧ v.heap[bp]? = some (.cells (Q4 X Z V W) 46 (0, 0)) ∧ Below w.heap.size w v)
  case atStart => exact ⟨0, 1, 0, x, 1, Hid.mk rfl, rfl, N256_1', N256_0', NX, N256_1', Hid.mk (start_link x), gk3, gz3, gx, gp, hB3⟩
  case round =>
    clear gk3 gz3 gx gp hB3
    obtain ⟨j, X, Z, V, W, HJ, rfl, nX, nZ, nV, nW, HQ, gk, gz, gx, gp, hB⟩ := hrel
    have hj255 : j ≤ 255 := by have := HJ.out; omega
    by_cases hj : j < 255
    · have HB := Hid.mk (key_bit N j NN.1)
      have cb := (cell_of_row wr w.heap.size ((254 - j) / 8) _ _ _ gk).trans (BA_get N _ (by omega))
      have hi1 : (0 : Int) ≤ 254 - (j : Int) := by omega
      have hq8 : IntKind.i64.wrap ((254 - (j : Int)).tdiv 8) = (((254 - j) / 8 : Nat) : Int) := by rw [IntKind.wrap_i64, Int.tdiv_eq_ediv_of_nonneg hi1]; omega
      have hr8 : (254 - (j : Int)).tmod 8 = (((254 - j) % 8 : Nat) : Int) := by rw [Int.tmod_eq_emod_of_nonneg hi1]; omega
      obtain ⟨q, hq⟩ : ∃ q : Nat, (254 - j) / 8 = q := ⟨_, rfl⟩
      obtain ⟨r, hr⟩ : ∃ r : Nat, (254 - j) % 8 = r := ⟨_, rfl⟩
      have hq32 : (q : Int) < 32 := by omega
      have hr64 : r < 8 := by omega
      rw [hq] at hq8 cb
      rw [hr] at hr8
      have HB2 := Hid.mk HB.out
      rw [hq, hr] at HB2
      clear HB hq hr
      have hbq := byt_byte N q
      unfold Byte at hbq
      obtain ⟨hbq0, hbq1⟩ := hbq
      go_wp2_with fail
      refine wp_region_mixS (fun v => v.heap[bp]? = some (.cells (Q4 X Z V W) 46 (0, 0)) ∧ v.heap[bx]? = some (.cells (BA x) 22 (0, 0)) ∧ v.cell? ⟨w.heap.size, q, none⟩ = some (.int .u8 (byt N q)))
        tmF tmT [0, 1, 2, 3, 4, 5, 6, 7, 8, 9, 10, 11, 12] rfl (by kernel_rfl) (fun _ _ d _ _ h => by cases d <;> exact h) ⟨gp, gx, cb⟩ (fun HS => ?_)
      apply mix_look rfl rfl rfl HS
      focus exact fun v h => look_point rfl _ X Z V W rfl h.1
      simp only [Act.put, List.setIfInBounds_toArray, List.set_cons_zero, List.set_cons_succ]
      apply mix_look rfl rfl rfl HS
      focus exact fun v h => look_bytes rfl _ _ rfl (BA_size _) h.2.1
      simp only [Act.put, List.setIfInBounds_toArray, List.set_cons_zero, List.set_cons_succ]
      iterate 3
        apply mix_pure rfl rfl rfl
        focus (intro wq; go_simp; first | done | with_reducible rfl)
        simp only [Act.put, List.setIfInBounds_toArray, List.set_cons_zero, List.set_cons_succ]
      apply mix_look rfl rfl rfl HS
      focus (intro wq hq; have hc := hq.2.2; go_simp; first | done | with_reducible rfl)
      simp only [Act.put, List.setIfInBounds_toArray, List.set_cons_zero, List.set_cons_succ]
      iterate 5
        apply mix_pure rfl rfl rfl
        focus (intro wq; go_simp; first | done | with_reducible rfl)
        simp only [Act.put, List.setIfInBounds_toArray, List.set_cons_zero, List.set_cons_succ]
      clear HS
      rw [HB2.out]
      refine mix_act rfl rfl rfl ?_
      intro K hK
      go_simp
      refine (step_any X Z V W x (N.toNat.testBit (254 - j)) _ nX nZ nV nW NX).mono ?_
      rintro e v6 ⟨⟨X', Z', V', W', rfl, nX', nZ', nV', nW', hQ'⟩, hb6⟩
      have HQ2 : Hid (QI X' Z' V' W' = Qd.run kN (ofI x) (topList N.toNat (j + 1)) (Qd.start (ofI x))) := Hid.mk (by rw [topList_succ, run_snoc, ← HQ.out]; exact hQ')
      clear hQ' HQ
      have gk6 := bheap hb6 gk (heap_lt gk)
      have gz6 := bheap hb6 gz (heap_lt gz)
      have gx6 := bheap hb6 gx (heap_lt gx)
      have gp6 := bheap hb6 gp (heap_lt gp)
      have hB6 := Below.trans (Below.drew hB) (hb6.mono hB.size)
      have hwl := heap_lt gk
      refine hK _ _ (fun _ h => ⟨bheap hb6 h.1 (heap_lt h.1), bheap hb6 h.2.1 (heap_lt h.2.1), (hb6.cell hwl).trans h.2.2⟩) ?_
      clear hK K hb6 gk gz gx gp hB cb
      refine mix_point rfl rfl rfl rfl rfl rfl gp6 (Q4_size _ _ _ _) rfl ?_
      intro v7 g7 o7
      refine mix_done ?_
      have gk7 := (o7.block w.heap.size (by omega)).trans gk6
      have gz7 := (o7.block (w.heap.size + 1 + 1) (by omega)).trans gz6
      have gx7 := (o7.block bx (by omega)).trans gx6
      have hB7 : Below w.heap.size w v7 := Below.trans hB6 (Only.below (b := bp) (B := w.heap.size) o7 (by omega))
      clear o7 gk6 gz6 gx6 gp6 hB6
      go_wp2
      go_roundg (255 - (j + 1))
      case rel => exact ⟨j + 1, X', Z', V', W', Hid.mk (by omega), by go_num, nX', nZ', nV', nW', HQ2, gk7, gz7, gx7, g7, hB7⟩
      case measure => have := HJ.out; omega
    · have hj2 : j = 255 := by omega
      subst hj2
      have HE : Hid ((X * invN Z) % P255 = tN k u) := Hid.mk (lad_end k u X Z V W (by
        have e : ofI (u % W255) = ofI x := ofI_eq.2 (by have := HXE.out; have h2 := Int.emod_emod (u % W255) P255; rw [this] at h2; rw [this, h2])
        unfold keyBits
        rw [e, HN.out]
        exact HQ.out.symm))
      go_wp2_with fail
      refine wp_region_mixS (fun v => v.heap[bp]? = some (.cells (Q4 X Z V W) 46 (0, 0)))
        teF teT [0, 1, 2, 3, 4, 5, 6] rfl (by kernel_rfl) (fun _ _ d _ _ h => by cases d <;> exact h) gp (fun HS => ?_)
      apply mix_pure rfl rfl rfl
      focus (intro wq; go_simp; first | done | with_reducible rfl)
      simp only [Act.put, List.setIfInBounds_toArray, List.set_cons_zero, List.set_cons_succ]
      apply mix_look rfl rfl rfl HS
      focus exact fun v h => look_at rfl bp 0 X rfl (range_of h (fun j hj => by rw [Nat.zero_add]; exact Q4_0 X Z V W j hj))
      simp only [Act.put, List.setIfInBounds_toArray, List.set_cons_zero, List.set_cons_succ]
      apply mix_pure rfl rfl rfl
      focus (intro wq; go_simp; first | done | with_reducible rfl)
      simp only [Act.put, List.setIfInBounds_toArray, List.set_cons_zero, List.set_cons_succ]
      apply mix_look rfl rfl rfl HS
      focus exact fun v h => look_at rfl bp 32 Z rfl (range_of h (Q4_1 X Z V W))
      simp only [Act.put, List.setIfInBounds_toArray, List.set_cons_zero, List.set_cons_succ]
      clear HS
      refine mix_act rfl rfl rfl ?_
      intro K hK
      go_simp
      refine (rinv_any Z _ nZ).mono ?_
      rintro e v6 ⟨rfl, hb6⟩
      have gz6 := bheap hb6 gz (heap_lt gz)
      have hB6 := Below.trans (Below.drew hB) (hb6.mono hB.size)
      refine hK _ _ (fun _ h => bheap hb6 h (heap_lt h)) ?_
      clear hK K hb6
      refine mix_act rfl rfl rfl ?_
      intro K hK
      go_simp
      refine (rtimes_any X (invN Z) _ nX (invN_256 Z)).mono ?_
      rintro e v7 ⟨rfl, hb7⟩
      rw [HE.out]
      have gz7 := bheap hb7 gz6 (heap_lt gz6)
      have hB7 := Below.trans hB6 (hb7.mono hB6.size)
      refine hK _ _ (fun _ h => bheap hb7 h (heap_lt h)) ?_
      clear hK K hb7
      refine mix_act rfl rfl rfl ?_
      intro K hK
      refine act_bytes _ _ rfl _ _ rfl rfl _ gz7 (BA_size _) ?_
      intro v8 g8 o8
      refine hK _ _ (fun h => by cases h) ?_
      clear hK K
      refine mix_done ?_
      go_wp2
      exact bodyPost_ret (v := .agg (BA (tN k u))) (results_cell_row rfl _ _ _ _ _ _ _ rfl g8 Tryd.underlying22 rfl (by rw [BA_size]; exact info32)) rfl
        ⟨rfl, Below.trans hB7 (Only.below (b := w.heap.size + 1 + 1) (B := w.heap.size) o8 (by omega))⟩
end Go.Proofs.YtpcpcgfljffkeaaDoor
/-
  Own text. What Public of the document's answer for layer 2 gives.
-/
namespace Go.Proofs.YtpcpcgfljffkeaaDoor
open Go.RowKit Go.Proofs
theorem build9 (w : World) : (Instr.build 22 #[(0, .int .u8 9)]).run Tryd.prog w = .ok (.agg (BA 9)) w := by kernel_rfl
set_option maxHeartbeats 1000000 in
theorem rpublic_any (k : Int) (w : World) (hk : N256 k) :
    Calls Tryd.prog 13 #[.agg (BA k)] w fun e w' => e = .returned (.agg (BA (tN k 9))) ∧ Below w.heap.size w w' := by
  have HK := Hid.mk hk
  clear hk
  go_enter Tryd.func13, Tryd.ntmps13
  go_wp2_with (first | (refine ld_bytes rfl _ rfl _ _ rfl (heap_alloc2_old w _ _) (BA_size _) ?_) | (refine wl_value rfl (exec_build 0 9 rfl 9 (build9 _)) ?_))
  refine (rmult_any k 9 _ HK.out).mono ?_
  rintro e v2 ⟨rfl, hb2⟩
  have gz := bheap hb2 (heap_alloc2_new w _ _) (by simp)
  have hB := Below.trans (((Below.refl _ w).alloc (Nat.le_refl _) _).alloc (by simp) _) (hb2.mono (by simp; omega))
  clear hb2
  go_wp2_with (refine st_bytesS (by rfl) (by rfl) gz (by rfl) ?_; intro v3 g3 o3)
  exact bodyPost_ret (v := .agg (BA (tN k 9))) (results_cell_row rfl _ _ _ _ _ _ _ rfl g3 Tryd.underlying22 rfl (by rw [BA_size]; exact info32)) rfl
    ⟨rfl, Below.trans hB (Only.below (b := w.heap.size + 1) (B := w.heap.size) o3 (by omega))⟩
theorem neq_bytes {a : Act} {o : Oper} {w : World} (x y : Operand) (t : TypeId) (ho : o.op = .binOp .neq 22 x y t) (m n : Int) (hx : a.eval x = .agg (BA m)) (hy : a.eval y = .agg (BA n))
    (hm : N256 m) (hn : N256 n) : (execOp a.eval o).run Tryd.prog w = .ok (.value (.bool (!(m == n)))) w := by
  unfold execOp
  simp only [ho, hx, hy, Sem.run_bind, run_eqGuard_agg w .neq 22 x y _ _ eqg24, Result.andThen_ok, run_neq_struct, equal_bytes m n 9998 w, all_beq hm.1 hm.2 hn.1 hn.2, Sem.run_pure]
end Go.Proofs.YtpcpcgfljffkeaaDoor
/-
  Own text. Steps for a region that leaves its order open: rows of 32 bytes and of four such rows, their fields, slices of them, calls.
-/
namespace Go.Proofs.YtpcpcgfljffkeaaDoor
open Go.RowKit Go.Proofs
def isOb (cs : Array Value) (t : TypeId) (ob : Obj) : Prop := ob = .cells cs t (0, 0)
def ptrTo (b : Nat) (v : Value) : Prop := v = .pointer (some ⟨b, 0, none⟩)
def slTo (n b : Nat) (v : Value) : Prop := v = .slice (some ⟨b, 0, none⟩) n n
/-- A slot that holds this value. -/
def kv (x : Value) : Kw := .val (fun v => v = x)
/-- A new row, then stored into by operation s. -/
def kp (cs : Array Value) (t : TypeId) (s : Nat) (cs' : Array Value) : Kw := .new ptrTo ⟨isOb cs t, [(s, isOb cs' t)]⟩
/-- A new slice. -/
def ks (n : Nat) (cs : Array Value) (t : TypeId) : Kw := .new (slTo n) ⟨isOb cs t, []⟩
def fixd (cs : Array Value) (t : TypeId) : Cont := ⟨isOb cs t, []⟩
def once (cs : Array Value) (t : TypeId) (s : Nat) (cs' : Array Value) : Cont := ⟨isOb cs t, [(s, isOb cs' t)]⟩
theorem obAt {cs : Array Value} {t : TypeId} {w : World} {b : Nat} (h : ContOK (isOb cs t) w b) : w.heap[b]? = some (.cells cs t (0, 0)) := by
  obtain ⟨ob, h, rfl⟩ := h
  exact h
theorem obIn {cs : Array Value} {t : TypeId} {w : World} {b : Nat} (h : w.heap[b]? = some (.cells cs t (0, 0))) : ContOK (isOb cs t) w b := ⟨_, h, rfl⟩
theorem touch_below {w w' : World} (h : Below w.heap.size w w') : Touch (fun _ => False) w w' := ⟨h.os, h.tape, h.output, h.size, fun k hk _ => h.block k hk⟩
theorem touch_only {b : Nat} {w w' : World} (h : Only b w w') : Touch (fun k => k = b) w w' := ⟨h.os, h.tape, h.output, by rw [h.size]; exact Nat.le_refl _, fun k _ hn => h.block k hn⟩
def Keep (wd v : World) : Prop := Below wd.heap.size wd v ∧ PrimeAt v
theorem keep_touch {wd w w' : World} {T : Nat → Prop} (h0 : 0 < wd.heap.size) (h : Keep wd w) (ht : Touch T w w') (hT : ∀ k, T k → wd.heap.size ≤ k) : Keep wd w' := by
  have hb : Below wd.heap.size w w' := ⟨ht.os, ht.tape, ht.output, ht.size, fun k hk => ht.block k (Nat.lt_of_lt_of_le hk h.1.size) (fun e => by have := hT k e; omega)⟩
  exact ⟨h.1.trans hb, primeAt_below h.2 hb h0⟩
def GLow (B0 : Nat) : List (Nat × Cont) → Prop
  | [] => True
  | x :: l => B0 ≤ x.1 ∧ GLow B0 l
theorem GLow.at {B0 : Nat} : ∀ {l : List (Nat × Cont)}, GLow B0 l → ∀ k ∈ l.map (·.1), B0 ≤ k
  | [], _, _, h => by simp at h
  | x :: l, hl, k, h => by
    rw [List.map_cons] at h
    rcases List.mem_cons.1 h with rfl | h
    · exact hl.1
    · exact GLow.at hl.2 k h
theorem keep_G {wd : World} {G : List (Nat × Cont)} {B : Nat} (h0 : 0 < wd.heap.size) (hB : wd.heap.size ≤ B) (hG : GLow wd.heap.size G) (w w' : World) (h : Keep wd w) (ht : Touch (fun k => B ≤ k ∨ k ∈ G.map (·.1)) w w') : Keep wd w' :=
  keep_touch h0 h ht (fun k hk => hk.elim (fun hk => Nat.le_trans hB hk) (fun hk => hG.at k hk))
theorem keep_below {wd w w' : World} (h0 : 0 < wd.heap.size) (h : Keep wd w) (hb : Below wd.heap.size w w') : Keep wd w' := ⟨h.1.trans hb, primeAt_below h.2 hb h0⟩
theorem keep_drew {wd w : World} (h : Keep wd w) : Keep wd w.drew := ⟨Below.drew h.1, h.2⟩
theorem zero_bytes (w : World) : (zeroValue 22).run Tryd.prog w = .ok (.agg (BA 0)) w := by kernel_rfl
theorem zero_rungs (w : World) : (zeroValue 33).run Tryd.prog w = .ok (.agg (Q4 0 0 0 0)) w := by kernel_rfl
theorem act_alloc {o : Oper} {a : Act} {w : World} {K : Act → World → Prop} {Q : Exit → Act → World → Prop} {t : TypeId} {cs : Array Value} (hz : ∀ w, (zeroValue t).run Tryd.prog w = .ok (.agg cs) w) (ho : o.op = .alloc t)
    (h : ∀ w', Below w.heap.size w w' → w'.heap[w.heap.size]? = some (.cells cs t (0, 0)) → K (a.put o.dst (.pointer (some ⟨w.heap.size, 0, none⟩))) w') : o.wp Tryd.prog a w K Q := by
  have hz := hz w
  unfold Oper.wp execOp
  simp only [ho]
  simp [go_sem, hz]
  exact h _ ((Below.refl _ _).alloc (Nat.le_refl _) _) (heap_alloc_new w _)
theorem actb2 {o : Oper} {a : Act} {w : World} {K : Act → World → Prop} {Q : Exit → Act → World → Prop} {x y : Operand} (ho : o.op = .buildSlice 51 2 #[(0, x), (1, y)]) {m n : Int} (hx : a.eval x = .agg (BA m)) (hy : a.eval y = .agg (BA n))
    (h : ∀ v, v.heap[w.heap.size]? = some (.cells (BA m ++ BA n) 22 (0, 0)) → Below w.heap.size w v → K (a.put o.dst (.slice (some ⟨w.heap.size, 0, none⟩) 2 2)) v) : o.wp Tryd.prog a w K Q := by
  have hr := run_bs2 m n w
  unfold Oper.wp execOp
  simp only [ho, List.map_toArray, List.map_cons, List.map_nil, hx, hy, Sem.run_bind, hr, Result.andThen_ok, Sem.run_pure, Oper.upon]
  exact h _ (heap_alloc_new w _) ((Below.refl _ _).alloc (Nat.le_refl _) _)
theorem actb3 {o : Oper} {a : Act} {w : World} {K : Act → World → Prop} {Q : Exit → Act → World → Prop} {x y z : Operand} (ho : o.op = .buildSlice 51 3 #[(0, x), (1, y), (2, z)]) {m n k : Int} (hx : a.eval x = .agg (BA m)) (hy : a.eval y = .agg (BA n)) (hz : a.eval z = .agg (BA k))
    (h : ∀ v, v.heap[w.heap.size]? = some (.cells (BA m ++ BA n ++ BA k) 22 (0, 0)) → Below w.heap.size w v → K (a.put o.dst (.slice (some ⟨w.heap.size, 0, none⟩) 3 3)) v) : o.wp Tryd.prog a w K Q := by
  have hr := run_bs3 m n k w
  unfold Oper.wp execOp
  simp only [ho, List.map_toArray, List.map_cons, List.map_nil, hx, hy, hz, Sem.run_bind, hr, Result.andThen_ok, Sem.run_pure, Oper.upon]
  exact h _ (heap_alloc_new w _) ((Below.refl _ _).alloc (Nat.le_refl _) _)
theorem run_fa (b k : Nat) (w : World) (hk : k < 4) : (Instr.fieldAt 33 (.pointer (some ⟨b, 0, none⟩)) k).run Tryd.prog w = .ok (.pointer (some ⟨b, k * 32, none⟩)) w := by
  rcases k with _ | _ | _ | _ | k
  · kernel_rfl
  · kernel_rfl
  · kernel_rfl
  · kernel_rfl
  · omega
theorem exec_fa {a : Act} {o : Oper} {w : World} {x : Operand} {k : Nat} (ho : o.op = .fieldAddr 33 x k) {b : Nat} (hx : a.eval x = .pointer (some ⟨b, 0, none⟩)) (hk : k < 4) : (execOp a.eval o).run Tryd.prog w = .ok (.value (.pointer (some ⟨b, k * 32, none⟩))) w := by
  have h := run_fa b k w hk
  unfold execOp
  simp only [ho, hx, Sem.run_bind, h, Result.andThen_ok, Sem.run_pure]
theorem range_in {wd : World} {b o : Nat} {n : Int} {cs : Array Value} {t : TypeId} (hg : wd.heap[b]? = some (.cells cs t (0, 0))) (h : ∀ j, j < 32 → cs[o + j]? = (BA n)[j]?) : wd.rangeAt b o (BA n).toList :=
  fun j v hv => by
    have hj : j < 32 := by have := (List.getElem?_eq_some_iff.1 hv).1; rwa [Array.length_toList, BA_size] at this
    rw [cell_of_row wd b (o + j) _ _ _ hg, h j hj]
    simpa using hv
theorem Q4_0' (x z v w : Int) (j : Nat) (hj : j < 32) : (Q4 x z v w)[0 * 32 + j]? = (BA x)[j]? := by rw [show 0 * 32 + j = j by omega]; exact Q4_0 x z v w j hj
/-- A call with the value that it gives. -/
theorem stepc1 {f : FuncId} (hc : ∀ args w, (callFunc f args).run Tryd.prog w = .ok (.enter f args) w) {x : Operand} {ts : Array TypeId} {o : Oper} {a : Act} {w : World} {K : Act → World → Prop} {Q : Exit → Act → World → Prop}
    (ho : o.op = .call { callee := .value (.func f), args := #[x], argTypes := ts }) {V v : Value} (hx : a.eval x = V) (hC : Calls Tryd.prog f #[V] w fun r w' => r = .returned v ∧ Below w.heap.size w w')
    (h : ∀ w', Below w.heap.size w w' → K (a.put o.dst v) w') : o.wp Tryd.prog a w K Q := call1 hc x ts ho V v hx hC h
theorem stepc2 {f : FuncId} (hc : ∀ args w, (callFunc f args).run Tryd.prog w = .ok (.enter f args) w) {x y : Operand} {ts : Array TypeId} {o : Oper} {a : Act} {w : World} {K : Act → World → Prop} {Q : Exit → Act → World → Prop}
    (ho : o.op = .call { callee := .value (.func f), args := #[x, y], argTypes := ts }) {V V2 v : Value} (hx : a.eval x = V) (hy : a.eval y = V2) (hC : Calls Tryd.prog f #[V, V2] w fun r w' => r = .returned v ∧ Below w.heap.size w w')
    (h : ∀ w', Below w.heap.size w w' → K (a.put o.dst v) w') : o.wp Tryd.prog a w K Q := call2 hc x y ts ho V V2 v hx hy hC h
theorem enterOf (args : Array Value) (w : World) : (callFunc 18 args).run Tryd.prog w = .ok (.enter 18 args) w := by kernel_rfl
theorem enterInv (args : Array Value) (w : World) : (callFunc 22 args).run Tryd.prog w = .ok (.enter 22 args) w := by kernel_rfl
theorem info128r : (Tryd.prog.info? 33).map (·.size) = some 128 := by kernel_rfl
theorem st_rungs {ops : Array Oper} {rest : List Oper} {d : Option Tmp} {X Y : Operand} {t : TypeId} {ps : String} {af : Array Edge} {a : Act} {wd : World} {Q : Exit → Act → World → Prop} {g : Nat} {x z v w : Int} {old : Array Value}
    (hx : a.eval X = .pointer (some ⟨g, 0, none⟩)) (hy : a.eval Y = .agg (Q4 x z v w)) (hg : wd.heap[g]? = some (.cells old 33 (0, 0))) (hold : old.size = 128)
    (h : ∀ w2, w2.heap[g]? = some (.cells (Q4 x z v w) 33 (0, 0)) → Only g wd w2 → wpList Tryd.prog ops Q rest (a.put d undef) w2) : wpList Tryd.prog ops Q ({ dst := d, op := .store 33 X Y, type := t, pos := ps, after := af, guard := none } :: rest) a wd :=
  st_row rfl 33 X Y rfl g _ hx hy 33 _ hg (by rw [Q4_size]; exact info128r) (by rw [Q4_size]; exact hold) (Q4_one x z v w) h
theorem act_rungs {a : Act} {o : Oper} {wd : World} {K : Act → World → Prop} {Q : Exit → Act → World → Prop} {X Y : Operand} (ho : o.op = .store 33 X Y)
    {g : Nat} {x z v w : Int} (hx : a.eval X = .pointer (some ⟨g, 0, none⟩)) (hy : a.eval Y = .agg (Q4 x z v w)) {old : Array Value} (hg : wd.heap[g]? = some (.cells old 33 (0, 0))) (hold : old.size = 128)
    (h : ∀ w2, w2.heap[g]? = some (.cells (Q4 x z v w) 33 (0, 0)) → Only g wd w2 → K (a.put o.dst undef) w2) : o.wp Tryd.prog a wd K Q :=
  wp_store_row 33 X Y ho g _ hx hy 33 old hg (by rw [Q4_size]; exact info128r) (by rw [Q4_size]; exact hold) (Q4_one x z v w) (h _ (setRow_heap wd g old _ 33 (0, 0) hg) (only_setRow wd g _))
theorem ld_rungs {ops : Array Oper} {rest : List Oper} {o : Oper} {a : Act} {wd : World} {Q : Exit → Act → World → Prop} (hgd : o.guard = none) (X : Operand) (ho : o.op = .load 33 X) (g : Nat) (x z v w : Int)
    (hx : a.eval X = .pointer (some ⟨g, 0, none⟩)) (hg : wd.heap[g]? = some (.cells (Q4 x z v w) 33 (0, 0)))
    (h : wpList Tryd.prog ops Q rest (a.put o.dst (.agg (Q4 x z v w))) wd) : wpList Tryd.prog ops Q (o :: rest) a wd :=
  wpList_load_row hgd 33 X ho g hx 33 _ (0, 0) _ hg Tryd.underlying33 rfl (by rw [Q4_size]; exact info128r) h
theorem look_rungs {a : Act} {o : Oper} {X : Operand} {wd : World} (ho : o.op = .load 33 X) {g : Nat} {x z v w : Int} (hx : a.eval X = .pointer (some ⟨g, 0, none⟩))
    (hg : wd.heap[g]? = some (.cells (Q4 x z v w) 33 (0, 0))) : (execOp a.eval o).run Tryd.prog wd = .ok (.value (.agg (Q4 x z v w))) wd := by
  unfold execOp
  simp only [ho, hx, Instr.loadAt, Instr.sureAddr, Sem.run_bind, Sem.run_pure, Result.andThen_ok, run_loadVar_row wd g 33 33 _ (0, 0) _ hg Tryd.underlying33 rfl (by rw [Q4_size]; exact info128r)]
theorem run_rung4 (x z v w : Int) (wd : World) : (Instr.build 33 #[(0, .agg (BA x)), (1, .agg (BA z)), (2, .agg (BA v)), (3, .agg (BA w))]).run Tryd.prog wd = .ok (.agg (Q4 x z v w)) wd := by kernel_rfl
theorem exec_rung4 {a : Act} {o : Oper} {wd : World} {A B C D : Operand} (ho : o.op = .build 33 #[(0, A), (1, B), (2, C), (3, D)]) {x z v w : Int} (hA : a.eval A = .agg (BA x)) (hB : a.eval B = .agg (BA z)) (hC : a.eval C = .agg (BA v)) (hD : a.eval D = .agg (BA w)) :
    (execOp a.eval o).run Tryd.prog wd = .ok (.value (.agg (Q4 x z v w))) wd := by
  have h := run_rung4 x z v w wd
  unfold execOp
  simp only [ho, List.map_toArray, List.map_cons, List.map_nil, hA, hB, hC, hD, Sem.run_bind, h, Result.andThen_ok, Sem.run_pure]
theorem lookb {a : Act} {o : Oper} {x : Operand} {w : World} (ho : o.op = .load 22 x) {g : Nat} {n : Int} (hx : a.eval x = .pointer (some ⟨g, 0, none⟩)) (hg : w.heap[g]? = some (.cells (BA n) 22 (0, 0))) :
    (execOp a.eval o).run Tryd.prog w = .ok (.value (.agg (BA n))) w := look_bytes ho g _ hx (BA_size _) hg
theorem lookf {a : Act} {o : Oper} {x : Operand} {w : World} (ho : o.op = .load 22 x) {b off : Nat} {n : Int} (hx : a.eval x = .pointer (some ⟨b, off, none⟩)) (hc : w.rangeAt b off (BA n).toList) :
    (execOp a.eval o).run Tryd.prog w = .ok (.value (.agg (BA n))) w := look_at ho b off n hx hc
theorem actbytes {a : Act} {o : Oper} {w : World} {K : Act → World → Prop} {Q : Exit → Act → World → Prop} {x y : Operand} (ho : o.op = .store 22 x y)
    {g : Nat} {n : Int} (hx : a.eval x = .pointer (some ⟨g, 0, none⟩)) (hy : a.eval y = .agg (BA n)) {m : Int} (hg : w.heap[g]? = some (.cells (BA m) 22 (0, 0)))
    (h : ∀ w2, w2.heap[g]? = some (.cells (BA n) 22 (0, 0)) → Only g w w2 → K (a.put o.dst undef) w2) : o.wp Tryd.prog a w K Q := act_bytes x y ho g n hx hy _ hg (BA_size _) h
end Go.Proofs.YtpcpcgfljffkeaaDoor
/-
  Own text. What climbed of package curve gives: the ladder's step without its turns.
-/
namespace Go.Proofs.YtpcpcgfljffkeaaDoor
open Go.RowKit Go.Proofs
theorem climb_link (x z v w u a1 b1 c1 d1 aa bb ee da cb sm rs nx mm t1 t2 nz nv nw : Int)
    (ha1 : (x + z) % P255 = a1) (hb1 : (x - z) % P255 = b1) (hc1 : (v + w) % P255 = c1) (hd1 : (v - w) % P255 = d1) (haa : a1 * a1 % P255 = aa) (hbb : b1 * b1 % P255 = bb) (hda : d1 * a1 % P255 = da) (hcb : c1 * b1 % P255 = cb) (hee : (aa - bb) % P255 = ee)
    (hsm : (da + cb) % P255 = sm) (hrs : (da - cb) % P255 = rs) (hnx : aa * bb % P255 = nx) (hmm : 121665 % P255 = mm) (ht1 : mm * ee % P255 = t1) (ht2 : (aa + t1) % P255 = t2) (hnz : ee * t2 % P255 = nz) (hnv : sm * sm % P255 = nv) (hnw : u * (rs * rs) % P255 = nw) :
    QI nx nz nv nw = Qd.core kN (ofI u) (QI x z v w) := by
  rw [kN_ofI]
  subst ha1 hb1 hc1 hd1 haa hbb hda hcb hee hsm hrs hnx hmm ht1 ht2 hnz hnv hnw
  simp only [QI, Qd.core, ofI_mod, ofI_mul, ofI_add, ofI_sub]
set_option maxHeartbeats 2000000 in
set_option maxRecDepth 100000 in
theorem climbed_any (x z v w u : Int) (wd : World) (hP : PrimeAt wd) (Nx : N256 x) (Nz : N256 z) (Nv : N256 v) (Nw : N256 w) (Nu : N256 u) :
    Calls Tryd.prog 32 #[.agg (Q4 x z v w), .agg (BA u)] wd fun e w' => (∃ x' z' v' w2, e = .returned (.agg (Q4 x' z' v' w2)) ∧ N256 x' ∧ N256 z' ∧ N256 v' ∧ N256 w2 ∧ QI x' z' v' w2 = Qd.core kN (ofI u) (QI x z v w)) ∧ Below wd.heap.size wd w' := by
  have hz := primeAt_pos hP
  have hzero := zero_rungs
  have HP := Hid.mk hP
  clear hP
  go_enter Tryd.func32, Tryd.ntmps32
  go_wp2_with fail
  refine wp_gen (fun v0 => v0.heap[wd.heap.size]? = some (.cells (Q4 x z v w) 33 (0, 0)) ∧ v0.heap[wd.heap.size + 1]? = some (.cells (BA u) 22 (0, 0)) ∧ v0.heap[wd.heap.size + 1 + 1]? = some (.cells (Q4 0 0 0 0) 33 (0, 0)) ∧ Keep wd v0)
    ⟨heap_a31 wd _ _ _, heap_a32 wd _ _ _, heap_a3 wd _ _ _, keep_below hz ⟨Below.refl _ _, HP.out⟩ (by repeat first | exact Below.refl _ _ | refine Below.alloc ?_ (by simp <;> omega) _)⟩ ?_
  rintro v0 ⟨g2, g3, g4, hK⟩
  have hs : wd.heap.size + 3 ≤ v0.heap.size := by have := heap_lt g4; omega
  clear hzero HP
  obtain ⟨a1, ha1⟩ : ∃ y, (x + z) % P255 = y := ⟨_, rfl⟩
  have Na1 : N256 a1 := ha1 ▸ N256.mod _
  have Ha1 := Hid.mk ha1
  clear ha1
  obtain ⟨b1, hb1⟩ : ∃ y, (x - z) % P255 = y := ⟨_, rfl⟩
  have Nb1 : N256 b1 := hb1 ▸ N256.mod _
  have Hb1 := Hid.mk hb1
  clear hb1
  go_wp2_with fail
  refine wp_region3 (Keep wd) v0.heap.size
    [(wd.heap.size, fixd (Q4 x z v w) 33), ((wd.heap.size + 1), fixd (BA u) 22), ((wd.heap.size + 1 + 1), fixd (Q4 0 0 0 0) 33)]
    [kv (.pointer (some ⟨wd.heap.size, 0 * 32, none⟩)), kv (.agg (BA x)), kv (.pointer (some ⟨wd.heap.size, 1 * 32, none⟩)), kv (.agg (BA z)), ks 2 (BA x ++ BA z) 22, kv (.agg (BA a1)), kv (.pointer (some ⟨wd.heap.size, 0 * 32, none⟩)), kv (.agg (BA x)), kv (.pointer (some ⟨wd.heap.size, 1 * 32, none⟩)), kv (.agg (BA z)), kv (.agg (BA b1)), kp (BA 0) 22 13 (BA a1), kp (BA 0) 22 14 (BA b1), .val fun _ => True, .val fun _ => True]
    [.none, .none, .none, .none, .none, .none, .none, .none, .none, .none, .none, .none, .none, .own 11 1, .own 12 1]
    [some 16, some 17, some 18, some 19, some 20, some 21, some 22, some 23, some 24, some 25, some 26, some 5, some 6, none, none]
    [(2, .pointer (some ⟨wd.heap.size, 0, none⟩))]
    [[], [.slot 0, .base 0 0], [], [.slot 2, .base 0 0], [.slot 1, .slot 3], [.slot 4, .cont 4 0], [], [.slot 6, .base 0 0], [], [.slot 8, .base 0 0], [.slot 7, .slot 9], [], [], [.slot 11, .cont 11 0, .slot 5], [.slot 12, .cont 12 0, .slot 10]]
    [.slot 11, .cont 11 1, .slot 12, .cont 12 1, .base 0 0, .base 1 0, .base 2 0] [16, 17, 18, 19, 20, 21, 22, 23, 24, 25, 26, 5, 6]
    rfl (by kernel_rfl) ⟨rfl, trivial⟩ (keep_drew hK) (Nat.le_refl _) ⟨⟨heap_lt g2, obIn g2⟩, ⟨heap_lt g3, obIn g3⟩, ⟨heap_lt g4, obIn g4⟩, trivial⟩ ⟨⟨trivial, trivial, trivial⟩, ⟨trivial, trivial⟩, trivial, trivial⟩ (keep_G hz (by omega) ⟨(by omega), (by omega), (by omega), trivial⟩)
    ⟨
      -- 0
      (fun Q aq ww own hS hBg fr kn => .inl ⟨trivial, fun K hK => wp_value (exec_fa rfl fr.1 (by decide)) (hK _ _ ⟨Touch.refl _ _, rfl⟩)⟩),
      -- 1
      (fun Q aq ww own hS hBg fr kn => .inl ⟨trivial, fun K hK => wp_value (lookf rfl kn.1 (range_in (obAt kn.2.1) (Q4_0' x z v w))) (hK _ _ ⟨Touch.refl _ _, rfl⟩)⟩),
      -- 2
      (fun Q aq ww own hS hBg fr kn => .inl ⟨trivial, fun K hK => wp_value (exec_fa rfl fr.1 (by decide)) (hK _ _ ⟨Touch.refl _ _, rfl⟩)⟩),
      -- 3
      (fun Q aq ww own hS hBg fr kn => .inl ⟨trivial, fun K hK => wp_value (lookf rfl kn.1 (range_in (obAt kn.2.1) (Q4_1 x z v w))) (hK _ _ ⟨Touch.refl _ _, rfl⟩)⟩),
      -- 4
      (fun Q aq ww own hS hBg fr kn => .inl ⟨trivial, fun K hK => actb2 rfl kn.1 kn.2.1 (fun v hg hb => hK _ _ ⟨touch_below hb, _, Nat.le_refl _, rfl, obIn hg⟩)⟩),
      -- 5
      (fun Q aq ww own hS hBg fr kn => .inl ⟨trivial, fun K hK => stepc1 enterAdd rfl kn.1.1 (add2 x z _ ww Nx Nz (rows2 (obAt kn.2.1)) kn.1.2.2) (fun w' hb => hK _ _ ⟨touch_below hb, (congrArg (fun n => Value.agg (BA n)) Ha1.out)⟩)⟩),
      -- 6
      (fun Q aq ww own hS hBg fr kn => .inl ⟨trivial, fun K hK => wp_value (exec_fa rfl fr.1 (by decide)) (hK _ _ ⟨Touch.refl _ _, rfl⟩)⟩),
      -- 7
      (fun Q aq ww own hS hBg fr kn => .inl ⟨trivial, fun K hK => wp_value (lookf rfl kn.1 (range_in (obAt kn.2.1) (Q4_0' x z v w))) (hK _ _ ⟨Touch.refl _ _, rfl⟩)⟩),
      -- 8
      (fun Q aq ww own hS hBg fr kn => .inl ⟨trivial, fun K hK => wp_value (exec_fa rfl fr.1 (by decide)) (hK _ _ ⟨Touch.refl _ _, rfl⟩)⟩),
      -- 9
      (fun Q aq ww own hS hBg fr kn => .inl ⟨trivial, fun K hK => wp_value (lookf rfl kn.1 (range_in (obAt kn.2.1) (Q4_1 x z v w))) (hK _ _ ⟨Touch.refl _ _, rfl⟩)⟩),
      -- 10
      (fun Q aq ww own hS hBg fr kn => .inl ⟨trivial, fun K hK => stepc2 enterSub rfl kn.1 kn.2.1 (sub_any x z ww hS.2 Nx.1 Nx.2 Nz.1 Nz.2) (fun w' hb => hK _ _ ⟨touch_below hb, (congrArg (fun n => Value.agg (BA n)) Hb1.out)⟩)⟩),
      -- 11
      (fun Q aq ww own hS hBg fr kn => .inl ⟨trivial, fun K hK => act_alloc zero_bytes rfl (fun w' hb hg => hK _ _ ⟨touch_below hb, _, Nat.le_refl _, rfl, obIn hg⟩)⟩),
      -- 12
      (fun Q aq ww own hS hBg fr kn => .inl ⟨trivial, fun K hK => act_alloc zero_bytes rfl (fun w' hb hg => hK _ _ ⟨touch_below hb, _, Nat.le_refl _, rfl, obIn hg⟩)⟩),
      -- 13
      (fun Q aq ww own hS hBg fr kn => .inl ⟨trivial, fun K hK => actbytes rfl kn.1.1 kn.2.2.1 (obAt kn.2.1) (fun w2 hg ho => hK _ _ ⟨touch_only ho, obIn hg, trivial⟩)⟩),
      -- 14
      (fun Q aq ww own hS hBg fr kn => .inl ⟨trivial, fun K hK => actbytes rfl kn.1.1 kn.2.2.1 (obAt kn.2.1) (fun w2 hg ho => hK _ _ ⟨touch_only ho, obIn hg, trivial⟩)⟩),
      trivial⟩ ?_
  intro vs1 own v1 hK1 hs1 kn inj
  clear inj
  have e5 : vs1 5 = .pointer (some ⟨own 11, 0, none⟩) := kn.1.1
  have l5 : v0.heap.size ≤ own 11 := kn.1.2.1
  have g5 := obAt kn.2.1
  have e6 : vs1 6 = .pointer (some ⟨own 12, 0, none⟩) := kn.2.2.1.1
  have l6 : v0.heap.size ≤ own 12 := kn.2.2.1.2.1
  have g6 := obAt kn.2.2.2.1
  have g2_ := obAt kn.2.2.2.2.1
  have g3_ := obAt kn.2.2.2.2.2.1
  have g4_ := obAt kn.2.2.2.2.2.2.1
  clear kn
  generalize own 11 = b5 at *
  generalize own 12 = b6 at *
  simp only [putAll, Act.put, List.setIfInBounds_toArray, List.set_cons_zero, List.set_cons_succ, e5, e6]
  replace l5 : wd.heap.size + 3 ≤ b5 := by omega
  replace l6 : wd.heap.size + 3 ≤ b6 := by omega
  replace hs : wd.heap.size + 3 ≤ v1.heap.size := by omega
  clear e5 e6 g2 g3 g4 hs1
  have g2 := g2_
  clear g2_
  have g3 := g3_
  clear g3_
  have g4 := g4_
  clear g4_
  clear hK
  have hK := hK1
  clear hK1
  clear own
  obtain ⟨c1, hc1⟩ : ∃ y, (v + w) % P255 = y := ⟨_, rfl⟩
  have Nc1 : N256 c1 := hc1 ▸ N256.mod _
  have Hc1 := Hid.mk hc1
  clear hc1
  obtain ⟨d1, hd1⟩ : ∃ y, (v - w) % P255 = y := ⟨_, rfl⟩
  have Nd1 : N256 d1 := hd1 ▸ N256.mod _
  have Hd1 := Hid.mk hd1
  clear hd1
  go_wp2_with fail
  refine wp_region3 (Keep wd) v1.heap.size
    [(wd.heap.size, fixd (Q4 x z v w) 33), ((wd.heap.size + 1), fixd (BA u) 22), ((wd.heap.size + 1 + 1), fixd (Q4 0 0 0 0) 33), (b5, fixd (BA a1) 22), (b6, fixd (BA b1) 22)]
    [kv (.pointer (some ⟨wd.heap.size, 2 * 32, none⟩)), kv (.agg (BA v)), kv (.pointer (some ⟨wd.heap.size, 3 * 32, none⟩)), kv (.agg (BA w)), ks 2 (BA v ++ BA w) 22, kv (.agg (BA c1)), kv (.pointer (some ⟨wd.heap.size, 2 * 32, none⟩)), kv (.agg (BA v)), kv (.pointer (some ⟨wd.heap.size, 3 * 32, none⟩)), kv (.agg (BA w)), kv (.agg (BA d1)), kp (BA 0) 22 13 (BA c1), kp (BA 0) 22 14 (BA d1), .val fun _ => True, .val fun _ => True]
    [.none, .none, .none, .none, .none, .none, .none, .none, .none, .none, .none, .none, .none, .own 11 1, .own 12 1]
    [some 27, some 28, some 29, some 30, some 31, some 32, some 33, some 34, some 35, some 36, some 37, some 7, some 8, none, none]
    [(2, .pointer (some ⟨wd.heap.size, 0, none⟩))]
    [[], [.slot 0, .base 0 0], [], [.slot 2, .base 0 0], [.slot 1, .slot 3], [.slot 4, .cont 4 0], [], [.slot 6, .base 0 0], [], [.slot 8, .base 0 0], [.slot 7, .slot 9], [], [], [.slot 11, .cont 11 0, .slot 5], [.slot 12, .cont 12 0, .slot 10]]
    [.slot 11, .cont 11 1, .slot 12, .cont 12 1, .base 0 0, .base 1 0, .base 2 0, .base 3 0, .base 4 0] [27, 28, 29, 30, 31, 32, 33, 34, 35, 36, 37, 7, 8]
    rfl (by kernel_rfl) ⟨rfl, trivial⟩ (keep_drew hK) (Nat.le_refl _) ⟨⟨heap_lt g2, obIn g2⟩, ⟨heap_lt g3, obIn g3⟩, ⟨heap_lt g4, obIn g4⟩, ⟨heap_lt g5, obIn g5⟩, ⟨heap_lt g6, obIn g6⟩, trivial⟩ ⟨⟨trivial, trivial, trivial, trivial, trivial⟩, ⟨trivial, trivial, trivial, trivial⟩, ⟨trivial, trivial, trivial⟩, ⟨trivial, trivial⟩, trivial, trivial⟩ (keep_G hz (by omega) ⟨(by omega), (by omega), (by omega), (by omega), (by omega), trivial⟩)
    ⟨
      -- 0
      (fun Q aq ww own hS hBg fr kn => .inl ⟨trivial, fun K hK => wp_value (exec_fa rfl fr.1 (by decide)) (hK _ _ ⟨Touch.refl _ _, rfl⟩)⟩),
      -- 1
      (fun Q aq ww own hS hBg fr kn => .inl ⟨trivial, fun K hK => wp_value (lookf rfl kn.1 (range_in (obAt kn.2.1) (Q4_2 x z v w))) (hK _ _ ⟨Touch.refl _ _, rfl⟩)⟩),
      -- 2
      (fun Q aq ww own hS hBg fr kn => .inl ⟨trivial, fun K hK => wp_value (exec_fa rfl fr.1 (by decide)) (hK _ _ ⟨Touch.refl _ _, rfl⟩)⟩),
      -- 3
      (fun Q aq ww own hS hBg fr kn => .inl ⟨trivial, fun K hK => wp_value (lookf rfl kn.1 (range_in (obAt kn.2.1) (Q4_3 x z v w))) (hK _ _ ⟨Touch.refl _ _, rfl⟩)⟩),
      -- 4
      (fun Q aq ww own hS hBg fr kn => .inl ⟨trivial, fun K hK => actb2 rfl kn.1 kn.2.1 (fun v hg hb => hK _ _ ⟨touch_below hb, _, Nat.le_refl _, rfl, obIn hg⟩)⟩),
      -- 5
      (fun Q aq ww own hS hBg fr kn => .inl ⟨trivial, fun K hK => stepc1 enterAdd rfl kn.1.1 (add2 v w _ ww Nv Nw (rows2 (obAt kn.2.1)) kn.1.2.2) (fun w' hb => hK _ _ ⟨touch_below hb, (congrArg (fun n => Value.agg (BA n)) Hc1.out)⟩)⟩),
      -- 6
      (fun Q aq ww own hS hBg fr kn => .inl ⟨trivial, fun K hK => wp_value (exec_fa rfl fr.1 (by decide)) (hK _ _ ⟨Touch.refl _ _, rfl⟩)⟩),
      -- 7
      (fun Q aq ww own hS hBg fr kn => .inl ⟨trivial, fun K hK => wp_value (lookf rfl kn.1 (range_in (obAt kn.2.1) (Q4_2 x z v w))) (hK _ _ ⟨Touch.refl _ _, rfl⟩)⟩),
      -- 8
      (fun Q aq ww own hS hBg fr kn => .inl ⟨trivial, fun K hK => wp_value (exec_fa rfl fr.1 (by decide)) (hK _ _ ⟨Touch.refl _ _, rfl⟩)⟩),
      -- 9
      (fun Q aq ww own hS hBg fr kn => .inl ⟨trivial, fun K hK => wp_value (lookf rfl kn.1 (range_in (obAt kn.2.1) (Q4_3 x z v w))) (hK _ _ ⟨Touch.refl _ _, rfl⟩)⟩),
      -- 10
      (fun Q aq ww own hS hBg fr kn => .inl ⟨trivial, fun K hK => stepc2 enterSub rfl kn.1 kn.2.1 (sub_any v w ww hS.2 Nv.1 Nv.2 Nw.1 Nw.2) (fun w' hb => hK _ _ ⟨touch_below hb, (congrArg (fun n => Value.agg (BA n)) Hd1.out)⟩)⟩),
      -- 11
      (fun Q aq ww own hS hBg fr kn => .inl ⟨trivial, fun K hK => act_alloc zero_bytes rfl (fun w' hb hg => hK _ _ ⟨touch_below hb, _, Nat.le_refl _, rfl, obIn hg⟩)⟩),
      -- 12
      (fun Q aq ww own hS hBg fr kn => .inl ⟨trivial, fun K hK => act_alloc zero_bytes rfl (fun w' hb hg => hK _ _ ⟨touch_below hb, _, Nat.le_refl _, rfl, obIn hg⟩)⟩),
      -- 13
      (fun Q aq ww own hS hBg fr kn => .inl ⟨trivial, fun K hK => actbytes rfl kn.1.1 kn.2.2.1 (obAt kn.2.1) (fun w2 hg ho => hK _ _ ⟨touch_only ho, obIn hg, trivial⟩)⟩),
      -- 14
      (fun Q aq ww own hS hBg fr kn => .inl ⟨trivial, fun K hK => actbytes rfl kn.1.1 kn.2.2.1 (obAt kn.2.1) (fun w2 hg ho => hK _ _ ⟨touch_only ho, obIn hg, trivial⟩)⟩),
      trivial⟩ ?_
  intro vs2 own v2 hK2 hs2 kn inj
  clear inj
  have e7 : vs2 7 = .pointer (some ⟨own 11, 0, none⟩) := kn.1.1
  have l7 : v1.heap.size ≤ own 11 := kn.1.2.1
  have g7 := obAt kn.2.1
  have e8 : vs2 8 = .pointer (some ⟨own 12, 0, none⟩) := kn.2.2.1.1
  have l8 : v1.heap.size ≤ own 12 := kn.2.2.1.2.1
  have g8 := obAt kn.2.2.2.1
  have g2_ := obAt kn.2.2.2.2.1
  have g3_ := obAt kn.2.2.2.2.2.1
  have g4_ := obAt kn.2.2.2.2.2.2.1
  have g5_ := obAt kn.2.2.2.2.2.2.2.1
  have g6_ := obAt kn.2.2.2.2.2.2.2.2.1
  clear kn
  generalize own 11 = b7 at *
  generalize own 12 = b8 at *
  simp only [putAll, Act.put, List.setIfInBounds_toArray, List.set_cons_zero, List.set_cons_succ, e7, e8]
  replace l7 : wd.heap.size + 3 ≤ b7 := by omega
  replace l8 : wd.heap.size + 3 ≤ b8 := by omega
  replace hs : wd.heap.size + 3 ≤ v2.heap.size := by omega
  clear e7 e8 g2 g3 g4 g5 g6 hs2
  have g2 := g2_
  clear g2_
  have g3 := g3_
  clear g3_
  have g4 := g4_
  clear g4_
  have g5 := g5_
  clear g5_
  have g6 := g6_
  clear g6_
  clear hK
  have hK := hK2
  clear hK2
  clear own
  obtain ⟨aa, haa⟩ : ∃ y, a1 * a1 % P255 = y := ⟨_, rfl⟩
  have Naa : N256 aa := haa ▸ N256.mod _
  have Haa := Hid.mk haa
  clear haa
  obtain ⟨bb, hbb⟩ : ∃ y, b1 * b1 % P255 = y := ⟨_, rfl⟩
  have Nbb : N256 bb := hbb ▸ N256.mod _
  have Hbb := Hid.mk hbb
  clear hbb
  go_wp2_with fail
  refine wp_region3 (Keep wd) v2.heap.size
    [(wd.heap.size, fixd (Q4 x z v w) 33), ((wd.heap.size + 1), fixd (BA u) 22), ((wd.heap.size + 1 + 1), fixd (Q4 0 0 0 0) 33), (b5, fixd (BA a1) 22), (b6, fixd (BA b1) 22), (b7, fixd (BA c1) 22), (b8, fixd (BA d1) 22)]
    [kv (.agg (BA a1)), kv (.agg (BA a1)), ks 2 (BA a1 ++ BA a1) 22, kv (.agg (BA aa)), kv (.agg (BA b1)), kv (.agg (BA b1)), ks 2 (BA b1 ++ BA b1) 22, kv (.agg (BA bb)), kp (BA 0) 22 10 (BA aa), kp (BA 0) 22 11 (BA bb), .val fun _ => True, .val fun _ => True]
    [.none, .none, .none, .none, .none, .none, .none, .none, .none, .none, .own 8 1, .own 9 1]
    [some 38, some 39, some 40, some 41, some 42, some 43, some 44, some 45, some 9, some 10, none, none]
    [(5, .pointer (some ⟨b5, 0, none⟩)), (6, .pointer (some ⟨b6, 0, none⟩))]
    [[.base 3 0], [.base 3 0], [.slot 0, .slot 1], [.slot 2, .cont 2 0], [.base 4 0], [.base 4 0], [.slot 4, .slot 5], [.slot 6, .cont 6 0], [], [], [.slot 8, .cont 8 0, .slot 3], [.slot 9, .cont 9 0, .slot 7]]
    [.slot 8, .cont 8 1, .slot 9, .cont 9 1, .base 0 0, .base 1 0, .base 2 0, .base 3 0, .base 4 0, .base 5 0, .base 6 0] [38, 39, 40, 41, 42, 43, 44, 45, 9, 10]
    rfl (by kernel_rfl) ⟨rfl, rfl, trivial⟩ (keep_drew hK) (Nat.le_refl _) ⟨⟨heap_lt g2, obIn g2⟩, ⟨heap_lt g3, obIn g3⟩, ⟨heap_lt g4, obIn g4⟩, ⟨heap_lt g5, obIn g5⟩, ⟨heap_lt g6, obIn g6⟩, ⟨heap_lt g7, obIn g7⟩, ⟨heap_lt g8, obIn g8⟩, trivial⟩ ⟨⟨trivial, trivial, trivial, trivial, trivial, trivial, trivial⟩, ⟨trivial, trivial, trivial, trivial, trivial, trivial⟩, ⟨trivial, trivial, trivial, trivial, trivial⟩, ⟨trivial, trivial, trivial, trivial⟩, ⟨trivial, trivial, trivial⟩, ⟨trivial, trivial⟩, trivial, trivial⟩ (keep_G hz (by omega) ⟨(by omega), (by omega), (by omega), (by omega), (by omega), (by omega), (by omega), trivial⟩)
    ⟨
      -- 0
      (fun Q aq ww own hS hBg fr kn => .inl ⟨trivial, fun K hK => wp_value (lookb rfl fr.1 (obAt kn.1)) (hK _ _ ⟨Touch.refl _ _, rfl⟩)⟩),
      -- 1
      (fun Q aq ww own hS hBg fr kn => .inl ⟨trivial, fun K hK => wp_value (lookb rfl fr.1 (obAt kn.1)) (hK _ _ ⟨Touch.refl _ _, rfl⟩)⟩),
      -- 2
      (fun Q aq ww own hS hBg fr kn => .inl ⟨trivial, fun K hK => actb2 rfl kn.1 kn.2.1 (fun v hg hb => hK _ _ ⟨touch_below hb, _, Nat.le_refl _, rfl, obIn hg⟩)⟩),
      -- 3
      (fun Q aq ww own hS hBg fr kn => .inl ⟨trivial, fun K hK => stepc1 enterMul rfl kn.1.1 (mul2 a1 a1 _ ww Na1 Na1 (rows2 (obAt kn.2.1)) kn.1.2.2) (fun w' hb => hK _ _ ⟨touch_below hb, (congrArg (fun n => Value.agg (BA n)) Haa.out)⟩)⟩),
      -- 4
      (fun Q aq ww own hS hBg fr kn => .inl ⟨trivial, fun K hK => wp_value (lookb rfl fr.2.1 (obAt kn.1)) (hK _ _ ⟨Touch.refl _ _, rfl⟩)⟩),
      -- 5
      (fun Q aq ww own hS hBg fr kn => .inl ⟨trivial, fun K hK => wp_value (lookb rfl fr.2.1 (obAt kn.1)) (hK _ _ ⟨Touch.refl _ _, rfl⟩)⟩),
      -- 6
      (fun Q aq ww own hS hBg fr kn => .inl ⟨trivial, fun K hK => actb2 rfl kn.1 kn.2.1 (fun v hg hb => hK _ _ ⟨touch_below hb, _, Nat.le_refl _, rfl, obIn hg⟩)⟩),
      -- 7
      (fun Q aq ww own hS hBg fr kn => .inl ⟨trivial, fun K hK => stepc1 enterMul rfl kn.1.1 (mul2 b1 b1 _ ww Nb1 Nb1 (rows2 (obAt kn.2.1)) kn.1.2.2) (fun w' hb => hK _ _ ⟨touch_below hb, (congrArg (fun n => Value.agg (BA n)) Hbb.out)⟩)⟩),
      -- 8
      (fun Q aq ww own hS hBg fr kn => .inl ⟨trivial, fun K hK => act_alloc zero_bytes rfl (fun w' hb hg => hK _ _ ⟨touch_below hb, _, Nat.le_refl _, rfl, obIn hg⟩)⟩),
      -- 9
      (fun Q aq ww own hS hBg fr kn => .inl ⟨trivial, fun K hK => act_alloc zero_bytes rfl (fun w' hb hg => hK _ _ ⟨touch_below hb, _, Nat.le_refl _, rfl, obIn hg⟩)⟩),
      -- 10
      (fun Q aq ww own hS hBg fr kn => .inl ⟨trivial, fun K hK => actbytes rfl kn.1.1 kn.2.2.1 (obAt kn.2.1) (fun w2 hg ho => hK _ _ ⟨touch_only ho, obIn hg, trivial⟩)⟩),
      -- 11
      (fun Q aq ww own hS hBg fr kn => .inl ⟨trivial, fun K hK => actbytes rfl kn.1.1 kn.2.2.1 (obAt kn.2.1) (fun w2 hg ho => hK _ _ ⟨touch_only ho, obIn hg, trivial⟩)⟩),
      trivial⟩ ?_
  intro vs3 own v3 hK3 hs3 kn inj
  clear inj
  have e9 : vs3 9 = .pointer (some ⟨own 8, 0, none⟩) := kn.1.1
  have l9 : v2.heap.size ≤ own 8 := kn.1.2.1
  have g9 := obAt kn.2.1
  have e10 : vs3 10 = .pointer (some ⟨own 9, 0, none⟩) := kn.2.2.1.1
  have l10 : v2.heap.size ≤ own 9 := kn.2.2.1.2.1
  have g10 := obAt kn.2.2.2.1
  have g2_ := obAt kn.2.2.2.2.1
  have g3_ := obAt kn.2.2.2.2.2.1
  have g4_ := obAt kn.2.2.2.2.2.2.1
  have g5_ := obAt kn.2.2.2.2.2.2.2.1
  have g6_ := obAt kn.2.2.2.2.2.2.2.2.1
  have g7_ := obAt kn.2.2.2.2.2.2.2.2.2.1
  have g8_ := obAt kn.2.2.2.2.2.2.2.2.2.2.1
  clear kn
  generalize own 8 = b9 at *
  generalize own 9 = b10 at *
  simp only [putAll, Act.put, List.setIfInBounds_toArray, List.set_cons_zero, List.set_cons_succ, e9, e10]
  replace l9 : wd.heap.size + 3 ≤ b9 := by omega
  replace l10 : wd.heap.size + 3 ≤ b10 := by omega
  replace hs : wd.heap.size + 3 ≤ v3.heap.size := by omega
  clear e9 e10 g2 g3 g4 g5 g6 g7 g8 hs3
  have g2 := g2_
  clear g2_
  have g3 := g3_
  clear g3_
  have g4 := g4_
  clear g4_
  have g5 := g5_
  clear g5_
  have g6 := g6_
  clear g6_
  have g7 := g7_
  clear g7_
  have g8 := g8_
  clear g8_
  clear hK
  have hK := hK3
  clear hK3
  clear own
  obtain ⟨da, hda⟩ : ∃ y, d1 * a1 % P255 = y := ⟨_, rfl⟩
  have Nda : N256 da := hda ▸ N256.mod _
  have Hda := Hid.mk hda
  clear hda
  obtain ⟨cb, hcb⟩ : ∃ y, c1 * b1 % P255 = y := ⟨_, rfl⟩
  have Ncb : N256 cb := hcb ▸ N256.mod _
  have Hcb := Hid.mk hcb
  clear hcb
  go_wp2_with fail
  refine wp_region3 (Keep wd) v3.heap.size
    [(wd.heap.size, fixd (Q4 x z v w) 33), ((wd.heap.size + 1), fixd (BA u) 22), ((wd.heap.size + 1 + 1), fixd (Q4 0 0 0 0) 33), (b5, fixd (BA a1) 22), (b6, fixd (BA b1) 22), (b7, fixd (BA c1) 22), (b8, fixd (BA d1) 22), (b9, fixd (BA aa) 22), (b10, fixd (BA bb) 22)]
    [kv (.agg (BA d1)), kv (.agg (BA a1)), ks 2 (BA d1 ++ BA a1) 22, kv (.agg (BA da)), kv (.agg (BA c1)), kv (.agg (BA b1)), ks 2 (BA c1 ++ BA b1) 22, kv (.agg (BA cb)), kp (BA 0) 22 10 (BA da), kp (BA 0) 22 11 (BA cb), .val fun _ => True, .val fun _ => True]
    [.none, .none, .none, .none, .none, .none, .none, .none, .none, .none, .own 8 1, .own 9 1]
    [some 46, some 47, some 48, some 49, some 50, some 51, some 52, some 53, some 11, some 12, none, none]
    [(5, .pointer (some ⟨b5, 0, none⟩)), (6, .pointer (some ⟨b6, 0, none⟩)), (7, .pointer (some ⟨b7, 0, none⟩)), (8, .pointer (some ⟨b8, 0, none⟩))]
    [[.base 6 0], [.base 3 0], [.slot 0, .slot 1], [.slot 2, .cont 2 0], [.base 5 0], [.base 4 0], [.slot 4, .slot 5], [.slot 6, .cont 6 0], [], [], [.slot 8, .cont 8 0, .slot 3], [.slot 9, .cont 9 0, .slot 7]]
    [.slot 8, .cont 8 1, .slot 9, .cont 9 1, .base 0 0, .base 1 0, .base 2 0, .base 3 0, .base 4 0, .base 5 0, .base 6 0, .base 7 0, .base 8 0] [46, 47, 48, 49, 50, 51, 52, 53, 11, 12]
    rfl (by kernel_rfl) ⟨rfl, rfl, rfl, rfl, trivial⟩ (keep_drew hK) (Nat.le_refl _) ⟨⟨heap_lt g2, obIn g2⟩, ⟨heap_lt g3, obIn g3⟩, ⟨heap_lt g4, obIn g4⟩, ⟨heap_lt g5, obIn g5⟩, ⟨heap_lt g6, obIn g6⟩, ⟨heap_lt g7, obIn g7⟩, ⟨heap_lt g8, obIn g8⟩, ⟨heap_lt g9, obIn g9⟩, ⟨heap_lt g10, obIn g10⟩, trivial⟩ ⟨⟨trivial, trivial, trivial, trivial, trivial, trivial, trivial, trivial, trivial⟩, ⟨trivial, trivial, trivial, trivial, trivial, trivial, trivial, trivial⟩, ⟨trivial, trivial, trivial, trivial, trivial, trivial, trivial⟩, ⟨trivial, trivial, trivial, trivial, trivial, trivial⟩, ⟨trivial, trivial, trivial, trivial, trivial⟩, ⟨trivial, trivial, trivial, trivial⟩, ⟨trivial, trivial, trivial⟩, ⟨trivial, trivial⟩, trivial, trivial⟩ (keep_G hz (by omega) ⟨(by omega), (by omega), (by omega), (by omega), (by omega), (by omega), (by omega), (by omega), (by omega), trivial⟩)
    ⟨
      -- 0
      (fun Q aq ww own hS hBg fr kn => .inl ⟨trivial, fun K hK => wp_value (lookb rfl fr.2.2.2.1 (obAt kn.1)) (hK _ _ ⟨Touch.refl _ _, rfl⟩)⟩),
      -- 1
      (fun Q aq ww own hS hBg fr kn => .inl ⟨trivial, fun K hK => wp_value (lookb rfl fr.1 (obAt kn.1)) (hK _ _ ⟨Touch.refl _ _, rfl⟩)⟩),
      -- 2
      (fun Q aq ww own hS hBg fr kn => .inl ⟨trivial, fun K hK => actb2 rfl kn.1 kn.2.1 (fun v hg hb => hK _ _ ⟨touch_below hb, _, Nat.le_refl _, rfl, obIn hg⟩)⟩),
      -- 3
      (fun Q aq ww own hS hBg fr kn => .inl ⟨trivial, fun K hK => stepc1 enterMul rfl kn.1.1 (mul2 d1 a1 _ ww Nd1 Na1 (rows2 (obAt kn.2.1)) kn.1.2.2) (fun w' hb => hK _ _ ⟨touch_below hb, (congrArg (fun n => Value.agg (BA n)) Hda.out)⟩)⟩),
      -- 4
      (fun Q aq ww own hS hBg fr kn => .inl ⟨trivial, fun K hK => wp_value (lookb rfl fr.2.2.1 (obAt kn.1)) (hK _ _ ⟨Touch.refl _ _, rfl⟩)⟩),
      -- 5
      (fun Q aq ww own hS hBg fr kn => .inl ⟨trivial, fun K hK => wp_value (lookb rfl fr.2.1 (obAt kn.1)) (hK _ _ ⟨Touch.refl _ _, rfl⟩)⟩),
      -- 6
      (fun Q aq ww own hS hBg fr kn => .inl ⟨trivial, fun K hK => actb2 rfl kn.1 kn.2.1 (fun v hg hb => hK _ _ ⟨touch_below hb, _, Nat.le_refl _, rfl, obIn hg⟩)⟩),
      -- 7
      (fun Q aq ww own hS hBg fr kn => .inl ⟨trivial, fun K hK => stepc1 enterMul rfl kn.1.1 (mul2 c1 b1 _ ww Nc1 Nb1 (rows2 (obAt kn.2.1)) kn.1.2.2) (fun w' hb => hK _ _ ⟨touch_below hb, (congrArg (fun n => Value.agg (BA n)) Hcb.out)⟩)⟩),
      -- 8
      (fun Q aq ww own hS hBg fr kn => .inl ⟨trivial, fun K hK => act_alloc zero_bytes rfl (fun w' hb hg => hK _ _ ⟨touch_below hb, _, Nat.le_refl _, rfl, obIn hg⟩)⟩),
      -- 9
      (fun Q aq ww own hS hBg fr kn => .inl ⟨trivial, fun K hK => act_alloc zero_bytes rfl (fun w' hb hg => hK _ _ ⟨touch_below hb, _, Nat.le_refl _, rfl, obIn hg⟩)⟩),
      -- 10
      (fun Q aq ww own hS hBg fr kn => .inl ⟨trivial, fun K hK => actbytes rfl kn.1.1 kn.2.2.1 (obAt kn.2.1) (fun w2 hg ho => hK _ _ ⟨touch_only ho, obIn hg, trivial⟩)⟩),
      -- 11
      (fun Q aq ww own hS hBg fr kn => .inl ⟨trivial, fun K hK => actbytes rfl kn.1.1 kn.2.2.1 (obAt kn.2.1) (fun w2 hg ho => hK _ _ ⟨touch_only ho, obIn hg, trivial⟩)⟩),
      trivial⟩ ?_
  intro vs4 own v4 hK4 hs4 kn inj
  clear inj
  have e11 : vs4 11 = .pointer (some ⟨own 8, 0, none⟩) := kn.1.1
  have l11 : v3.heap.size ≤ own 8 := kn.1.2.1
  have g11 := obAt kn.2.1
  have e12 : vs4 12 = .pointer (some ⟨own 9, 0, none⟩) := kn.2.2.1.1
  have l12 : v3.heap.size ≤ own 9 := kn.2.2.1.2.1
  have g12 := obAt kn.2.2.2.1
  have g2_ := obAt kn.2.2.2.2.1
  have g3_ := obAt kn.2.2.2.2.2.1
  have g4_ := obAt kn.2.2.2.2.2.2.1
  have g5_ := obAt kn.2.2.2.2.2.2.2.1
  have g6_ := obAt kn.2.2.2.2.2.2.2.2.1
  have g7_ := obAt kn.2.2.2.2.2.2.2.2.2.1
  have g8_ := obAt kn.2.2.2.2.2.2.2.2.2.2.1
  have g9_ := obAt kn.2.2.2.2.2.2.2.2.2.2.2.1
  have g10_ := obAt kn.2.2.2.2.2.2.2.2.2.2.2.2.1
  clear kn
  generalize own 8 = b11 at *
  generalize own 9 = b12 at *
  simp only [putAll, Act.put, List.setIfInBounds_toArray, List.set_cons_zero, List.set_cons_succ, e11, e12]
  replace l11 : wd.heap.size + 3 ≤ b11 := by omega
  replace l12 : wd.heap.size + 3 ≤ b12 := by omega
  replace hs : wd.heap.size + 3 ≤ v4.heap.size := by omega
  clear e11 e12 g2 g3 g4 g5 g6 g7 g8 g9 g10 hs4
  have g2 := g2_
  clear g2_
  have g3 := g3_
  clear g3_
  have g4 := g4_
  clear g4_
  have g5 := g5_
  clear g5_
  have g6 := g6_
  clear g6_
  have g7 := g7_
  clear g7_
  have g8 := g8_
  clear g8_
  have g9 := g9_
  clear g9_
  have g10 := g10_
  clear g10_
  clear hK
  have hK := hK4
  clear hK4
  clear own
  obtain ⟨ee, hee⟩ : ∃ y, (aa - bb) % P255 = y := ⟨_, rfl⟩
  have Nee : N256 ee := hee ▸ N256.mod _
  have Hee := Hid.mk hee
  clear hee
  go_wp2_with (first | (refine ld_bytes rfl _ rfl _ _ rfl g9 (BA_size _) ?_) | (refine ld_bytes rfl _ rfl _ _ rfl g10 (BA_size _) ?_))
  refine (sub_any aa bb _ hK.2 Naa.1 Naa.2 Nbb.1 Nbb.2).mono ?_
  rintro e u5 ⟨rfl, hb⟩
  rw [Hee.out]
  replace g2 := bheap hb g2 (heap_lt g2)
  replace g3 := bheap hb g3 (heap_lt g3)
  replace g4 := bheap hb g4 (heap_lt g4)
  replace g5 := bheap hb g5 (heap_lt g5)
  replace g6 := bheap hb g6 (heap_lt g6)
  replace g7 := bheap hb g7 (heap_lt g7)
  replace g8 := bheap hb g8 (heap_lt g8)
  replace g9 := bheap hb g9 (heap_lt g9)
  replace g10 := bheap hb g10 (heap_lt g10)
  replace g11 := bheap hb g11 (heap_lt g11)
  replace g12 := bheap hb g12 (heap_lt g12)
  replace hK := keep_below hz hK (hb.mono (by omega))
  replace hs : wd.heap.size + 3 ≤ u5.heap.size := Nat.le_trans hs hb.size
  clear hb
  go_wp2_with (refine st_bytesS (by rfl) (by rfl) (heap_alloc_new u5 _) (by rfl) ?_; intro v5 g13 o13; refine Hid.out ?_)
  replace g2 := (o13.block _ (Nat.ne_of_lt (heap_lt g2))).trans ((Below.heap_alloc u5 _ _ (heap_lt g2)).trans g2)
  replace g3 := (o13.block _ (Nat.ne_of_lt (heap_lt g3))).trans ((Below.heap_alloc u5 _ _ (heap_lt g3)).trans g3)
  replace g4 := (o13.block _ (Nat.ne_of_lt (heap_lt g4))).trans ((Below.heap_alloc u5 _ _ (heap_lt g4)).trans g4)
  replace g5 := (o13.block _ (Nat.ne_of_lt (heap_lt g5))).trans ((Below.heap_alloc u5 _ _ (heap_lt g5)).trans g5)
  replace g6 := (o13.block _ (Nat.ne_of_lt (heap_lt g6))).trans ((Below.heap_alloc u5 _ _ (heap_lt g6)).trans g6)
  replace g7 := (o13.block _ (Nat.ne_of_lt (heap_lt g7))).trans ((Below.heap_alloc u5 _ _ (heap_lt g7)).trans g7)
  replace g8 := (o13.block _ (Nat.ne_of_lt (heap_lt g8))).trans ((Below.heap_alloc u5 _ _ (heap_lt g8)).trans g8)
  replace g9 := (o13.block _ (Nat.ne_of_lt (heap_lt g9))).trans ((Below.heap_alloc u5 _ _ (heap_lt g9)).trans g9)
  replace g10 := (o13.block _ (Nat.ne_of_lt (heap_lt g10))).trans ((Below.heap_alloc u5 _ _ (heap_lt g10)).trans g10)
  replace g11 := (o13.block _ (Nat.ne_of_lt (heap_lt g11))).trans ((Below.heap_alloc u5 _ _ (heap_lt g11)).trans g11)
  replace g12 := (o13.block _ (Nat.ne_of_lt (heap_lt g12))).trans ((Below.heap_alloc u5 _ _ (heap_lt g12)).trans g12)
  replace hK := keep_below hz hK (Below.trans ((Below.refl _ _).alloc (by omega) _) (Only.below (b := u5.heap.size) (B := wd.heap.size) o13 (by omega)))
  have hs5 : wd.heap.size + 3 ≤ v5.heap.size := by rw [o13.size]; simp; omega
  clear o13
  generalize hb13 : u5.heap.size = b13 at *
  have l13 := hs
  clear hs hb13
  have hs := hs5
  clear hs5
  refine Hid.mk ?_
  obtain ⟨sm, hsm⟩ : ∃ y, (da + cb) % P255 = y := ⟨_, rfl⟩
  have Nsm : N256 sm := hsm ▸ N256.mod _
  have Hsm := Hid.mk hsm
  clear hsm
  obtain ⟨rs, hrs⟩ : ∃ y, (da - cb) % P255 = y := ⟨_, rfl⟩
  have Nrs : N256 rs := hrs ▸ N256.mod _
  have Hrs := Hid.mk hrs
  clear hrs
  go_wp2_with fail
  refine wp_region3 (Keep wd) v5.heap.size
    [(wd.heap.size, fixd (Q4 x z v w) 33), ((wd.heap.size + 1), fixd (BA u) 22), ((wd.heap.size + 1 + 1), fixd (Q4 0 0 0 0) 33), (b5, fixd (BA a1) 22), (b6, fixd (BA b1) 22), (b7, fixd (BA c1) 22), (b8, fixd (BA d1) 22), (b9, fixd (BA aa) 22), (b10, fixd (BA bb) 22), (b11, fixd (BA da) 22), (b12, fixd (BA cb) 22), (b13, fixd (BA ee) 22)]
    [kv (.agg (BA da)), kv (.agg (BA cb)), ks 2 (BA da ++ BA cb) 22, kv (.agg (BA sm)), kv (.agg (BA da)), kv (.agg (BA cb)), kv (.agg (BA rs)), kp (BA 0) 22 9 (BA sm), kp (BA 0) 22 10 (BA rs), .val fun _ => True, .val fun _ => True]
    [.none, .none, .none, .none, .none, .none, .none, .none, .none, .own 7 1, .own 8 1]
    [some 57, some 58, some 59, some 60, some 61, some 62, some 63, some 14, some 15, none, none]
    [(11, .pointer (some ⟨b11, 0, none⟩)), (12, .pointer (some ⟨b12, 0, none⟩))]
    [[.base 9 0], [.base 10 0], [.slot 0, .slot 1], [.slot 2, .cont 2 0], [.base 9 0], [.base 10 0], [.slot 4, .slot 5], [], [], [.slot 7, .cont 7 0, .slot 3], [.slot 8, .cont 8 0, .slot 6]]
    [.slot 7, .cont 7 1, .slot 8, .cont 8 1, .base 0 0, .base 1 0, .base 2 0, .base 3 0, .base 4 0, .base 5 0, .base 6 0, .base 7 0, .base 8 0, .base 9 0, .base 10 0, .base 11 0] [57, 58, 59, 60, 61, 62, 63, 14, 15]
    rfl (by kernel_rfl) ⟨rfl, rfl, trivial⟩ (keep_drew hK) (Nat.le_refl _) ⟨⟨heap_lt g2, obIn g2⟩, ⟨heap_lt g3, obIn g3⟩, ⟨heap_lt g4, obIn g4⟩, ⟨heap_lt g5, obIn g5⟩, ⟨heap_lt g6, obIn g6⟩, ⟨heap_lt g7, obIn g7⟩, ⟨heap_lt g8, obIn g8⟩, ⟨heap_lt g9, obIn g9⟩, ⟨heap_lt g10, obIn g10⟩, ⟨heap_lt g11, obIn g11⟩, ⟨heap_lt g12, obIn g12⟩, ⟨heap_lt g13, obIn g13⟩, trivial⟩ ⟨⟨trivial, trivial, trivial, trivial, trivial, trivial, trivial, trivial, trivial, trivial, trivial, trivial⟩, ⟨trivial, trivial, trivial, trivial, trivial, trivial, trivial, trivial, trivial, trivial, trivial⟩, ⟨trivial, trivial, trivial, trivial, trivial, trivial, trivial, trivial, trivial, trivial⟩, ⟨trivial, trivial, trivial, trivial, trivial, trivial, trivial, trivial, trivial⟩, ⟨trivial, trivial, trivial, trivial, trivial, trivial, trivial, trivial⟩, ⟨trivial, trivial, trivial, trivial, trivial, trivial, trivial⟩, ⟨trivial, trivial, trivial, trivial, trivial, trivial⟩, ⟨trivial, trivial, trivial, trivial, trivial⟩, ⟨trivial, trivial, trivial, trivial⟩, ⟨trivial, trivial, trivial⟩, ⟨trivial, trivial⟩, trivial, trivial⟩ (keep_G hz (by omega) ⟨(by omega), (by omega), (by omega), (by omega), (by omega), (by omega), (by omega), (by omega), (by omega), (by omega), (by omega), (by omega), trivial⟩)
    ⟨
      -- 0
      (fun Q aq ww own hS hBg fr kn => .inl ⟨trivial, fun K hK => wp_value (lookb rfl fr.1 (obAt kn.1)) (hK _ _ ⟨Touch.refl _ _, rfl⟩)⟩),
      -- 1
      (fun Q aq ww own hS hBg fr kn => .inl ⟨trivial, fun K hK => wp_value (lookb rfl fr.2.1 (obAt kn.1)) (hK _ _ ⟨Touch.refl _ _, rfl⟩)⟩),
      -- 2
      (fun Q aq ww own hS hBg fr kn => .inl ⟨trivial, fun K hK => actb2 rfl kn.1 kn.2.1 (fun v hg hb => hK _ _ ⟨touch_below hb, _, Nat.le_refl _, rfl, obIn hg⟩)⟩),
      -- 3
      (fun Q aq ww own hS hBg fr kn => .inl ⟨trivial, fun K hK => stepc1 enterAdd rfl kn.1.1 (add2 da cb _ ww Nda Ncb (rows2 (obAt kn.2.1)) kn.1.2.2) (fun w' hb => hK _ _ ⟨touch_below hb, (congrArg (fun n => Value.agg (BA n)) Hsm.out)⟩)⟩),
      -- 4
      (fun Q aq ww own hS hBg fr kn => .inl ⟨trivial, fun K hK => wp_value (lookb rfl fr.1 (obAt kn.1)) (hK _ _ ⟨Touch.refl _ _, rfl⟩)⟩),
      -- 5
      (fun Q aq ww own hS hBg fr kn => .inl ⟨trivial, fun K hK => wp_value (lookb rfl fr.2.1 (obAt kn.1)) (hK _ _ ⟨Touch.refl _ _, rfl⟩)⟩),
      -- 6
      (fun Q aq ww own hS hBg fr kn => .inl ⟨trivial, fun K hK => stepc2 enterSub rfl kn.1 kn.2.1 (sub_any da cb ww hS.2 Nda.1 Nda.2 Ncb.1 Ncb.2) (fun w' hb => hK _ _ ⟨touch_below hb, (congrArg (fun n => Value.agg (BA n)) Hrs.out)⟩)⟩),
      -- 7
      (fun Q aq ww own hS hBg fr kn => .inl ⟨trivial, fun K hK => act_alloc zero_bytes rfl (fun w' hb hg => hK _ _ ⟨touch_below hb, _, Nat.le_refl _, rfl, obIn hg⟩)⟩),
      -- 8
      (fun Q aq ww own hS hBg fr kn => .inl ⟨trivial, fun K hK => act_alloc zero_bytes rfl (fun w' hb hg => hK _ _ ⟨touch_below hb, _, Nat.le_refl _, rfl, obIn hg⟩)⟩),
      -- 9
      (fun Q aq ww own hS hBg fr kn => .inl ⟨trivial, fun K hK => actbytes rfl kn.1.1 kn.2.2.1 (obAt kn.2.1) (fun w2 hg ho => hK _ _ ⟨touch_only ho, obIn hg, trivial⟩)⟩),
      -- 10
      (fun Q aq ww own hS hBg fr kn => .inl ⟨trivial, fun K hK => actbytes rfl kn.1.1 kn.2.2.1 (obAt kn.2.1) (fun w2 hg ho => hK _ _ ⟨touch_only ho, obIn hg, trivial⟩)⟩),
      trivial⟩ ?_
  intro vs6 own v6 hK6 hs6 kn inj
  clear inj
  have e14 : vs6 14 = .pointer (some ⟨own 7, 0, none⟩) := kn.1.1
  have l14 : v5.heap.size ≤ own 7 := kn.1.2.1
  have g14 := obAt kn.2.1
  have e15 : vs6 15 = .pointer (some ⟨own 8, 0, none⟩) := kn.2.2.1.1
  have l15 : v5.heap.size ≤ own 8 := kn.2.2.1.2.1
  have g15 := obAt kn.2.2.2.1
  have g2_ := obAt kn.2.2.2.2.1
  have g3_ := obAt kn.2.2.2.2.2.1
  have g4_ := obAt kn.2.2.2.2.2.2.1
  have g5_ := obAt kn.2.2.2.2.2.2.2.1
  have g6_ := obAt kn.2.2.2.2.2.2.2.2.1
  have g7_ := obAt kn.2.2.2.2.2.2.2.2.2.1
  have g8_ := obAt kn.2.2.2.2.2.2.2.2.2.2.1
  have g9_ := obAt kn.2.2.2.2.2.2.2.2.2.2.2.1
  have g10_ := obAt kn.2.2.2.2.2.2.2.2.2.2.2.2.1
  have g11_ := obAt kn.2.2.2.2.2.2.2.2.2.2.2.2.2.1
  have g12_ := obAt kn.2.2.2.2.2.2.2.2.2.2.2.2.2.2.1
  have g13_ := obAt kn.2.2.2.2.2.2.2.2.2.2.2.2.2.2.2.1
  clear kn
  generalize own 7 = b14 at *
  generalize own 8 = b15 at *
  simp only [putAll, Act.put, List.setIfInBounds_toArray, List.set_cons_zero, List.set_cons_succ, e14, e15]
  replace l14 : wd.heap.size + 3 ≤ b14 := by omega
  replace l15 : wd.heap.size + 3 ≤ b15 := by omega
  replace hs : wd.heap.size + 3 ≤ v6.heap.size := by omega
  clear e14 e15 g2 g3 g4 g5 g6 g7 g8 g9 g10 g11 g12 g13 hs6
  have g2 := g2_
  clear g2_
  have g3 := g3_
  clear g3_
  have g4 := g4_
  clear g4_
  have g5 := g5_
  clear g5_
  have g6 := g6_
  clear g6_
  have g7 := g7_
  clear g7_
  have g8 := g8_
  clear g8_
  have g9 := g9_
  clear g9_
  have g10 := g10_
  clear g10_
  have g11 := g11_
  clear g11_
  have g12 := g12_
  clear g12_
  have g13 := g13_
  clear g13_
  clear hK
  have hK := hK6
  clear hK6
  clear own
  obtain ⟨nx, hnx⟩ : ∃ y, aa * bb % P255 = y := ⟨_, rfl⟩
  have Nnx : N256 nx := hnx ▸ N256.mod _
  have Hnx := Hid.mk hnx
  clear hnx
  obtain ⟨mm, hmm⟩ : ∃ y, 121665 % P255 = y := ⟨_, rfl⟩
  have Nmm : N256 mm := hmm ▸ N256.mod _
  have Hmm := Hid.mk hmm
  clear hmm
  obtain ⟨t1, ht1⟩ : ∃ y, mm * ee % P255 = y := ⟨_, rfl⟩
  have Nt1 : N256 t1 := ht1 ▸ N256.mod _
  have Ht1 := Hid.mk ht1
  clear ht1
  obtain ⟨t2, ht2⟩ : ∃ y, (aa + t1) % P255 = y := ⟨_, rfl⟩
  have Nt2 : N256 t2 := ht2 ▸ N256.mod _
  have Ht2 := Hid.mk ht2
  clear ht2
  obtain ⟨nz, hnz⟩ : ∃ y, ee * t2 % P255 = y := ⟨_, rfl⟩
  have Nnz : N256 nz := hnz ▸ N256.mod _
  have Hnz := Hid.mk hnz
  clear hnz
  obtain ⟨nv, hnv⟩ : ∃ y, sm * sm % P255 = y := ⟨_, rfl⟩
  have Nnv : N256 nv := hnv ▸ N256.mod _
  have Hnv := Hid.mk hnv
  clear hnv
  obtain ⟨nw, hnw⟩ : ∃ y, u * (rs * rs) % P255 = y := ⟨_, rfl⟩
  have Nnw : N256 nw := hnw ▸ N256.mod _
  have Hnw := Hid.mk hnw
  clear hnw
  go_wp2_with fail
  refine wp_region3 (Keep wd) v6.heap.size
    [(wd.heap.size, fixd (Q4 x z v w) 33), ((wd.heap.size + 1), fixd (BA u) 22), ((wd.heap.size + 1 + 1), once (Q4 0 0 0 0) 33 24 (Q4 nx nz nv nw)), (b5, fixd (BA a1) 22), (b6, fixd (BA b1) 22), (b7, fixd (BA c1) 22), (b8, fixd (BA d1) 22), (b9, fixd (BA aa) 22), (b10, fixd (BA bb) 22), (b11, fixd (BA da) 22), (b12, fixd (BA cb) 22), (b13, fixd (BA ee) 22), (b14, fixd (BA sm) 22), (b15, fixd (BA rs) 22)]
    [kv (.agg (BA aa)), kv (.agg (BA bb)), ks 2 (BA aa ++ BA bb) 22, kv (.agg (BA nx)), kv (.agg (BA ee)), kv (.agg (BA aa)), kv (.agg (BA mm)), kv (.agg (BA ee)), ks 2 (BA mm ++ BA ee) 22, kv (.agg (BA t1)), ks 2 (BA aa ++ BA t1) 22, kv (.agg (BA t2)), ks 2 (BA ee ++ BA t2) 22, kv (.agg (BA nz)), kv (.agg (BA sm)), kv (.agg (BA sm)), ks 2 (BA sm ++ BA sm) 22, kv (.agg (BA nv)), kv (.agg (BA u)), kv (.agg (BA rs)), kv (.agg (BA rs)), ks 3 (BA u ++ BA rs ++ BA rs) 22, kv (.agg (BA nw)), kv (.agg (Q4 nx nz nv nw)), .val fun _ => True]
    [.none, .none, .none, .none, .none, .none, .none, .none, .none, .none, .none, .none, .none, .none, .none, .none, .none, .none, .none, .none, .none, .none, .none, .none, .base 2 1]
    [some 64, some 65, some 66, some 67, some 68, some 69, some 70, some 71, some 72, some 73, some 74, some 75, some 76, some 77, some 78, some 79, some 80, some 81, some 82, some 83, some 84, some 85, some 86, some 87, none]
    [(3, .pointer (some ⟨(wd.heap.size + 1), 0, none⟩)), (4, .pointer (some ⟨(wd.heap.size + 1 + 1), 0, none⟩)), (9, .pointer (some ⟨b9, 0, none⟩)), (10, .pointer (some ⟨b10, 0, none⟩)), (13, .pointer (some ⟨b13, 0, none⟩)), (14, .pointer (some ⟨b14, 0, none⟩)), (15, .pointer (some ⟨b15, 0, none⟩))]
    [[.base 7 0], [.base 8 0], [.slot 0, .slot 1], [.slot 2, .cont 2 0], [.base 11 0], [.base 7 0], [], [.base 11 0], [.slot 6, .slot 7], [.slot 8, .cont 8 0], [.slot 5, .slot 9], [.slot 10, .cont 10 0], [.slot 4, .slot 11], [.slot 12, .cont 12 0], [.base 12 0], [.base 12 0], [.slot 14, .slot 15], [.slot 16, .cont 16 0], [.base 1 0], [.base 13 0], [.base 13 0], [.slot 18, .slot 19, .slot 20], [.slot 21, .cont 21 0], [.slot 3, .slot 13, .slot 17, .slot 22], [.base 2 0, .slot 23]]
    [.base 0 0, .base 1 0, .base 2 1, .base 3 0, .base 4 0, .base 5 0, .base 6 0, .base 7 0, .base 8 0, .base 9 0, .base 10 0, .base 11 0, .base 12 0, .base 13 0] [64, 65, 66, 67, 68, 69, 70, 71, 72, 73, 74, 75, 76, 77, 78, 79, 80, 81, 82, 83, 84, 85, 86, 87]
    rfl (by kernel_rfl) ⟨rfl, rfl, rfl, rfl, rfl, rfl, rfl, trivial⟩ (keep_drew hK) (Nat.le_refl _) ⟨⟨heap_lt g2, obIn g2⟩, ⟨heap_lt g3, obIn g3⟩, ⟨heap_lt g4, obIn g4⟩, ⟨heap_lt g5, obIn g5⟩, ⟨heap_lt g6, obIn g6⟩, ⟨heap_lt g7, obIn g7⟩, ⟨heap_lt g8, obIn g8⟩, ⟨heap_lt g9, obIn g9⟩, ⟨heap_lt g10, obIn g10⟩, ⟨heap_lt g11, obIn g11⟩, ⟨heap_lt g12, obIn g12⟩, ⟨heap_lt g13, obIn g13⟩, ⟨heap_lt g14, obIn g14⟩, ⟨heap_lt g15, obIn g15⟩, trivial⟩ ⟨⟨trivial, (show (wd.heap.size : Nat) ≠ (wd.heap.size + 1 + 1) from by omega), trivial, trivial, trivial, trivial, trivial, trivial, trivial, trivial, trivial, trivial, trivial, trivial⟩, ⟨(show ((wd.heap.size + 1) : Nat) ≠ (wd.heap.size + 1 + 1) from by omega), trivial, trivial, trivial, trivial, trivial, trivial, trivial, trivial, trivial, trivial, trivial, trivial⟩, ⟨(show ((wd.heap.size + 1 + 1) : Nat) ≠ b5 from by omega), (show ((wd.heap.size + 1 + 1) : Nat) ≠ b6 from by omega), (show ((wd.heap.size + 1 + 1) : Nat) ≠ b7 from by omega), (show ((wd.heap.size + 1 + 1) : Nat) ≠ b8 from by omega), (show ((wd.heap.size + 1 + 1) : Nat) ≠ b9 from by omega), (show ((wd.heap.size + 1 + 1) : Nat) ≠ b10 from by omega), (show ((wd.heap.size + 1 + 1) : Nat) ≠ b11 from by omega), (show ((wd.heap.size + 1 + 1) : Nat) ≠ b12 from by omega), (show ((wd.heap.size + 1 + 1) : Nat) ≠ b13 from by omega), (show ((wd.heap.size + 1 + 1) : Nat) ≠ b14 from by omega), (show ((wd.heap.size + 1 + 1) : Nat) ≠ b15 from by omega), trivial⟩, ⟨trivial, trivial, trivial, trivial, trivial, trivial, trivial, trivial, trivial, trivial, trivial⟩, ⟨trivial, trivial, trivial, trivial, trivial, trivial, trivial, trivial, trivial, trivial⟩, ⟨trivial, trivial, trivial, trivial, trivial, trivial, trivial, trivial, trivial⟩, ⟨trivial, trivial, trivial, trivial, trivial, trivial, trivial, trivial⟩, ⟨trivial, trivial, trivial, trivial, trivial, trivial, trivial⟩, ⟨trivial, trivial, trivial, trivial, trivial, trivial⟩, ⟨trivial, trivial, trivial, trivial, trivial⟩, ⟨trivial, trivial, trivial, trivial⟩, ⟨trivial, trivial, trivial⟩, ⟨trivial, trivial⟩, trivial, trivial⟩ (keep_G hz (by omega) ⟨(by omega), (by omega), (by omega), (by omega), (by omega), (by omega), (by omega), (by omega), (by omega), (by omega), (by omega), (by omega), (by omega), (by omega), trivial⟩)
    ⟨
      -- 0
      (fun Q aq ww own hS hBg fr kn => .inl ⟨trivial, fun K hK => wp_value (lookb rfl fr.2.2.1 (obAt kn.1)) (hK _ _ ⟨Touch.refl _ _, rfl⟩)⟩),
      -- 1
      (fun Q aq ww own hS hBg fr kn => .inl ⟨trivial, fun K hK => wp_value (lookb rfl fr.2.2.2.1 (obAt kn.1)) (hK _ _ ⟨Touch.refl _ _, rfl⟩)⟩),
      -- 2
      (fun Q aq ww own hS hBg fr kn => .inl ⟨trivial, fun K hK => actb2 rfl kn.1 kn.2.1 (fun v hg hb => hK _ _ ⟨touch_below hb, _, Nat.le_refl _, rfl, obIn hg⟩)⟩),
      -- 3
      (fun Q aq ww own hS hBg fr kn => .inl ⟨trivial, fun K hK => stepc1 enterMul rfl kn.1.1 (mul2 aa bb _ ww Naa Nbb (rows2 (obAt kn.2.1)) kn.1.2.2) (fun w' hb => hK _ _ ⟨touch_below hb, (congrArg (fun n => Value.agg (BA n)) Hnx.out)⟩)⟩),
      -- 4
      (fun Q aq ww own hS hBg fr kn => .inl ⟨trivial, fun K hK => wp_value (lookb rfl fr.2.2.2.2.1 (obAt kn.1)) (hK _ _ ⟨Touch.refl _ _, rfl⟩)⟩),
      -- 5
      (fun Q aq ww own hS hBg fr kn => .inl ⟨trivial, fun K hK => wp_value (lookb rfl fr.2.2.1 (obAt kn.1)) (hK _ _ ⟨Touch.refl _ _, rfl⟩)⟩),
      -- 6
      (fun Q aq ww own hS hBg fr kn => .inl ⟨trivial, fun K hK => stepc1 enterOf rfl rfl (of_any 121665 ww hS.2 (by omega) (by omega)) (fun w' hb => hK _ _ ⟨touch_below hb, (congrArg (fun n => Value.agg (BA n)) Hmm.out)⟩)⟩),
      -- 7
      (fun Q aq ww own hS hBg fr kn => .inl ⟨trivial, fun K hK => wp_value (lookb rfl fr.2.2.2.2.1 (obAt kn.1)) (hK _ _ ⟨Touch.refl _ _, rfl⟩)⟩),
      -- 8
      (fun Q aq ww own hS hBg fr kn => .inl ⟨trivial, fun K hK => actb2 rfl kn.1 kn.2.1 (fun v hg hb => hK _ _ ⟨touch_below hb, _, Nat.le_refl _, rfl, obIn hg⟩)⟩),
      -- 9
      (fun Q aq ww own hS hBg fr kn => .inl ⟨trivial, fun K hK => stepc1 enterMul rfl kn.1.1 (mul2 mm ee _ ww Nmm Nee (rows2 (obAt kn.2.1)) kn.1.2.2) (fun w' hb => hK _ _ ⟨touch_below hb, (congrArg (fun n => Value.agg (BA n)) Ht1.out)⟩)⟩),
      -- 10
      (fun Q aq ww own hS hBg fr kn => .inl ⟨trivial, fun K hK => actb2 rfl kn.1 kn.2.1 (fun v hg hb => hK _ _ ⟨touch_below hb, _, Nat.le_refl _, rfl, obIn hg⟩)⟩),
      -- 11
      (fun Q aq ww own hS hBg fr kn => .inl ⟨trivial, fun K hK => stepc1 enterAdd rfl kn.1.1 (add2 aa t1 _ ww Naa Nt1 (rows2 (obAt kn.2.1)) kn.1.2.2) (fun w' hb => hK _ _ ⟨touch_below hb, (congrArg (fun n => Value.agg (BA n)) Ht2.out)⟩)⟩),
      -- 12
      (fun Q aq ww own hS hBg fr kn => .inl ⟨trivial, fun K hK => actb2 rfl kn.1 kn.2.1 (fun v hg hb => hK _ _ ⟨touch_below hb, _, Nat.le_refl _, rfl, obIn hg⟩)⟩),
      -- 13
      (fun Q aq ww own hS hBg fr kn => .inl ⟨trivial, fun K hK => stepc1 enterMul rfl kn.1.1 (mul2 ee t2 _ ww Nee Nt2 (rows2 (obAt kn.2.1)) kn.1.2.2) (fun w' hb => hK _ _ ⟨touch_below hb, (congrArg (fun n => Value.agg (BA n)) Hnz.out)⟩)⟩),
      -- 14
      (fun Q aq ww own hS hBg fr kn => .inl ⟨trivial, fun K hK => wp_value (lookb rfl fr.2.2.2.2.2.1 (obAt kn.1)) (hK _ _ ⟨Touch.refl _ _, rfl⟩)⟩),
      -- 15
      (fun Q aq ww own hS hBg fr kn => .inl ⟨trivial, fun K hK => wp_value (lookb rfl fr.2.2.2.2.2.1 (obAt kn.1)) (hK _ _ ⟨Touch.refl _ _, rfl⟩)⟩),
      -- 16
      (fun Q aq ww own hS hBg fr kn => .inl ⟨trivial, fun K hK => actb2 rfl kn.1 kn.2.1 (fun v hg hb => hK _ _ ⟨touch_below hb, _, Nat.le_refl _, rfl, obIn hg⟩)⟩),
      -- 17
      (fun Q aq ww own hS hBg fr kn => .inl ⟨trivial, fun K hK => stepc1 enterMul rfl kn.1.1 (mul2 sm sm _ ww Nsm Nsm (rows2 (obAt kn.2.1)) kn.1.2.2) (fun w' hb => hK _ _ ⟨touch_below hb, (congrArg (fun n => Value.agg (BA n)) Hnv.out)⟩)⟩),
      -- 18
      (fun Q aq ww own hS hBg fr kn => .inl ⟨trivial, fun K hK => wp_value (lookb rfl fr.1 (obAt kn.1)) (hK _ _ ⟨Touch.refl _ _, rfl⟩)⟩),
      -- 19
      (fun Q aq ww own hS hBg fr kn => .inl ⟨trivial, fun K hK => wp_value (lookb rfl fr.2.2.2.2.2.2.1 (obAt kn.1)) (hK _ _ ⟨Touch.refl _ _, rfl⟩)⟩),
      -- 20
      (fun Q aq ww own hS hBg fr kn => .inl ⟨trivial, fun K hK => wp_value (lookb rfl fr.2.2.2.2.2.2.1 (obAt kn.1)) (hK _ _ ⟨Touch.refl _ _, rfl⟩)⟩),
      -- 21
      (fun Q aq ww own hS hBg fr kn => .inl ⟨trivial, fun K hK => actb3 rfl kn.1 kn.2.1 kn.2.2.1 (fun v hg hb => hK _ _ ⟨touch_below hb, _, Nat.le_refl _, rfl, obIn hg⟩)⟩),
      -- 22
      (fun Q aq ww own hS hBg fr kn => .inl ⟨trivial, fun K hK => stepc1 enterMul rfl kn.1.1 (mul3 u rs rs _ ww Nu Nrs Nrs (rows3 (obAt kn.2.1)) kn.1.2.2) (fun w' hb => hK _ _ ⟨touch_below hb, (congrArg (fun n => Value.agg (BA n)) Hnw.out)⟩)⟩),
      -- 23
      (fun Q aq ww own hS hBg fr kn => .inl ⟨trivial, fun K hK => wp_value (exec_rung4 rfl kn.1 kn.2.1 kn.2.2.1 kn.2.2.2.1) (hK _ _ ⟨Touch.refl _ _, rfl⟩)⟩),
      -- 24
      (fun Q aq ww own hS hBg fr kn => .inl ⟨trivial, fun K hK => act_rungs rfl fr.2.1 kn.2.1 (obAt kn.1) (Q4_size _ _ _ _) (fun w2 hg ho => hK _ _ ⟨⟨touch_only ho, obIn hg⟩, trivial⟩)⟩),
      trivial⟩ ?_
  intro vs7 own v7 hK7 hs7 kn inj
  clear inj
  have g2_ := obAt kn.1
  have g3_ := obAt kn.2.1
  have g4_ := obAt kn.2.2.1
  have g5_ := obAt kn.2.2.2.1
  have g6_ := obAt kn.2.2.2.2.1
  have g7_ := obAt kn.2.2.2.2.2.1
  have g8_ := obAt kn.2.2.2.2.2.2.1
  have g9_ := obAt kn.2.2.2.2.2.2.2.1
  have g10_ := obAt kn.2.2.2.2.2.2.2.2.1
  have g11_ := obAt kn.2.2.2.2.2.2.2.2.2.1
  have g12_ := obAt kn.2.2.2.2.2.2.2.2.2.2.1
  have g13_ := obAt kn.2.2.2.2.2.2.2.2.2.2.2.1
  have g14_ := obAt kn.2.2.2.2.2.2.2.2.2.2.2.2.1
  have g15_ := obAt kn.2.2.2.2.2.2.2.2.2.2.2.2.2.1
  clear kn
  simp only [putAll, Act.put, List.setIfInBounds_toArray, List.set_cons_zero, List.set_cons_succ]
  replace hs : wd.heap.size + 3 ≤ v7.heap.size := by omega
  clear g2 g3 g4 g5 g6 g7 g8 g9 g10 g11 g12 g13 g14 g15 hs7
  have g2 := g2_
  clear g2_
  have g3 := g3_
  clear g3_
  have g4 := g4_
  clear g4_
  have g5 := g5_
  clear g5_
  have g6 := g6_
  clear g6_
  have g7 := g7_
  clear g7_
  have g8 := g8_
  clear g8_
  have g9 := g9_
  clear g9_
  have g10 := g10_
  clear g10_
  have g11 := g11_
  clear g11_
  have g12 := g12_
  clear g12_
  have g13 := g13_
  clear g13_
  have g14 := g14_
  clear g14_
  have g15 := g15_
  clear g15_
  clear hK
  have hK := hK7
  clear hK7
  clear own
  go_wp2
  exact bodyPost_ret (v := .agg (Q4 nx nz nv nw)) (results_cell_row rfl _ _ _ _ _ _ _ rfl g4 Tryd.underlying33 rfl (by rw [Q4_size]; exact info128r)) rfl
    ⟨⟨_, _, _, _, rfl, Nnx, Nnz, Nnv, Nnw, climb_link x z v w u a1 b1 c1 d1 aa bb ee da cb sm rs nx mm t1 t2 nz nv nw Ha1.out Hb1.out Hc1.out Hd1.out Haa.out Hbb.out Hda.out Hcb.out Hee.out Hsm.out Hrs.out Hnx.out Hmm.out Ht1.out Ht2.out Hnz.out Hnv.out Hnw.out⟩, hK.1⟩
end Go.Proofs.YtpcpcgfljffkeaaDoor
/-
  Own text. What Clamp, bitOf, swap and swapped of package curve give.
-/
namespace Go.Proofs.YtpcpcgfljffkeaaDoor
open Go.RowKit Go.Proofs
theorem xor_u8 (x y : Int) (h0 : 0 ≤ x) (h1 : x < 256) (k0 : 0 ≤ y) (k1 : y < 256) : bits BinOp.xor IntKind.u8 x y = ((x.toNat ^^^ y.toNat : Nat) : Int) := by go_bits2
theorem xor_lt256 {m n : Nat} (h : m < 256) (k : n < 256) : m ^^^ n < 256 := Nat.xor_lt_two_pow (n := 8) h k
theorem and255_u8 (x : Int) (h0 : 0 ≤ x) (h1 : x < 256) : bits BinOp.and IntKind.u8 255 x = x := by go_bits2
theorem and0_u8 (x : Int) (h0 : 0 ≤ x) (h1 : x < 256) : bits BinOp.and IntKind.u8 0 x = 0 := by rw [u8_and _ _ (by omega) (by omega) h0 h1]; simp
theorem and127_u8 (x : Int) (h0 : 0 ≤ x) (h1 : x < 256) : bits BinOp.and IntKind.u8 x 127 = x % 128 := by go_bits2
theorem and248_u8 (x : Int) (h0 : 0 ≤ x) (h1 : x < 256) : bits BinOp.and IntKind.u8 x 248 = x / 8 * 8 := by go_bits2
theorem or64_nat : ∀ n : Nat, n < 128 → n ||| 64 = n % 64 + 64 := by decide +kernel
theorem or64_u8 (x : Int) (h0 : 0 ≤ x) (h1 : x < 128) : bits BinOp.or IntKind.u8 x 64 = x % 64 + 64 := by
  rw [u8_or _ _ h0 (by omega) (by omega) (by omega)]
  have := or64_nat x.toNat (by omega)
  show ((x.toNat ||| 64 : Nat) : Int) = _
  rw [this]
  omega
set_option maxHeartbeats 1000000 in
set_option maxRecDepth 100000 in
theorem clamp_any (k : Int) (w : World) (hk : N256 k) :
    Calls Tryd.prog 10 #[.agg (BA k)] w fun e w' => e = .returned (.agg (BA (clampN k))) ∧ Below w.heap.size w w' := by
  have HC := Hid.mk (BA_clamp k hk)
  clear hk
  have h0 := byt_byte k 0
  have h31 := byt_byte k 31
  unfold Byte at h0 h31
  obtain ⟨h00, h01⟩ := h0
  obtain ⟨h310, h311⟩ := h31
  have c0 := BA_get k 0 (by omega)
  have c31 := BA_get k 31 (by omega)
  generalize byt k 0 = x0 at *
  generalize byt k 31 = x31 at *
  have e0 := and248_u8 x0 h00 h01
  have e1 := and127_u8 x31 h310 h311
  have e2 := or64_u8 (x31 % 128) (by omega) (by omega)
  rw [show x31 % 128 % 64 = x31 % 64 by omega] at e2
  go_enter Tryd.func10, Tryd.ntmps10
  go_wp2_with (first | (refine ld_bytes rfl _ rfl w.heap.size ((BA k).setIfInBounds 0 (.int .u8 (x0 / 8 * 8)) |>.setIfInBounds 31 (.int .u8 (x31 % 64 + 64))) rfl (heap_alloc2_old w _ _) (by simp [BA_size]) ?_; rw [HC.out]) | (refine st_bytesS (n := clampN k) (by rfl) (by rfl) (heap_alloc2_new w _ _) (by rfl) ?_; intro v3 g3 o3))
  exact bodyPost_ret (v := .agg (BA (clampN k))) (results_cell_row rfl _ _ _ _ _ _ _ rfl g3 Tryd.underlying22 rfl (by rw [BA_size]; exact info32)) rfl
    ⟨rfl, Below.trans (((Below.refl _ w).alloc (Nat.le_refl _) _).alloc (by simp) _) (Only.below (b := w.heap.size + 1) (B := w.heap.size) o3 (by omega))⟩
/-- A bit as the code hands it on. -/
def bI (b : Bool) : Int := if b then 1 else 0
theorem key_bI (N : Int) (j : Nat) (h0 : 0 ≤ N) : bits BinOp.and IntKind.u8 (byt N ((254 - j) / 8) / 2 ^ ((254 - j) % 8)) 1 = bI (N.toNat.testBit (254 - j)) := by
  have hb := byt_byte N ((254 - j) / 8)
  unfold Byte at hb
  have hp : (0 : Int) < 2 ^ ((254 - j) % 8) := Int.pow_pos (by decide)
  have h1 : 0 ≤ byt N ((254 - j) / 8) / 2 ^ ((254 - j) % 8) := Int.ediv_nonneg hb.1 (by omega)
  have h2 : byt N ((254 - j) / 8) / 2 ^ ((254 - j) % 8) < 256 := by
    have := Int.ediv_le_self (2 ^ ((254 - j) % 8)) hb.1
    omega
  rw [and_one_u8 _ h1 h2, byt_bit N (254 - j) h0, Nat.testBit_eq_decide_div_mod_eq]
  generalize N.toNat / 2 ^ (254 - j) = G
  have hG : G % 2 = 0 ∨ G % 2 = 1 := by omega
  rcases hG with hG | hG <;> simp [hG, bI]
set_option maxHeartbeats 1000000 in
theorem bitOf_any (N : Int) (j : Nat) (w : World) (hN : 0 ≤ N) (hj : j < 255) :
    Calls Tryd.prog 20 #[.agg (BA N), .int .i64 (254 - (j : Int))] w fun e w' => e = .returned (.int .u8 (bI (N.toNat.testBit (254 - j)))) ∧ Below w.heap.size w w' := by
  have HB := Hid.mk (key_bI N j hN)
  have cb := BA_get N ((254 - j) / 8) (by omega)
  have hi1 : (0 : Int) ≤ 254 - (j : Int) := by omega
  have hq8 : IntKind.i64.wrap ((254 - (j : Int)).tdiv 8) = (((254 - j) / 8 : Nat) : Int) := by rw [IntKind.wrap_i64, Int.tdiv_eq_ediv_of_nonneg hi1]; omega
  have hr8 : (254 - (j : Int)).tmod 8 = (((254 - j) % 8 : Nat) : Int) := by rw [Int.tmod_eq_emod_of_nonneg hi1]; omega
  obtain ⟨q, hq⟩ : ∃ q : Nat, (254 - j) / 8 = q := ⟨_, rfl⟩
  obtain ⟨r, hr⟩ : ∃ r : Nat, (254 - j) % 8 = r := ⟨_, rfl⟩
  have hq32 : (q : Int) < 32 := by omega
  have hr64 : r < 8 := by omega
  rw [hq] at hq8 cb
  rw [hr] at hr8
  rw [hq, hr] at HB
  have hbq := byt_byte N q
  unfold Byte at hbq
  obtain ⟨hbq0, hbq1⟩ := hbq
  go_enter Tryd.func20, Tryd.ntmps20
  go_wp2
  rw [HB.out]
  go_ret
  exact ⟨rfl, (Below.refl _ w).alloc (Nat.le_refl _) _⟩
end Go.Proofs.YtpcpcgfljffkeaaDoor
