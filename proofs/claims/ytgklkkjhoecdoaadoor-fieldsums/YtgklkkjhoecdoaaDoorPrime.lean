/-
  Own text. 2^255 - 19 is a prime, and so a power by p - 1 leaves 1: by Fermat's little theorem and Pocklington's criterion, down a chain of eight primes. No program is named here.
-/
namespace Go.Proofs.YtgklkkjhoecdoaaDoor
def IsPrime (p : Nat) : Prop := 2 ≤ p ∧ ∀ d, d ∣ p → d = 1 ∨ d = p
theorem exists_prime_dvd : ∀ (m n : Nat), n ≤ m → 2 ≤ n → ∃ r, IsPrime r ∧ r ∣ n
  | 0, n, h, h2 => by omega
  | m + 1, n, h, h2 => by
    by_cases hp : ∀ d, d ∣ n → d = 1 ∨ d = n
    · exact ⟨n, ⟨h2, hp⟩, Nat.dvd_refl n⟩
    · have : ∃ d, d ∣ n ∧ d ≠ 1 ∧ d ≠ n := by
        apply Classical.byContradiction
        intro hn
        apply hp
        intro d hd
        by_cases h1 : d = 1
        · exact Or.inl h1
        · by_cases h3 : d = n
          · exact Or.inr h3
          · exact absurd ⟨d, hd, h1, h3⟩ hn
      obtain ⟨d, hd, h1, h3⟩ := this
      have hle := Nat.le_of_dvd (by omega) hd
      have hpos : d ≠ 0 := fun h0 => by subst h0; have := Nat.eq_zero_of_zero_dvd hd; omega
      obtain ⟨r, hr, hrd⟩ := exists_prime_dvd m d (by omega) (by omega)
      exact ⟨r, hr, Nat.dvd_trans hrd hd⟩
theorem prime_coprime {p a : Nat} (hp : IsPrime p) (h : ¬ p ∣ a) : Nat.Coprime p a := by
  rcases hp.2 (Nat.gcd p a) (Nat.gcd_dvd_left p a) with h1 | h1
  · exact h1
  · exact absurd (h1 ▸ Nat.gcd_dvd_right p a) h
theorem prime_dvd_mul {p a b : Nat} (hp : IsPrime p) (h : p ∣ a * b) : p ∣ a ∨ p ∣ b := by
  by_cases ha : p ∣ a
  · exact Or.inl ha
  · exact Or.inr (Nat.Coprime.dvd_of_dvd_mul_left (prime_coprime hp ha) h)
/-- Binomial coefficients. -/
def ch : Nat → Nat → Nat
  | _, 0 => 1
  | 0, _ + 1 => 0
  | n + 1, k + 1 => ch n k + ch n (k + 1)
theorem ch_zero (n : Nat) : ch n 0 = 1 := by cases n <;> rfl
theorem ch_succ (n k : Nat) : ch (n + 1) (k + 1) = ch n k + ch n (k + 1) := rfl
theorem ch_big : ∀ (n k : Nat), n < k → ch n k = 0
  | 0, 0, h => by omega
  | 0, k + 1, _ => rfl
  | n + 1, 0, h => by omega
  | n + 1, k + 1, h => by rw [ch_succ, ch_big n k (by omega), ch_big n (k + 1) (by omega)]
theorem ch_self : ∀ n : Nat, ch n n = 1
  | 0 => rfl
  | n + 1 => by rw [ch_succ, ch_self n, ch_big n (n + 1) (by omega)]
theorem ch_absorb : ∀ (n k : Nat), (k + 1) * ch (n + 1) (k + 1) = (n + 1) * ch n k
  | 0, 0 => rfl
  | 0, k + 1 => by rw [ch_succ, ch_big 0 (k + 1) (by omega), ch_big 0 (k + 2) (by omega)]; simp
  | n + 1, 0 => by
    have h1 := ch_absorb n 0
    rw [ch_zero] at h1
    rw [ch_succ, ch_zero]
    omega
  | n + 1, k + 1 => by
    have h1 := ch_absorb n k
    have h2 := ch_absorb n (k + 1)
    rw [ch_succ (n + 1) (k + 1), Nat.mul_add, h2]
    have h3 : (k + 1 + 1) * ch (n + 1) (k + 1) = (n + 1) * ch n k + ch (n + 1) (k + 1) := by rw [← h1, Nat.add_mul (k + 1) 1, Nat.one_mul]
    rw [h3]
    have h4 : (n + 1 + 1) * ch (n + 1) (k + 1) = (n + 1) * ch (n + 1) (k + 1) + ch (n + 1) (k + 1) := by rw [Nat.add_mul (n + 1) 1, Nat.one_mul]
    rw [h4, ch_succ n k, Nat.mul_add]
    omega
def sumN (f : Nat → Nat) : Nat → Nat
  | 0 => 0
  | m + 1 => sumN f m + f m
theorem pascal_sum (x n : Nat) : ∀ m, sumN (fun k => ch (n + 1) k * x ^ k) (m + 1) = sumN (fun k => ch n k * x ^ k) (m + 1) + x * sumN (fun k => ch n k * x ^ k) m
  | 0 => by simp [sumN, ch_zero]
  | m + 1 => by
    have ih := pascal_sum x n m
    have e1 : sumN (fun k => ch (n + 1) k * x ^ k) (m + 1 + 1) = sumN (fun k => ch (n + 1) k * x ^ k) (m + 1) + ch (n + 1) (m + 1) * x ^ (m + 1) := rfl
    have e2 : sumN (fun k => ch n k * x ^ k) (m + 1 + 1) = sumN (fun k => ch n k * x ^ k) (m + 1) + ch n (m + 1) * x ^ (m + 1) := rfl
    have e3 : sumN (fun k => ch n k * x ^ k) (m + 1) = sumN (fun k => ch n k * x ^ k) m + ch n m * x ^ m := rfl
    rw [e1, ih, e2, ch_succ, Nat.add_mul]
    have e4 : x * sumN (fun k => ch n k * x ^ k) (m + 1) = x * sumN (fun k => ch n k * x ^ k) m + ch n m * x ^ (m + 1) := by
      rw [e3, Nat.mul_add, Nat.pow_succ]
      have : x * (ch n m * x ^ m) = ch n m * (x ^ m * x) := by rw [Nat.mul_comm x, Nat.mul_assoc]
      rw [this]
    rw [e4]
    omega
theorem binom (x : Nat) : ∀ n, sumN (fun k => ch n k * x ^ k) (n + 1) = (x + 1) ^ n
  | 0 => by simp [sumN, ch_zero]
  | n + 1 => by
    rw [pascal_sum, binom x n]
    have e : sumN (fun k => ch n k * x ^ k) (n + 1 + 1) = sumN (fun k => ch n k * x ^ k) (n + 1) + ch n (n + 1) * x ^ (n + 1) := rfl
    have e2 : (x + 1) ^ (n + 1) = (x + 1) ^ n * (x + 1) := Nat.pow_succ (x + 1) n
    rw [e, ch_big n (n + 1) (by omega), binom x n, Nat.zero_mul, Nat.add_zero, e2, Nat.mul_add, Nat.mul_one, Nat.mul_comm x]
    omega
theorem prime_dvd_ch {p k : Nat} (hp : IsPrime p) (h0 : 0 < k) (h1 : k < p) : p ∣ ch p k := by
  obtain ⟨n, rfl⟩ : ∃ n, p = n + 1 := ⟨p - 1, by have := hp.1; omega⟩
  obtain ⟨j, rfl⟩ : ∃ j, k = j + 1 := ⟨k - 1, by omega⟩
  have h := ch_absorb n j
  have hd : n + 1 ∣ (j + 1) * ch (n + 1) (j + 1) := ⟨ch n j, h⟩
  rcases prime_dvd_mul hp hd with h2 | h2
  · have := Nat.le_of_dvd (by omega) h2; omega
  · exact h2
theorem low_sum {p : Nat} (hp : IsPrime p) (x : Nat) : ∀ m, m < p → sumN (fun k => ch p k * x ^ k) (m + 1) % p = 1 % p
  | 0, _ => by simp [sumN, ch_zero]
  | m + 1, h => by
    have ih := low_sum hp x m (by omega)
    have e : sumN (fun k => ch p k * x ^ k) (m + 1 + 1) = sumN (fun k => ch p k * x ^ k) (m + 1) + ch p (m + 1) * x ^ (m + 1) := rfl
    have hz : ch p (m + 1) * x ^ (m + 1) % p = 0 := Nat.mod_eq_zero_of_dvd (Nat.dvd_trans (prime_dvd_ch hp (by omega) h) (Nat.dvd_mul_right _ _))
    rw [e, Nat.add_mod, ih, hz, Nat.add_zero, Nat.mod_mod]
theorem freshman {p : Nat} (hp : IsPrime p) (x : Nat) : (x + 1) ^ p % p = (x ^ p + 1) % p := by
  obtain ⟨n, rfl⟩ : ∃ n, p = n + 1 := ⟨p - 1, by have := hp.1; omega⟩
  have e : sumN (fun k => ch (n + 1) k * x ^ k) (n + 1 + 1) = sumN (fun k => ch (n + 1) k * x ^ k) (n + 1) + ch (n + 1) (n + 1) * x ^ (n + 1) := rfl
  rw [← binom, e, ch_self, Nat.one_mul, Nat.add_mod, low_sum hp x n (by omega), ← Nat.add_mod, Nat.add_comm]
theorem fermat1 {p : Nat} (hp : IsPrime p) : ∀ x, x ^ p % p = x % p
  | 0 => by have := hp.1; rw [Nat.zero_pow (by omega)]
  | x + 1 => by rw [freshman hp, Nat.add_mod, fermat1 hp x, ← Nat.add_mod]
theorem mod_eq_one_of_dvd {p y : Nat} (hp : 2 ≤ p) (hy : 1 ≤ y) (h : p ∣ y - 1) : y % p = 1 := by
  obtain ⟨k, hk⟩ := h
  have : y = 1 + p * k := by omega
  rw [this, Nat.add_mul_mod_self_left, Nat.mod_eq_of_lt (by omega)]
theorem fermat {p a : Nat} (hp : IsPrime p) (h : ¬ p ∣ a) : a ^ (p - 1) % p = 1 := by
  have h2 := hp.1
  have ha : 0 < a := Nat.pos_of_ne_zero (fun h0 => by subst h0; exact h (Nat.dvd_zero p))
  have hpos : 1 ≤ a ^ (p - 1) := Nat.pow_pos ha
  apply mod_eq_one_of_dvd h2 hpos
  have h1 := fermat1 hp a
  have e : a ^ p = a * a ^ (p - 1) := by
    obtain ⟨n, rfl⟩ : ∃ n, p = n + 1 := ⟨p - 1, by omega⟩
    rw [Nat.pow_succ, Nat.mul_comm]; rfl
  have hd : p ∣ a * (a ^ (p - 1) - 1) := by
    have h3 : a * (a ^ (p - 1) - 1) = a ^ p - a := by rw [Nat.mul_sub, Nat.mul_one, e]
    rw [h3]
    exact Nat.dvd_of_mod_eq_zero (Nat.sub_mod_eq_zero_of_mod_eq h1)
  rcases prime_dvd_mul hp hd with h4 | h4
  · exact absurd h4 h
  · exact h4
theorem pow_mod_one {b r m : Nat} (h : b ^ m % r = 1 % r) (k : Nat) : b ^ (m * k) % r = 1 % r := by
  rw [Nat.pow_mul, Nat.pow_mod, h, ← Nat.pow_mod, Nat.one_pow]
theorem pow_gcd {b r : Nat} (m n : Nat) : b ^ m % r = 1 % r → b ^ n % r = 1 % r → b ^ Nat.gcd m n % r = 1 % r := by
  induction m, n using Nat.gcd.induction with
  | H0 n => intro _ h; simpa using h
  | H1 m n hm ih =>
    intro h1 h2
    rw [Nat.gcd_rec]
    refine ih ?_ h1
    have e : b ^ n = b ^ (m * (n / m)) * b ^ (n % m) := by rw [← Nat.pow_add, Nat.div_add_mod]
    rw [e, Nat.mul_mod, pow_mod_one h1, ← Nat.mul_mod, Nat.one_mul] at h2
    exact h2
/-- One prime q of n - 1: every prime of n leaves 1 by q. -/
theorem pock_one {n q a r : Nat} (hn : 2 ≤ n) (hq : IsPrime q) (hqn : q ∣ n - 1) (h1 : a ^ (n - 1) % n = 1) (hg : Nat.gcd (a ^ ((n - 1) / q) % n + n - 1) n = 1) (hr : IsPrime r) (hrn : r ∣ n) : q ∣ r - 1 := by
  have hr2 := hr.1
  apply Classical.byContradiction
  intro hnd
  have hc : Nat.gcd q (r - 1) = 1 := prime_coprime hq hnd
  have hb1 : (a ^ ((n - 1) / q)) ^ q % r = 1 % r := by
    rw [← Nat.pow_mul, Nat.div_mul_cancel hqn]
    have h2 : a ^ (n - 1) % n % r = 1 % r := by rw [h1]
    rwa [Nat.mod_mod_of_dvd _ hrn] at h2
  have hrb : ¬ r ∣ a ^ ((n - 1) / q) := fun hd => by
    have h3 : r ∣ (a ^ ((n - 1) / q)) ^ q := by
      obtain ⟨k, hk⟩ : ∃ k, q = k + 1 := ⟨q - 1, by have := hq.1; omega⟩
      rw [show (a ^ ((n - 1) / q)) ^ q = (a ^ ((n - 1) / q)) ^ (k + 1) by rw [← hk], Nat.pow_succ]
      exact Nat.dvd_trans hd (Nat.dvd_mul_left _ _)
    rw [Nat.mod_eq_zero_of_dvd h3, Nat.mod_eq_of_lt (show 1 < r by omega)] at hb1
    omega
  have hb2 : (a ^ ((n - 1) / q)) ^ (r - 1) % r = 1 % r := by rw [fermat hr hrb, Nat.mod_eq_of_lt (show 1 < r by omega)]
  have hb3 := pow_gcd q (r - 1) hb1 hb2
  rw [hc, Nat.pow_one, Nat.mod_eq_of_lt (show 1 < r by omega)] at hb3
  have hd : r ∣ a ^ ((n - 1) / q) % n + n - 1 := by
    have h4 : a ^ ((n - 1) / q) % n % r = 1 := by rw [Nat.mod_mod_of_dvd _ hrn]; exact hb3
    obtain ⟨k, hk⟩ := hrn
    have h5 := Nat.div_add_mod (a ^ ((n - 1) / q) % n) r
    rw [h4] at h5
    refine ⟨a ^ ((n - 1) / q) % n / r + k, ?_⟩
    rw [Nat.mul_add, ← hk]
    omega
  have h6 : r ∣ 1 := hg ▸ Nat.dvd_gcd hd hrn
  have := Nat.le_of_dvd (by omega) h6
  omega
/-- Every prime of n is above its root: n is one. -/
theorem prime_of_big {n F : Nat} (hn : 2 ≤ n) (hF : n < F * F) (h : ∀ r, IsPrime r → r ∣ n → F ∣ r - 1) : IsPrime n := by
  have big : ∀ r, IsPrime r → r ∣ n → F < r := fun r hr hd => by
    have h1 := Nat.le_of_dvd (by have := hr.1; omega) (h r hr hd)
    have := hr.1
    omega
  obtain ⟨r, hr, m, hm⟩ := exists_prime_dvd n n (Nat.le_refl n) hn
  have hrF := big r hr ⟨m, hm⟩
  by_cases hm1 : m = 1
  · rw [hm1, Nat.mul_one] at hm; rw [hm]; exact hr
  · exfalso
    have hm0 : m ≠ 0 := fun h0 => by rw [h0] at hm; omega
    obtain ⟨s, hs, t, ht⟩ := exists_prime_dvd m m (Nat.le_refl m) (by omega)
    have hsF := big s hs ⟨r * t, by rw [hm, ht, Nat.mul_left_comm]⟩
    have ht0 : t ≠ 0 := fun h0 => by rw [h0] at ht; omega
    have hsm : s ≤ m := by rw [ht]; exact Nat.le_mul_of_pos_right s (by omega)
    have h2 : F * F ≤ r * m := Nat.mul_le_mul (by omega) (by omega)
    omega
theorem pock1 {n q a : Nat} (hn : 2 ≤ n) (hq : IsPrime q) (hqn : q ∣ n - 1) (h1 : a ^ (n - 1) % n = 1) (hg : Nat.gcd (a ^ ((n - 1) / q) % n + n - 1) n = 1) (hF : n < q * q) : IsPrime n :=
  prime_of_big hn hF (fun _ hr hd => pock_one hn hq hqn h1 hg hr hd)
theorem pock2 {n q s a : Nat} (hn : 2 ≤ n) (hq : IsPrime q) (hs : IsPrime s) (hqs : Nat.gcd q s = 1) (hqn : q ∣ n - 1) (hsn : s ∣ n - 1) (h1 : a ^ (n - 1) % n = 1) (hg : Nat.gcd (a ^ ((n - 1) / q) % n + n - 1) n = 1)
    (hg2 : Nat.gcd (a ^ ((n - 1) / s) % n + n - 1) n = 1) (hF : n < (q * s) * (q * s)) : IsPrime n :=
  prime_of_big hn hF (fun _ hr hd => Nat.Coprime.mul_dvd_of_dvd_of_dvd hqs (pock_one hn hq hqn h1 hg hr hd) (pock_one hn hs hsn h1 hg2 hr hd))
/-- A power's rest, by squaring. -/
def powMod (m : Nat) : Nat → Nat → Nat → Nat
  | 0, _, _ => 1 % m
  | f + 1, a, n => if n = 0 then 1 % m else if n % 2 = 1 then a * powMod m f (a * a % m) (n / 2) % m else powMod m f (a * a % m) (n / 2)
theorem powMod_eq (m : Nat) : ∀ (f a n : Nat), n < 2 ^ f → powMod m f a n = a ^ n % m
  | 0, a, n, h => by simp at h; subst h; simp [powMod]
  | f + 1, a, n, h => by
    have hf : n / 2 < 2 ^ f := by rw [Nat.pow_succ] at h; omega
    have ih := powMod_eq m f (a * a % m) (n / 2) hf
    have e : (a * a % m) ^ (n / 2) % m = a ^ (2 * (n / 2)) % m := by rw [← Nat.pow_mod, ← Nat.pow_two, ← Nat.pow_mul]
    unfold powMod
    by_cases h0 : n = 0
    · subst h0; simp
    · rw [if_neg h0, ih, e]
      by_cases h1 : n % 2 = 1
      · rw [if_pos h1, Nat.mul_mod_mod]
        congr 1
        have hn : n = 2 * (n / 2) + 1 := by omega
        rw [show a ^ n = a ^ (2 * (n / 2) + 1) by rw [← hn], Nat.pow_succ, Nat.mul_comm]
      · rw [if_neg h1]
        congr 2
        omega
theorem trial {n B : Nat} (hn : 2 ≤ n) (hB : n < B * B) (h : (List.range B).all (fun d => decide (d < 2) || n % d != 0) = true) : IsPrime n := by
  obtain ⟨r, hr, m, hm⟩ := exists_prime_dvd n n (Nat.le_refl n) hn
  have key : ∀ d, 2 ≤ d → d ∣ n → B ≤ d := fun d h2 hd => by
    rcases Nat.lt_or_ge d B with hlt | hge
    · have h1 := List.all_eq_true.1 h d (List.mem_range.2 hlt)
      rw [Nat.mod_eq_zero_of_dvd hd] at h1
      simp at h1
      omega
    · exact hge
  by_cases hm1 : m = 1
  · rw [hm1, Nat.mul_one] at hm; rw [hm]; exact hr
  · exfalso
    have hm0 : m ≠ 0 := fun h0 => by rw [h0] at hm; omega
    have h1 := key r hr.1 ⟨m, hm⟩
    have h2 := key m (by omega) ⟨r, by rw [hm, Nat.mul_comm]⟩
    have h3 : B * B ≤ r * m := Nat.mul_le_mul h1 h2
    omega
theorem pr127 : IsPrime 127 := trial (B := 12) (by omega) (by omega) (by decide +kernel)
theorem pr103 : IsPrime 103 := trial (B := 11) (by omega) (by omega) (by decide +kernel)
theorem pr991 : IsPrime 991 := trial (B := 32) (by omega) (by omega) (by decide +kernel)
theorem pr4153 : IsPrime 4153 := trial (B := 65) (by omega) (by omega) (by decide +kernel)
theorem pr430751 : IsPrime 430751 := trial (B := 657) (by omega) (by omega) (by decide +kernel)
theorem pr569003 : IsPrime 569003 := trial (B := 755) (by omega) (by omega) (by decide +kernel)
/-- The criterion's numbers, reckoned. -/
def pockB (n q : Nat) : Bool := decide ((n - 1) % q = 0) && decide (powMod n 260 2 (n - 1) = 1) && decide (Nat.gcd (powMod n 260 2 ((n - 1) / q) + n - 1) n = 1)
theorem pockB_spec {n q : Nat} (hn : n < 2 ^ 260) (h : pockB n q = true) : q ∣ n - 1 ∧ 2 ^ (n - 1) % n = 1 ∧ Nat.gcd (2 ^ ((n - 1) / q) % n + n - 1) n = 1 := by
  simp only [pockB, Bool.and_eq_true, decide_eq_true_eq] at h
  obtain ⟨⟨h1, h2⟩, h3⟩ := h
  rw [powMod_eq n 260 2 (n - 1) (by omega)] at h2
  rw [powMod_eq n 260 2 ((n - 1) / q) (by have := Nat.div_le_self (n - 1) q; omega)] at h3
  exact ⟨Nat.dvd_of_mod_eq_zero h1, h2, h3⟩
theorem pockA {n q : Nat} (hq : IsPrime q) (hn : (decide (2 ≤ n) && decide (n < 2 ^ 260) && decide (n < q * q) && pockB n q) = true) : IsPrime n := by
  simp only [Bool.and_eq_true, decide_eq_true_eq] at hn
  obtain ⟨⟨⟨h2, h3⟩, h4⟩, h5⟩ := hn
  obtain ⟨a, b, c⟩ := pockB_spec h3 h5
  exact pock1 h2 hq a b c h4
theorem pockC {n q s : Nat} (hq : IsPrime q) (hs : IsPrime s) (hn : (decide (2 ≤ n) && decide (n < 2 ^ 260) && decide (n < (q * s) * (q * s)) && decide (Nat.gcd q s = 1) && pockB n q && pockB n s) = true) : IsPrime n := by
  simp only [Bool.and_eq_true, decide_eq_true_eq] at hn
  obtain ⟨⟨⟨⟨⟨h2, h3⟩, h4⟩, h5⟩, h6⟩, h7⟩ := hn
  obtain ⟨a, b, c⟩ := pockB_spec h3 h6
  obtain ⟨a', _, c'⟩ := pockB_spec h3 h7
  exact pock2 h2 hq hs h5 a a' b c c' h4
theorem pr8574133 : IsPrime 8574133 := pockC pr991 pr103 (by decide +kernel)
theorem prA : IsPrime 1919519569386763 := pockC pr8574133 pr127 (by decide +kernel)
theorem prB : IsPrime 2773320623 := pockA pr569003 (by decide +kernel)
theorem prC : IsPrime 72106336199 := pockA prB (by decide +kernel)
theorem prD : IsPrime 75445702479781427272750846543864801 := pockC prA prC (by decide +kernel)
theorem prE : IsPrime 31757755568855353 := pockC pr430751 pr4153 (by decide +kernel)
theorem prF : IsPrime 74058212732561358302231226437062788676166966415465897661863160754340907 := pockC prD prE (by decide +kernel)
/-- 2^255 - 19 is a prime. -/
theorem prP : IsPrime 57896044618658097711785492504343953926634992332820282019728792003956564819949 := pockA prF (by decide +kernel)
end Go.Proofs.YtgklkkjhoecdoaaDoor
