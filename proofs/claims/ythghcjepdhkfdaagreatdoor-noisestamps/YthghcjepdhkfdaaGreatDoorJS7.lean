/-
  Own text. Stamps go on with the time: the numbers.
-/
import Derived.Test.YthghcjepdhkfdaaGreatDoorJS6
import Derived.Test.YthghcjepdhkfdaaGreatDoorJS2
import Derived.Test.YthghcjepdhkfdaaGreatDoorJS1
import Derived.Test.YthghcjepdhkfdaaGreatDoorRows
import Derived.SliceStrings
import Derived.Test.YthghcjepdhkfdaaGreatDoorJS4
import Derived.OpenShut
namespace Go.Proofs.YthghcjepdhkfdaaGreatDoor
open Go.RowKit Go.Proofs
set_option maxRecDepth 100000
/-- A row of bytes as a number, the highest first. -/
def rowV (a : Nat → Int) : Nat → Nat → Int
  | 0, _ => 0
  | n + 1, i => a i * 256 ^ n + rowV a n (i + 1)
theorem rowV_b (a : Nat → Int) : ∀ (n i : Nat), (∀ j, j < n → 0 ≤ a (i + j) ∧ a (i + j) < 256) → 0 ≤ rowV a n i ∧ rowV a n i < 256 ^ n
  | 0, _, _ => by unfold rowV; omega
  | n + 1, i, h => by
    have ih := rowV_b a n (i + 1) (fun j hj => by have := h (j + 1) (by omega); rwa [show i + (j + 1) = i + 1 + j by omega] at this)
    have h0 := h 0 (by omega)
    rw [Nat.add_zero] at h0
    unfold rowV
    have hp : (0 : Int) < 256 ^ n := Int.pow_pos (by omega)
    have h1 : 0 ≤ a i * 256 ^ n := Int.mul_nonneg h0.1 (by omega)
    have h2 : a i * 256 ^ n ≤ 255 * 256 ^ n := Int.mul_le_mul_of_nonneg_right (by omega) (by omega)
    rw [Int.pow_succ]
    omega
theorem rowV_lt {p x y u v : Int} (hu : 0 ≤ u ∧ u < p) (hv : 0 ≤ v ∧ v < p) (h : x < y) : x * p + u < y * p + v := by
  have h1 : (x + 1) * p ≤ y * p := Int.mul_le_mul_of_nonneg_right (by omega) (by omega)
  rw [Int.add_mul, Int.one_mul] at h1
  omega
theorem latF_row (a b : Nat → Int) : ∀ (n i : Nat), (∀ j, j < n → 0 ≤ a (i + j) ∧ a (i + j) < 256) → (∀ j, j < n → 0 ≤ b (i + j) ∧ b (i + j) < 256) → (latF a b n i = true ↔ rowV b n i < rowV a n i) ∧ (rowV a n i = rowV b n i → ∀ j, j < n → a (i + j) = b (i + j))
  | 0, _, _, _ => ⟨by unfold latF rowV; simp, fun _ j hj => by omega⟩
  | n + 1, i, ha, hb => by
    have sa : ∀ j, j < n → 0 ≤ a (i + 1 + j) ∧ a (i + 1 + j) < 256 := fun j hj => by have := ha (j + 1) (by omega); rwa [show i + (j + 1) = i + 1 + j by omega] at this
    have sb : ∀ j, j < n → 0 ≤ b (i + 1 + j) ∧ b (i + 1 + j) < 256 := fun j hj => by have := hb (j + 1) (by omega); rwa [show i + (j + 1) = i + 1 + j by omega] at this
    have ih := latF_row a b n (i + 1) sa sb
    have ra := rowV_b a n (i + 1) sa
    have rb := rowV_b b n (i + 1) sb
    unfold latF rowV
    by_cases e : a i = b i
    · rw [if_pos e, e]
      refine ⟨by rw [ih.1]; omega, fun h j hj => ?_⟩
      have h2 := ih.2 (by omega)
      match j, hj with
      | 0, _ => rw [Nat.add_zero]; exact e
      | j + 1, hj => have := h2 j (by omega); rwa [show i + 1 + j = i + (j + 1) by omega] at this
    · rw [if_neg e]
      rcases Int.lt_or_gt_of_ne e with h | h
      · have := rowV_lt ra rb h
        exact ⟨by simp; omega, fun h => by omega⟩
      · have := rowV_lt rb ra h
        exact ⟨by simp; omega, fun h => by omega⟩
theorem lat_asym {a b : Nat → Int} (ha : Byts 12 a) (hb : Byts 12 b) : ¬ (latF a b 12 0 = true ∧ latF b a 12 0 = true) := by
  have h1 := latF_row a b 12 0 (fun j hj => by rw [Nat.zero_add]; exact ha j hj) (fun j hj => by rw [Nat.zero_add]; exact hb j hj)
  have h2 := latF_row b a 12 0 (fun j hj => by rw [Nat.zero_add]; exact hb j hj) (fun j hj => by rw [Nat.zero_add]; exact ha j hj)
  rw [h1.1, h2.1]
  omega
theorem lat_tri {a b : Nat → Int} (ha : Byts 12 a) (hb : Byts 12 b) : (∀ j, j < 12 → a j = b j) ↔ (latF a b 12 0 = false ∧ latF b a 12 0 = false) := by
  have h1 := latF_row a b 12 0 (fun j hj => by rw [Nat.zero_add]; exact ha j hj) (fun j hj => by rw [Nat.zero_add]; exact hb j hj)
  have h2 := latF_row b a 12 0 (fun j hj => by rw [Nat.zero_add]; exact hb j hj) (fun j hj => by rw [Nat.zero_add]; exact ha j hj)
  have e1 : latF a b 12 0 = false ↔ ¬ rowV b 12 0 < rowV a 12 0 := by rw [← h1.1]; simp
  have e2 : latF b a 12 0 = false ↔ ¬ rowV a 12 0 < rowV b 12 0 := by rw [← h2.1]; simp
  rw [e1, e2]
  constructor
  · intro h
    have : rowV a 12 0 = rowV b 12 0 := by
      simp only [rowV, h 0 (by omega), h 1 (by omega), h 2 (by omega), h 3 (by omega), h 4 (by omega), h 5 (by omega), h 6 (by omega), h 7 (by omega), h 8 (by omega), h 9 (by omega), h 10 (by omega), h 11 (by omega), Nat.reduceAdd]
    omega
  · intro h j hj
    have := h1.2 (by omega) j hj
    rwa [Nat.zero_add] at this
theorem stmF_b (n : Int) (k : Nat) : Byts k (stmF n) := fun j _ => by unfold stmF; split <;> omega
theorem dig8 (A : Int) (h0 : 0 ≤ A) (h1 : A < 18446744073709551616) : A / 72057594037927936 % 256 * 72057594037927936 + (A / 281474976710656 % 256 * 281474976710656 + (A / 1099511627776 % 256 * 1099511627776 + (A / 4294967296 % 256 * 4294967296 + (A / 16777216 % 256 * 16777216 + (A / 65536 % 256 * 65536 + (A / 256 % 256 * 256 + A % 256)))))) = A := by omega
theorem dig4 (A : Int) (h0 : 0 ≤ A) (h1 : A < 4294967296) : A / 16777216 % 256 * 16777216 + (A / 65536 % 256 * 65536 + (A / 256 % 256 * 256 + A % 256)) = A := by omega
theorem nowC_b (n : Int) : 0 ≤ nowC n ∧ nowC n ≤ 1099511627776 := by unfold nowC; split <;> (try split) <;> omega
theorem row_stm (n : Int) : rowV (stmF n) 12 0 = (4611686018427387914 + nowC n / 1000) * 4294967296 + nowC n % 1000 * 1000000 := by
  have hn := nowC_b n
  have hA := dig8 (4611686018427387914 + nowC n / 1000) (by omega) (by omega)
  have hB := dig4 (nowC n % 1000 * 1000000) (by omega) (by omega)
  have e : rowV (stmF n) 12 0 = stmF n 0 * 256 ^ 11 + (stmF n 1 * 256 ^ 10 + (stmF n 2 * 256 ^ 9 + (stmF n 3 * 256 ^ 8 + (stmF n 4 * 256 ^ 7 + (stmF n 5 * 256 ^ 6 + (stmF n 6 * 256 ^ 5 + (stmF n 7 * 256 ^ 4 + (stmF n 8 * 256 ^ 3 + (stmF n 9 * 256 ^ 2 + (stmF n 10 * 256 ^ 1 + (stmF n 11 * 256 ^ 0 + 0))))))))))) := rfl
  have h0 : stmF n 0 = (4611686018427387914 + nowC n / 1000) / 72057594037927936 % 256 := rfl
  have h1 : stmF n 1 = (4611686018427387914 + nowC n / 1000) / 281474976710656 % 256 := rfl
  have h2 : stmF n 2 = (4611686018427387914 + nowC n / 1000) / 1099511627776 % 256 := rfl
  have h3 : stmF n 3 = (4611686018427387914 + nowC n / 1000) / 4294967296 % 256 := rfl
  have h4 : stmF n 4 = (4611686018427387914 + nowC n / 1000) / 16777216 % 256 := rfl
  have h5 : stmF n 5 = (4611686018427387914 + nowC n / 1000) / 65536 % 256 := rfl
  have h6 : stmF n 6 = (4611686018427387914 + nowC n / 1000) / 256 % 256 := rfl
  have h7 : stmF n 7 = (4611686018427387914 + nowC n / 1000) / 1 % 256 := rfl
  have h8 : stmF n 8 = nowC n % 1000 * 1000000 / 16777216 % 256 := rfl
  have h9 : stmF n 9 = nowC n % 1000 * 1000000 / 65536 % 256 := rfl
  have h10 : stmF n 10 = nowC n % 1000 * 1000000 / 256 % 256 := rfl
  have h11 : stmF n 11 = nowC n % 1000 * 1000000 / 1 % 256 := rfl
  rw [Int.ediv_one] at h7 h11
  rw [e, h0, h1, h2, h3, h4, h5, h6, h7, h8, h9, h10, h11]
  clear h0 h1 h2 h3 h4 h5 h6 h7 h8 h9 h10 h11 e
  generalize (4611686018427387914 + nowC n / 1000) / 72057594037927936 % 256 = x0 at *
  generalize (4611686018427387914 + nowC n / 1000) / 281474976710656 % 256 = x1 at *
  generalize (4611686018427387914 + nowC n / 1000) / 1099511627776 % 256 = x2 at *
  generalize (4611686018427387914 + nowC n / 1000) / 4294967296 % 256 = x3 at *
  generalize (4611686018427387914 + nowC n / 1000) / 16777216 % 256 = x4 at *
  generalize (4611686018427387914 + nowC n / 1000) / 65536 % 256 = x5 at *
  generalize (4611686018427387914 + nowC n / 1000) / 256 % 256 = x6 at *
  generalize (4611686018427387914 + nowC n / 1000) % 256 = x7 at *
  generalize nowC n % 1000 * 1000000 / 16777216 % 256 = x8 at *
  generalize nowC n % 1000 * 1000000 / 65536 % 256 = x9 at *
  generalize nowC n % 1000 * 1000000 / 256 % 256 = x10 at *
  generalize nowC n % 1000 * 1000000 % 256 = x11 at *
  rw [← hB, ← hA]
  omega
theorem lat_stm (a b : Int) (ha : 0 ≤ a ∧ a ≤ 1099511627776) (hb : 0 ≤ b ∧ b ≤ 1099511627776) : latF (stmF a) (stmF b) 12 0 = decide (b < a) := by
  have h1 := latF_row (stmF a) (stmF b) 12 0 (fun j hj => stmF_b a (0 + j + 1) _ (by omega)) (fun j hj => stmF_b b (0 + j + 1) _ (by omega))
  rw [row_stm, row_stm] at h1
  have ea : nowC a = a := by unfold nowC; rw [if_neg (by omega), if_neg (by omega)]
  have eb : nowC b = b := by unfold nowC; rw [if_neg (by omega), if_neg (by omega)]
  rw [ea, eb] at h1
  have h2 := h1.1
  have e : ((4611686018427387914 + b / 1000) * 4294967296 + b % 1000 * 1000000 < (4611686018427387914 + a / 1000) * 4294967296 + a % 1000 * 1000000) ↔ b < a := by omega
  rw [e] at h2
  rw [Bool.eq_iff_iff, h2, decide_eq_true_iff]
def lstU (f : Nat → Int) : Nat → Nat → List UInt8
  | 0, _ => []
  | n + 1, i => UInt8.ofNat (f i).toNat :: lstU f n (i + 1)
theorem u8_toNat {x : Int} (h : 0 ≤ x ∧ x < 256) : (UInt8.ofNat x.toNat).toNat = x.toNat := by
  rw [UInt8.toNat_ofNat']
  exact Nat.mod_eq_of_lt (by omega)
theorem u8_lt {x y : Int} (hx : 0 ≤ x ∧ x < 256) (hy : 0 ≤ y ∧ y < 256) : decide (UInt8.ofNat x.toNat < UInt8.ofNat y.toNat) = decide (x < y) := by
  have h : (UInt8.ofNat x.toNat < UInt8.ofNat y.toNat) ↔ x < y := by
    rw [UInt8.lt_iff_toNat_lt, u8_toNat hx, u8_toNat hy]
    omega
  simp only [h]
theorem u8_eq {x y : Int} (hx : 0 ≤ x ∧ x < 256) (hy : 0 ≤ y ∧ y < 256) : (UInt8.ofNat x.toNat == UInt8.ofNat y.toNat) = decide (x = y) := by
  have h : (UInt8.ofNat x.toNat = UInt8.ofNat y.toNat) ↔ x = y := by
    rw [← UInt8.toNat_inj, u8_toNat hx, u8_toNat hy]
    omega
  rw [Bool.eq_iff_iff, beq_iff_eq, h, decide_eq_true_iff]
theorem lst_less (a b : Nat → Int) : ∀ (n i : Nat), (∀ j, j < n → 0 ≤ a (i + j) ∧ a (i + j) < 256) → (∀ j, j < n → 0 ≤ b (i + j) ∧ b (i + j) < 256) → Op.bytesLess (lstU a n i) (lstU b n i) = latF b a n i ∧ ((lstU a n i == lstU b n i) = true ↔ ∀ j, j < n → a (i + j) = b (i + j))
  | 0, _, _, _ => ⟨rfl, by simp [lstU]⟩
  | n + 1, i, ha, hb => by
    have sa : ∀ j, j < n → 0 ≤ a (i + 1 + j) ∧ a (i + 1 + j) < 256 := fun j hj => by have := ha (j + 1) (by omega); rwa [show i + (j + 1) = i + 1 + j by omega] at this
    have sb : ∀ j, j < n → 0 ≤ b (i + 1 + j) ∧ b (i + 1 + j) < 256 := fun j hj => by have := hb (j + 1) (by omega); rwa [show i + (j + 1) = i + 1 + j by omega] at this
    have ih := lst_less a b n (i + 1) sa sb
    have h0 := ha 0 (by omega)
    have h1 := hb 0 (by omega)
    rw [Nat.add_zero] at h0 h1
    unfold lstU latF
    constructor
    · rw [Op.bytesLess, u8_lt h0 h1, u8_eq h0 h1, ih.1]
      by_cases e : b i = a i
      · rw [if_pos e, e]; simp
      · rw [if_neg e]
        have : ¬ a i = b i := fun h => e h.symm
        simp [this]
    · rw [List.cons_beq_cons, Bool.and_eq_true, u8_eq h0 h1, ih.2, decide_eq_true_iff]
      constructor
      · rintro ⟨e, h⟩ j hj
        match j, hj with
        | 0, _ => rw [Nat.add_zero]; exact e
        | j + 1, hj => have := h j (by omega); rwa [show i + 1 + j = i + (j + 1) by omega] at this
      · intro h
        exact ⟨by have := h 0 (by omega); rwa [Nat.add_zero] at this, fun j hj => by have := h (j + 1) (by omega); rwa [show i + (j + 1) = i + 1 + j by omega] at this⟩
theorem lst_gtr {a b : Nat → Int} (ha : Byts 12 a) (hb : Byts 12 b) : (!(Op.bytesLess (lstU a 12 0) (lstU b 12 0) || lstU a 12 0 == lstU b 12 0)) = latF a b 12 0 := by
  have h := lst_less a b 12 0 (fun j hj => by rw [Nat.zero_add]; exact ha j hj) (fun j hj => by rw [Nat.zero_add]; exact hb j hj)
  have h2 := lat_tri ha hb
  have h3 := lat_asym ha hb
  have h4 : ((lstU a 12 0 == lstU b 12 0) = true) ↔ (latF a b 12 0 = false ∧ latF b a 12 0 = false) := by
    rw [h.2, ← h2]
    simp only [Nat.zero_add]
  rw [h.1]
  generalize (lstU a 12 0 == lstU b 12 0) = z at *
  generalize latF a b 12 0 = x at *
  generalize latF b a 12 0 = y at *
  cases x <;> cases y <;> cases z <;> simp_all
end Go.Proofs.YthghcjepdhkfdaaGreatDoor

/-
  Own text. Package noise: stamps.
-/
namespace Go.Proofs.YthghcjepdhkfdaaGreatDoor
open Go.RowKit Go.Proofs
set_option maxRecDepth 100000
theorem sl12v (b : Nat) (w : World) : (Instr.sliceAt 26 (.pointer (some ⟨b, 0, none⟩)) none none none).run Tryz.prog w = .ok (.slice (some ⟨b, 0, none⟩) 12 12) w := by simp [go_sem]
theorem mkS_list (f : Nat → Int) : (mkS 12 f).toList = lstU f 12 0 := by rw [Lib.toList_data]; rfl
theorem gtr12 {a b : Nat → Int} (ha : Byts 12 a) (hb : Byts 12 b) (w : World) : (binOp .gtr 9 (.string (mkS 12 a)) (.string (mkS 12 b))).run Tryz.prog w = .ok (.bool (latF a b 12 0)) w := by
  rw [← lst_gtr ha hb, ← mkS_list, ← mkS_list]
  rfl
set_option maxHeartbeats 1600000 in
theorem Later_run (a b : Nat → Int) (w : World) (ha : Byts 12 a) (hb : Byts 12 b) :
    Calls Tryz.prog 32 #[.agg (WA .u8 12 a), .agg (WA .u8 12 b)] w fun e w' => e = .returned (.bool (latF a b 12 0)) ∧ Below w.heap.size w w' := by
  have g0 : ArrAt ((w.alloc (.cells (WA .u8 12 a) 26)).alloc (.cells (WA .u8 12 b) 26)) w.heap.size .u8 26 12 a := heap_alloc2_old w _ _
  have g1 : ArrAt ((w.alloc (.cells (WA .u8 12 a) 26)).alloc (.cells (WA .u8 12 b) 26)) (w.heap.size + 1) .u8 26 12 b := heap_alloc2_new w _ _
  have hB : Below w.heap.size w ((w.alloc (.cells (WA .u8 12 a) 26)).alloc (.cells (WA .u8 12 b) 26)) := ((Below.refl _ w).alloc (by simp) _).alloc (by simp) _
  have HA := Hid.mk ha
  have HBB := Hid.mk hb
  have HZ := Hid.mk (gtr12 ha hb)
  generalize latF a b 12 0 = z at *
  go_enter Tryz.func32, Tryz.ntmps32
  go_wp2_with fail
  refine wp_gen (fun v => ArrAt v w.heap.size .u8 26 12 a ∧ ArrAt v (w.heap.size + 1) .u8 26 12 b ∧ Below w.heap.size w v) ⟨g0, g1, hB⟩ ?_
  clear g0 g1 hB
  rintro v0 ⟨g0, g1, hB⟩
  have HG0 : Hid (∀ u, Below v0.heap.size v0 u → ArrAt u w.heap.size .u8 26 12 a) := Hid.mk (fun u hu => g0.kept hu)
  have HG1 : Hid (∀ u, Below v0.heap.size v0 u → ArrAt u (w.heap.size + 1) .u8 26 12 b) := Hid.mk (fun u hu => g1.kept hu)
  refine wp_region3 (Below v0.heap.size v0) v0.heap.size
      ([] : List (Nat × Cont))
      [kv (.slice (some ⟨w.heap.size, 0, none⟩) 12 12), kv (.string (mkS 12 a)), kv (.slice (some ⟨(w.heap.size + 1), 0, none⟩) 12 12), kv (.string (mkS 12 b)), kv (.bool z), kv (.bool z)]
      [.none, .none, .none, .none, .none, .none]
      [some 5, some 6, some 7, some 8, some 9, some 4]
      [(2, .pointer (some ⟨w.heap.size, 0, none⟩)), (3, .pointer (some ⟨(w.heap.size + 1), 0, none⟩))]
      [[], [.slot 0], [], [.slot 2], [.slot 1, .slot 3], [.slot 4]]
      [.slot 5] [5, 6, 7, 8, 9, 4]
      rfl (by kernel_rfl) ⟨rfl, rfl, trivial⟩ (Below.refl _ v0).drew (Nat.le_refl _) trivial trivial (below_G (Nat.le_refl _) trivial)
      ⟨
        -- 0
        (fun Q aq ww own hS hBg fr kn => .inl ⟨trivial, fun K hK => wp_value (exec_sl rfl fr.1 (sl12v w.heap.size ww)) (hK _ _ ⟨Touch.refl _ _, rfl⟩)⟩),
        -- 1
        (fun Q aq ww own hS hBg fr kn => .inl ⟨trivial, fun K hK => wp_value (exec_conv rfl kn.1 (str_back 12 w.heap.size 12 ww 12 a (HG0.out ww hS).row HA.out rfl)) (hK _ _ ⟨Touch.refl _ _, rfl⟩)⟩),
        -- 2
        (fun Q aq ww own hS hBg fr kn => .inl ⟨trivial, fun K hK => wp_value (exec_sl rfl fr.2.1 (sl12v (w.heap.size + 1) ww)) (hK _ _ ⟨Touch.refl _ _, rfl⟩)⟩),
        -- 3
        (fun Q aq ww own hS hBg fr kn => .inl ⟨trivial, fun K hK => wp_value (exec_conv rfl kn.1 (str_back 12 (w.heap.size + 1) 12 ww 12 b (HG1.out ww hS).row HBB.out rfl)) (hK _ _ ⟨Touch.refl _ _, rfl⟩)⟩),
        -- 4
        (fun Q aq ww own hS hBg fr kn => .inl ⟨trivial, fun K hK => wp_value (exec_bin2 rfl kn.1 kn.2.1 rfl (HZ.out ww)) (hK _ _ ⟨Touch.refl _ _, rfl⟩)⟩),
        -- 5
        (fun Q aq ww own hS hBg fr kn => .inl ⟨trivial, fun K hK => wp_value (exec_assign rfl kn.1) (hK _ _ ⟨Touch.refl _ _, rfl⟩)⟩),
        trivial⟩ ?_
  intro vs own v5 hB5 hs5 kn inj
  clear inj hs5 HG0 HG1
  have e4 : vs 4 = _ := kn.1
  clear kn
  simp only [putAll, Act.put, List.setIfInBounds_toArray, List.set_cons_zero, List.set_cons_succ, e4]
  go_wp2_with fail
  go_ret
  exact ⟨rfl, hB.trans (hB5.mono hB.size)⟩
/-- The lowest k bytes of a number, the highest first. -/
def hiD (N : Int) (k j : Nat) : Int := N / 256 ^ (k - 1 - j) % 256
theorem hiD_b (N : Int) (k n : Nat) : Byts n (hiD N k) := fun j _ => by unfold hiD; omega
set_option maxHeartbeats 4000000 in
theorem highest_run (N : Int) (k : Nat) (w : World) (hk : k ≤ 8) :
    Calls Tryz.prog 56 #[.int .u64 N, .int .i64 (k : Int)] w fun e w' => e = .returned (.string (mkS k (hiD N k))) ∧ Below w.heap.size w w' := by
  have hkI : (k : Int) ≤ 8 := by omega
  go_enter Tryz.func56, Tryz.ntmps56
  go_wp2_with (refine wl_makeB (by rfl) (by rfl) (by omega) ?_; intro v1 g1 hB; refine Hid.out ?_)
  refine Hid.mk ?_
  go_wp2_with fail
  go_loopg [11] k (fun gm iv v => ∃ i : Nat, Hid (gm + i = k) ∧ iv = .int .i64 (i : Int) ∧ ArrAt v w.heap.size .u8 5 k (fun j => if j < i then hiD N k j else 0) ∧ Below w.heap.size w v)
  case atStart => exact ⟨0, Hid.mk rfl, rfl, g1.congr (fun j _ => by rw [if_neg (by omega)]), hB⟩
  case round =>
    clear g1 hB
    obtain ⟨i, HI, rfl, g1, hB⟩ := hrel
    have hi8 : i ≤ k := by have := HI.out; omega
    by_cases hil : i < k
    · have hiI : (i : Int) < (k : Int) := by omega
      have c0 := g1.cell i hil
      have f0 := g1.free i
      have hpw : (2 : Int) ^ (8 * (k - 1 - i)) = 256 ^ (k - 1 - i) := by rw [Int.pow_mul]; rfl
      have g2 := Hid.mk ((g1.set i (N / 2 ^ (8 * (k - 1 - i)) % 256) hil).congr (s' := fun j => if j < i + 1 then hiD N k j else 0) (fun j _ => by
        unfold upd
        by_cases e : j = i
        · subst e; rw [if_pos rfl, if_pos (by omega), hpw]; rfl
        · rw [if_neg e]
          show (if j < i then hiD N k j else 0) = _
          by_cases h : j < i
          · rw [if_pos h, if_pos (by omega)]
          · rw [if_neg h, if_neg (by omega)]))
      clear hpw
      go_wp2_with fail
      go_roundg (k - (i + 1))
      case rel => exact ⟨i + 1, Hid.mk (by omega), by go_num, g2.out, Below.setCell (p := ⟨w.heap.size, i, none⟩) hB (by simp) _⟩
      case measure => have := HI.out; omega
    · have hi2 : i = k := by omega
      subst hi2
      replace g1 := g1.congr (s' := hiD N i) (fun j hj => by rw [if_pos hj])
      have hcv := str_back i w.heap.size i wr i (hiD N i) g1.row (hiD_b N i i) rfl
      go_wp2_with fail
      go_ret
      exact ⟨rfl, hB⟩
end Go.Proofs.YthghcjepdhkfdaaGreatDoor

/-
  Own text. Package noise: a time as twelve bytes.
-/
namespace Go.Proofs.YthghcjepdhkfdaaGreatDoor
open Go.RowKit Go.Proofs
set_option maxRecDepth 100000
theorem stm_cat (n : Int) : ∀ j, j < 12 → txt (mkS 8 (hiD (4611686018427387914 + nowC n / 1000) 8) ++ mkS 4 (hiD (nowC n % 1000 * 1000000) 4)) j = stmF n j := fun j hj => by
  rw [txt_append, mkS_size]
  unfold stmF
  by_cases h : j < 8
  · rw [if_pos h, if_pos h, txt_mkS (hiD_b _ 8 8 j h) h]
    unfold hiD
    rw [show 8 - 1 - j = 7 - j by omega]
  · rw [if_neg h, if_neg h, txt_mkS (hiD_b _ 4 4 (j - 8) (by omega)) (by omega)]
    unfold hiD
    rw [show 4 - 1 - (j - 8) = 11 - j by omega]
theorem exec_max {a : Act} {o : Oper} {w : World} {x y : Operand} (ho : o.op = .call { callee := .builtin .max, args := #[x, y], argTypes := #[3, 3] }) {m n : Int} (hx : a.eval x = .int .i64 m) (hy : a.eval y = .int .i64 n) : (execOp a.eval o).run Tryz.prog w = .ok (.value (.int .i64 (max m n))) w := by
  have h : (if n > m then n else m) = max m n := by split <;> omega
  simp [execOp, ho, resolve, invoke, builtin, hx, hy, run_max_int2, h]
theorem exec_min {a : Act} {o : Oper} {w : World} {x y : Operand} (ho : o.op = .call { callee := .builtin .min, args := #[x, y], argTypes := #[3, 3] }) {m n : Int} (hx : a.eval x = .int .i64 m) (hy : a.eval y = .int .i64 n) : (execOp a.eval o).run Tryz.prog w = .ok (.value (.int .i64 (min m n))) w := by
  have h : (if n < m then n else m) = min m n := by split <;> omega
  simp [execOp, ho, resolve, invoke, builtin, hx, hy, run_min_int2, h]
set_option maxHeartbeats 4000000 in
theorem Stamp_run (n : Int) (w : World) : Calls Tryz.prog 17 #[.int .i64 n] w fun e w' => e = .returned (.agg (WA .u8 12 (stmF n))) ∧ Below w.heap.size w w' := by
  have hN := nowC_b n
  have hmx : min (max n 0) 1099511627776 = nowC n := by unfold nowC; split <;> (try split) <;> omega
  have g0 : ArrAt (w.alloc (.cells (WA .u8 12 fun _ => 0) 26)) w.heap.size .u8 26 12 (fun _ => 0) := heap_alloc_new w _
  have hB : Below w.heap.size w (w.alloc (.cells (WA .u8 12 fun _ => 0) 26)) := (Below.refl _ w).alloc (by simp) _
  have HS := Hid.mk (stm_cat n)
  have HMX := Hid.mk hmx
  clear hmx
  generalize nowC n = N at *
  have hq : N.tdiv 1000 = N / 1000 := Int.tdiv_eq_ediv_of_nonneg hN.1
  have hr : N.tmod 1000 = N % 1000 := Int.tmod_eq_emod_of_nonneg hN.1
  obtain ⟨A, hA⟩ : ∃ A, A = N / 1000 := ⟨_, rfl⟩
  obtain ⟨B, hBd⟩ : ∃ B, B = N % 1000 := ⟨_, rfl⟩
  rw [← hA] at hq HS
  rw [← hBd] at hr HS
  have hA2 : 0 ≤ A ∧ A ≤ 1099511628 := by omega
  have hB2 : 0 ≤ B ∧ B < 1000 := by omega
  clear hA hBd
  go_enter Tryz.func17, Tryz.ntmps17
  go_wp2_with (first | (refine wl_value rfl (exec_max rfl (by rfl) (by rfl)) ?_) | (refine wl_value rfl (exec_min rfl (by rfl) (by rfl)) ?_; rw [HMX.out]))
  refine (highest_run (4611686018427387914 + A) 8 _ (by omega)).mono ?_
  rintro e v1 ⟨rfl, hb1⟩
  replace g0 := g0.kept hb1
  replace hB := hB.trans (hb1.mono hB.size)
  clear hb1
  go_wp2_with fail
  refine (highest_run (B * 1000000) 4 _ (by omega)).mono ?_
  rintro e v2 ⟨rfl, hb2⟩
  replace g0 := g0.kept hb2
  replace hB := hB.trans (hb2.mono hB.size)
  clear hb2
  have HL : Hid ((mkS 8 (hiD (4611686018427387914 + A) 8)).size + (mkS 4 (hiD (B * 1000000) 4)).size ≤ 9223372036854775807) := Hid.mk (by rw [mkS_size, mkS_size]; omega)
  have HE : Hid ((mkS 8 (hiD (4611686018427387914 + A) 8) ++ mkS 4 (hiD (B * 1000000) 4)).size = 12) := Hid.mk (by rw [ByteArray.size_append, mkS_size, mkS_size])
  generalize mkS 8 (hiD (4611686018427387914 + A) 8) = X at *
  generalize mkS 4 (hiD (B * 1000000) 4) = Y at *
  go_wp2_with (first | (refine wl_value rfl (exec_catS rfl (by rfl) (by rfl) HL.out) ?_) | (refine wl_bytes (by rfl) HE.out ?_; intro v3 cp r3 hb3; refine Hid.out ?_))
  have hlt := g0.lt
  replace g0 := g0.kept hb3
  replace hB := hB.trans (hb3.mono hB.size)
  have hr3 := row_range r3
  clear hb3 r3
  refine Hid.mk ?_
  go_wp2_with (first | (refine wl_value rfl (exec_toa rfl (by rfl) (toa12 _ _ _)) ?_) | (refine wl_value rfl (exec_ldmid rfl isA12 (by rfl) hr3) ?_) | (refine st_arr isA12 g0 (by rfl) (by rfl) ?_; intro v7 g7 o7; refine Hid.out ?_))
  refine Hid.mk ?_
  go_wp2_with fail
  replace g7 := g7.congr HS.out
  exact bodyPost_ret (res_arr Tryz.results17 isA12 g7 (by rfl)) rfl ⟨rfl, hB.trans (o7.below (Nat.le_refl _))⟩
end Go.Proofs.YthghcjepdhkfdaaGreatDoor

/-
  Own text. What awake of the laws answers.
-/
namespace Go.Proofs.YthghcjepdhkfdaaGreatDoor
open Go.RowKit Go.Proofs
set_option maxRecDepth 100000
/-- 32 bytes, of which the first is n. -/
def one32 (n : Int) (j : Nat) : Int := if j = 0 then n else 0
theorem one32_b {n : Int} (h : 0 ≤ n ∧ n < 256) : Byts 32 (one32 n) := fun j _ => by unfold one32; split <;> omega
theorem zer_b (k : Nat) : Byts k (fun _ => 0) := fun _ _ => ⟨Int.le_refl 0, of_decide_eq_true rfl⟩
theorem run_b0 (w : World) : (Instr.build 22 #[]).run Tryz.prog w = .ok (.agg (WA .u8 32 fun _ => 0)) w := by kernel_rfl
theorem run_b12 (w : World) : (Instr.build 26 #[]).run Tryz.prog w = .ok (.agg (WA .u8 12 fun _ => 0)) w := by kernel_rfl
theorem run_b1 (w : World) : (Instr.build 22 #[(0, .int .u8 1)]).run Tryz.prog w = .ok (.agg (WA .u8 32 (one32 1))) w := by kernel_rfl
theorem run_b2 (w : World) : (Instr.build 22 #[(0, .int .u8 2)]).run Tryz.prog w = .ok (.agg (WA .u8 32 (one32 2))) w := by kernel_rfl
theorem exec_b0 {a : Act} {o : Oper} {w : World} (ho : o.op = .build 22 #[]) : (execOp a.eval o).run Tryz.prog w = .ok (.value (.agg (WA .u8 32 fun _ => 0))) w := by
  have h := run_b0 w
  unfold execOp
  simp only [ho, List.map_toArray, List.map_nil, Sem.run_bind, h, Result.andThen_ok, Sem.run_pure]
theorem exec_b12 {a : Act} {o : Oper} {w : World} (ho : o.op = .build 26 #[]) : (execOp a.eval o).run Tryz.prog w = .ok (.value (.agg (WA .u8 12 fun _ => 0))) w := by
  have h := run_b12 w
  unfold execOp
  simp only [ho, List.map_toArray, List.map_nil, Sem.run_bind, h, Result.andThen_ok, Sem.run_pure]
theorem exec_b1 {a : Act} {o : Oper} {w : World} (ho : o.op = .build 22 #[(0, .const (.int .u8 1))]) : (execOp a.eval o).run Tryz.prog w = .ok (.value (.agg (WA .u8 32 (one32 1)))) w := by
  have h := run_b1 w
  unfold execOp
  simp only [ho, List.map_toArray, List.map_cons, List.map_nil, Act.eval, Sem.run_bind, h, Result.andThen_ok, Sem.run_pure]
theorem exec_b2 {a : Act} {o : Oper} {w : World} (ho : o.op = .build 22 #[(0, .const (.int .u8 2))]) : (execOp a.eval o).run Tryz.prog w = .ok (.value (.agg (WA .u8 32 (one32 2)))) w := by
  have h := run_b2 w
  unfold execOp
  simp only [ho, List.map_toArray, List.map_cons, List.map_nil, Act.eval, Sem.run_bind, h, Result.andThen_ok, Sem.run_pure]
theorem zeroHandV (w : World) : (zeroValue 31).run Tryz.prog w = .ok (.agg (SC 162 hanZ)) w := by kernel_rfl
theorem wl_allocH {ops : Array Oper} {rest : List Oper} {d : Option Tmp} {t : TypeId} {ps : String} {af : Array Edge} {a : Act} {w : World} {Q : Exit → Act → World → Prop}
    (h : ∀ w', SAt w' w.heap.size 31 162 hanZ → Below w.heap.size w w' → wpList Tryz.prog ops Q rest (a.put d (.pointer (some ⟨w.heap.size, 0, none⟩))) w') :
    wpList Tryz.prog ops Q ({ dst := d, op := .alloc 31, type := t, pos := ps, after := af, guard := none } :: rest) a w :=
  wl_act rfl (act_alloc zeroHandV rfl (fun w' hb hg => h w' hg hb))
theorem tN_zero (k : Int) : Fld.tN k 0 = 0 := by
  unfold Fld.tN
  have h : Fld.ofI (0 % Fld.W255) = 0 := Fld.fp_ext (by rw [Fld.ofI_val]; decide +kernel)
  rw [h, Fld.lad_zero]
  rfl
theorem shZ_zero (k : Nat → Int) : shZ k (fun _ => 0) = false := by
  unfold shZ
  have h : nm (fun _ => 0) = 0 := by decide +kernel
  rw [h, tN_zero]
  rfl
theorem Accept_none (w : World) (hE : Env w) : Calls Tryz.prog 11 #[.agg (WA .u8 32 fun _ => 0), .string ⟨#[]⟩] w fun e w' => e = .returned (.tuple #[.agg (SC 162 hanZ), .agg (WA .u8 12 (fun _ => 0)), .int .i64 10]) ∧ Below w.heap.size w w' :=
  Accept_no (fun _ => 0) ⟨#[]⟩ 10 w hE (fun u hu => accept_form (fun _ => 0) (begH (pubF fun _ => 0)) begC ⟨#[]⟩ u hu (zer_b 32) (begC_b 32) (begH_b _ 32) (fun h => absurd h.1 (by decide)) (fun u hu => beginning_run _ u hu (pubF_b _ 32)))
theorem Begin_none (O E T : Nat → Int) (ix : Int) (w : World) (hE : Env w) (hO : Byts 32 O) (hEk : Byts 32 E) (hT : Byts 12 T) : Calls Tryz.prog 9 #[.agg (WA .u8 32 O), .agg (WA .u8 32 fun _ => 0), .agg (WA .u8 32 E), .agg (WA .u8 12 T), .int .u32 ix] w fun e w' => e = .returned (.tuple #[.string ⟨#[]⟩, .agg (SC 162 hanZ), .int .i64 18]) ∧ Below w.heap.size w w' :=
  Begin_no O (fun _ => 0) E T ix 18 w hE (fun u hu => begin_no1 O (fun _ => 0) E T (begH fun _ => 0) begC ix u hu hO (zer_b 32) hEk hT (begC_b 32) (begH_b _ 32) (shZ_zero E) (fun u hu => beginning_run _ u hu (zer_b 32)))
set_option maxHeartbeats 4000000 in
set_option maxRecDepth 100000 in
theorem awake7_run (w : World) (hE : Env w) : Calls Tryz.prog 8 #[] w fun e w' => e = .returned (.bool true) ∧ Below w.heap.size w w' := by
  have hB : Below w.heap.size w w := Below.refl _ w
  go_enter Tryz.func8, Tryz.ntmps8
  go_wp2_with (refine wl_value rfl (exec_b0 rfl) ?_)
  refine (Accept_none _ hE).mono ?_
  rintro x v1 ⟨rfl, hb⟩
  replace hE := hE.kept hb
  replace hB := hB.trans (hb.mono hB.size)
  clear hb
  have l1 := hB.size
  have k1 := hE.two
  go_wp2_with (refine wl_allocH ?_; intro v2 g1 hb; refine Hid.out ?_)
  replace hE := hE.kept hb
  replace hB := hB.trans (hb.mono hB.size)
  clear hb
  refine Hid.mk ?_
  have l2 := hB.size
  have k2 := hE.two
  have m2 := g1.lt
  go_wp2_with (refine wl_alloc12 ?_; intro v3 g2 hb; refine Hid.out ?_)
  replace hE := hE.kept hb
  replace hB := hB.trans (hb.mono hB.size)
  replace g1 := g1.kept hb
  clear hb
  refine Hid.mk ?_
  go_wp2_with (refine st_st isHand (hanV_one _ _ _ _ _ _ _) g1 (by rfl) (by rfl) ?_; intro v4 g4 o4; refine Hid.out ?_)
  replace hE := hE.only o4 (by omega)
  replace hB := hB.trans (o4.below l1)
  replace g2 := g2.only o4 (by omega)
  clear o4 g1 g4
  refine Hid.mk ?_
  go_wp2_with (refine st_arr isArr12 g2 (by rfl) (by rfl) ?_; intro v5 g5 o5; refine Hid.out ?_)
  replace hE := hE.only o5 (by omega)
  replace hB := hB.trans (o5.below l2)
  clear o5 g2 g5
  refine Hid.mk ?_
  go_wp2_with (first | (refine wl_value rfl (exec_b0 rfl) ?_) | (refine wl_value rfl (exec_b1 rfl) ?_) | (refine wl_value rfl (exec_b2 rfl) ?_) | (refine wl_value rfl (exec_b12 rfl) ?_))
  refine (Begin_none (one32 1) (one32 2) _ 3 _ hE (one32_b (by omega)) (one32_b (by omega)) (zer_b 12)).mono ?_
  rintro x v6 ⟨rfl, hb⟩
  replace hE := hE.kept hb
  replace hB := hB.trans (hb.mono hB.size)
  clear hb
  have l6 := hB.size
  have k6 := hE.two
  go_wp2_with (refine wl_allocH ?_; intro v7 g7 hb; refine Hid.out ?_)
  replace hE := hE.kept hb
  replace hB := hB.trans (hb.mono hB.size)
  clear hb
  refine Hid.mk ?_
  go_wp2_with (refine st_st isHand (hanV_one _ _ _ _ _ _ _) g7 (by rfl) (by rfl) ?_; intro v8 g8 o8; refine Hid.out ?_)
  replace hE := hE.only o8 (by omega)
  replace hB := hB.trans (o8.below l6)
  clear o8 g7 g8
  refine Hid.mk ?_
  go_wp2_with fail
  refine (Stamp_run 1500 _).mono ?_
  rintro x v9 ⟨rfl, hb⟩
  replace hB := hB.trans (hb.mono hB.size)
  clear hb hE
  have l9 := hB.size
  go_wp2_with (refine wl_alloc12 ?_; intro v10 g10 hb; refine Hid.out ?_)
  replace hB := hB.trans (hb.mono hB.size)
  clear hb
  refine Hid.mk ?_
  go_wp2_with (refine st_arr isArr12 g10 (by rfl) (by rfl) ?_; intro v11 g11 o11; refine Hid.out ?_)
  replace hB := hB.trans (o11.below l9)
  clear o11 g10
  have s7 : stmF 1500 7 = 11 := by decide +kernel
  have s8 : stmF 1500 8 = 29 := by decide +kernel
  have c7 := g11.cell 7 (by omega)
  have c8 := g11.cell 8 (by omega)
  rw [s7] at c7
  rw [s8] at c8
  have t21 := lat_stm 2 1 (by omega) (by omega)
  have t11 := lat_stm 1 1 (by omega) (by omega)
  have HS := fun n => stmF_b n 12
  refine Hid.mk ?_
  go_wp2_with fail
  refine (Stamp_run 2 _).mono ?_
  rintro x v12 ⟨rfl, hb⟩
  replace hB := hB.trans (hb.mono hB.size)
  clear hb
  go_wp2_with fail
  refine (Stamp_run 1 _).mono ?_
  rintro x v13 ⟨rfl, hb⟩
  replace hB := hB.trans (hb.mono hB.size)
  clear hb
  go_wp2_with fail
  refine (Later_run (stmF 2) (stmF 1) _ (HS 2) (HS 1)).mono ?_
  rintro x v14 ⟨rfl, hb⟩
  replace hB := hB.trans (hb.mono hB.size)
  clear hb
  rw [t21]
  go_wp2_with fail
  refine (Stamp_run 1 _).mono ?_
  rintro x v15 ⟨rfl, hb⟩
  replace hB := hB.trans (hb.mono hB.size)
  clear hb
  go_wp2_with fail
  refine (Stamp_run 1 _).mono ?_
  rintro x v16 ⟨rfl, hb⟩
  replace hB := hB.trans (hb.mono hB.size)
  clear hb
  go_wp2_with fail
  refine (Later_run (stmF 1) (stmF 1) _ (HS 1) (HS 1)).mono ?_
  rintro x v17 ⟨rfl, hb⟩
  replace hB := hB.trans (hb.mono hB.size)
  clear hb
  rw [t11]
  go_wp2_with fail
  go_ret
  exact ⟨rfl, hB⟩
end Go.Proofs.YthghcjepdhkfdaaGreatDoor

/-
  Own text. The law NoiseStamps, walked.
-/
namespace Go.Proofs.YthghcjepdhkfdaaGreatDoor
open Go.RowKit Go.Proofs
set_option maxRecDepth 100000
theorem enterStampR (args : Array Value) (w : World) : (callFunc 31 args).run Tryz.prog w = .ok (.enter 31 args) w := by kernel_rfl
theorem enterLaterR (args : Array Value) (w : World) : (callFunc 33 args).run Tryz.prog w = .ok (.enter 33 args) w := by kernel_rfl
theorem enterLaterC (args : Array Value) (w : World) : (callFunc 32 args).run Tryz.prog w = .ok (.enter 32 args) w := by kernel_rfl
theorem eqG12n : Tryz.prog.eqGuardType Tryz.prog.depth 26 = false := by kernel_rfl
theorem eqItems_two (s r : Nat → Int) (n d : Nat) (w : World) : ∀ (is : List Nat), (∀ i ∈ is, i < n) → (Op.eqItems (d + 1) 5 1 (WA .u8 n s) (WA .u8 n r) is).run Tryz.prog w = .ok (is.all fun i => s i == r i) w
  | [], _ => by simp [Op.eqItems]
  | i :: is, h => by
    have hi : i < n := h i (by simp)
    have ih := eqItems_two s r n d w is (fun j hj => h j (by simp [hj]))
    have e1 : (part 5 (WA .u8 n s) (i * 1)).run Tryz.prog w = .ok (.int .u8 (s i)) w := by
      simp [part, WA_get, hi, go_sem]
    have e2 : (part 5 (WA .u8 n r) (i * 1)).run Tryz.prog w = .ok (.int .u8 (r i)) w := by
      simp [part, WA_get, hi, go_sem]
    simp only [Op.eqItems, Sem.run_bind, e1, e2, Result.andThen_ok, run_equalIn_int w d 5 .u8 .u8 _ _ Tryz.underlying5]
    by_cases hh : s i = r i
    · simpa [hh] using ih
    · simp [hh]
theorem eql_two {a : Act} {o : Oper} {w : World} {x y : Operand} {t u : TypeId} {n : Nat} (ho : o.op = .binOp .eql t x y u) (ht : Tryz.prog.underlying t = some (.array n 5)) (hg : Tryz.prog.eqGuardType Tryz.prog.depth t = false) {s r : Nat → Int} (hx : a.eval x = .agg (WA .u8 n s)) (hy : a.eval y = .agg (WA .u8 n r)) {z : Bool} (hz : ((List.range n).all fun i => s i == r i) = z) :
    (execOp a.eval o).run Tryz.prog w = .ok (.value (.bool z)) w := by
  have he : (Op.equalIn (9998 + 1 + 1) t (.agg (WA .u8 n s)) (.agg (WA .u8 n r))).run Tryz.prog w = .ok z w := by
    have h := eqItems_two s r n 9998 w (List.range n) (fun i hi => List.mem_range.1 hi)
    rw [hz] at h
    obtain ⟨i, hi⟩ := Option.isSome_iff_exists.1 info5
    rw [run_equalIn_array w (9998 + 1) (WA .u8 n s) (WA .u8 n r) ht hi, cells5]
    exact h
  unfold execOp
  simp only [ho, hx, hy, Sem.run_bind, run_eqGuard_agg w .eql t x y _ _ hg, Result.andThen_ok, run_eql_struct, he, Sem.run_pure]
theorem exec_eqb {a : Act} {o : Oper} {w : World} {x y : Operand} (ho : o.op = .binOp .eql 4 x y 4) {p q z : Bool} (hx : a.eval x = .bool p) (hy : a.eval y = .bool q) (hz : (p == q) = z) : (execOp a.eval o).run Tryz.prog w = .ok (.value (.bool z)) w :=
  exec_bin2 ho hx hy rfl (by rw [← hz]; simp [go_sem])
theorem exec_neb {a : Act} {o : Oper} {w : World} {x y : Operand} (ho : o.op = .binOp .neq 4 x y 4) {p q z : Bool} (hx : a.eval x = .bool p) (hy : a.eval y = .bool q) (hz : (p != q) = z) : (execOp a.eval o).run Tryz.prog w = .ok (.value (.bool z)) w :=
  exec_bin2 ho hx hy rfl (by rw [← hz]; simp [go_sem]; cases p <;> cases q <;> rfl)
theorem exec_notb {a : Act} {o : Oper} {w : World} {x : Operand} (ho : o.op = .unOp .not 4 x) {p z : Bool} (hx : a.eval x = .bool p) (hz : (!p) = z) : (execOp a.eval o).run Tryz.prog w = .ok (.value (.bool z)) w := by
  have h : (Op.unary UnOp.not (.bool p)).run Tryz.prog w = .ok (.bool (!p)) w := rfl
  unfold execOp
  simp only [ho, hx, Sem.run_bind, h, Result.andThen_ok, Sem.run_pure, hz]
theorem exec_gtrI {a : Act} {o : Oper} {w : World} {x y : Operand} (ho : o.op = .binOp .gtr 3 x y 3) {m n : Int} (hx : a.eval x = .int .i64 m) (hy : a.eval y = .int .i64 n) : (execOp a.eval o).run Tryz.prog w = .ok (.value (.bool (decide (n < m)))) w :=
  exec_bin2 ho hx hy rfl (by simp [go_sem])
theorem exec_ix66 {a : Act} {o : Oper} {w : World} {x y : Operand} (ho : o.op = .indexAddr 66 x y) {b i : Nat} (hx : a.eval x = .pointer (some ⟨b, 0, none⟩)) (hy : a.eval y = .int .i64 (i : Int)) (hi : i < 2) : (execOp a.eval o).run Tryz.prog w = .ok (.value (.pointer (some ⟨b, i * 12, none⟩))) w := by
  have h : (Instr.indexAt 66 (.pointer (some ⟨b, 0, none⟩)) (.int .i64 (i : Int))).run Tryz.prog w = .ok (.pointer (some ⟨b, i * 12, none⟩)) w := by
    match i, hi with
    | 0, _ => simp [go_sem]
    | 1, _ => simp [go_sem]
  unfold execOp
  simp only [ho, hx, hy, Sem.run_bind, h, Result.andThen_ok, Sem.run_pure]
theorem two_x0 {w : World} {b : Nat} {X0 X1 : Nat → Int} (h : ArrAt w b .u8 66 24 (cat 12 X0 X1)) : w.rangeAt b (0 * 12) (nums .u8 12 X0) := fun j v hj => by
  obtain ⟨hj2, rfl⟩ := nums_get hj
  rw [Nat.zero_mul, Nat.zero_add, ArrAt.cell h j (by omega)]
  unfold cat
  rw [if_pos hj2]
theorem two_x1 {w : World} {b : Nat} {X0 X1 : Nat → Int} (h : ArrAt w b .u8 66 24 (cat 12 X0 X1)) : w.rangeAt b (1 * 12) (nums .u8 12 X1) := fun j v hj => by
  obtain ⟨hj2, rfl⟩ := nums_get hj
  rw [Nat.one_mul, ArrAt.cell h (12 + j) (by omega)]
  unfold cat
  rw [if_neg (by omega), Nat.add_sub_cancel_left]
set_option maxHeartbeats 8000000 in
set_option maxRecDepth 100000 in
theorem stamps_a (a b : Int) (X0 X1 : Nat → Int) (w : World) (hE : Env w) (h0 : Byts 12 X0) (h1 : Byts 12 X1) (hz01 : latF X0 X1 12 0 = true) (hz10 : latF X1 X0 12 0 = false) :
    Calls Tryz.prog 7 #[.int .i64 a, .int .i64 b, .agg (WA .u8 24 (cat 12 X0 X1))] w fun e w' => e = .returned (.bool true) ∧ Below w.heap.size w w' := by
  have hB : Below w.heap.size w (w.alloc (.cells (WA .u8 24 (cat 12 X0 X1)) 66)) := (Below.refl _ w).alloc (Nat.le_refl _) _
  have gx : ArrAt (w.alloc (.cells (WA .u8 24 (cat 12 X0 X1)) 66)) w.heap.size .u8 66 24 (cat 12 X0 X1) := heap_alloc_new w _
  replace hE := hE.kept hB
  have HL01 := Hid.mk (fun u => Later_run X0 X1 u h0 h1)
  have HL10 := Hid.mk (fun u => Later_run X1 X0 u h1 h0)
  have HR01 := Hid.mk (fun u => rLater_run X0 X1 u)
  rw [hz01] at HL01 HR01
  rw [hz10] at HL10
  have HEQ : Hid (((List.range 12).all fun i => X0 i == X1 i) = false) := Hid.mk (by
    have ht := lat_tri h0 h1
    rw [hz01, hz10] at ht
    rw [Bool.eq_iff_iff, List.all_eq_true]
    simp only [List.mem_range, beq_iff_eq]
    rw [ht]
    decide)
  clear hz01 hz10 h0 h1
  go_enter Tryz.func7, Tryz.ntmps7
  go_wp2_with fail
  refine (awake7_run _ hE).mono ?_
  rintro x v1 ⟨rfl, hb⟩
  replace hE := hE.kept hb
  replace hB := hB.trans (hb.mono hB.size)
  replace gx := gx.kept hb
  clear hb
  go_wp2_with fail
  refine (Stamp_run a _).mono ?_
  rintro x v2 ⟨rfl, hb⟩
  replace hE := hE.kept hb
  replace hB := hB.trans (hb.mono hB.size)
  replace gx := gx.kept hb
  clear hb
  have k2 := hE.two
  have l2 := hB.size
  have m2 := gx.lt
  go_wp2_with (refine wl_alloc12 ?_; intro v3 g80 hb; refine Hid.out ?_)
  replace hE := hE.kept hb
  replace hB := hB.trans (hb.mono hB.size)
  replace gx := gx.kept hb
  clear hb
  refine Hid.mk ?_
  go_wp2_with (refine st_arr isArr12 g80 (by rfl) (by rfl) ?_; intro v4 g8 o4; refine Hid.out ?_)
  replace hE := hE.only o4 (by omega)
  replace hB := hB.trans (o4.below l2)
  replace gx := gx.only o4 (by omega)
  clear o4 g80
  refine Hid.mk ?_
  obtain ⟨b8, hb8⟩ : ∃ x, v2.heap.size = x := ⟨_, rfl⟩
  rw [hb8] at g8 k2 l2 m2 ⊢
  clear hb8
  go_wp2_with fail
  refine (Stamp_run b _).mono ?_
  rintro x v5 ⟨rfl, hb⟩
  replace hE := hE.kept hb
  replace hB := hB.trans (hb.mono hB.size)
  replace gx := gx.kept hb
  replace g8 := g8.kept hb
  clear hb
  have k5 := hE.two
  have l5 := hB.size
  have m5 := gx.lt
  have m6 := g8.lt
  go_wp2_with (refine wl_alloc12 ?_; intro v6 g90 hb; refine Hid.out ?_)
  replace hE := hE.kept hb
  replace hB := hB.trans (hb.mono hB.size)
  replace gx := gx.kept hb
  replace g8 := g8.kept hb
  clear hb
  refine Hid.mk ?_
  go_wp2_with (refine st_arr isArr12 g90 (by rfl) (by rfl) ?_; intro v7 g9 o7; refine Hid.out ?_)
  replace hB := hB.trans (o7.below l5)
  replace gx := gx.only o7 (by omega)
  replace g8 := g8.only o7 (by omega)
  clear o7 g90 hE
  refine Hid.mk ?_
  obtain ⟨b9, hb9⟩ : ∃ x, v5.heap.size = x := ⟨_, rfl⟩
  rw [hb9] at g9 k5 l5 m5 m6 ⊢
  clear hb9 k2 l2 m2 k5 l5 m5 m6
  go_wp2_with fail
  have HG8 : Hid (∀ u, Below v7.heap.size v7 u → ArrAt u b8 .u8 26 12 (stmF a)) := Hid.mk (fun u hu => g8.kept hu)
  have HG9 : Hid (∀ u, Below v7.heap.size v7 u → ArrAt u b9 .u8 26 12 (stmF b)) := Hid.mk (fun u hu => g9.kept hu)
  have HGX : Hid (∀ u, Below v7.heap.size v7 u → ArrAt u w.heap.size .u8 66 24 (cat 12 X0 X1)) := Hid.mk (fun u hu => gx.kept hu)
  refine wp_region3 (Below v7.heap.size v7) v7.heap.size
      ([] : List (Nat × Cont))
      (kv (.agg (WA .u8 12 (stmF a))) :: kv (.int .i64 a) :: kv (.agg (WA .u8 12 (stmF a))) :: kv (.bool false) :: kv (.bool false) :: kv (.agg (WA .u8 12 (stmF b))) :: kv (.int .i64 b) :: kv (.agg (WA .u8 12 (stmF b))) :: kv (.bool false) :: kv (.bool false) :: kv (.bool false) :: kv (.pointer (some ⟨w.heap.size, 0 * 12, none⟩)) :: kv (.agg (WA .u8 12 X0)) :: kv (.pointer (some ⟨w.heap.size, 1 * 12, none⟩)) :: kv (.agg (WA .u8 12 X1)) :: kv (.bool true) :: kv (.pointer (some ⟨w.heap.size, 0 * 12, none⟩)) :: kv (.agg (WA .u8 12 X0)) :: kv (.pointer (some ⟨w.heap.size, 1 * 12, none⟩)) :: kv (.agg (WA .u8 12 X1)) :: kv (.bool true) :: kv (.bool false) :: kv (.bool false) :: kv (.bool false) :: kv (.pointer (some ⟨w.heap.size, 0 * 12, none⟩)) :: kv (.agg (WA .u8 12 X0)) :: kv (.pointer (some ⟨w.heap.size, 1 * 12, none⟩)) :: kv (.agg (WA .u8 12 X1)) :: kv (.bool true) :: kv (.bool true) :: kv (.pointer (some ⟨w.heap.size, 1 * 12, none⟩)) :: kv (.agg (WA .u8 12 X1)) :: kv (.pointer (some ⟨w.heap.size, 0 * 12, none⟩)) :: kv (.agg (WA .u8 12 X0)) :: kv (.bool false) :: kv (.bool false) :: kv (.bool false) :: [])
      (.none :: .none :: .none :: .none :: .none :: .none :: .none :: .none :: .none :: .none :: .none :: .none :: .none :: .none :: .none :: .none :: .none :: .none :: .none :: .none :: .none :: .none :: .none :: .none :: .none :: .none :: .none :: .none :: .none :: .none :: .none :: .none :: .none :: .none :: .none :: .none :: .none :: [])
      (some 15 :: some 16 :: some 17 :: some 18 :: some 19 :: some 20 :: some 21 :: some 22 :: some 23 :: some 24 :: some 25 :: some 26 :: some 27 :: some 28 :: some 29 :: some 30 :: some 31 :: some 32 :: some 33 :: some 34 :: some 35 :: some 36 :: some 37 :: some 38 :: some 39 :: some 40 :: some 41 :: some 42 :: some 43 :: some 44 :: some 45 :: some 46 :: some 47 :: some 48 :: some 49 :: some 50 :: some 51 :: [])
      [(8, .pointer (some ⟨b8, 0, none⟩)), (9, .pointer (some ⟨b9, 0, none⟩)), (0, .int .i64 a), (1, .int .i64 b), (5, .pointer (some ⟨w.heap.size, 0, none⟩))]
      ([] :: [] :: [.slot 1] :: [.slot 0, .slot 2] :: [.slot 3] :: [.slot 4] :: [.slot 4] :: [.slot 4, .slot 6] :: [.slot 4, .slot 5, .slot 7] :: [.slot 4, .slot 8] :: [.slot 9] :: [.slot 10] :: [.slot 10, .slot 11] :: [.slot 10] :: [.slot 10, .slot 13] :: [.slot 10, .slot 12, .slot 14] :: [.slot 10] :: [.slot 10, .slot 16] :: [.slot 10] :: [.slot 10, .slot 18] :: [.slot 10, .slot 17, .slot 19] :: [.slot 10, .slot 15, .slot 20] :: [.slot 10, .slot 21] :: [.slot 22] :: [.slot 23] :: [.slot 23, .slot 24] :: [.slot 23] :: [.slot 23, .slot 26] :: [.slot 23, .slot 25, .slot 27] :: [.slot 23, .slot 28] :: [.slot 29] :: [.slot 29, .slot 30] :: [.slot 29] :: [.slot 29, .slot 32] :: [.slot 29, .slot 31, .slot 33] :: [.slot 23, .slot 29, .slot 34] :: [.slot 23, .slot 35] :: [])
      [.slot 36] (15 :: 16 :: 17 :: 18 :: 19 :: 20 :: 21 :: 22 :: 23 :: 24 :: 25 :: 26 :: 27 :: 28 :: 29 :: 30 :: 31 :: 32 :: 33 :: 34 :: 35 :: 36 :: 37 :: 38 :: 39 :: 40 :: 41 :: 42 :: 43 :: 44 :: 45 :: 46 :: 47 :: 48 :: 49 :: 50 :: 51 :: [])
      rfl (by kernel_rfl) ⟨rfl, rfl, rfl, rfl, rfl, trivial⟩ (Below.refl _ v7).drew (Nat.le_refl _) trivial trivial (below_G (Nat.le_refl _) trivial)
      ⟨
        -- 0
        (fun Q aq ww own hS hBg fr kn => .inl ⟨trivial, fun K hK => wp_value (look_arr rfl isArr12 (HG8.out ww hS) fr.1) (hK _ _ ⟨Touch.refl _ _, rfl⟩)⟩),
        -- 1
        (fun Q aq ww own hS hBg fr kn => .inl ⟨trivial, fun K hK => wp_value (exec_move rfl fr.2.2.1) (hK _ _ ⟨Touch.refl _ _, rfl⟩)⟩),
        -- 2
        (fun Q aq ww own hS hBg fr kn => .inl ⟨trivial, fun K hK => stepc enterStampR rfl (args1 kn.1) (rStamp_run a ww) (fun w' hb => hK _ _ ⟨touch_below hb, rfl⟩)⟩),
        -- 3
        (fun Q aq ww own hS hBg fr kn => .inl ⟨trivial, fun K hK => wp_value (neq_WA rfl Tryz.underlying26 eqG12n kn.1 kn.2.1) (hK _ _ ⟨Touch.refl _ _, rfl⟩)⟩),
        -- 4
        (fun Q aq ww own hS hBg fr kn => .inl ⟨trivial, fun K hK => wp_value (exec_move rfl kn.1) (hK _ _ ⟨Touch.refl _ _, rfl⟩)⟩),
        -- 5
        (fun Q aq ww own hS hBg fr kn => .inl ⟨kn.1, fun K hK => wp_value (look_arr rfl isArr12 (HG9.out ww hS) fr.2.1) (hK _ _ ⟨Touch.refl _ _, rfl⟩)⟩),
        -- 6
        (fun Q aq ww own hS hBg fr kn => .inl ⟨kn.1, fun K hK => wp_value (exec_move rfl fr.2.2.2.1) (hK _ _ ⟨Touch.refl _ _, rfl⟩)⟩),
        -- 7
        (fun Q aq ww own hS hBg fr kn => .inl ⟨kn.1, fun K hK => stepc enterStampR rfl (args1 kn.2.1) (rStamp_run b ww) (fun w' hb => hK _ _ ⟨touch_below hb, rfl⟩)⟩),
        -- 8
        (fun Q aq ww own hS hBg fr kn => .inl ⟨kn.1, fun K hK => wp_value (neq_WA rfl Tryz.underlying26 eqG12n kn.2.1 kn.2.2.1) (hK _ _ ⟨Touch.refl _ _, rfl⟩)⟩),
        -- 9
        (fun Q aq ww own hS hBg fr kn => .inl ⟨trivial, fun K hK => wp_value (exec_pickF rfl kn.1 kn.2.1) (hK _ _ ⟨Touch.refl _ _, rfl⟩)⟩),
        -- 10
        (fun Q aq ww own hS hBg fr kn => .inl ⟨trivial, fun K hK => wp_value (exec_move rfl kn.1) (hK _ _ ⟨Touch.refl _ _, rfl⟩)⟩),
        -- 11
        (fun Q aq ww own hS hBg fr kn => .inl ⟨kn.1, fun K hK => wp_value (exec_ix66 (i := 0) rfl fr.2.2.2.2.1 rfl (by omega)) (hK _ _ ⟨Touch.refl _ _, rfl⟩)⟩),
        -- 12
        (fun Q aq ww own hS hBg fr kn => .inl ⟨kn.1, fun K hK => wp_value (exec_ldmid rfl isArr12 kn.2.1 (two_x0 (HGX.out ww hS))) (hK _ _ ⟨Touch.refl _ _, rfl⟩)⟩),
        -- 13
        (fun Q aq ww own hS hBg fr kn => .inl ⟨kn.1, fun K hK => wp_value (exec_ix66 (i := 1) rfl fr.2.2.2.2.1 rfl (by omega)) (hK _ _ ⟨Touch.refl _ _, rfl⟩)⟩),
        -- 14
        (fun Q aq ww own hS hBg fr kn => .inl ⟨kn.1, fun K hK => wp_value (exec_ldmid rfl isArr12 kn.2.1 (two_x1 (HGX.out ww hS))) (hK _ _ ⟨Touch.refl _ _, rfl⟩)⟩),
        -- 15
        (fun Q aq ww own hS hBg fr kn => .inl ⟨kn.1, fun K hK => stepc enterLaterC rfl (args2 kn.2.1 kn.2.2.1) (HL01.out ww) (fun w' hb => hK _ _ ⟨touch_below hb, rfl⟩)⟩),
        -- 16
        (fun Q aq ww own hS hBg fr kn => .inl ⟨kn.1, fun K hK => wp_value (exec_ix66 (i := 0) rfl fr.2.2.2.2.1 rfl (by omega)) (hK _ _ ⟨Touch.refl _ _, rfl⟩)⟩),
        -- 17
        (fun Q aq ww own hS hBg fr kn => .inl ⟨kn.1, fun K hK => wp_value (exec_ldmid rfl isArr12 kn.2.1 (two_x0 (HGX.out ww hS))) (hK _ _ ⟨Touch.refl _ _, rfl⟩)⟩),
        -- 18
        (fun Q aq ww own hS hBg fr kn => .inl ⟨kn.1, fun K hK => wp_value (exec_ix66 (i := 1) rfl fr.2.2.2.2.1 rfl (by omega)) (hK _ _ ⟨Touch.refl _ _, rfl⟩)⟩),
        -- 19
        (fun Q aq ww own hS hBg fr kn => .inl ⟨kn.1, fun K hK => wp_value (exec_ldmid rfl isArr12 kn.2.1 (two_x1 (HGX.out ww hS))) (hK _ _ ⟨Touch.refl _ _, rfl⟩)⟩),
        -- 20
        (fun Q aq ww own hS hBg fr kn => .inl ⟨kn.1, fun K hK => stepc enterLaterR rfl (args2 kn.2.1 kn.2.2.1) (HR01.out ww) (fun w' hb => hK _ _ ⟨touch_below hb, rfl⟩)⟩),
        -- 21
        (fun Q aq ww own hS hBg fr kn => .inl ⟨kn.1, fun K hK => wp_value (exec_neb (p := true) (q := true) (z := false) rfl kn.2.1 kn.2.2.1 rfl) (hK _ _ ⟨Touch.refl _ _, rfl⟩)⟩),
        -- 22
        (fun Q aq ww own hS hBg fr kn => .inl ⟨trivial, fun K hK => wp_value (exec_pickF rfl kn.1 kn.2.1) (hK _ _ ⟨Touch.refl _ _, rfl⟩)⟩),
        -- 23
        (fun Q aq ww own hS hBg fr kn => .inl ⟨trivial, fun K hK => wp_value (exec_move rfl kn.1) (hK _ _ ⟨Touch.refl _ _, rfl⟩)⟩),
        -- 24
        (fun Q aq ww own hS hBg fr kn => .inl ⟨kn.1, fun K hK => wp_value (exec_ix66 (i := 0) rfl fr.2.2.2.2.1 rfl (by omega)) (hK _ _ ⟨Touch.refl _ _, rfl⟩)⟩),
        -- 25
        (fun Q aq ww own hS hBg fr kn => .inl ⟨kn.1, fun K hK => wp_value (exec_ldmid rfl isArr12 kn.2.1 (two_x0 (HGX.out ww hS))) (hK _ _ ⟨Touch.refl _ _, rfl⟩)⟩),
        -- 26
        (fun Q aq ww own hS hBg fr kn => .inl ⟨kn.1, fun K hK => wp_value (exec_ix66 (i := 1) rfl fr.2.2.2.2.1 rfl (by omega)) (hK _ _ ⟨Touch.refl _ _, rfl⟩)⟩),
        -- 27
        (fun Q aq ww own hS hBg fr kn => .inl ⟨kn.1, fun K hK => wp_value (exec_ldmid rfl isArr12 kn.2.1 (two_x1 (HGX.out ww hS))) (hK _ _ ⟨Touch.refl _ _, rfl⟩)⟩),
        -- 28
        (fun Q aq ww own hS hBg fr kn => .inl ⟨kn.1, fun K hK => stepc enterLaterC rfl (args2 kn.2.1 kn.2.2.1) (HL01.out ww) (fun w' hb => hK _ _ ⟨touch_below hb, rfl⟩)⟩),
        -- 29
        (fun Q aq ww own hS hBg fr kn => .inl ⟨kn.1, fun K hK => wp_value (exec_move rfl kn.2.1) (hK _ _ ⟨Touch.refl _ _, rfl⟩)⟩),
        -- 30
        (fun Q aq ww own hS hBg fr kn => .inl ⟨kn.1, fun K hK => wp_value (exec_ix66 (i := 1) rfl fr.2.2.2.2.1 rfl (by omega)) (hK _ _ ⟨Touch.refl _ _, rfl⟩)⟩),
        -- 31
        (fun Q aq ww own hS hBg fr kn => .inl ⟨kn.1, fun K hK => wp_value (exec_ldmid rfl isArr12 kn.2.1 (two_x1 (HGX.out ww hS))) (hK _ _ ⟨Touch.refl _ _, rfl⟩)⟩),
        -- 32
        (fun Q aq ww own hS hBg fr kn => .inl ⟨kn.1, fun K hK => wp_value (exec_ix66 (i := 0) rfl fr.2.2.2.2.1 rfl (by omega)) (hK _ _ ⟨Touch.refl _ _, rfl⟩)⟩),
        -- 33
        (fun Q aq ww own hS hBg fr kn => .inl ⟨kn.1, fun K hK => wp_value (exec_ldmid rfl isArr12 kn.2.1 (two_x0 (HGX.out ww hS))) (hK _ _ ⟨Touch.refl _ _, rfl⟩)⟩),
        -- 34
        (fun Q aq ww own hS hBg fr kn => .inl ⟨kn.1, fun K hK => stepc enterLaterC rfl (args2 kn.2.1 kn.2.2.1) (HL10.out ww) (fun w' hb => hK _ _ ⟨touch_below hb, rfl⟩)⟩),
        -- 35
        (fun Q aq ww own hS hBg fr kn => .inl ⟨kn.1, fun K hK => wp_value (exec_pick rfl kn.2.1 kn.2.2.1) (hK _ _ ⟨Touch.refl _ _, rfl⟩)⟩),
        -- 36
        (fun Q aq ww own hS hBg fr kn => .inl ⟨trivial, fun K hK => wp_value (exec_pickF rfl kn.1 kn.2.1) (hK _ _ ⟨Touch.refl _ _, rfl⟩)⟩),
        trivial⟩ ?_
  intro vs own v8 hb hs1 kn inj
  clear inj hs1 HG8 HG9 HGX
  have e51 : vs 51 = _ := kn.1
  clear kn
  replace gx := gx.kept hb
  replace g8 := g8.kept hb
  replace g9 := g9.kept hb
  replace hB := hB.trans (hb.mono hB.size)
  clear hb
  simp only [putAll, Act.put, List.setIfInBounds_toArray, List.set_cons_zero, List.set_cons_succ, e51]
  
  by_cases c1 : a < 0
  · go_wp2_with fail
    go_ret
    exact ⟨rfl, hB⟩
  by_cases c2 : b < 0
  · go_wp2_with fail
    go_ret
    exact ⟨rfl, hB⟩
  by_cases c3 : 1099511627776 < a
  · go_wp2_with fail
    go_ret
    exact ⟨rfl, hB⟩
  by_cases c4 : 1099511627776 < b
  · go_wp2_with fail
    go_ret
    exact ⟨rfl, hB⟩
  have HLS := Hid.mk (fun u => Later_run (stmF a) (stmF b) u (stmF_b a 12) (stmF_b b 12))
  rw [lat_stm a b (by omega) (by omega)] at HLS
  go_wp2_with fail
  have HG8 : Hid (∀ u, Below v8.heap.size v8 u → ArrAt u b8 .u8 26 12 (stmF a)) := Hid.mk (fun u hu => g8.kept hu)
  have HG9 : Hid (∀ u, Below v8.heap.size v8 u → ArrAt u b9 .u8 26 12 (stmF b)) := Hid.mk (fun u hu => g9.kept hu)
  have HGX : Hid (∀ u, Below v8.heap.size v8 u → ArrAt u w.heap.size .u8 66 24 (cat 12 X0 X1)) := Hid.mk (fun u hu => gx.kept hu)
  refine wp_region3 (Below v8.heap.size v8) v8.heap.size
      ([] : List (Nat × Cont))
      (kv (.bool true) :: kv (.bool true) :: kv (.agg (WA .u8 12 (stmF a))) :: kv (.agg (WA .u8 12 (stmF b))) :: kv (.bool (decide (b < a))) :: kv (.int .i64 a) :: kv (.int .i64 b) :: kv (.bool (decide (b < a))) :: kv (.bool true) :: kv (.bool true) :: kv (.bool true) :: kv (.pointer (some ⟨w.heap.size, 0 * 12, none⟩)) :: kv (.agg (WA .u8 12 X0)) :: kv (.pointer (some ⟨w.heap.size, 1 * 12, none⟩)) :: kv (.agg (WA .u8 12 X1)) :: kv (.bool false) :: kv (.pointer (some ⟨w.heap.size, 0 * 12, none⟩)) :: kv (.agg (WA .u8 12 X0)) :: kv (.pointer (some ⟨w.heap.size, 1 * 12, none⟩)) :: kv (.agg (WA .u8 12 X1)) :: kv (.bool true) :: kv (.bool false) :: kv (.bool false) :: (.val fun _ => True) :: (.val fun _ => True) :: (.val fun _ => True) :: (.val fun _ => True) :: (.val fun _ => True) :: (.val fun _ => True) :: kv (.bool false) :: kv (.bool true) :: kv (.bool true) :: kv (.bool true) :: [])
      (.none :: .none :: .none :: .none :: .none :: .none :: .none :: .none :: .none :: .none :: .none :: .none :: .none :: .none :: .none :: .none :: .none :: .none :: .none :: .none :: .none :: .none :: .none :: .none :: .none :: .none :: .none :: .none :: .none :: .none :: .none :: .none :: .none :: [])
      (some 67 :: some 68 :: some 69 :: some 70 :: some 71 :: some 72 :: some 73 :: some 74 :: some 75 :: some 76 :: some 77 :: some 78 :: some 79 :: some 80 :: some 81 :: some 82 :: some 83 :: some 84 :: some 85 :: some 86 :: some 87 :: some 88 :: some 89 :: some 90 :: some 91 :: some 92 :: some 93 :: some 94 :: some 95 :: some 96 :: some 97 :: some 98 :: some 6 :: [])
      [(7, .bool true), (8, .pointer (some ⟨b8, 0, none⟩)), (9, .pointer (some ⟨b9, 0, none⟩)), (0, .int .i64 a), (1, .int .i64 b), (5, .pointer (some ⟨w.heap.size, 0, none⟩))]
      ([] :: [.slot 0] :: [.slot 1] :: [.slot 1] :: [.slot 1, .slot 2, .slot 3] :: [.slot 1] :: [.slot 1] :: [.slot 1, .slot 5, .slot 6] :: [.slot 1, .slot 4, .slot 7] :: [.slot 1, .slot 8] :: [.slot 9] :: [.slot 10] :: [.slot 10, .slot 11] :: [.slot 10] :: [.slot 10, .slot 13] :: [.slot 10, .slot 12, .slot 14] :: [.slot 10] :: [.slot 10, .slot 16] :: [.slot 10] :: [.slot 10, .slot 18] :: [.slot 10, .slot 17, .slot 19] :: [.slot 10, .slot 20] :: [.slot 10, .slot 21] :: [.slot 22] :: [.slot 22] :: [.slot 22] :: [.slot 22] :: [.slot 22] :: [.slot 22] :: [.slot 10, .slot 22] :: [.slot 10, .slot 15, .slot 29] :: [.slot 10, .slot 30] :: [.slot 31] :: [])
      [.slot 32] (67 :: 68 :: 69 :: 70 :: 71 :: 72 :: 73 :: 74 :: 75 :: 76 :: 77 :: 78 :: 79 :: 80 :: 81 :: 82 :: 83 :: 84 :: 85 :: 86 :: 87 :: 88 :: 89 :: 90 :: 91 :: 92 :: 93 :: 94 :: 95 :: 96 :: 97 :: 98 :: 6 :: [])
      rfl (by kernel_rfl) ⟨rfl, rfl, rfl, rfl, rfl, rfl, trivial⟩ (Below.refl _ v8).drew (Nat.le_refl _) trivial trivial (below_G (Nat.le_refl _) trivial)
      ⟨
        -- 0
        (fun Q aq ww own hS hBg fr kn => .inl ⟨trivial, fun K hK => wp_value (exec_move rfl fr.1) (hK _ _ ⟨Touch.refl _ _, rfl⟩)⟩),
        -- 1
        (fun Q aq ww own hS hBg fr kn => .inl ⟨trivial, fun K hK => wp_value (exec_move rfl kn.1) (hK _ _ ⟨Touch.refl _ _, rfl⟩)⟩),
        -- 2
        (fun Q aq ww own hS hBg fr kn => .inl ⟨kn.1, fun K hK => wp_value (look_arr rfl isArr12 (HG8.out ww hS) fr.2.1) (hK _ _ ⟨Touch.refl _ _, rfl⟩)⟩),
        -- 3
        (fun Q aq ww own hS hBg fr kn => .inl ⟨kn.1, fun K hK => wp_value (look_arr rfl isArr12 (HG9.out ww hS) fr.2.2.1) (hK _ _ ⟨Touch.refl _ _, rfl⟩)⟩),
        -- 4
        (fun Q aq ww own hS hBg fr kn => .inl ⟨kn.1, fun K hK => stepc enterLaterC rfl (args2 kn.2.1 kn.2.2.1) (HLS.out ww) (fun w' hb => hK _ _ ⟨touch_below hb, rfl⟩)⟩),
        -- 5
        (fun Q aq ww own hS hBg fr kn => .inl ⟨kn.1, fun K hK => wp_value (exec_move rfl fr.2.2.2.1) (hK _ _ ⟨Touch.refl _ _, rfl⟩)⟩),
        -- 6
        (fun Q aq ww own hS hBg fr kn => .inl ⟨kn.1, fun K hK => wp_value (exec_move rfl fr.2.2.2.2.1) (hK _ _ ⟨Touch.refl _ _, rfl⟩)⟩),
        -- 7
        (fun Q aq ww own hS hBg fr kn => .inl ⟨kn.1, fun K hK => wp_value (exec_gtrI rfl kn.2.1 kn.2.2.1) (hK _ _ ⟨Touch.refl _ _, rfl⟩)⟩),
        -- 8
        (fun Q aq ww own hS hBg fr kn => .inl ⟨kn.1, fun K hK => wp_value (exec_eqb (z := true) rfl kn.2.1 kn.2.2.1 (beq_self_eq_true _)) (hK _ _ ⟨Touch.refl _ _, rfl⟩)⟩),
        -- 9
        (fun Q aq ww own hS hBg fr kn => .inl ⟨trivial, fun K hK => wp_value (exec_pick rfl kn.1 kn.2.1) (hK _ _ ⟨Touch.refl _ _, rfl⟩)⟩),
        -- 10
        (fun Q aq ww own hS hBg fr kn => .inl ⟨trivial, fun K hK => wp_value (exec_move rfl kn.1) (hK _ _ ⟨Touch.refl _ _, rfl⟩)⟩),
        -- 11
        (fun Q aq ww own hS hBg fr kn => .inl ⟨kn.1, fun K hK => wp_value (exec_ix66 (i := 0) rfl fr.2.2.2.2.2.1 rfl (by omega)) (hK _ _ ⟨Touch.refl _ _, rfl⟩)⟩),
        -- 12
        (fun Q aq ww own hS hBg fr kn => .inl ⟨kn.1, fun K hK => wp_value (exec_ldmid rfl isArr12 kn.2.1 (two_x0 (HGX.out ww hS))) (hK _ _ ⟨Touch.refl _ _, rfl⟩)⟩),
        -- 13
        (fun Q aq ww own hS hBg fr kn => .inl ⟨kn.1, fun K hK => wp_value (exec_ix66 (i := 1) rfl fr.2.2.2.2.2.1 rfl (by omega)) (hK _ _ ⟨Touch.refl _ _, rfl⟩)⟩),
        -- 14
        (fun Q aq ww own hS hBg fr kn => .inl ⟨kn.1, fun K hK => wp_value (exec_ldmid rfl isArr12 kn.2.1 (two_x1 (HGX.out ww hS))) (hK _ _ ⟨Touch.refl _ _, rfl⟩)⟩),
        -- 15
        (fun Q aq ww own hS hBg fr kn => .inl ⟨kn.1, fun K hK => wp_value (eql_two rfl Tryz.underlying26 eqG12n kn.2.1 kn.2.2.1 HEQ.out) (hK _ _ ⟨Touch.refl _ _, rfl⟩)⟩),
        -- 16
        (fun Q aq ww own hS hBg fr kn => .inl ⟨kn.1, fun K hK => wp_value (exec_ix66 (i := 0) rfl fr.2.2.2.2.2.1 rfl (by omega)) (hK _ _ ⟨Touch.refl _ _, rfl⟩)⟩),
        -- 17
        (fun Q aq ww own hS hBg fr kn => .inl ⟨kn.1, fun K hK => wp_value (exec_ldmid rfl isArr12 kn.2.1 (two_x0 (HGX.out ww hS))) (hK _ _ ⟨Touch.refl _ _, rfl⟩)⟩),
        -- 18
        (fun Q aq ww own hS hBg fr kn => .inl ⟨kn.1, fun K hK => wp_value (exec_ix66 (i := 1) rfl fr.2.2.2.2.2.1 rfl (by omega)) (hK _ _ ⟨Touch.refl _ _, rfl⟩)⟩),
        -- 19
        (fun Q aq ww own hS hBg fr kn => .inl ⟨kn.1, fun K hK => wp_value (exec_ldmid rfl isArr12 kn.2.1 (two_x1 (HGX.out ww hS))) (hK _ _ ⟨Touch.refl _ _, rfl⟩)⟩),
        -- 20
        (fun Q aq ww own hS hBg fr kn => .inl ⟨kn.1, fun K hK => stepc enterLaterC rfl (args2 kn.2.1 kn.2.2.1) (HL01.out ww) (fun w' hb => hK _ _ ⟨touch_below hb, rfl⟩)⟩),
        -- 21
        (fun Q aq ww own hS hBg fr kn => .inl ⟨kn.1, fun K hK => wp_value (exec_notb (p := true) (z := false) rfl kn.2.1 rfl) (hK _ _ ⟨Touch.refl _ _, rfl⟩)⟩),
        -- 22
        (fun Q aq ww own hS hBg fr kn => .inl ⟨kn.1, fun K hK => wp_value (exec_move rfl kn.2.1) (hK _ _ ⟨Touch.refl _ _, rfl⟩)⟩),
        -- 23
        (fun Q aq ww own hS hBg fr kn => .inr ⟨.inl kn.1, Touch.refl _ _, trivial⟩),
        -- 24
        (fun Q aq ww own hS hBg fr kn => .inr ⟨.inl kn.1, Touch.refl _ _, trivial⟩),
        -- 25
        (fun Q aq ww own hS hBg fr kn => .inr ⟨.inl kn.1, Touch.refl _ _, trivial⟩),
        -- 26
        (fun Q aq ww own hS hBg fr kn => .inr ⟨.inl kn.1, Touch.refl _ _, trivial⟩),
        -- 27
        (fun Q aq ww own hS hBg fr kn => .inr ⟨.inl kn.1, Touch.refl _ _, trivial⟩),
        -- 28
        (fun Q aq ww own hS hBg fr kn => .inr ⟨.inl kn.1, Touch.refl _ _, trivial⟩),
        -- 29
        (fun Q aq ww own hS hBg fr kn => .inl ⟨kn.1, fun K hK => wp_value (exec_pickF (v := .bool false) rfl kn.2.1 rfl) (hK _ _ ⟨Touch.refl _ _, rfl⟩)⟩),
        -- 30
        (fun Q aq ww own hS hBg fr kn => .inl ⟨kn.1, fun K hK => wp_value (exec_eqb (z := true) rfl kn.2.1 kn.2.2.1 rfl) (hK _ _ ⟨Touch.refl _ _, rfl⟩)⟩),
        -- 31
        (fun Q aq ww own hS hBg fr kn => .inl ⟨trivial, fun K hK => wp_value (exec_pick rfl kn.1 kn.2.1) (hK _ _ ⟨Touch.refl _ _, rfl⟩)⟩),
        -- 32
        (fun Q aq ww own hS hBg fr kn => .inl ⟨trivial, fun K hK => wp_value (exec_assign rfl kn.1) (hK _ _ ⟨Touch.refl _ _, rfl⟩)⟩),
        trivial⟩ ?_
  intro vs own v9 hb hs1 kn inj
  clear inj hs1 HG8 HG9 HGX
  have e6 : vs 6 = _ := kn.1
  clear kn
  replace gx := gx.kept hb
  replace g8 := g8.kept hb
  replace g9 := g9.kept hb
  replace hB := hB.trans (hb.mono hB.size)
  clear hb
  simp only [putAll, Act.put, List.setIfInBounds_toArray, List.set_cons_zero, List.set_cons_succ, e6]
  
  go_wp2_with fail
  go_ret
  exact ⟨rfl, hB⟩
set_option maxHeartbeats 8000000 in
set_option maxRecDepth 100000 in
theorem stamps_b (a b : Int) (X0 X1 : Nat → Int) (w : World) (hE : Env w) (h0 : Byts 12 X0) (h1 : Byts 12 X1) (hz01 : latF X0 X1 12 0 = false) (hz10 : latF X1 X0 12 0 = true) :
    Calls Tryz.prog 7 #[.int .i64 a, .int .i64 b, .agg (WA .u8 24 (cat 12 X0 X1))] w fun e w' => e = .returned (.bool true) ∧ Below w.heap.size w w' := by
  have hB : Below w.heap.size w (w.alloc (.cells (WA .u8 24 (cat 12 X0 X1)) 66)) := (Below.refl _ w).alloc (Nat.le_refl _) _
  have gx : ArrAt (w.alloc (.cells (WA .u8 24 (cat 12 X0 X1)) 66)) w.heap.size .u8 66 24 (cat 12 X0 X1) := heap_alloc_new w _
  replace hE := hE.kept hB
  have HL01 := Hid.mk (fun u => Later_run X0 X1 u h0 h1)
  have HL10 := Hid.mk (fun u => Later_run X1 X0 u h1 h0)
  have HR01 := Hid.mk (fun u => rLater_run X0 X1 u)
  rw [hz01] at HL01 HR01
  rw [hz10] at HL10
  have HEQ : Hid (((List.range 12).all fun i => X0 i == X1 i) = false) := Hid.mk (by
    have ht := lat_tri h0 h1
    rw [hz01, hz10] at ht
    rw [Bool.eq_iff_iff, List.all_eq_true]
    simp only [List.mem_range, beq_iff_eq]
    rw [ht]
    decide)
  clear hz01 hz10 h0 h1
  go_enter Tryz.func7, Tryz.ntmps7
  go_wp2_with fail
  refine (awake7_run _ hE).mono ?_
  rintro x v1 ⟨rfl, hb⟩
  replace hE := hE.kept hb
  replace hB := hB.trans (hb.mono hB.size)
  replace gx := gx.kept hb
  clear hb
  go_wp2_with fail
  refine (Stamp_run a _).mono ?_
  rintro x v2 ⟨rfl, hb⟩
  replace hE := hE.kept hb
  replace hB := hB.trans (hb.mono hB.size)
  replace gx := gx.kept hb
  clear hb
  have k2 := hE.two
  have l2 := hB.size
  have m2 := gx.lt
  go_wp2_with (refine wl_alloc12 ?_; intro v3 g80 hb; refine Hid.out ?_)
  replace hE := hE.kept hb
  replace hB := hB.trans (hb.mono hB.size)
  replace gx := gx.kept hb
  clear hb
  refine Hid.mk ?_
  go_wp2_with (refine st_arr isArr12 g80 (by rfl) (by rfl) ?_; intro v4 g8 o4; refine Hid.out ?_)
  replace hE := hE.only o4 (by omega)
  replace hB := hB.trans (o4.below l2)
  replace gx := gx.only o4 (by omega)
  clear o4 g80
  refine Hid.mk ?_
  obtain ⟨b8, hb8⟩ : ∃ x, v2.heap.size = x := ⟨_, rfl⟩
  rw [hb8] at g8 k2 l2 m2 ⊢
  clear hb8
  go_wp2_with fail
  refine (Stamp_run b _).mono ?_
  rintro x v5 ⟨rfl, hb⟩
  replace hE := hE.kept hb
  replace hB := hB.trans (hb.mono hB.size)
  replace gx := gx.kept hb
  replace g8 := g8.kept hb
  clear hb
  have k5 := hE.two
  have l5 := hB.size
  have m5 := gx.lt
  have m6 := g8.lt
  go_wp2_with (refine wl_alloc12 ?_; intro v6 g90 hb; refine Hid.out ?_)
  replace hE := hE.kept hb
  replace hB := hB.trans (hb.mono hB.size)
  replace gx := gx.kept hb
  replace g8 := g8.kept hb
  clear hb
  refine Hid.mk ?_
  go_wp2_with (refine st_arr isArr12 g90 (by rfl) (by rfl) ?_; intro v7 g9 o7; refine Hid.out ?_)
  replace hB := hB.trans (o7.below l5)
  replace gx := gx.only o7 (by omega)
  replace g8 := g8.only o7 (by omega)
  clear o7 g90 hE
  refine Hid.mk ?_
  obtain ⟨b9, hb9⟩ : ∃ x, v5.heap.size = x := ⟨_, rfl⟩
  rw [hb9] at g9 k5 l5 m5 m6 ⊢
  clear hb9 k2 l2 m2 k5 l5 m5 m6
  go_wp2_with fail
  have HG8 : Hid (∀ u, Below v7.heap.size v7 u → ArrAt u b8 .u8 26 12 (stmF a)) := Hid.mk (fun u hu => g8.kept hu)
  have HG9 : Hid (∀ u, Below v7.heap.size v7 u → ArrAt u b9 .u8 26 12 (stmF b)) := Hid.mk (fun u hu => g9.kept hu)
  have HGX : Hid (∀ u, Below v7.heap.size v7 u → ArrAt u w.heap.size .u8 66 24 (cat 12 X0 X1)) := Hid.mk (fun u hu => gx.kept hu)
  refine wp_region3 (Below v7.heap.size v7) v7.heap.size
      ([] : List (Nat × Cont))
      (kv (.agg (WA .u8 12 (stmF a))) :: kv (.int .i64 a) :: kv (.agg (WA .u8 12 (stmF a))) :: kv (.bool false) :: kv (.bool false) :: kv (.agg (WA .u8 12 (stmF b))) :: kv (.int .i64 b) :: kv (.agg (WA .u8 12 (stmF b))) :: kv (.bool false) :: kv (.bool false) :: kv (.bool false) :: kv (.pointer (some ⟨w.heap.size, 0 * 12, none⟩)) :: kv (.agg (WA .u8 12 X0)) :: kv (.pointer (some ⟨w.heap.size, 1 * 12, none⟩)) :: kv (.agg (WA .u8 12 X1)) :: kv (.bool false) :: kv (.pointer (some ⟨w.heap.size, 0 * 12, none⟩)) :: kv (.agg (WA .u8 12 X0)) :: kv (.pointer (some ⟨w.heap.size, 1 * 12, none⟩)) :: kv (.agg (WA .u8 12 X1)) :: kv (.bool false) :: kv (.bool false) :: kv (.bool false) :: kv (.bool false) :: kv (.pointer (some ⟨w.heap.size, 0 * 12, none⟩)) :: kv (.agg (WA .u8 12 X0)) :: kv (.pointer (some ⟨w.heap.size, 1 * 12, none⟩)) :: kv (.agg (WA .u8 12 X1)) :: kv (.bool false) :: kv (.bool false) :: (.val fun _ => True) :: (.val fun _ => True) :: (.val fun _ => True) :: (.val fun _ => True) :: (.val fun _ => True) :: kv (.bool false) :: kv (.bool false) :: [])
      (.none :: .none :: .none :: .none :: .none :: .none :: .none :: .none :: .none :: .none :: .none :: .none :: .none :: .none :: .none :: .none :: .none :: .none :: .none :: .none :: .none :: .none :: .none :: .none :: .none :: .none :: .none :: .none :: .none :: .none :: .none :: .none :: .none :: .none :: .none :: .none :: .none :: [])
      (some 15 :: some 16 :: some 17 :: some 18 :: some 19 :: some 20 :: some 21 :: some 22 :: some 23 :: some 24 :: some 25 :: some 26 :: some 27 :: some 28 :: some 29 :: some 30 :: some 31 :: some 32 :: some 33 :: some 34 :: some 35 :: some 36 :: some 37 :: some 38 :: some 39 :: some 40 :: some 41 :: some 42 :: some 43 :: some 44 :: some 45 :: some 46 :: some 47 :: some 48 :: some 49 :: some 50 :: some 51 :: [])
      [(8, .pointer (some ⟨b8, 0, none⟩)), (9, .pointer (some ⟨b9, 0, none⟩)), (0, .int .i64 a), (1, .int .i64 b), (5, .pointer (some ⟨w.heap.size, 0, none⟩))]
      ([] :: [] :: [.slot 1] :: [.slot 0, .slot 2] :: [.slot 3] :: [.slot 4] :: [.slot 4] :: [.slot 4, .slot 6] :: [.slot 4, .slot 5, .slot 7] :: [.slot 4, .slot 8] :: [.slot 9] :: [.slot 10] :: [.slot 10, .slot 11] :: [.slot 10] :: [.slot 10, .slot 13] :: [.slot 10, .slot 12, .slot 14] :: [.slot 10] :: [.slot 10, .slot 16] :: [.slot 10] :: [.slot 10, .slot 18] :: [.slot 10, .slot 17, .slot 19] :: [.slot 10, .slot 15, .slot 20] :: [.slot 10, .slot 21] :: [.slot 22] :: [.slot 23] :: [.slot 23, .slot 24] :: [.slot 23] :: [.slot 23, .slot 26] :: [.slot 23, .slot 25, .slot 27] :: [.slot 23, .slot 28] :: [.slot 29] :: [.slot 29] :: [.slot 29] :: [.slot 29] :: [.slot 29] :: [.slot 23, .slot 29] :: [.slot 23, .slot 35] :: [])
      [.slot 36] (15 :: 16 :: 17 :: 18 :: 19 :: 20 :: 21 :: 22 :: 23 :: 24 :: 25 :: 26 :: 27 :: 28 :: 29 :: 30 :: 31 :: 32 :: 33 :: 34 :: 35 :: 36 :: 37 :: 38 :: 39 :: 40 :: 41 :: 42 :: 43 :: 44 :: 45 :: 46 :: 47 :: 48 :: 49 :: 50 :: 51 :: [])
      rfl (by kernel_rfl) ⟨rfl, rfl, rfl, rfl, rfl, trivial⟩ (Below.refl _ v7).drew (Nat.le_refl _) trivial trivial (below_G (Nat.le_refl _) trivial)
      ⟨
        -- 0
        (fun Q aq ww own hS hBg fr kn => .inl ⟨trivial, fun K hK => wp_value (look_arr rfl isArr12 (HG8.out ww hS) fr.1) (hK _ _ ⟨Touch.refl _ _, rfl⟩)⟩),
        -- 1
        (fun Q aq ww own hS hBg fr kn => .inl ⟨trivial, fun K hK => wp_value (exec_move rfl fr.2.2.1) (hK _ _ ⟨Touch.refl _ _, rfl⟩)⟩),
        -- 2
        (fun Q aq ww own hS hBg fr kn => .inl ⟨trivial, fun K hK => stepc enterStampR rfl (args1 kn.1) (rStamp_run a ww) (fun w' hb => hK _ _ ⟨touch_below hb, rfl⟩)⟩),
        -- 3
        (fun Q aq ww own hS hBg fr kn => .inl ⟨trivial, fun K hK => wp_value (neq_WA rfl Tryz.underlying26 eqG12n kn.1 kn.2.1) (hK _ _ ⟨Touch.refl _ _, rfl⟩)⟩),
        -- 4
        (fun Q aq ww own hS hBg fr kn => .inl ⟨trivial, fun K hK => wp_value (exec_move rfl kn.1) (hK _ _ ⟨Touch.refl _ _, rfl⟩)⟩),
        -- 5
        (fun Q aq ww own hS hBg fr kn => .inl ⟨kn.1, fun K hK => wp_value (look_arr rfl isArr12 (HG9.out ww hS) fr.2.1) (hK _ _ ⟨Touch.refl _ _, rfl⟩)⟩),
        -- 6
        (fun Q aq ww own hS hBg fr kn => .inl ⟨kn.1, fun K hK => wp_value (exec_move rfl fr.2.2.2.1) (hK _ _ ⟨Touch.refl _ _, rfl⟩)⟩),
        -- 7
        (fun Q aq ww own hS hBg fr kn => .inl ⟨kn.1, fun K hK => stepc enterStampR rfl (args1 kn.2.1) (rStamp_run b ww) (fun w' hb => hK _ _ ⟨touch_below hb, rfl⟩)⟩),
        -- 8
        (fun Q aq ww own hS hBg fr kn => .inl ⟨kn.1, fun K hK => wp_value (neq_WA rfl Tryz.underlying26 eqG12n kn.2.1 kn.2.2.1) (hK _ _ ⟨Touch.refl _ _, rfl⟩)⟩),
        -- 9
        (fun Q aq ww own hS hBg fr kn => .inl ⟨trivial, fun K hK => wp_value (exec_pickF rfl kn.1 kn.2.1) (hK _ _ ⟨Touch.refl _ _, rfl⟩)⟩),
        -- 10
        (fun Q aq ww own hS hBg fr kn => .inl ⟨trivial, fun K hK => wp_value (exec_move rfl kn.1) (hK _ _ ⟨Touch.refl _ _, rfl⟩)⟩),
        -- 11
        (fun Q aq ww own hS hBg fr kn => .inl ⟨kn.1, fun K hK => wp_value (exec_ix66 (i := 0) rfl fr.2.2.2.2.1 rfl (by omega)) (hK _ _ ⟨Touch.refl _ _, rfl⟩)⟩),
        -- 12
        (fun Q aq ww own hS hBg fr kn => .inl ⟨kn.1, fun K hK => wp_value (exec_ldmid rfl isArr12 kn.2.1 (two_x0 (HGX.out ww hS))) (hK _ _ ⟨Touch.refl _ _, rfl⟩)⟩),
        -- 13
        (fun Q aq ww own hS hBg fr kn => .inl ⟨kn.1, fun K hK => wp_value (exec_ix66 (i := 1) rfl fr.2.2.2.2.1 rfl (by omega)) (hK _ _ ⟨Touch.refl _ _, rfl⟩)⟩),
        -- 14
        (fun Q aq ww own hS hBg fr kn => .inl ⟨kn.1, fun K hK => wp_value (exec_ldmid rfl isArr12 kn.2.1 (two_x1 (HGX.out ww hS))) (hK _ _ ⟨Touch.refl _ _, rfl⟩)⟩),
        -- 15
        (fun Q aq ww own hS hBg fr kn => .inl ⟨kn.1, fun K hK => stepc enterLaterC rfl (args2 kn.2.1 kn.2.2.1) (HL01.out ww) (fun w' hb => hK _ _ ⟨touch_below hb, rfl⟩)⟩),
        -- 16
        (fun Q aq ww own hS hBg fr kn => .inl ⟨kn.1, fun K hK => wp_value (exec_ix66 (i := 0) rfl fr.2.2.2.2.1 rfl (by omega)) (hK _ _ ⟨Touch.refl _ _, rfl⟩)⟩),
        -- 17
        (fun Q aq ww own hS hBg fr kn => .inl ⟨kn.1, fun K hK => wp_value (exec_ldmid rfl isArr12 kn.2.1 (two_x0 (HGX.out ww hS))) (hK _ _ ⟨Touch.refl _ _, rfl⟩)⟩),
        -- 18
        (fun Q aq ww own hS hBg fr kn => .inl ⟨kn.1, fun K hK => wp_value (exec_ix66 (i := 1) rfl fr.2.2.2.2.1 rfl (by omega)) (hK _ _ ⟨Touch.refl _ _, rfl⟩)⟩),
        -- 19
        (fun Q aq ww own hS hBg fr kn => .inl ⟨kn.1, fun K hK => wp_value (exec_ldmid rfl isArr12 kn.2.1 (two_x1 (HGX.out ww hS))) (hK _ _ ⟨Touch.refl _ _, rfl⟩)⟩),
        -- 20
        (fun Q aq ww own hS hBg fr kn => .inl ⟨kn.1, fun K hK => stepc enterLaterR rfl (args2 kn.2.1 kn.2.2.1) (HR01.out ww) (fun w' hb => hK _ _ ⟨touch_below hb, rfl⟩)⟩),
        -- 21
        (fun Q aq ww own hS hBg fr kn => .inl ⟨kn.1, fun K hK => wp_value (exec_neb (p := false) (q := false) (z := false) rfl kn.2.1 kn.2.2.1 rfl) (hK _ _ ⟨Touch.refl _ _, rfl⟩)⟩),
        -- 22
        (fun Q aq ww own hS hBg fr kn => .inl ⟨trivial, fun K hK => wp_value (exec_pickF rfl kn.1 kn.2.1) (hK _ _ ⟨Touch.refl _ _, rfl⟩)⟩),
        -- 23
        (fun Q aq ww own hS hBg fr kn => .inl ⟨trivial, fun K hK => wp_value (exec_move rfl kn.1) (hK _ _ ⟨Touch.refl _ _, rfl⟩)⟩),
        -- 24
        (fun Q aq ww own hS hBg fr kn => .inl ⟨kn.1, fun K hK => wp_value (exec_ix66 (i := 0) rfl fr.2.2.2.2.1 rfl (by omega)) (hK _ _ ⟨Touch.refl _ _, rfl⟩)⟩),
        -- 25
        (fun Q aq ww own hS hBg fr kn => .inl ⟨kn.1, fun K hK => wp_value (exec_ldmid rfl isArr12 kn.2.1 (two_x0 (HGX.out ww hS))) (hK _ _ ⟨Touch.refl _ _, rfl⟩)⟩),
        -- 26
        (fun Q aq ww own hS hBg fr kn => .inl ⟨kn.1, fun K hK => wp_value (exec_ix66 (i := 1) rfl fr.2.2.2.2.1 rfl (by omega)) (hK _ _ ⟨Touch.refl _ _, rfl⟩)⟩),
        -- 27
        (fun Q aq ww own hS hBg fr kn => .inl ⟨kn.1, fun K hK => wp_value (exec_ldmid rfl isArr12 kn.2.1 (two_x1 (HGX.out ww hS))) (hK _ _ ⟨Touch.refl _ _, rfl⟩)⟩),
        -- 28
        (fun Q aq ww own hS hBg fr kn => .inl ⟨kn.1, fun K hK => stepc enterLaterC rfl (args2 kn.2.1 kn.2.2.1) (HL01.out ww) (fun w' hb => hK _ _ ⟨touch_below hb, rfl⟩)⟩),
        -- 29
        (fun Q aq ww own hS hBg fr kn => .inl ⟨kn.1, fun K hK => wp_value (exec_move rfl kn.2.1) (hK _ _ ⟨Touch.refl _ _, rfl⟩)⟩),
        -- 30
        (fun Q aq ww own hS hBg fr kn => .inr ⟨.inl kn.1, Touch.refl _ _, trivial⟩),
        -- 31
        (fun Q aq ww own hS hBg fr kn => .inr ⟨.inl kn.1, Touch.refl _ _, trivial⟩),
        -- 32
        (fun Q aq ww own hS hBg fr kn => .inr ⟨.inl kn.1, Touch.refl _ _, trivial⟩),
        -- 33
        (fun Q aq ww own hS hBg fr kn => .inr ⟨.inl kn.1, Touch.refl _ _, trivial⟩),
        -- 34
        (fun Q aq ww own hS hBg fr kn => .inr ⟨.inl kn.1, Touch.refl _ _, trivial⟩),
        -- 35
        (fun Q aq ww own hS hBg fr kn => .inl ⟨kn.1, fun K hK => wp_value (exec_pickF (v := .bool false) rfl kn.2.1 rfl) (hK _ _ ⟨Touch.refl _ _, rfl⟩)⟩),
        -- 36
        (fun Q aq ww own hS hBg fr kn => .inl ⟨trivial, fun K hK => wp_value (exec_pickF rfl kn.1 kn.2.1) (hK _ _ ⟨Touch.refl _ _, rfl⟩)⟩),
        trivial⟩ ?_
  intro vs own v8 hb hs1 kn inj
  clear inj hs1 HG8 HG9 HGX
  have e51 : vs 51 = _ := kn.1
  clear kn
  replace gx := gx.kept hb
  replace g8 := g8.kept hb
  replace g9 := g9.kept hb
  replace hB := hB.trans (hb.mono hB.size)
  clear hb
  simp only [putAll, Act.put, List.setIfInBounds_toArray, List.set_cons_zero, List.set_cons_succ, e51]
  
  by_cases c1 : a < 0
  · go_wp2_with fail
    go_ret
    exact ⟨rfl, hB⟩
  by_cases c2 : b < 0
  · go_wp2_with fail
    go_ret
    exact ⟨rfl, hB⟩
  by_cases c3 : 1099511627776 < a
  · go_wp2_with fail
    go_ret
    exact ⟨rfl, hB⟩
  by_cases c4 : 1099511627776 < b
  · go_wp2_with fail
    go_ret
    exact ⟨rfl, hB⟩
  have HLS := Hid.mk (fun u => Later_run (stmF a) (stmF b) u (stmF_b a 12) (stmF_b b 12))
  rw [lat_stm a b (by omega) (by omega)] at HLS
  go_wp2_with fail
  have HG8 : Hid (∀ u, Below v8.heap.size v8 u → ArrAt u b8 .u8 26 12 (stmF a)) := Hid.mk (fun u hu => g8.kept hu)
  have HG9 : Hid (∀ u, Below v8.heap.size v8 u → ArrAt u b9 .u8 26 12 (stmF b)) := Hid.mk (fun u hu => g9.kept hu)
  have HGX : Hid (∀ u, Below v8.heap.size v8 u → ArrAt u w.heap.size .u8 66 24 (cat 12 X0 X1)) := Hid.mk (fun u hu => gx.kept hu)
  refine wp_region3 (Below v8.heap.size v8) v8.heap.size
      ([] : List (Nat × Cont))
      (kv (.bool true) :: kv (.bool true) :: kv (.agg (WA .u8 12 (stmF a))) :: kv (.agg (WA .u8 12 (stmF b))) :: kv (.bool (decide (b < a))) :: kv (.int .i64 a) :: kv (.int .i64 b) :: kv (.bool (decide (b < a))) :: kv (.bool true) :: kv (.bool true) :: kv (.bool true) :: kv (.pointer (some ⟨w.heap.size, 0 * 12, none⟩)) :: kv (.agg (WA .u8 12 X0)) :: kv (.pointer (some ⟨w.heap.size, 1 * 12, none⟩)) :: kv (.agg (WA .u8 12 X1)) :: kv (.bool false) :: kv (.pointer (some ⟨w.heap.size, 0 * 12, none⟩)) :: kv (.agg (WA .u8 12 X0)) :: kv (.pointer (some ⟨w.heap.size, 1 * 12, none⟩)) :: kv (.agg (WA .u8 12 X1)) :: kv (.bool false) :: kv (.bool true) :: kv (.bool true) :: kv (.pointer (some ⟨w.heap.size, 1 * 12, none⟩)) :: kv (.agg (WA .u8 12 X1)) :: kv (.pointer (some ⟨w.heap.size, 0 * 12, none⟩)) :: kv (.agg (WA .u8 12 X0)) :: kv (.bool true) :: kv (.bool false) :: kv (.bool false) :: kv (.bool true) :: kv (.bool true) :: kv (.bool true) :: [])
      (.none :: .none :: .none :: .none :: .none :: .none :: .none :: .none :: .none :: .none :: .none :: .none :: .none :: .none :: .none :: .none :: .none :: .none :: .none :: .none :: .none :: .none :: .none :: .none :: .none :: .none :: .none :: .none :: .none :: .none :: .none :: .none :: .none :: [])
      (some 67 :: some 68 :: some 69 :: some 70 :: some 71 :: some 72 :: some 73 :: some 74 :: some 75 :: some 76 :: some 77 :: some 78 :: some 79 :: some 80 :: some 81 :: some 82 :: some 83 :: some 84 :: some 85 :: some 86 :: some 87 :: some 88 :: some 89 :: some 90 :: some 91 :: some 92 :: some 93 :: some 94 :: some 95 :: some 96 :: some 97 :: some 98 :: some 6 :: [])
      [(7, .bool true), (8, .pointer (some ⟨b8, 0, none⟩)), (9, .pointer (some ⟨b9, 0, none⟩)), (0, .int .i64 a), (1, .int .i64 b), (5, .pointer (some ⟨w.heap.size, 0, none⟩))]
      ([] :: [.slot 0] :: [.slot 1] :: [.slot 1] :: [.slot 1, .slot 2, .slot 3] :: [.slot 1] :: [.slot 1] :: [.slot 1, .slot 5, .slot 6] :: [.slot 1, .slot 4, .slot 7] :: [.slot 1, .slot 8] :: [.slot 9] :: [.slot 10] :: [.slot 10, .slot 11] :: [.slot 10] :: [.slot 10, .slot 13] :: [.slot 10, .slot 12, .slot 14] :: [.slot 10] :: [.slot 10, .slot 16] :: [.slot 10] :: [.slot 10, .slot 18] :: [.slot 10, .slot 17, .slot 19] :: [.slot 10, .slot 20] :: [.slot 10, .slot 21] :: [.slot 22] :: [.slot 22, .slot 23] :: [.slot 22] :: [.slot 22, .slot 25] :: [.slot 22, .slot 24, .slot 26] :: [.slot 22, .slot 27] :: [.slot 10, .slot 22, .slot 28] :: [.slot 10, .slot 15, .slot 29] :: [.slot 10, .slot 30] :: [.slot 31] :: [])
      [.slot 32] (67 :: 68 :: 69 :: 70 :: 71 :: 72 :: 73 :: 74 :: 75 :: 76 :: 77 :: 78 :: 79 :: 80 :: 81 :: 82 :: 83 :: 84 :: 85 :: 86 :: 87 :: 88 :: 89 :: 90 :: 91 :: 92 :: 93 :: 94 :: 95 :: 96 :: 97 :: 98 :: 6 :: [])
      rfl (by kernel_rfl) ⟨rfl, rfl, rfl, rfl, rfl, rfl, trivial⟩ (Below.refl _ v8).drew (Nat.le_refl _) trivial trivial (below_G (Nat.le_refl _) trivial)
      ⟨
        -- 0
        (fun Q aq ww own hS hBg fr kn => .inl ⟨trivial, fun K hK => wp_value (exec_move rfl fr.1) (hK _ _ ⟨Touch.refl _ _, rfl⟩)⟩),
        -- 1
        (fun Q aq ww own hS hBg fr kn => .inl ⟨trivial, fun K hK => wp_value (exec_move rfl kn.1) (hK _ _ ⟨Touch.refl _ _, rfl⟩)⟩),
        -- 2
        (fun Q aq ww own hS hBg fr kn => .inl ⟨kn.1, fun K hK => wp_value (look_arr rfl isArr12 (HG8.out ww hS) fr.2.1) (hK _ _ ⟨Touch.refl _ _, rfl⟩)⟩),
        -- 3
        (fun Q aq ww own hS hBg fr kn => .inl ⟨kn.1, fun K hK => wp_value (look_arr rfl isArr12 (HG9.out ww hS) fr.2.2.1) (hK _ _ ⟨Touch.refl _ _, rfl⟩)⟩),
        -- 4
        (fun Q aq ww own hS hBg fr kn => .inl ⟨kn.1, fun K hK => stepc enterLaterC rfl (args2 kn.2.1 kn.2.2.1) (HLS.out ww) (fun w' hb => hK _ _ ⟨touch_below hb, rfl⟩)⟩),
        -- 5
        (fun Q aq ww own hS hBg fr kn => .inl ⟨kn.1, fun K hK => wp_value (exec_move rfl fr.2.2.2.1) (hK _ _ ⟨Touch.refl _ _, rfl⟩)⟩),
        -- 6
        (fun Q aq ww own hS hBg fr kn => .inl ⟨kn.1, fun K hK => wp_value (exec_move rfl fr.2.2.2.2.1) (hK _ _ ⟨Touch.refl _ _, rfl⟩)⟩),
        -- 7
        (fun Q aq ww own hS hBg fr kn => .inl ⟨kn.1, fun K hK => wp_value (exec_gtrI rfl kn.2.1 kn.2.2.1) (hK _ _ ⟨Touch.refl _ _, rfl⟩)⟩),
        -- 8
        (fun Q aq ww own hS hBg fr kn => .inl ⟨kn.1, fun K hK => wp_value (exec_eqb (z := true) rfl kn.2.1 kn.2.2.1 (beq_self_eq_true _)) (hK _ _ ⟨Touch.refl _ _, rfl⟩)⟩),
        -- 9
        (fun Q aq ww own hS hBg fr kn => .inl ⟨trivial, fun K hK => wp_value (exec_pick rfl kn.1 kn.2.1) (hK _ _ ⟨Touch.refl _ _, rfl⟩)⟩),
        -- 10
        (fun Q aq ww own hS hBg fr kn => .inl ⟨trivial, fun K hK => wp_value (exec_move rfl kn.1) (hK _ _ ⟨Touch.refl _ _, rfl⟩)⟩),
        -- 11
        (fun Q aq ww own hS hBg fr kn => .inl ⟨kn.1, fun K hK => wp_value (exec_ix66 (i := 0) rfl fr.2.2.2.2.2.1 rfl (by omega)) (hK _ _ ⟨Touch.refl _ _, rfl⟩)⟩),
        -- 12
        (fun Q aq ww own hS hBg fr kn => .inl ⟨kn.1, fun K hK => wp_value (exec_ldmid rfl isArr12 kn.2.1 (two_x0 (HGX.out ww hS))) (hK _ _ ⟨Touch.refl _ _, rfl⟩)⟩),
        -- 13
        (fun Q aq ww own hS hBg fr kn => .inl ⟨kn.1, fun K hK => wp_value (exec_ix66 (i := 1) rfl fr.2.2.2.2.2.1 rfl (by omega)) (hK _ _ ⟨Touch.refl _ _, rfl⟩)⟩),
        -- 14
        (fun Q aq ww own hS hBg fr kn => .inl ⟨kn.1, fun K hK => wp_value (exec_ldmid rfl isArr12 kn.2.1 (two_x1 (HGX.out ww hS))) (hK _ _ ⟨Touch.refl _ _, rfl⟩)⟩),
        -- 15
        (fun Q aq ww own hS hBg fr kn => .inl ⟨kn.1, fun K hK => wp_value (eql_two rfl Tryz.underlying26 eqG12n kn.2.1 kn.2.2.1 HEQ.out) (hK _ _ ⟨Touch.refl _ _, rfl⟩)⟩),
        -- 16
        (fun Q aq ww own hS hBg fr kn => .inl ⟨kn.1, fun K hK => wp_value (exec_ix66 (i := 0) rfl fr.2.2.2.2.2.1 rfl (by omega)) (hK _ _ ⟨Touch.refl _ _, rfl⟩)⟩),
        -- 17
        (fun Q aq ww own hS hBg fr kn => .inl ⟨kn.1, fun K hK => wp_value (exec_ldmid rfl isArr12 kn.2.1 (two_x0 (HGX.out ww hS))) (hK _ _ ⟨Touch.refl _ _, rfl⟩)⟩),
        -- 18
        (fun Q aq ww own hS hBg fr kn => .inl ⟨kn.1, fun K hK => wp_value (exec_ix66 (i := 1) rfl fr.2.2.2.2.2.1 rfl (by omega)) (hK _ _ ⟨Touch.refl _ _, rfl⟩)⟩),
        -- 19
        (fun Q aq ww own hS hBg fr kn => .inl ⟨kn.1, fun K hK => wp_value (exec_ldmid rfl isArr12 kn.2.1 (two_x1 (HGX.out ww hS))) (hK _ _ ⟨Touch.refl _ _, rfl⟩)⟩),
        -- 20
        (fun Q aq ww own hS hBg fr kn => .inl ⟨kn.1, fun K hK => stepc enterLaterC rfl (args2 kn.2.1 kn.2.2.1) (HL01.out ww) (fun w' hb => hK _ _ ⟨touch_below hb, rfl⟩)⟩),
        -- 21
        (fun Q aq ww own hS hBg fr kn => .inl ⟨kn.1, fun K hK => wp_value (exec_notb (p := false) (z := true) rfl kn.2.1 rfl) (hK _ _ ⟨Touch.refl _ _, rfl⟩)⟩),
        -- 22
        (fun Q aq ww own hS hBg fr kn => .inl ⟨kn.1, fun K hK => wp_value (exec_move rfl kn.2.1) (hK _ _ ⟨Touch.refl _ _, rfl⟩)⟩),
        -- 23
        (fun Q aq ww own hS hBg fr kn => .inl ⟨kn.1, fun K hK => wp_value (exec_ix66 (i := 1) rfl fr.2.2.2.2.2.1 rfl (by omega)) (hK _ _ ⟨Touch.refl _ _, rfl⟩)⟩),
        -- 24
        (fun Q aq ww own hS hBg fr kn => .inl ⟨kn.1, fun K hK => wp_value (exec_ldmid rfl isArr12 kn.2.1 (two_x1 (HGX.out ww hS))) (hK _ _ ⟨Touch.refl _ _, rfl⟩)⟩),
        -- 25
        (fun Q aq ww own hS hBg fr kn => .inl ⟨kn.1, fun K hK => wp_value (exec_ix66 (i := 0) rfl fr.2.2.2.2.2.1 rfl (by omega)) (hK _ _ ⟨Touch.refl _ _, rfl⟩)⟩),
        -- 26
        (fun Q aq ww own hS hBg fr kn => .inl ⟨kn.1, fun K hK => wp_value (exec_ldmid rfl isArr12 kn.2.1 (two_x0 (HGX.out ww hS))) (hK _ _ ⟨Touch.refl _ _, rfl⟩)⟩),
        -- 27
        (fun Q aq ww own hS hBg fr kn => .inl ⟨kn.1, fun K hK => stepc enterLaterC rfl (args2 kn.2.1 kn.2.2.1) (HL10.out ww) (fun w' hb => hK _ _ ⟨touch_below hb, rfl⟩)⟩),
        -- 28
        (fun Q aq ww own hS hBg fr kn => .inl ⟨kn.1, fun K hK => wp_value (exec_notb (p := true) (z := false) rfl kn.2.1 rfl) (hK _ _ ⟨Touch.refl _ _, rfl⟩)⟩),
        -- 29
        (fun Q aq ww own hS hBg fr kn => .inl ⟨kn.1, fun K hK => wp_value (exec_pick rfl kn.2.1 kn.2.2.1) (hK _ _ ⟨Touch.refl _ _, rfl⟩)⟩),
        -- 30
        (fun Q aq ww own hS hBg fr kn => .inl ⟨kn.1, fun K hK => wp_value (exec_eqb (z := true) rfl kn.2.1 kn.2.2.1 rfl) (hK _ _ ⟨Touch.refl _ _, rfl⟩)⟩),
        -- 31
        (fun Q aq ww own hS hBg fr kn => .inl ⟨trivial, fun K hK => wp_value (exec_pick rfl kn.1 kn.2.1) (hK _ _ ⟨Touch.refl _ _, rfl⟩)⟩),
        -- 32
        (fun Q aq ww own hS hBg fr kn => .inl ⟨trivial, fun K hK => wp_value (exec_assign rfl kn.1) (hK _ _ ⟨Touch.refl _ _, rfl⟩)⟩),
        trivial⟩ ?_
  intro vs own v9 hb hs1 kn inj
  clear inj hs1 HG8 HG9 HGX
  have e6 : vs 6 = _ := kn.1
  clear kn
  replace gx := gx.kept hb
  replace g8 := g8.kept hb
  replace g9 := g9.kept hb
  replace hB := hB.trans (hb.mono hB.size)
  clear hb
  simp only [putAll, Act.put, List.setIfInBounds_toArray, List.set_cons_zero, List.set_cons_succ, e6]
  
  go_wp2_with fail
  go_ret
  exact ⟨rfl, hB⟩
set_option maxHeartbeats 8000000 in
set_option maxRecDepth 100000 in
theorem stamps_c (a b : Int) (X0 X1 : Nat → Int) (w : World) (hE : Env w) (h0 : Byts 12 X0) (h1 : Byts 12 X1) (hz01 : latF X0 X1 12 0 = false) (hz10 : latF X1 X0 12 0 = false) :
    Calls Tryz.prog 7 #[.int .i64 a, .int .i64 b, .agg (WA .u8 24 (cat 12 X0 X1))] w fun e w' => e = .returned (.bool true) ∧ Below w.heap.size w w' := by
  have hB : Below w.heap.size w (w.alloc (.cells (WA .u8 24 (cat 12 X0 X1)) 66)) := (Below.refl _ w).alloc (Nat.le_refl _) _
  have gx : ArrAt (w.alloc (.cells (WA .u8 24 (cat 12 X0 X1)) 66)) w.heap.size .u8 66 24 (cat 12 X0 X1) := heap_alloc_new w _
  replace hE := hE.kept hB
  have HL01 := Hid.mk (fun u => Later_run X0 X1 u h0 h1)
  have HL10 := Hid.mk (fun u => Later_run X1 X0 u h1 h0)
  have HR01 := Hid.mk (fun u => rLater_run X0 X1 u)
  rw [hz01] at HL01 HR01
  rw [hz10] at HL10
  have HEQ : Hid (((List.range 12).all fun i => X0 i == X1 i) = true) := Hid.mk (by
    have ht := lat_tri h0 h1
    rw [hz01, hz10] at ht
    rw [Bool.eq_iff_iff, List.all_eq_true]
    simp only [List.mem_range, beq_iff_eq]
    rw [ht]
    decide)
  clear hz01 hz10 h0 h1
  go_enter Tryz.func7, Tryz.ntmps7
  go_wp2_with fail
  refine (awake7_run _ hE).mono ?_
  rintro x v1 ⟨rfl, hb⟩
  replace hE := hE.kept hb
  replace hB := hB.trans (hb.mono hB.size)
  replace gx := gx.kept hb
  clear hb
  go_wp2_with fail
  refine (Stamp_run a _).mono ?_
  rintro x v2 ⟨rfl, hb⟩
  replace hE := hE.kept hb
  replace hB := hB.trans (hb.mono hB.size)
  replace gx := gx.kept hb
  clear hb
  have k2 := hE.two
  have l2 := hB.size
  have m2 := gx.lt
  go_wp2_with (refine wl_alloc12 ?_; intro v3 g80 hb; refine Hid.out ?_)
  replace hE := hE.kept hb
  replace hB := hB.trans (hb.mono hB.size)
  replace gx := gx.kept hb
  clear hb
  refine Hid.mk ?_
  go_wp2_with (refine st_arr isArr12 g80 (by rfl) (by rfl) ?_; intro v4 g8 o4; refine Hid.out ?_)
  replace hE := hE.only o4 (by omega)
  replace hB := hB.trans (o4.below l2)
  replace gx := gx.only o4 (by omega)
  clear o4 g80
  refine Hid.mk ?_
  obtain ⟨b8, hb8⟩ : ∃ x, v2.heap.size = x := ⟨_, rfl⟩
  rw [hb8] at g8 k2 l2 m2 ⊢
  clear hb8
  go_wp2_with fail
  refine (Stamp_run b _).mono ?_
  rintro x v5 ⟨rfl, hb⟩
  replace hE := hE.kept hb
  replace hB := hB.trans (hb.mono hB.size)
  replace gx := gx.kept hb
  replace g8 := g8.kept hb
  clear hb
  have k5 := hE.two
  have l5 := hB.size
  have m5 := gx.lt
  have m6 := g8.lt
  go_wp2_with (refine wl_alloc12 ?_; intro v6 g90 hb; refine Hid.out ?_)
  replace hE := hE.kept hb
  replace hB := hB.trans (hb.mono hB.size)
  replace gx := gx.kept hb
  replace g8 := g8.kept hb
  clear hb
  refine Hid.mk ?_
  go_wp2_with (refine st_arr isArr12 g90 (by rfl) (by rfl) ?_; intro v7 g9 o7; refine Hid.out ?_)
  replace hB := hB.trans (o7.below l5)
  replace gx := gx.only o7 (by omega)
  replace g8 := g8.only o7 (by omega)
  clear o7 g90 hE
  refine Hid.mk ?_
  obtain ⟨b9, hb9⟩ : ∃ x, v5.heap.size = x := ⟨_, rfl⟩
  rw [hb9] at g9 k5 l5 m5 m6 ⊢
  clear hb9 k2 l2 m2 k5 l5 m5 m6
  go_wp2_with fail
  have HG8 : Hid (∀ u, Below v7.heap.size v7 u → ArrAt u b8 .u8 26 12 (stmF a)) := Hid.mk (fun u hu => g8.kept hu)
  have HG9 : Hid (∀ u, Below v7.heap.size v7 u → ArrAt u b9 .u8 26 12 (stmF b)) := Hid.mk (fun u hu => g9.kept hu)
  have HGX : Hid (∀ u, Below v7.heap.size v7 u → ArrAt u w.heap.size .u8 66 24 (cat 12 X0 X1)) := Hid.mk (fun u hu => gx.kept hu)
  refine wp_region3 (Below v7.heap.size v7) v7.heap.size
      ([] : List (Nat × Cont))
      (kv (.agg (WA .u8 12 (stmF a))) :: kv (.int .i64 a) :: kv (.agg (WA .u8 12 (stmF a))) :: kv (.bool false) :: kv (.bool false) :: kv (.agg (WA .u8 12 (stmF b))) :: kv (.int .i64 b) :: kv (.agg (WA .u8 12 (stmF b))) :: kv (.bool false) :: kv (.bool false) :: kv (.bool false) :: kv (.pointer (some ⟨w.heap.size, 0 * 12, none⟩)) :: kv (.agg (WA .u8 12 X0)) :: kv (.pointer (some ⟨w.heap.size, 1 * 12, none⟩)) :: kv (.agg (WA .u8 12 X1)) :: kv (.bool false) :: kv (.pointer (some ⟨w.heap.size, 0 * 12, none⟩)) :: kv (.agg (WA .u8 12 X0)) :: kv (.pointer (some ⟨w.heap.size, 1 * 12, none⟩)) :: kv (.agg (WA .u8 12 X1)) :: kv (.bool false) :: kv (.bool false) :: kv (.bool false) :: kv (.bool false) :: kv (.pointer (some ⟨w.heap.size, 0 * 12, none⟩)) :: kv (.agg (WA .u8 12 X0)) :: kv (.pointer (some ⟨w.heap.size, 1 * 12, none⟩)) :: kv (.agg (WA .u8 12 X1)) :: kv (.bool false) :: kv (.bool false) :: (.val fun _ => True) :: (.val fun _ => True) :: (.val fun _ => True) :: (.val fun _ => True) :: (.val fun _ => True) :: kv (.bool false) :: kv (.bool false) :: [])
      (.none :: .none :: .none :: .none :: .none :: .none :: .none :: .none :: .none :: .none :: .none :: .none :: .none :: .none :: .none :: .none :: .none :: .none :: .none :: .none :: .none :: .none :: .none :: .none :: .none :: .none :: .none :: .none :: .none :: .none :: .none :: .none :: .none :: .none :: .none :: .none :: .none :: [])
      (some 15 :: some 16 :: some 17 :: some 18 :: some 19 :: some 20 :: some 21 :: some 22 :: some 23 :: some 24 :: some 25 :: some 26 :: some 27 :: some 28 :: some 29 :: some 30 :: some 31 :: some 32 :: some 33 :: some 34 :: some 35 :: some 36 :: some 37 :: some 38 :: some 39 :: some 40 :: some 41 :: some 42 :: some 43 :: some 44 :: some 45 :: some 46 :: some 47 :: some 48 :: some 49 :: some 50 :: some 51 :: [])
      [(8, .pointer (some ⟨b8, 0, none⟩)), (9, .pointer (some ⟨b9, 0, none⟩)), (0, .int .i64 a), (1, .int .i64 b), (5, .pointer (some ⟨w.heap.size, 0, none⟩))]
      ([] :: [] :: [.slot 1] :: [.slot 0, .slot 2] :: [.slot 3] :: [.slot 4] :: [.slot 4] :: [.slot 4, .slot 6] :: [.slot 4, .slot 5, .slot 7] :: [.slot 4, .slot 8] :: [.slot 9] :: [.slot 10] :: [.slot 10, .slot 11] :: [.slot 10] :: [.slot 10, .slot 13] :: [.slot 10, .slot 12, .slot 14] :: [.slot 10] :: [.slot 10, .slot 16] :: [.slot 10] :: [.slot 10, .slot 18] :: [.slot 10, .slot 17, .slot 19] :: [.slot 10, .slot 15, .slot 20] :: [.slot 10, .slot 21] :: [.slot 22] :: [.slot 23] :: [.slot 23, .slot 24] :: [.slot 23] :: [.slot 23, .slot 26] :: [.slot 23, .slot 25, .slot 27] :: [.slot 23, .slot 28] :: [.slot 29] :: [.slot 29] :: [.slot 29] :: [.slot 29] :: [.slot 29] :: [.slot 23, .slot 29] :: [.slot 23, .slot 35] :: [])
      [.slot 36] (15 :: 16 :: 17 :: 18 :: 19 :: 20 :: 21 :: 22 :: 23 :: 24 :: 25 :: 26 :: 27 :: 28 :: 29 :: 30 :: 31 :: 32 :: 33 :: 34 :: 35 :: 36 :: 37 :: 38 :: 39 :: 40 :: 41 :: 42 :: 43 :: 44 :: 45 :: 46 :: 47 :: 48 :: 49 :: 50 :: 51 :: [])
      rfl (by kernel_rfl) ⟨rfl, rfl, rfl, rfl, rfl, trivial⟩ (Below.refl _ v7).drew (Nat.le_refl _) trivial trivial (below_G (Nat.le_refl _) trivial)
      ⟨
        -- 0
        (fun Q aq ww own hS hBg fr kn => .inl ⟨trivial, fun K hK => wp_value (look_arr rfl isArr12 (HG8.out ww hS) fr.1) (hK _ _ ⟨Touch.refl _ _, rfl⟩)⟩),
        -- 1
        (fun Q aq ww own hS hBg fr kn => .inl ⟨trivial, fun K hK => wp_value (exec_move rfl fr.2.2.1) (hK _ _ ⟨Touch.refl _ _, rfl⟩)⟩),
        -- 2
        (fun Q aq ww own hS hBg fr kn => .inl ⟨trivial, fun K hK => stepc enterStampR rfl (args1 kn.1) (rStamp_run a ww) (fun w' hb => hK _ _ ⟨touch_below hb, rfl⟩)⟩),
        -- 3
        (fun Q aq ww own hS hBg fr kn => .inl ⟨trivial, fun K hK => wp_value (neq_WA rfl Tryz.underlying26 eqG12n kn.1 kn.2.1) (hK _ _ ⟨Touch.refl _ _, rfl⟩)⟩),
        -- 4
        (fun Q aq ww own hS hBg fr kn => .inl ⟨trivial, fun K hK => wp_value (exec_move rfl kn.1) (hK _ _ ⟨Touch.refl _ _, rfl⟩)⟩),
        -- 5
        (fun Q aq ww own hS hBg fr kn => .inl ⟨kn.1, fun K hK => wp_value (look_arr rfl isArr12 (HG9.out ww hS) fr.2.1) (hK _ _ ⟨Touch.refl _ _, rfl⟩)⟩),
        -- 6
        (fun Q aq ww own hS hBg fr kn => .inl ⟨kn.1, fun K hK => wp_value (exec_move rfl fr.2.2.2.1) (hK _ _ ⟨Touch.refl _ _, rfl⟩)⟩),
        -- 7
        (fun Q aq ww own hS hBg fr kn => .inl ⟨kn.1, fun K hK => stepc enterStampR rfl (args1 kn.2.1) (rStamp_run b ww) (fun w' hb => hK _ _ ⟨touch_below hb, rfl⟩)⟩),
        -- 8
        (fun Q aq ww own hS hBg fr kn => .inl ⟨kn.1, fun K hK => wp_value (neq_WA rfl Tryz.underlying26 eqG12n kn.2.1 kn.2.2.1) (hK _ _ ⟨Touch.refl _ _, rfl⟩)⟩),
        -- 9
        (fun Q aq ww own hS hBg fr kn => .inl ⟨trivial, fun K hK => wp_value (exec_pickF rfl kn.1 kn.2.1) (hK _ _ ⟨Touch.refl _ _, rfl⟩)⟩),
        -- 10
        (fun Q aq ww own hS hBg fr kn => .inl ⟨trivial, fun K hK => wp_value (exec_move rfl kn.1) (hK _ _ ⟨Touch.refl _ _, rfl⟩)⟩),
        -- 11
        (fun Q aq ww own hS hBg fr kn => .inl ⟨kn.1, fun K hK => wp_value (exec_ix66 (i := 0) rfl fr.2.2.2.2.1 rfl (by omega)) (hK _ _ ⟨Touch.refl _ _, rfl⟩)⟩),
        -- 12
        (fun Q aq ww own hS hBg fr kn => .inl ⟨kn.1, fun K hK => wp_value (exec_ldmid rfl isArr12 kn.2.1 (two_x0 (HGX.out ww hS))) (hK _ _ ⟨Touch.refl _ _, rfl⟩)⟩),
        -- 13
        (fun Q aq ww own hS hBg fr kn => .inl ⟨kn.1, fun K hK => wp_value (exec_ix66 (i := 1) rfl fr.2.2.2.2.1 rfl (by omega)) (hK _ _ ⟨Touch.refl _ _, rfl⟩)⟩),
        -- 14
        (fun Q aq ww own hS hBg fr kn => .inl ⟨kn.1, fun K hK => wp_value (exec_ldmid rfl isArr12 kn.2.1 (two_x1 (HGX.out ww hS))) (hK _ _ ⟨Touch.refl _ _, rfl⟩)⟩),
        -- 15
        (fun Q aq ww own hS hBg fr kn => .inl ⟨kn.1, fun K hK => stepc enterLaterC rfl (args2 kn.2.1 kn.2.2.1) (HL01.out ww) (fun w' hb => hK _ _ ⟨touch_below hb, rfl⟩)⟩),
        -- 16
        (fun Q aq ww own hS hBg fr kn => .inl ⟨kn.1, fun K hK => wp_value (exec_ix66 (i := 0) rfl fr.2.2.2.2.1 rfl (by omega)) (hK _ _ ⟨Touch.refl _ _, rfl⟩)⟩),
        -- 17
        (fun Q aq ww own hS hBg fr kn => .inl ⟨kn.1, fun K hK => wp_value (exec_ldmid rfl isArr12 kn.2.1 (two_x0 (HGX.out ww hS))) (hK _ _ ⟨Touch.refl _ _, rfl⟩)⟩),
        -- 18
        (fun Q aq ww own hS hBg fr kn => .inl ⟨kn.1, fun K hK => wp_value (exec_ix66 (i := 1) rfl fr.2.2.2.2.1 rfl (by omega)) (hK _ _ ⟨Touch.refl _ _, rfl⟩)⟩),
        -- 19
        (fun Q aq ww own hS hBg fr kn => .inl ⟨kn.1, fun K hK => wp_value (exec_ldmid rfl isArr12 kn.2.1 (two_x1 (HGX.out ww hS))) (hK _ _ ⟨Touch.refl _ _, rfl⟩)⟩),
        -- 20
        (fun Q aq ww own hS hBg fr kn => .inl ⟨kn.1, fun K hK => stepc enterLaterR rfl (args2 kn.2.1 kn.2.2.1) (HR01.out ww) (fun w' hb => hK _ _ ⟨touch_below hb, rfl⟩)⟩),
        -- 21
        (fun Q aq ww own hS hBg fr kn => .inl ⟨kn.1, fun K hK => wp_value (exec_neb (p := false) (q := false) (z := false) rfl kn.2.1 kn.2.2.1 rfl) (hK _ _ ⟨Touch.refl _ _, rfl⟩)⟩),
        -- 22
        (fun Q aq ww own hS hBg fr kn => .inl ⟨trivial, fun K hK => wp_value (exec_pickF rfl kn.1 kn.2.1) (hK _ _ ⟨Touch.refl _ _, rfl⟩)⟩),
        -- 23
        (fun Q aq ww own hS hBg fr kn => .inl ⟨trivial, fun K hK => wp_value (exec_move rfl kn.1) (hK _ _ ⟨Touch.refl _ _, rfl⟩)⟩),
        -- 24
        (fun Q aq ww own hS hBg fr kn => .inl ⟨kn.1, fun K hK => wp_value (exec_ix66 (i := 0) rfl fr.2.2.2.2.1 rfl (by omega)) (hK _ _ ⟨Touch.refl _ _, rfl⟩)⟩),
        -- 25
        (fun Q aq ww own hS hBg fr kn => .inl ⟨kn.1, fun K hK => wp_value (exec_ldmid rfl isArr12 kn.2.1 (two_x0 (HGX.out ww hS))) (hK _ _ ⟨Touch.refl _ _, rfl⟩)⟩),
        -- 26
        (fun Q aq ww own hS hBg fr kn => .inl ⟨kn.1, fun K hK => wp_value (exec_ix66 (i := 1) rfl fr.2.2.2.2.1 rfl (by omega)) (hK _ _ ⟨Touch.refl _ _, rfl⟩)⟩),
        -- 27
        (fun Q aq ww own hS hBg fr kn => .inl ⟨kn.1, fun K hK => wp_value (exec_ldmid rfl isArr12 kn.2.1 (two_x1 (HGX.out ww hS))) (hK _ _ ⟨Touch.refl _ _, rfl⟩)⟩),
        -- 28
        (fun Q aq ww own hS hBg fr kn => .inl ⟨kn.1, fun K hK => stepc enterLaterC rfl (args2 kn.2.1 kn.2.2.1) (HL01.out ww) (fun w' hb => hK _ _ ⟨touch_below hb, rfl⟩)⟩),
        -- 29
        (fun Q aq ww own hS hBg fr kn => .inl ⟨kn.1, fun K hK => wp_value (exec_move rfl kn.2.1) (hK _ _ ⟨Touch.refl _ _, rfl⟩)⟩),
        -- 30
        (fun Q aq ww own hS hBg fr kn => .inr ⟨.inl kn.1, Touch.refl _ _, trivial⟩),
        -- 31
        (fun Q aq ww own hS hBg fr kn => .inr ⟨.inl kn.1, Touch.refl _ _, trivial⟩),
        -- 32
        (fun Q aq ww own hS hBg fr kn => .inr ⟨.inl kn.1, Touch.refl _ _, trivial⟩),
        -- 33
        (fun Q aq ww own hS hBg fr kn => .inr ⟨.inl kn.1, Touch.refl _ _, trivial⟩),
        -- 34
        (fun Q aq ww own hS hBg fr kn => .inr ⟨.inl kn.1, Touch.refl _ _, trivial⟩),
        -- 35
        (fun Q aq ww own hS hBg fr kn => .inl ⟨kn.1, fun K hK => wp_value (exec_pickF (v := .bool false) rfl kn.2.1 rfl) (hK _ _ ⟨Touch.refl _ _, rfl⟩)⟩),
        -- 36
        (fun Q aq ww own hS hBg fr kn => .inl ⟨trivial, fun K hK => wp_value (exec_pickF rfl kn.1 kn.2.1) (hK _ _ ⟨Touch.refl _ _, rfl⟩)⟩),
        trivial⟩ ?_
  intro vs own v8 hb hs1 kn inj
  clear inj hs1 HG8 HG9 HGX
  have e51 : vs 51 = _ := kn.1
  clear kn
  replace gx := gx.kept hb
  replace g8 := g8.kept hb
  replace g9 := g9.kept hb
  replace hB := hB.trans (hb.mono hB.size)
  clear hb
  simp only [putAll, Act.put, List.setIfInBounds_toArray, List.set_cons_zero, List.set_cons_succ, e51]
  
  by_cases c1 : a < 0
  · go_wp2_with fail
    go_ret
    exact ⟨rfl, hB⟩
  by_cases c2 : b < 0
  · go_wp2_with fail
    go_ret
    exact ⟨rfl, hB⟩
  by_cases c3 : 1099511627776 < a
  · go_wp2_with fail
    go_ret
    exact ⟨rfl, hB⟩
  by_cases c4 : 1099511627776 < b
  · go_wp2_with fail
    go_ret
    exact ⟨rfl, hB⟩
  have HLS := Hid.mk (fun u => Later_run (stmF a) (stmF b) u (stmF_b a 12) (stmF_b b 12))
  rw [lat_stm a b (by omega) (by omega)] at HLS
  go_wp2_with fail
  have HG8 : Hid (∀ u, Below v8.heap.size v8 u → ArrAt u b8 .u8 26 12 (stmF a)) := Hid.mk (fun u hu => g8.kept hu)
  have HG9 : Hid (∀ u, Below v8.heap.size v8 u → ArrAt u b9 .u8 26 12 (stmF b)) := Hid.mk (fun u hu => g9.kept hu)
  have HGX : Hid (∀ u, Below v8.heap.size v8 u → ArrAt u w.heap.size .u8 66 24 (cat 12 X0 X1)) := Hid.mk (fun u hu => gx.kept hu)
  refine wp_region3 (Below v8.heap.size v8) v8.heap.size
      ([] : List (Nat × Cont))
      (kv (.bool true) :: kv (.bool true) :: kv (.agg (WA .u8 12 (stmF a))) :: kv (.agg (WA .u8 12 (stmF b))) :: kv (.bool (decide (b < a))) :: kv (.int .i64 a) :: kv (.int .i64 b) :: kv (.bool (decide (b < a))) :: kv (.bool true) :: kv (.bool true) :: kv (.bool true) :: kv (.pointer (some ⟨w.heap.size, 0 * 12, none⟩)) :: kv (.agg (WA .u8 12 X0)) :: kv (.pointer (some ⟨w.heap.size, 1 * 12, none⟩)) :: kv (.agg (WA .u8 12 X1)) :: kv (.bool true) :: kv (.pointer (some ⟨w.heap.size, 0 * 12, none⟩)) :: kv (.agg (WA .u8 12 X0)) :: kv (.pointer (some ⟨w.heap.size, 1 * 12, none⟩)) :: kv (.agg (WA .u8 12 X1)) :: kv (.bool false) :: kv (.bool true) :: kv (.bool true) :: kv (.pointer (some ⟨w.heap.size, 1 * 12, none⟩)) :: kv (.agg (WA .u8 12 X1)) :: kv (.pointer (some ⟨w.heap.size, 0 * 12, none⟩)) :: kv (.agg (WA .u8 12 X0)) :: kv (.bool false) :: kv (.bool true) :: kv (.bool true) :: kv (.bool true) :: kv (.bool true) :: kv (.bool true) :: [])
      (.none :: .none :: .none :: .none :: .none :: .none :: .none :: .none :: .none :: .none :: .none :: .none :: .none :: .none :: .none :: .none :: .none :: .none :: .none :: .none :: .none :: .none :: .none :: .none :: .none :: .none :: .none :: .none :: .none :: .none :: .none :: .none :: .none :: [])
      (some 67 :: some 68 :: some 69 :: some 70 :: some 71 :: some 72 :: some 73 :: some 74 :: some 75 :: some 76 :: some 77 :: some 78 :: some 79 :: some 80 :: some 81 :: some 82 :: some 83 :: some 84 :: some 85 :: some 86 :: some 87 :: some 88 :: some 89 :: some 90 :: some 91 :: some 92 :: some 93 :: some 94 :: some 95 :: some 96 :: some 97 :: some 98 :: some 6 :: [])
      [(7, .bool true), (8, .pointer (some ⟨b8, 0, none⟩)), (9, .pointer (some ⟨b9, 0, none⟩)), (0, .int .i64 a), (1, .int .i64 b), (5, .pointer (some ⟨w.heap.size, 0, none⟩))]
      ([] :: [.slot 0] :: [.slot 1] :: [.slot 1] :: [.slot 1, .slot 2, .slot 3] :: [.slot 1] :: [.slot 1] :: [.slot 1, .slot 5, .slot 6] :: [.slot 1, .slot 4, .slot 7] :: [.slot 1, .slot 8] :: [.slot 9] :: [.slot 10] :: [.slot 10, .slot 11] :: [.slot 10] :: [.slot 10, .slot 13] :: [.slot 10, .slot 12, .slot 14] :: [.slot 10] :: [.slot 10, .slot 16] :: [.slot 10] :: [.slot 10, .slot 18] :: [.slot 10, .slot 17, .slot 19] :: [.slot 10, .slot 20] :: [.slot 10, .slot 21] :: [.slot 22] :: [.slot 22, .slot 23] :: [.slot 22] :: [.slot 22, .slot 25] :: [.slot 22, .slot 24, .slot 26] :: [.slot 22, .slot 27] :: [.slot 10, .slot 22, .slot 28] :: [.slot 10, .slot 15, .slot 29] :: [.slot 10, .slot 30] :: [.slot 31] :: [])
      [.slot 32] (67 :: 68 :: 69 :: 70 :: 71 :: 72 :: 73 :: 74 :: 75 :: 76 :: 77 :: 78 :: 79 :: 80 :: 81 :: 82 :: 83 :: 84 :: 85 :: 86 :: 87 :: 88 :: 89 :: 90 :: 91 :: 92 :: 93 :: 94 :: 95 :: 96 :: 97 :: 98 :: 6 :: [])
      rfl (by kernel_rfl) ⟨rfl, rfl, rfl, rfl, rfl, rfl, trivial⟩ (Below.refl _ v8).drew (Nat.le_refl _) trivial trivial (below_G (Nat.le_refl _) trivial)
      ⟨
        -- 0
        (fun Q aq ww own hS hBg fr kn => .inl ⟨trivial, fun K hK => wp_value (exec_move rfl fr.1) (hK _ _ ⟨Touch.refl _ _, rfl⟩)⟩),
        -- 1
        (fun Q aq ww own hS hBg fr kn => .inl ⟨trivial, fun K hK => wp_value (exec_move rfl kn.1) (hK _ _ ⟨Touch.refl _ _, rfl⟩)⟩),
        -- 2
        (fun Q aq ww own hS hBg fr kn => .inl ⟨kn.1, fun K hK => wp_value (look_arr rfl isArr12 (HG8.out ww hS) fr.2.1) (hK _ _ ⟨Touch.refl _ _, rfl⟩)⟩),
        -- 3
        (fun Q aq ww own hS hBg fr kn => .inl ⟨kn.1, fun K hK => wp_value (look_arr rfl isArr12 (HG9.out ww hS) fr.2.2.1) (hK _ _ ⟨Touch.refl _ _, rfl⟩)⟩),
        -- 4
        (fun Q aq ww own hS hBg fr kn => .inl ⟨kn.1, fun K hK => stepc enterLaterC rfl (args2 kn.2.1 kn.2.2.1) (HLS.out ww) (fun w' hb => hK _ _ ⟨touch_below hb, rfl⟩)⟩),
        -- 5
        (fun Q aq ww own hS hBg fr kn => .inl ⟨kn.1, fun K hK => wp_value (exec_move rfl fr.2.2.2.1) (hK _ _ ⟨Touch.refl _ _, rfl⟩)⟩),
        -- 6
        (fun Q aq ww own hS hBg fr kn => .inl ⟨kn.1, fun K hK => wp_value (exec_move rfl fr.2.2.2.2.1) (hK _ _ ⟨Touch.refl _ _, rfl⟩)⟩),
        -- 7
        (fun Q aq ww own hS hBg fr kn => .inl ⟨kn.1, fun K hK => wp_value (exec_gtrI rfl kn.2.1 kn.2.2.1) (hK _ _ ⟨Touch.refl _ _, rfl⟩)⟩),
        -- 8
        (fun Q aq ww own hS hBg fr kn => .inl ⟨kn.1, fun K hK => wp_value (exec_eqb (z := true) rfl kn.2.1 kn.2.2.1 (beq_self_eq_true _)) (hK _ _ ⟨Touch.refl _ _, rfl⟩)⟩),
        -- 9
        (fun Q aq ww own hS hBg fr kn => .inl ⟨trivial, fun K hK => wp_value (exec_pick rfl kn.1 kn.2.1) (hK _ _ ⟨Touch.refl _ _, rfl⟩)⟩),
        -- 10
        (fun Q aq ww own hS hBg fr kn => .inl ⟨trivial, fun K hK => wp_value (exec_move rfl kn.1) (hK _ _ ⟨Touch.refl _ _, rfl⟩)⟩),
        -- 11
        (fun Q aq ww own hS hBg fr kn => .inl ⟨kn.1, fun K hK => wp_value (exec_ix66 (i := 0) rfl fr.2.2.2.2.2.1 rfl (by omega)) (hK _ _ ⟨Touch.refl _ _, rfl⟩)⟩),
        -- 12
        (fun Q aq ww own hS hBg fr kn => .inl ⟨kn.1, fun K hK => wp_value (exec_ldmid rfl isArr12 kn.2.1 (two_x0 (HGX.out ww hS))) (hK _ _ ⟨Touch.refl _ _, rfl⟩)⟩),
        -- 13
        (fun Q aq ww own hS hBg fr kn => .inl ⟨kn.1, fun K hK => wp_value (exec_ix66 (i := 1) rfl fr.2.2.2.2.2.1 rfl (by omega)) (hK _ _ ⟨Touch.refl _ _, rfl⟩)⟩),
        -- 14
        (fun Q aq ww own hS hBg fr kn => .inl ⟨kn.1, fun K hK => wp_value (exec_ldmid rfl isArr12 kn.2.1 (two_x1 (HGX.out ww hS))) (hK _ _ ⟨Touch.refl _ _, rfl⟩)⟩),
        -- 15
        (fun Q aq ww own hS hBg fr kn => .inl ⟨kn.1, fun K hK => wp_value (eql_two rfl Tryz.underlying26 eqG12n kn.2.1 kn.2.2.1 HEQ.out) (hK _ _ ⟨Touch.refl _ _, rfl⟩)⟩),
        -- 16
        (fun Q aq ww own hS hBg fr kn => .inl ⟨kn.1, fun K hK => wp_value (exec_ix66 (i := 0) rfl fr.2.2.2.2.2.1 rfl (by omega)) (hK _ _ ⟨Touch.refl _ _, rfl⟩)⟩),
        -- 17
        (fun Q aq ww own hS hBg fr kn => .inl ⟨kn.1, fun K hK => wp_value (exec_ldmid rfl isArr12 kn.2.1 (two_x0 (HGX.out ww hS))) (hK _ _ ⟨Touch.refl _ _, rfl⟩)⟩),
        -- 18
        (fun Q aq ww own hS hBg fr kn => .inl ⟨kn.1, fun K hK => wp_value (exec_ix66 (i := 1) rfl fr.2.2.2.2.2.1 rfl (by omega)) (hK _ _ ⟨Touch.refl _ _, rfl⟩)⟩),
        -- 19
        (fun Q aq ww own hS hBg fr kn => .inl ⟨kn.1, fun K hK => wp_value (exec_ldmid rfl isArr12 kn.2.1 (two_x1 (HGX.out ww hS))) (hK _ _ ⟨Touch.refl _ _, rfl⟩)⟩),
        -- 20
        (fun Q aq ww own hS hBg fr kn => .inl ⟨kn.1, fun K hK => stepc enterLaterC rfl (args2 kn.2.1 kn.2.2.1) (HL01.out ww) (fun w' hb => hK _ _ ⟨touch_below hb, rfl⟩)⟩),
        -- 21
        (fun Q aq ww own hS hBg fr kn => .inl ⟨kn.1, fun K hK => wp_value (exec_notb (p := false) (z := true) rfl kn.2.1 rfl) (hK _ _ ⟨Touch.refl _ _, rfl⟩)⟩),
        -- 22
        (fun Q aq ww own hS hBg fr kn => .inl ⟨kn.1, fun K hK => wp_value (exec_move rfl kn.2.1) (hK _ _ ⟨Touch.refl _ _, rfl⟩)⟩),
        -- 23
        (fun Q aq ww own hS hBg fr kn => .inl ⟨kn.1, fun K hK => wp_value (exec_ix66 (i := 1) rfl fr.2.2.2.2.2.1 rfl (by omega)) (hK _ _ ⟨Touch.refl _ _, rfl⟩)⟩),
        -- 24
        (fun Q aq ww own hS hBg fr kn => .inl ⟨kn.1, fun K hK => wp_value (exec_ldmid rfl isArr12 kn.2.1 (two_x1 (HGX.out ww hS))) (hK _ _ ⟨Touch.refl _ _, rfl⟩)⟩),
        -- 25
        (fun Q aq ww own hS hBg fr kn => .inl ⟨kn.1, fun K hK => wp_value (exec_ix66 (i := 0) rfl fr.2.2.2.2.2.1 rfl (by omega)) (hK _ _ ⟨Touch.refl _ _, rfl⟩)⟩),
        -- 26
        (fun Q aq ww own hS hBg fr kn => .inl ⟨kn.1, fun K hK => wp_value (exec_ldmid rfl isArr12 kn.2.1 (two_x0 (HGX.out ww hS))) (hK _ _ ⟨Touch.refl _ _, rfl⟩)⟩),
        -- 27
        (fun Q aq ww own hS hBg fr kn => .inl ⟨kn.1, fun K hK => stepc enterLaterC rfl (args2 kn.2.1 kn.2.2.1) (HL10.out ww) (fun w' hb => hK _ _ ⟨touch_below hb, rfl⟩)⟩),
        -- 28
        (fun Q aq ww own hS hBg fr kn => .inl ⟨kn.1, fun K hK => wp_value (exec_notb (p := false) (z := true) rfl kn.2.1 rfl) (hK _ _ ⟨Touch.refl _ _, rfl⟩)⟩),
        -- 29
        (fun Q aq ww own hS hBg fr kn => .inl ⟨kn.1, fun K hK => wp_value (exec_pick rfl kn.2.1 kn.2.2.1) (hK _ _ ⟨Touch.refl _ _, rfl⟩)⟩),
        -- 30
        (fun Q aq ww own hS hBg fr kn => .inl ⟨kn.1, fun K hK => wp_value (exec_eqb (z := true) rfl kn.2.1 kn.2.2.1 rfl) (hK _ _ ⟨Touch.refl _ _, rfl⟩)⟩),
        -- 31
        (fun Q aq ww own hS hBg fr kn => .inl ⟨trivial, fun K hK => wp_value (exec_pick rfl kn.1 kn.2.1) (hK _ _ ⟨Touch.refl _ _, rfl⟩)⟩),
        -- 32
        (fun Q aq ww own hS hBg fr kn => .inl ⟨trivial, fun K hK => wp_value (exec_assign rfl kn.1) (hK _ _ ⟨Touch.refl _ _, rfl⟩)⟩),
        trivial⟩ ?_
  intro vs own v9 hb hs1 kn inj
  clear inj hs1 HG8 HG9 HGX
  have e6 : vs 6 = _ := kn.1
  clear kn
  replace gx := gx.kept hb
  replace g8 := g8.kept hb
  replace g9 := g9.kept hb
  replace hB := hB.trans (hb.mono hB.size)
  clear hb
  simp only [putAll, Act.put, List.setIfInBounds_toArray, List.set_cons_zero, List.set_cons_succ, e6]
  
  go_wp2_with fail
  go_ret
  exact ⟨rfl, hB⟩
theorem stamps_walk (a b : Int) (X0 X1 : Nat → Int) (w : World) (hE : Env w) (h0 : Byts 12 X0) (h1 : Byts 12 X1) :
    Calls Tryz.prog 7 #[.int .i64 a, .int .i64 b, .agg (WA .u8 24 (cat 12 X0 X1))] w fun e w' => e = .returned (.bool true) ∧ Below w.heap.size w w' := by
  have hs := lat_asym h0 h1
  cases e1 : latF X0 X1 12 0 <;> cases e2 : latF X1 X0 12 0
  · exact stamps_c a b X0 X1 w hE h0 h1 e1 e2
  · exact stamps_b a b X0 X1 w hE h0 h1 e1 e2
  · exact stamps_a a b X0 X1 w hE h0 h1 e1 e2
  · exact absurd ⟨e1, e2⟩ hs
end Go.Proofs.YthghcjepdhkfdaaGreatDoor

/-
  Own text. A slice of texts as an argument, and what the bound on its bulk gives.
-/
namespace Go.Proofs.YthghcjepdhkfdaaGreatDoor
open Go.ChangeShapes Go.WideShapes Go.ChangeAt Go.WideMaps Go.WideElems Go.RowKit Go.Proofs Go.Lib
set_option maxRecDepth 100000
end Go.Proofs.YthghcjepdhkfdaaGreatDoor

/-
  Own text. Arguments that are structs of arrays of bytes, texts and numbers.
-/
namespace Go.Proofs.YthghcjepdhkfdaaGreatDoor
open Go.ChangeShapes Go.WideShapes Go.ChangeAt Go.WideMaps Go.WideElems Go.RowKit Go.Proofs
set_option maxRecDepth 100000
theorem part_at {cs L : List Value} {o m : Nat} (h : (cs.drop o).take m = L) (j : Nat) (hj : j < m) : cs[o + j]? = L[j]? := by
  rw [← h, List.getElem?_take, if_pos hj, List.getElem?_drop]
/-- The cells of an array of bytes that is read. -/
theorem trod_byts {H : Type} {enc : TypeId × Value → H} {W : World} {base fuel : Nat} {sp : Nat → Bool} {hd : Bool} {t : TypeId} {n : Nat} {cs : List Value} {x : DataW H × List MemPlace} (ht : Tryz.prog.underlying t = some (.array n 5))
    (h : DataW.trod enc Tryz.prog W base sp hd fuel t cs = some x) (hn : cs.length = n) : ∃ s, Byts n s ∧ cs = nums .u8 n s ∧ x.2 = [] := by
  obtain ⟨xs, m, _, hx, _, hl, hel⟩ := DataW.trod_array ht h
  have key : ∀ i, i < n → ∃ k : Int, cs[i]? = some (.int .u8 k) ∧ (0 ≤ k ∧ k < 256) ∧ ∃ dd, xs[i]? = some (dd, []) := fun i hi => by
    have hi' := hel i hi
    rw [cells5] at hi'
    have hxs : i < xs.length := by omega
    rw [List.getElem?_eq_getElem hxs] at hi'
    obtain ⟨k, e1, e2, wk⟩ := DataW.trod_int Tryz.underlying5 hi'
    have e3 := part_at e1 0 (by omega)
    have := bounds_u8 wk
    refine ⟨k, by simpa using e3, by omega, ⟨_, by rw [List.getElem?_eq_getElem hxs, e2]⟩⟩
  refine ⟨fun i => match cs[i]? with | some (.int .u8 k) => k | _ => 0, fun i hi => ?_, ?_, ?_⟩
  · obtain ⟨k, e, hb, _⟩ := key i hi
    simp only [e]
    exact hb
  · refine List.ext_getElem? (fun i => ?_)
    by_cases hi : i < n
    · obtain ⟨k, e, hb, _⟩ := key i hi
      rw [nums_at .u8 n _ hi]
      simp only [e]
    · rw [List.getElem?_eq_none (by omega), List.getElem?_eq_none (by rw [nums_len]; omega)]
  · rw [hx]
    apply List.flatMap_eq_nil_iff.2
    intro y hxm
    obtain ⟨i, hi, rfl⟩ := List.getElem_of_mem hxm
    obtain ⟨_, _, _, dd, e⟩ := key i (by omega)
    rw [List.getElem?_eq_getElem hi] at e
    rw [Option.some.inj e]
theorem cells12 : Tryz.prog.cellsOf 26 = 12 := by kernel_rfl
theorem arr66_rec : Tryz.prog.readableRec 66 = true := by kernel_rfl
theorem arr66_row : 66 < Tryz.prog.types.size := of_decide_eq_true (by kernel_rfl)
theorem cells66 : Tryz.prog.cellsOf 66 = 24 := by kernel_rfl
/-- An argument that is two arrays of twelve bytes. -/
theorem open_two {H : Type} {enc : TypeId × Value → H} {W : World} {base : Nat} {sp : Nat → Bool} {v : Value} {d : DataW H} {p : List MemPlace} (hv : Value.okWide Tryz.prog W .any base 66 v)
    (h : DataW.Trod enc Tryz.prog W 0 sp true 66 v d p) : ∃ X0 X1, Byts 12 X0 ∧ Byts 12 X1 ∧ v = .agg (WA .u8 24 (cat 12 X0 X1)) ∧ p = [] := by
  obtain ⟨cs, rfl, hsz, _⟩ : ∃ cs, v = .agg cs ∧ cs.size = Tryz.prog.cellsOf 66 ∧ Row.okWide Tryz.prog W .any base 66 cs := by
    simpa [Value.okWide, Tryz.underlying66] using hv
  rw [cells66] at hsz
  obtain ⟨fuel, hf⟩ := h
  obtain ⟨xs, m, _, hx, _, hl, hel⟩ := DataW.trod_array Tryz.underlying66 hf
  simp only [Prod.mk.injEq] at hx
  have hcs : (Value.agg cs).cells.toList = cs.toList := rfl
  rw [hcs] at hel
  have hlen : cs.toList.length = 24 := by simpa using hsz
  have key : ∀ i, i < 2 → ∃ s y, Byts 12 s ∧ (cs.toList.drop (i * 12)).take 12 = nums .u8 12 s ∧ xs[i]? = some y ∧ y.2 = [] := fun i hi => by
    have h0 := hel i hi
    rw [cells12] at h0
    have hxs : i < xs.length := by omega
    rw [List.getElem?_eq_getElem hxs] at h0
    obtain ⟨s, h1, h2, h3⟩ := trod_byts Tryz.underlying26 h0 (by rw [List.length_take, List.length_drop]; omega)
    exact ⟨s, _, h1, h2, List.getElem?_eq_getElem hxs, h3⟩
  obtain ⟨X0, y0, a0, b0, c0, d0⟩ := key 0 (by omega)
  obtain ⟨X1, y1, a1, b1, c1, d1⟩ := key 1 (by omega)
  refine ⟨X0, X1, a0, a1, ?_, ?_⟩
  · congr 1
    refine WA_ext hsz (fun i hi => ?_)
    rw [← Array.getElem?_toList]
    unfold cat
    by_cases h : i < 12
    · rw [if_pos h]
      have := part_at b0 i h
      rw [Nat.zero_mul, Nat.zero_add, nums_at .u8 12 _ h] at this
      exact this
    · rw [if_neg h]
      have := part_at b1 (i - 12) (by omega)
      rw [Nat.one_mul, show 12 + (i - 12) = i by omega, nums_at .u8 12 _ (by omega)] at this
      exact this
  · rw [hx.2]
    apply List.flatMap_eq_nil_iff.2
    intro y hy
    obtain ⟨i, hi, rfl⟩ := List.getElem_of_mem hy
    match i, hi with
    | 0, hi => rw [List.getElem?_eq_getElem hi] at c0; rw [Option.some.inj c0]; exact d0
    | 1, hi => rw [List.getElem?_eq_getElem hi] at c1; rw [Option.some.inj c1]; exact d1
    | i + 2, hi => exfalso; omega
end Go.Proofs.YthghcjepdhkfdaaGreatDoor

