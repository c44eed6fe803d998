/- Plain mathematics of the sum of 32 bits: a bit's step, eight of them, the sum of bytes; it is linear over exclusive or, and no pattern of 32 bits leaves it. No program. -/
namespace Go.Proofs.YtpibekpddbhojaaDoor

/-- A bit's step. -/
def st (r : Nat) : Nat := if r % 2 = 1 then r / 2 ^^^ 3988292384 else r / 2
/-- 'n' steps. -/
def sts : Nat → Nat → Nat
  | 0, r => r
  | n + 1, r => sts n (st r)

theorem nat_xor_div2 (a b : Nat) : (a ^^^ b) / 2 = a / 2 ^^^ b / 2 := Nat.xor_div_two
theorem nat_xor_mod2 (a b : Nat) : (a ^^^ b) % 2 = (a % 2 + b % 2) % 2 := by
  have h := Nat.xor_mod_two_pow (a := a) (b := b) (n := 1)
  rw [Nat.pow_one] at h
  rw [h]
  rcases Nat.mod_two_eq_zero_or_one a with ha | ha <;> rcases Nat.mod_two_eq_zero_or_one b with hb | hb <;> rw [ha, hb] <;> rfl
theorem xor_cancel_mid (a b p : Nat) : (a ^^^ p) ^^^ (b ^^^ p) = a ^^^ b := by
  rw [Nat.xor_assoc, ← Nat.xor_assoc p b p, Nat.xor_comm p b, Nat.xor_assoc b p p, Nat.xor_self, Nat.xor_zero]

theorem st_xor (a b : Nat) : st (a ^^^ b) = st a ^^^ st b := by
  unfold st
  rw [nat_xor_div2]
  have h := nat_xor_mod2 a b
  rcases Nat.mod_two_eq_zero_or_one a with ha | ha <;> rcases Nat.mod_two_eq_zero_or_one b with hb | hb
  · rw [if_neg (by omega), if_neg (by omega), if_neg (by omega)]
  · rw [if_pos (by omega), if_neg (by omega), if_pos hb, Nat.xor_assoc]
  · rw [if_pos (by omega), if_pos ha, if_neg (by omega), Nat.xor_assoc, Nat.xor_comm (b / 2), ← Nat.xor_assoc]
  · rw [if_neg (by omega), if_pos ha, if_pos hb, xor_cancel_mid]
theorem st_double (q : Nat) : st (2 * q) = q := by
  unfold st
  rw [if_neg (by omega)]
  omega
theorem st_zero : st 0 = 0 := rfl
theorem st_lt {r : Nat} (h : r < 4294967296) : st r < 4294967296 := by
  unfold st
  split
  · exact Nat.xor_lt_two_pow (n := 32) (by omega) (by decide)
  · omega
theorem st_eq_zero {r : Nat} (h : r < 4294967296) (h0 : st r = 0) : r = 0 := by
  unfold st at h0
  split at h0
  · have : r / 2 = 3988292384 := by
      have h1 : r / 2 ^^^ 3988292384 ^^^ 3988292384 = 0 ^^^ 3988292384 := by rw [h0]
      rw [Nat.xor_assoc, Nat.xor_self, Nat.xor_zero, Nat.zero_xor] at h1
      exact h1
    omega
  · omega

theorem sts_xor (n : Nat) : ∀ a b, sts n (a ^^^ b) = sts n a ^^^ sts n b := by
  induction n with
  | zero => intro a b; rfl
  | succ n ih => intro a b; show sts n (st (a ^^^ b)) = _; rw [st_xor, ih]; rfl
theorem sts_add (m : Nat) : ∀ n r, sts (m + n) r = sts n (sts m r) := by
  induction m with
  | zero => intro n r; rw [Nat.zero_add]; rfl
  | succ m ih => intro n r; rw [show m + 1 + n = (m + n) + 1 by omega]; show sts (m + n) (st r) = _; rw [ih]; rfl
theorem sts_lt (n : Nat) : ∀ {r}, r < 4294967296 → sts n r < 4294967296 := by
  induction n with
  | zero => intro r h; exact h
  | succ n ih => intro r h; exact ih (st_lt h)
theorem sts_pow (n : Nat) : ∀ q, sts n (2 ^ n * q) = q := by
  induction n with
  | zero => intro q; show 2 ^ 0 * q = q; omega
  | succ n ih =>
    intro q
    show sts n (st (2 ^ (n + 1) * q)) = q
    rw [show 2 ^ (n + 1) * q = 2 * (2 ^ n * q) by rw [Nat.pow_succ, Nat.mul_comm (2 ^ n) 2, Nat.mul_assoc], st_double, ih]
theorem sts_eq_zero (n : Nat) : ∀ {r}, r < 4294967296 → sts n r = 0 → r = 0 := by
  induction n with
  | zero => intro r _ h; exact h
  | succ n ih => intro r h h0; exact st_eq_zero h (ih (st_lt h) h0)
/-- A step one at a time at the end. -/
theorem sts_snoc (n r : Nat) : sts (n + 1) r = st (sts n r) := by rw [sts_add]; rfl

/-- The remainder behind bytes. -/
def crc (v : Nat) : List Nat → Nat
  | [] => v
  | b :: l => crc (sts 8 (v ^^^ b)) l
/-- The bytes as one number, the first the lowest. -/
def le : List Nat → Nat
  | [] => 0
  | b :: l => b ^^^ 256 * le l
theorem crc_append (l m : List Nat) : ∀ v, crc v (l ++ m) = crc (crc v l) m := by
  induction l with
  | nil => intro v; rfl
  | cons b l ih => intro v; exact ih _
theorem crc_snoc (v : Nat) (l : List Nat) (b : Nat) : crc v (l ++ [b]) = sts 8 (crc v l ^^^ b) := by rw [crc_append]; rfl
theorem crc_le (l : List Nat) : ∀ v, crc v l = sts (8 * l.length) (v ^^^ le l) := by
  induction l with
  | nil => intro v; show v = sts 0 (v ^^^ 0); rw [Nat.xor_zero]; rfl
  | cons b l ih =>
    intro v
    show crc (sts 8 (v ^^^ b)) l = sts (8 * (l.length + 1)) (v ^^^ (b ^^^ 256 * le l))
    rw [ih, show 8 * (l.length + 1) = 8 + 8 * l.length by omega, sts_add, ← Nat.xor_assoc, sts_xor 8 (v ^^^ b)]
    rw [show sts 8 (256 * le l) = le l from sts_pow 8 (le l)]
theorem crc_lt (l : List Nat) : ∀ {v}, v < 4294967296 → (∀ b ∈ l, b < 256) → crc v l < 4294967296 := by
  induction l with
  | nil => intro v h _; exact h
  | cons b l ih =>
    intro v h hb
    have h1 := hb b (by simp)
    exact ih (sts_lt 8 (Nat.xor_lt_two_pow (n := 32) h (by omega))) fun x hx => hb x (by simp [hx])

/-- A byte's step, as a table of 256 has it. -/
theorem byte_tab (r b : Nat) (_hb : b < 256) : r / 256 ^^^ sts 8 (r % 256 ^^^ b) = sts 8 (r ^^^ b) := by
  have e : r = 2 ^ 8 * (r / 256) ^^^ r % 256 := by
    have h1 : 2 ^ 8 * (r / 256) + r % 256 = r := by omega
    have h2 : 2 ^ 8 * (r / 256) + r % 256 = 2 ^ 8 * (r / 256) ^^^ r % 256 := by
      apply Nat.eq_of_testBit_eq
      intro i
      rw [Nat.testBit_xor, Nat.testBit_two_pow_mul_add _ (by omega), Nat.testBit_two_pow_mul]
      by_cases h : i < 8
      · rw [if_pos h]; simp [show ¬ 8 ≤ i by omega]
      · rw [if_neg h]
        have : (r % 256).testBit i = false := Nat.testBit_lt_two_pow (Nat.lt_of_lt_of_le (show r % 256 < 2 ^ 8 by omega) (Nat.pow_le_pow_right (by omega) (by omega)))
        simp [this, show 8 ≤ i by omega]
    omega
  rw [show sts 8 (r ^^^ b) = sts 8 (2 ^ 8 * (r / 256) ^^^ r % 256 ^^^ b) by rw [← e], Nat.xor_assoc, sts_xor 8 (2 ^ 8 * (r / 256)), sts_pow 8]
/-- A bit that is taken in, as the document says it. -/
def tk (v bit : Nat) : Nat := if v % 2 ≠ bit then v / 2 ^^^ 3988292384 else v / 2
theorem tk_st (v c : Nat) : st (v ^^^ c) = tk v (c % 2) ^^^ c / 2 := by
  unfold tk st
  rw [nat_xor_div2]
  have h := nat_xor_mod2 v c
  rcases Nat.mod_two_eq_zero_or_one v with ha | ha <;> rcases Nat.mod_two_eq_zero_or_one c with hb | hb
  · rw [if_neg (by omega), if_neg (by omega)]
  · rw [if_pos (by omega), if_pos (by omega), Nat.xor_assoc, Nat.xor_comm (c / 2), ← Nat.xor_assoc]
  · rw [if_pos (by omega), if_pos (by omega), Nat.xor_assoc, Nat.xor_comm (c / 2), ← Nat.xor_assoc]
  · rw [if_neg (by omega), if_neg (by omega)]
/-- The bits of 'c', 'k' of them, taken in by the document's words. -/
def tks : Nat → Nat → Nat → Nat
  | 0, v, _ => v
  | k + 1, v, c => tk (tks k v c) (c / 2 ^ k % 2)
theorem tks_sts (k v c : Nat) : sts k (v ^^^ c) = tks k v c ^^^ c / 2 ^ k := by
  induction k with
  | zero => show v ^^^ c = v ^^^ c / 1; rw [Nat.div_one]
  | succ k ih =>
    rw [sts_snoc, ih, tk_st, Nat.pow_succ, ← Nat.div_div_eq_div_mul]
    rfl
theorem tks_8 (v c : Nat) (hc : c < 256) : tks 8 v c = sts 8 (v ^^^ c) := by
  rw [tks_sts, show c / 2 ^ 8 = 0 by omega, Nat.xor_zero]
theorem tk_lt {v bit : Nat} (h : v < 4294967296) : tk v bit < 4294967296 := by
  unfold tk
  split
  · exact Nat.xor_lt_two_pow (n := 32) (by omega) (by decide)
  · omega
theorem tks_lt (k : Nat) {v : Nat} (c : Nat) (h : v < 4294967296) : tks k v c < 4294967296 := by
  induction k with
  | zero => exact h
  | succ k ih => exact tk_lt ih

/-- 'More', 'Sum'. -/
def moreN (s : Nat) (l : List Nat) : Nat := 4294967295 - crc (4294967295 - s) l
def sumN (l : List Nat) : Nat := moreN 0 l
theorem moreN_lt (s : Nat) (l : List Nat) : moreN s l < 4294967296 := by unfold moreN; omega
theorem sumN_lt (l : List Nat) : sumN l < 4294967296 := moreN_lt _ _
theorem moreN_append (l m : List Nat) (hl : ∀ b ∈ l, b < 256) : moreN (sumN l) m = sumN (l ++ m) := by
  unfold sumN moreN
  rw [crc_append]
  have h := crc_lt l (v := 4294967295 - 0) (by omega) hl
  congr 2
  omega
theorem sumN_awake : sumN [49, 50, 51, 52, 53, 54, 55, 56, 57] = 3421780262 := by decide +kernel

/-! Exclusive or of texts. -/
theorem not_xor {x : Nat} (h : x < 4294967296) : 4294967295 - x = x ^^^ 4294967295 := by
  have h1 := congrArg BitVec.toNat (BitVec.xor_allOnes (x := BitVec.ofNat 32 x))
  rw [BitVec.toNat_xor, BitVec.toNat_not, BitVec.toNat_allOnes, BitVec.toNat_ofNat, Nat.mod_eq_of_lt (by omega)] at h1
  exact h1.symm
def x3 : List Nat → List Nat → List Nat → List Nat
  | a :: l, b :: m, c :: n => (a ^^^ b ^^^ c) :: x3 l m n
  | _, _, _ => []
theorem mul256_xor (a b : Nat) : 256 * (a ^^^ b) = 256 * a ^^^ 256 * b := by
  have h := Nat.shiftLeft_xor_distrib (a := a) (b := b) (i := 8)
  simp only [Nat.shiftLeft_eq] at h
  rw [Nat.mul_comm 256 (a ^^^ b), Nat.mul_comm 256 a, Nat.mul_comm 256 b]
  exact h
theorem xor_swap3 (a b c x y z : Nat) : (a ^^^ b ^^^ c) ^^^ (x ^^^ y ^^^ z) = (a ^^^ x) ^^^ (b ^^^ y) ^^^ (c ^^^ z) := by
  apply Nat.eq_of_testBit_eq
  intro i
  simp only [Nat.testBit_xor]
  cases a.testBit i <;> cases b.testBit i <;> cases c.testBit i <;> cases x.testBit i <;> cases y.testBit i <;> cases z.testBit i <;> rfl
theorem x3_le (l : List Nat) : ∀ m n : List Nat, m.length = l.length → n.length = l.length → le (x3 l m n) = le l ^^^ le m ^^^ le n ∧ (x3 l m n).length = l.length := by
  induction l with
  | nil =>
    intro m n hm hn
    obtain rfl : m = [] := List.eq_nil_of_length_eq_zero hm
    obtain rfl : n = [] := List.eq_nil_of_length_eq_zero hn
    exact ⟨rfl, rfl⟩
  | cons a l ih =>
    intro m n hm hn
    cases m with
    | nil => simp at hm
    | cons b m =>
      cases n with
      | nil => simp at hn
      | cons c n =>
        obtain ⟨h1, h2⟩ := ih m n (by simpa using hm) (by simpa using hn)
        refine ⟨?_, by simp [x3, h2]⟩
        show (a ^^^ b ^^^ c) ^^^ 256 * le (x3 l m n) = (a ^^^ 256 * le l) ^^^ (b ^^^ 256 * le m) ^^^ (c ^^^ 256 * le n)
        rw [h1, mul256_xor, mul256_xor, xor_swap3]
theorem sum_xor3 (l m n : List Nat) (hm : m.length = l.length) (hn : n.length = l.length) (bl : ∀ b ∈ l, b < 256) (bm : ∀ b ∈ m, b < 256) (bn : ∀ b ∈ n, b < 256) (bx : ∀ b ∈ x3 l m n, b < 256) :
    sumN (x3 l m n) = sumN l ^^^ sumN m ^^^ sumN n := by
  obtain ⟨h1, h2⟩ := x3_le l m n hm hn
  unfold sumN moreN
  rw [not_xor (crc_lt _ (by omega) bx), not_xor (crc_lt _ (by omega) bl), not_xor (crc_lt _ (by omega) bm), not_xor (crc_lt _ (by omega) bn)]
  rw [crc_le, crc_le, crc_le, crc_le, h1, h2, hm, hn, ← xor_swap3]
  rw [← sts_xor, ← sts_xor, ← xor_swap3]
  rfl

/-! Bits that are turned. -/
theorem le_set (x : Nat) (l : List Nat) : ∀ i (h : i < l.length), le (l.set i (l[i] ^^^ x)) = le l ^^^ 256 ^ i * x := by
  induction l with
  | nil => intro i h; simp at h
  | cons b l ih =>
    intro i h
    cases i with
    | zero =>
      show (b ^^^ x) ^^^ 256 * le l = (b ^^^ 256 * le l) ^^^ 256 ^ 0 * x
      rw [Nat.pow_zero, Nat.one_mul, Nat.xor_assoc, Nat.xor_comm x, ← Nat.xor_assoc]
    | succ i =>
      show b ^^^ 256 * le (l.set i (l[i]'(by simpa using h) ^^^ x)) = (b ^^^ 256 * le l) ^^^ 256 ^ (i + 1) * x
      rw [ih i (by simpa using h), mul256_xor, Nat.xor_assoc, Nat.pow_succ, Nat.mul_comm (256 ^ i) 256, Nat.mul_assoc]
/-- Bytes from 'p' on, 't' of them, turned by the bytes of 'N'. -/
def tu (l : List Nat) (p N : Nat) : Nat → List Nat
  | 0 => l
  | t + 1 => (tu l p N t).set (p + t) ((tu l p N t).getD (p + t) 0 ^^^ N / 256 ^ t % 256)
theorem tu_length (l : List Nat) (p N t : Nat) : (tu l p N t).length = l.length := by
  induction t with
  | zero => rfl
  | succ t ih => simp [tu, ih]
theorem tu_byte (l : List Nat) (p N t : Nat) (hl : ∀ b ∈ l, b < 256) : ∀ b ∈ tu l p N t, b < 256 := by
  induction t with
  | zero => exact hl
  | succ t ih =>
    intro b hb
    rcases List.mem_or_eq_of_mem_set hb with h | h
    · exact ih b h
    · subst h
      refine Nat.xor_lt_two_pow (n := 8) ?_ (by omega)
      rw [List.getD_eq_getElem?_getD]
      cases hq : (tu l p N t)[p + t]? with
      | none => simp
      | some y => exact ih y (List.mem_of_getElem? hq)
theorem add_xor_low (t N : Nat) : N % 256 ^ t ^^^ 256 ^ t * (N / 256 ^ t % 256) = N % 256 ^ (t + 1) := by
  have h256 : ∀ k : Nat, (256 : Nat) ^ k = 2 ^ (8 * k) := fun k => by rw [Nat.pow_mul]
  have h1 : N % 256 ^ (t + 1) = 256 ^ t * (N / 256 ^ t % 256) + N % 256 ^ t := by
    rw [Nat.pow_succ, Nat.mod_mul]
    omega
  rw [h1, h256]
  apply Nat.eq_of_testBit_eq
  intro i
  rw [Nat.testBit_xor, Nat.testBit_two_pow_mul_add _ (Nat.mod_lt _ (Nat.two_pow_pos _)), Nat.testBit_two_pow_mul]
  by_cases h : i < 8 * t
  · rw [if_pos h]; simp [show ¬ 8 * t ≤ i by omega]
  · rw [if_neg h]
    have : (N % 2 ^ (8 * t)).testBit i = false := Nat.testBit_lt_two_pow (Nat.lt_of_lt_of_le (Nat.mod_lt _ (Nat.two_pow_pos _)) (Nat.pow_le_pow_right (by omega) (by omega)))
    simp [this, show 8 * t ≤ i by omega]
theorem mul256p_xor (p a b : Nat) : 256 ^ p * (a ^^^ b) = 256 ^ p * a ^^^ 256 ^ p * b := by
  induction p with
  | zero => simp
  | succ p ih => rw [Nat.pow_succ, Nat.mul_comm (256 ^ p) 256, Nat.mul_assoc, ih, mul256_xor, Nat.mul_assoc, Nat.mul_assoc]
theorem tu_le (l : List Nat) (p N t : Nat) (h : p + t ≤ l.length) : le (tu l p N t) = le l ^^^ 256 ^ p * (N % 256 ^ t) := by
  induction t with
  | zero => show le l = le l ^^^ 256 ^ p * (N % 1); rw [Nat.mod_one, Nat.mul_zero, Nat.xor_zero]
  | succ t ih =>
    have hlt : p + t < (tu l p N t).length := by rw [tu_length]; omega
    show le ((tu l p N t).set (p + t) ((tu l p N t).getD (p + t) 0 ^^^ N / 256 ^ t % 256)) = _
    rw [List.getD_eq_getElem?_getD, List.getElem?_eq_getElem hlt, Option.getD_some, le_set _ _ _ hlt, ih (by omega), Nat.xor_assoc, Nat.pow_add, Nat.mul_assoc, ← mul256p_xor, add_xor_low]
theorem sum_turned (l : List Nat) (k turn : Nat) (hk : k < 8 * (l.length - 4)) (hl : 5 ≤ l.length) (h0 : turn ≠ 0) (ht : turn < 4294967296) (bl : ∀ b ∈ l, b < 256) :
    sumN (tu l (k / 8) (turn * 2 ^ (k % 8)) 5) ≠ sumN l := by
  intro he
  have b2 := tu_byte l (k / 8) (turn * 2 ^ (k % 8)) 5 bl
  unfold sumN moreN at he
  have c1 := crc_lt _ (v := 4294967295 - 0) (by omega) b2
  have c2 := crc_lt _ (v := 4294967295 - 0) (by omega) bl
  have he2 : crc (4294967295 - 0) (tu l (k / 8) (turn * 2 ^ (k % 8)) 5) = crc (4294967295 - 0) l := by omega
  rw [crc_le, crc_le, tu_length, tu_le _ _ _ _ (by omega), ← Nat.xor_assoc, sts_xor] at he2
  have hz : sts (8 * l.length) (256 ^ (k / 8) * (turn * 2 ^ (k % 8) % 256 ^ 5)) = 0 := by
    have h := congrArg (fun z => sts (8 * l.length) (4294967295 - 0 ^^^ le l) ^^^ z) he2
    simp only [← Nat.xor_assoc, Nat.xor_self, Nat.zero_xor] at h
    exact h
  have hpow : 2 ^ (k % 8) ≤ 128 := show 2 ^ (k % 8) ≤ 2 ^ 7 from Nat.pow_le_pow_right (by omega) (by omega)
  have hN : turn * 2 ^ (k % 8) < 256 ^ 5 := Nat.lt_of_le_of_lt (Nat.mul_le_mul (Nat.le_of_lt ht) hpow) (by decide)
  rw [Nat.mod_eq_of_lt hN] at hz
  have h256 : (256 : Nat) ^ (k / 8) = 2 ^ (8 * (k / 8)) := by rw [Nat.pow_mul]
  have e1 : 256 ^ (k / 8) * (turn * 2 ^ (k % 8)) = 2 ^ k * turn := by
    rw [h256, Nat.mul_comm turn, ← Nat.mul_assoc, ← Nat.pow_add]
    congr 2
    omega
  rw [e1, show 8 * l.length = k + (8 * l.length - k) by omega, sts_add, sts_pow] at hz
  exact h0 (sts_eq_zero _ ht hz)
end Go.Proofs.YtpibekpddbhojaaDoor
