/- Texts joined: BmPlain CkSet. -/
/- Which of so many places are marked, told as plain bytes: their bits, how many are marked below a place, the marked ones. No program; no condition. -/
namespace Go.Proofs.YtieknhhhcjdbnaaDoor
set_option linter.unusedVariables false
set_option linter.unusedSimpArgs false

/-- How many bytes so many places have. -/
def siz (n : Nat) : Nat := (n + 7) / 8
/-- Is the place marked? -/
def bit (l : List Nat) (k : Nat) : Bool := (l.getD (k / 8) 0).testBit (k % 8)
/-- The bytes of a set of 'n' places. -/
structure OkS (n : Nat) (l : List Nat) : Prop where
  len : l.length = siz n
  byte : ∀ x ∈ l, x < 256
  left : ∀ k, bit l k = true → k < n
def cnt (f : Nat → Bool) : Nat → Nat
  | 0 => 0
  | n + 1 => cnt f n + (if f n then 1 else 0)
def sel (f : Nat → Bool) : Nat → List Nat
  | 0 => []
  | n + 1 => sel f n ++ (if f n then [n] else [])

theorem cnt_le (f : Nat → Bool) (n : Nat) : cnt f n ≤ n := by
  induction n with
  | zero => exact Nat.le_refl _
  | succ n ih => unfold cnt; split <;> omega
theorem cnt_add (f : Nat → Bool) (a b : Nat) : cnt f (a + b) = cnt f a + cnt (fun k => f (a + k)) b := by
  induction b with
  | zero => rfl
  | succ b ih =>
    show cnt f (a + b) + (if f (a + b) then 1 else 0) = cnt f a + (cnt (fun k => f (a + k)) b + (if f (a + b) then 1 else 0))
    omega
theorem cnt_congr {f g : Nat → Bool} (n : Nat) (h : ∀ k, k < n → f k = g k) : cnt f n = cnt g n := by
  induction n with
  | zero => rfl
  | succ n ih => unfold cnt; rw [ih (fun k hk => h k (by omega)), h n (by omega)]
theorem cnt_mono (f : Nat → Bool) {a b : Nat} (h : a ≤ b) : cnt f a ≤ cnt f b := by
  obtain ⟨d, rfl⟩ := Nat.exists_eq_add_of_le h
  rw [cnt_add]; omega
theorem cnt_over {f : Nat → Bool} {n : Nat} (h : ∀ k, f k = true → k < n) (m : Nat) (hm : n ≤ m) : cnt f m = cnt f n := by
  obtain ⟨d, rfl⟩ := Nat.exists_eq_add_of_le hm
  rw [cnt_add]
  have : ∀ d, cnt (fun k => f (n + k)) d = 0 := by
    intro d
    induction d with
    | zero => rfl
    | succ d ih =>
      unfold cnt
      rw [ih]
      cases hf : f (n + d) with
      | false => rfl
      | true => have := h _ hf; omega
  rw [this]; rfl
theorem sel_length (f : Nat → Bool) (n : Nat) : (sel f n).length = cnt f n := by
  induction n with
  | zero => rfl
  | succ n ih => unfold sel cnt; rw [List.length_append, ih]; split <;> rfl
theorem sel_add (f : Nat → Bool) (a b : Nat) : sel f (a + b) = sel f a ++ (sel (fun k => f (a + k)) b).map (a + ·) := by
  induction b with
  | zero => simp [sel]
  | succ b ih =>
    show sel f (a + b) ++ (if f (a + b) then [a + b] else []) = sel f a ++ ((sel (fun k => f (a + k)) b ++ (if f (a + b) then [b] else [])).map (a + ·))
    rw [ih, List.map_append, List.append_assoc]
    congr 2
    split <;> rfl
theorem sel_congr {f g : Nat → Bool} (n : Nat) (h : ∀ k, k < n → f k = g k) : sel f n = sel g n := by
  induction n with
  | zero => rfl
  | succ n ih => unfold sel; rw [ih (fun k hk => h k (by omega)), h n (by omega)]
theorem sel_over {f : Nat → Bool} {n : Nat} (h : ∀ k, f k = true → k < n) (m : Nat) (hm : n ≤ m) : sel f m = sel f n := by
  obtain ⟨d, rfl⟩ := Nat.exists_eq_add_of_le hm
  rw [sel_add]
  have : ∀ d, sel (fun k => f (n + k)) d = [] := by
    intro d
    induction d with
    | zero => rfl
    | succ d ih =>
      unfold sel
      rw [ih]
      cases hf : f (n + d) with
      | false => rfl
      | true => have := h _ hf; omega
  rw [this]; simp
theorem sel_lt (f : Nat → Bool) (n : Nat) : ∀ x ∈ sel f n, x < n := by
  induction n with
  | zero => intro x hx; cases hx
  | succ n ih =>
    intro x hx
    unfold sel at hx
    rcases List.mem_append.1 hx with h | h
    · have := ih x h; omega
    · split at h
      · simp at h; omega
      · cases h

/-- How many bits of a byte are set; which. -/
def pc (x : Nat) : Nat := cnt x.testBit 8
def bts (x : Nat) : List Nat := sel x.testBit 8
theorem pc_le (x : Nat) : pc x ≤ 8 := cnt_le _ _
theorem bit_at (l : List Nat) (k j : Nat) (hj : j < 8) : bit l (8 * k + j) = (l.getD k 0).testBit j := by
  unfold bit
  rw [show (8 * k + j) / 8 = k by omega, show (8 * k + j) % 8 = j by omega]
theorem rank_step (l : List Nat) (k : Nat) : cnt (bit l) (8 * (k + 1)) = cnt (bit l) (8 * k) + pc (l.getD k 0) := by
  rw [Nat.mul_add, Nat.mul_one, cnt_add]
  congr 1
  exact cnt_congr 8 (fun j hj => bit_at l k j hj)
theorem pc_shift_fin : ∀ x : Fin 256, ∀ r : Fin 8, 0 < r.val → pc (x.val * 2 ^ (8 - r.val) % 256) = cnt x.val.testBit r.val := by decide +kernel
theorem rank_rest (l : List Nat) (i : Nat) (hx : l.getD (i / 8) 0 < 256) (hr : 0 < i % 8) : cnt (bit l) i = cnt (bit l) (8 * (i / 8)) + pc (l.getD (i / 8) 0 * 2 ^ (8 - i % 8) % 256) := by
  have h := pc_shift_fin ⟨_, hx⟩ ⟨i % 8, by omega⟩ hr
  simp only at h
  rw [h]
  conv => lhs; rw [show i = 8 * (i / 8) + i % 8 by omega]
  rw [cnt_add]
  congr 1
  exact cnt_congr _ (fun j hj => bit_at l _ j (by omega))
theorem sel_step (l : List Nat) (k : Nat) : sel (bit l) (8 * (k + 1)) = sel (bit l) (8 * k) ++ (bts (l.getD k 0)).map (8 * k + ·) := by
  rw [Nat.mul_add, Nat.mul_one, sel_add]
  congr 2
  exact sel_congr 8 (fun j hj => bit_at l k j hj)
/-- The lowest bit that is set. -/
def tz (x : Nat) : Nat := (bts x).headD 8
theorem tz_fin : ∀ x : Fin 256, x.val ≠ 0 → bts x.val = tz x.val :: bts (x.val &&& (x.val - 1)) := by decide +kernel
theorem tz_lt_fin : ∀ x : Fin 256, x.val ≠ 0 → tz x.val < 8 ∧ (x.val &&& (x.val - 1)) < x.val := by decide +kernel
theorem bts_zero : bts 0 = [] := by decide +kernel
theorem bts_next {x : Nat} (h : x < 256) (h0 : x ≠ 0) : bts x = tz x :: bts (x &&& (x - 1)) ∧ tz x < 8 ∧ (x &&& (x - 1)) < x :=
  ⟨tz_fin ⟨x, h⟩ h0, tz_lt_fin ⟨x, h⟩ h0⟩

/-- One place more is marked. -/
def mark (l : List Nat) (i : Nat) : List Nat := l.set (i / 8) (l.getD (i / 8) 0 ||| 2 ^ (i % 8))
theorem mark_length (l : List Nat) (i : Nat) : (mark l i).length = l.length := by simp [mark]
theorem getD_set (l : List Nat) (i j v : Nat) (hi : i < l.length) : (l.set i v).getD j 0 = if i = j then v else l.getD j 0 := by
  simp only [List.getD_eq_getElem?_getD, List.getElem?_set]
  split
  · simp [hi]
  · rfl
theorem bit_mark (l : List Nat) (i k : Nat) (hi : i / 8 < l.length) : bit (mark l i) k = (decide (k = i) || bit l k) := by
  unfold bit mark
  rw [getD_set _ _ _ _ hi]
  by_cases h : i / 8 = k / 8
  · rw [if_pos h, h, Nat.testBit_or, Nat.testBit_two_pow]
    by_cases h2 : i % 8 = k % 8
    · have : k = i := by omega
      simp [this]
    · have : k ≠ i := by omega
      simp [this, h2]
  · rw [if_neg h]
    have : k ≠ i := by omega
    simp [this]
theorem getD_byte {l : List Nat} (h : ∀ x ∈ l, x < 256) (k : Nat) : l.getD k 0 < 256 := by
  rw [List.getD_eq_getElem?_getD]
  cases hk : l[k]? with
  | none => simp
  | some x => simpa using h x (List.mem_of_getElem? hk)
theorem siz_lt {n i : Nat} (h : i < n) : i / 8 < siz n := by unfold siz; omega
theorem OkS.mark {n : Nat} {l : List Nat} (h : OkS n l) {i : Nat} (hi : i < n) : OkS n (mark l i) where
  len := by rw [mark_length, h.len]
  byte x hx := by
    rcases List.mem_or_eq_of_mem_set hx with h1 | h1
    · exact h.byte x h1
    · rw [h1]
      exact Nat.or_lt_two_pow (n := 8) (getD_byte h.byte _) (show 2 ^ (i % 8) < 2 ^ 8 from Nat.pow_lt_pow_right (by omega) (by omega))
  left k hk := by
    rw [bit_mark l i k (by rw [h.len]; exact siz_lt hi)] at hk
    simp at hk
    rcases hk with rfl | hk
    · exact hi
    · exact h.left k hk
theorem bit_zeros (n k : Nat) : bit (List.replicate n 0) k = false := by
  unfold bit
  have : (List.replicate n 0).getD (k / 8) 0 = 0 := by
    rw [List.getD_eq_getElem?_getD, List.getElem?_replicate]
    split <;> rfl
  rw [this, Nat.zero_testBit]
theorem OkS.new (n : Nat) : OkS n (List.replicate (siz n) 0) where
  len := by simp
  byte x hx := by have := List.eq_of_mem_replicate hx; omega
  left k hk := by rw [bit_zeros] at hk; cases hk
theorem byte_ext {x y : Nat} (hx : x < 256) (hy : y < 256) (h : ∀ j, j < 8 → x.testBit j = y.testBit j) : x = y := by
  apply Nat.eq_of_testBit_eq
  intro i
  by_cases hi : i < 8
  · exact h i hi
  · have h2 : 2 ^ 8 ≤ 2 ^ i := Nat.pow_le_pow_right (by omega) (by omega)
    rw [Nat.testBit_lt_two_pow (by omega), Nat.testBit_lt_two_pow (by omega)]
theorem bytes_ext {l l' : List Nat} (hl : l.length = l'.length) (h1 : ∀ x ∈ l, x < 256) (h2 : ∀ x ∈ l', x < 256) (h : ∀ k, k < 8 * l.length → bit l k = bit l' k) : l = l' := by
  apply List.ext_getElem hl
  intro i hi hi'
  have e : ∀ (m : List Nat) (hm : i < m.length), m.getD i 0 = m[i] := fun m hm => by simp [List.getD_eq_getElem?_getD, hm]
  refine byte_ext (h1 _ (List.getElem_mem hi)) (h2 _ (List.getElem_mem hi')) (fun j hj => ?_)
  have := h (8 * i + j) (by omega)
  rwa [bit_at l i j hj, bit_at l' i j hj, e l hi, e l' hi'] at this
theorem OkS.ext {n : Nat} {l l' : List Nat} (h : OkS n l) (h' : OkS n l') (hb : ∀ k, k < n → bit l k = bit l' k) : l = l' := by
  refine bytes_ext (by rw [h.len, h'.len]) h.byte h'.byte (fun k _ => ?_)
  by_cases hk : k < n
  · exact hb k hk
  · cases e : bit l k with
    | true => exact absurd (h.left k e) hk
    | false =>
      cases e' : bit l' k with
      | true => exact absurd (h'.left k e') hk
      | false => rfl
/-- Is a bit set that is none of the 'n' places? -/
def lef (l : List Nat) (n : Nat) : Bool := decide (0 < n % 8) && decide (l.getD (n / 8) 0 / 2 ^ (n % 8) ≠ 0)
theorem div_zero_of_bits {x r : Nat} (h : ∀ j, r ≤ j → x.testBit j = false) : x / 2 ^ r = 0 := by
  apply Nat.eq_of_testBit_eq
  intro i
  rw [Nat.testBit_div_two_pow, Nat.zero_testBit]
  exact h _ (by omega)
theorem lef_no {l : List Nat} {n : Nat} (hl : l.length = siz n) (hb : ∀ x ∈ l, x < 256) : lef l n = false ↔ OkS n l := by
  constructor
  · intro h
    refine ⟨hl, hb, fun k hk => ?_⟩
    rcases Nat.lt_or_ge k n with h1 | h1
    · exact h1
    · exfalso
      by_cases h2 : k / 8 < l.length
      · have h3 : k / 8 = n / 8 ∧ 0 < n % 8 := by rw [hl] at h2; unfold siz at h2; omega
        unfold lef at h
        have h4 : l.getD (n / 8) 0 / 2 ^ (n % 8) = 0 := by
          rcases Nat.eq_zero_or_pos (l.getD (n / 8) 0 / 2 ^ (n % 8)) with e | e
          · exact e
          · simp only [h3.2, decide_true, Bool.true_and, decide_eq_false_iff_not] at h
            omega
        unfold bit at hk
        rw [h3.1] at hk
        have h5 : (l.getD (n / 8) 0 / 2 ^ (n % 8)).testBit (k % 8 - n % 8) = true := by
          rw [Nat.testBit_div_two_pow, show k % 8 - n % 8 + n % 8 = k % 8 by omega]; exact hk
        rw [h4, Nat.zero_testBit] at h5
        cases h5
      · unfold bit at hk
        have : l.getD (k / 8) 0 = 0 := by rw [List.getD_eq_getElem?_getD, List.getElem?_eq_none (by omega)]; rfl
        rw [this, Nat.zero_testBit] at hk
        cases hk
  · intro h
    unfold lef
    by_cases h1 : 0 < n % 8
    · have h4 : l.getD (n / 8) 0 / 2 ^ (n % 8) = 0 := by
        refine div_zero_of_bits (fun j hj => ?_)
        by_cases h8 : j < 8
        · cases e : (l.getD (n / 8) 0).testBit j with
          | false => rfl
          | true =>
            have := h.left (8 * (n / 8) + j) (by rw [bit_at _ _ _ h8]; exact e)
            omega
        · have h2 : 2 ^ 8 ≤ 2 ^ j := Nat.pow_le_pow_right (by omega) (by omega)
          exact Nat.testBit_lt_two_pow (by have := getD_byte hb (n / 8); omega)
      rw [h4]; simp
    · simp [h1]
/-- The error's number of reading bytes as a set of 'n' places. -/
def rdE (b : List Nat) (n : Int) : Nat :=
  if n < 0 ∨ 65536 < n then 1 else if b.length < siz n.toNat then 2 else if siz n.toNat < b.length then 3 else if lef b n.toNat = true then 4 else 0
theorem rdE_ok {b : List Nat} {n : Int} (hb : ∀ x ∈ b, x < 256) (h : rdE b n = 0) : 0 ≤ n ∧ n ≤ 65536 ∧ OkS n.toNat b := by
  unfold rdE at h
  split at h
  · cases h
  split at h
  · cases h
  split at h
  · cases h
  split at h
  · cases h
  rename_i h1 h2 h3 h4
  exact ⟨by omega, by omega, (lef_no (by omega) hb).1 (by simpa using h4)⟩
theorem rdE_of_ok {n : Nat} {b : List Nat} (hn : n ≤ 65536) (h : OkS n b) : rdE b (n : Int) = 0 := by
  unfold rdE
  have := h.len
  rw [if_neg (by omega), if_neg (by rw [Int.toNat_natCast]; omega), if_neg (by rw [Int.toNat_natCast]; omega), if_neg]
  rw [Int.toNat_natCast, (lef_no h.len h.byte).2 h]
  simp
end Go.Proofs.YtieknhhhcjdbnaaDoor

/- The bytes of a set of so many places, of which those are marked that a truth says. No program. -/
namespace Go.Proofs.YtieknhhhcjdbnaaDoor
set_option linter.unusedVariables false
set_option linter.unusedSimpArgs false

/-- The bytes of a set of 'n' places, of which the places of 'f' are marked. -/
def setB (f : Nat → Bool) (n : Nat) : List Nat := (sel f n).foldl mark (List.replicate (siz n) 0)
theorem marks_ok {n : Nat} : ∀ (ps : List Nat) (l : List Nat), OkS n l → (∀ p ∈ ps, p < n) → OkS n (ps.foldl mark l) ∧ ∀ k, bit (ps.foldl mark l) k = (decide (k ∈ ps) || bit l k) := by
  intro ps
  induction ps with
  | nil => intro l h _; exact ⟨h, fun k => by simp⟩
  | cons p ps ih =>
    intro l h hp
    have hpn : p < n := hp p (by simp)
    obtain ⟨h1, h2⟩ := ih (mark l p) (h.mark hpn) (fun q hq => hp q (by simp [hq]))
    refine ⟨h1, fun k => ?_⟩
    rw [List.foldl_cons, h2, bit_mark _ _ _ (by rw [h.len]; exact siz_lt hpn)]
    by_cases e1 : k ∈ ps <;> by_cases e2 : k = p <;> simp [e1, e2]
theorem sel_mem (f : Nat → Bool) (n k : Nat) : k ∈ sel f n ↔ k < n ∧ f k = true := by
  induction n with
  | zero => simp [sel]
  | succ n ih =>
    rw [sel, List.mem_append, ih]
    constructor
    · rintro (⟨h1, h2⟩ | h)
      · exact ⟨by omega, h2⟩
      · cases e : f n with
        | true => rw [e] at h; simp at h; subst h; exact ⟨by omega, e⟩
        | false => rw [e] at h; simp at h
    · rintro ⟨h1, h2⟩
      by_cases e : k = n
      · subst e; right; simp [h2]
      · left; exact ⟨by omega, h2⟩
theorem setB_ok (f : Nat → Bool) (n : Nat) : OkS n (setB f n) ∧ ∀ k, k < n → bit (setB f n) k = f k := by
  obtain ⟨h1, h2⟩ := marks_ok (sel f n) _ (OkS.new n) (sel_lt f n)
  refine ⟨h1, fun k hk => ?_⟩
  rw [setB, h2, bit_zeros, Bool.or_false]
  cases e : f k with
  | true => simp [sel_mem, hk, e]
  | false => simp [sel_mem, e]
theorem setB_length (f : Nat → Bool) (n : Nat) : (setB f n).length = siz n := (setB_ok f n).1.len
theorem setB_is {f : Nat → Bool} {n : Nat} {l : List Nat} (h : OkS n l) (hb : ∀ k, k < n → bit l k = f k) : setB f n = l :=
  (setB_ok f n).1.ext h fun k hk => by rw [(setB_ok f n).2 k hk, hb k hk]
theorem cnt_pos {f : Nat → Bool} {n k : Nat} (hk : k < n) (h : f k = true) : 0 < cnt f n := by
  induction n with
  | zero => omega
  | succ n ih =>
    rw [cnt]
    by_cases e : k = n
    · subst e; rw [h]; simp
    · have := ih (by omega); omega
theorem cnt_none {f : Nat → Bool} {n : Nat} (h : cnt f n = 0) : ∀ k, k < n → f k = false := by
  intro k hk
  cases e : f k with
  | false => rfl
  | true => have := cnt_pos hk e; omega
theorem cnt_off {f : Nat → Bool} : ∀ {n : Nat}, (∀ k, k < n → f k = false) → cnt f n = 0 := by
  intro n
  induction n with
  | zero => intro _; rfl
  | succ n ih => intro h; rw [cnt, ih fun k hk => h k (by omega), h n (by omega)]; rfl
theorem bit_nil (k : Nat) : bit [] k = false := by simp [bit]
end Go.Proofs.YtieknhhhcjdbnaaDoor
