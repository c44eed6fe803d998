/- Plain facts: numbers packed in a width are the digits of one number; its bytes are its digits base 256. No condition. -/
namespace Go.Proofs.YtfpbijnlmlaloaaDoor

/-- The number whose digits base 2^w are 'l', the lowest first. -/
def pk (w : Nat) : List Nat → Nat
  | [] => 0
  | a :: l => a + 2 ^ w * pk w l
/-- The 'n' lowest digits base 2^w of 'V', the lowest first. -/
def dg (w : Nat) : Nat → Nat → List Nat
  | 0, _ => []
  | n + 1, V => V % 2 ^ w :: dg w n (V / 2 ^ w)

theorem pk_cons (w a : Nat) (l : List Nat) : pk w (a :: l) = a + 2 ^ w * pk w l := rfl
theorem pk_append (w : Nat) (l m : List Nat) : pk w (l ++ m) = pk w l + 2 ^ (w * l.length) * pk w m := by
  induction l with
  | nil => simp [pk]
  | cons a l ih =>
    rw [List.cons_append, pk_cons, pk_cons, ih, List.length_cons, Nat.mul_succ, Nat.pow_add, Nat.mul_add, Nat.add_assoc]
    congr 2
    rw [← Nat.mul_assoc, Nat.mul_comm (2 ^ w)]
theorem pk_snoc (w : Nat) (l : List Nat) (a : Nat) : pk w (l ++ [a]) = pk w l + 2 ^ (w * l.length) * a := by
  rw [pk_append]; simp [pk]
theorem pk_lt (w : Nat) (l : List Nat) (h : ∀ a ∈ l, a < 2 ^ w) : pk w l < 2 ^ (w * l.length) := by
  induction l with
  | nil => simp [pk]
  | cons a l ih =>
    have h1 := h a (by simp)
    have h2 := ih fun x hx => h x (by simp [hx])
    rw [pk_cons, List.length_cons, Nat.mul_succ, Nat.pow_add, Nat.mul_comm (2 ^ (w * l.length))]
    calc a + 2 ^ w * pk w l < 2 ^ w + 2 ^ w * pk w l := by omega
      _ = 2 ^ w * (pk w l + 1) := by rw [Nat.mul_add]; omega
      _ ≤ 2 ^ w * 2 ^ (w * l.length) := Nat.mul_le_mul_left _ h2
theorem dg_succ (w n V : Nat) : dg w (n + 1) V = V % 2 ^ w :: dg w n (V / 2 ^ w) := rfl
theorem dg_length (w n V : Nat) : (dg w n V).length = n := by
  induction n generalizing V with
  | zero => rfl
  | succ n ih => rw [dg_succ, List.length_cons, ih]
theorem dg_lt (w n V : Nat) : ∀ a ∈ dg w n V, a < 2 ^ w := by
  induction n generalizing V with
  | zero => intro a h; cases h
  | succ n ih =>
    intro a h
    rw [dg_succ] at h
    rcases List.mem_cons.1 h with rfl | h
    · exact Nat.mod_lt _ (Nat.two_pow_pos w)
    · exact ih _ a h
theorem pk_dg (w n V : Nat) : pk w (dg w n V) = V % 2 ^ (w * n) := by
  induction n generalizing V with
  | zero => simp [dg, pk, Nat.mod_one]
  | succ n ih => rw [dg_succ, pk_cons, ih, Nat.mul_succ, Nat.pow_add, Nat.mul_comm (2 ^ (w * n)), Nat.mod_mul]
theorem dg_pk (w : Nat) (l : List Nat) (h : ∀ a ∈ l, a < 2 ^ w) : dg w l.length (pk w l) = l := by
  induction l with
  | nil => rfl
  | cons a l ih =>
    have h1 := h a (by simp)
    rw [List.length_cons, dg_succ, pk_cons, Nat.add_mul_mod_self_left, Nat.mod_eq_of_lt h1, Nat.add_mul_div_left _ _ (Nat.two_pow_pos w), Nat.div_eq_of_lt h1, Nat.zero_add,
      ih fun x hx => h x (by simp [hx])]
theorem dg_add (w m n V : Nat) : dg w (m + n) V = dg w m V ++ dg w n (V / 2 ^ (w * m)) := by
  induction m generalizing V with
  | zero => simp [dg]
  | succ m ih =>
    rw [Nat.succ_add, dg_succ, dg_succ, ih, List.cons_append, Nat.div_div_eq_div_mul, Nat.mul_succ, Nat.pow_add, Nat.mul_comm (2 ^ w)]
theorem dg_snoc (w n V : Nat) : dg w (n + 1) V = dg w n V ++ [V / 2 ^ (w * n) % 2 ^ w] := by
  rw [dg_add]; rfl
theorem dg_over (w n V X : Nat) : dg w n (V + 2 ^ (w * n) * X) = dg w n V := by
  induction n generalizing V with
  | zero => rfl
  | succ n ih =>
    rw [dg_succ, dg_succ, Nat.mul_succ, Nat.add_comm (w * n) w, Nat.pow_add, Nat.mul_assoc, Nat.add_mul_mod_self_left, Nat.add_mul_div_left _ _ (Nat.two_pow_pos w), ih]
theorem dg_zero_width (n V : Nat) : dg 0 n V = List.replicate n 0 := by
  induction n generalizing V with
  | zero => rfl
  | succ n ih => rw [dg_succ, ih, Nat.pow_zero, Nat.mod_one, List.replicate_succ]
theorem dg_of_zero (w n : Nat) : dg w n 0 = List.replicate n 0 := by
  induction n with
  | zero => rfl
  | succ n ih => rw [dg_succ, Nat.zero_mod, Nat.zero_div, ih, List.replicate_succ]
/-- A digit, and what is above it. -/
theorem pk_drop (w : Nat) (l : List Nat) (h : ∀ a ∈ l, a < 2 ^ w) (i : Nat) : pk w l / 2 ^ (w * i) = pk w (l.drop i) := by
  induction i generalizing l with
  | zero => simp
  | succ i ih =>
    cases l with
    | nil => simp [pk]
    | cons a l =>
      have h1 := h a (by simp)
      rw [List.drop_succ_cons, ← ih l fun x hx => h x (by simp [hx]), pk_cons, Nat.mul_succ, Nat.add_comm (w * i), Nat.pow_add, ← Nat.div_div_eq_div_mul, Nat.add_mul_div_left _ _ (Nat.two_pow_pos w), Nat.div_eq_of_lt h1, Nat.zero_add]
/-- A bit of the whole is a bit of the digit that it lies in. -/
theorem pk_bit (w : Nat) (l : List Nat) (h : ∀ a ∈ l, a < 2 ^ w) (i k : Nat) (hi : i < l.length) (hk : k < w) : pk w l / 2 ^ (w * i + k) % 2 = l[i] / 2 ^ k % 2 := by
  rw [Nat.pow_add, ← Nat.div_div_eq_div_mul, pk_drop w l h, List.drop_eq_getElem_cons hi, pk_cons]
  obtain ⟨d, rfl⟩ : ∃ d, w = k + (d + 1) := ⟨w - k - 1, by omega⟩
  rw [Nat.pow_add, Nat.mul_assoc, Nat.add_mul_div_left _ _ (Nat.two_pow_pos k), Nat.pow_succ, Nat.mul_comm (2 ^ d) 2, Nat.mul_assoc, Nat.add_mul_mod_self_left]
/-- One bit more of a beginning, from the top down. -/
theorem bit_down (V m j : Nat) : V / 2 ^ m % 2 ^ (j + 1) = 2 * (V / 2 ^ (m + 1) % 2 ^ j) + V / 2 ^ m % 2 := by
  rw [Nat.pow_succ 2 j, Nat.mul_comm (2 ^ j) 2, Nat.mod_mul, Nat.pow_succ 2 m, ← Nat.div_div_eq_div_mul]
  omega

/-- How many bits a number has. -/
def blen (v : Nat) : Nat := if v = 0 then 0 else v.log2 + 1
theorem blen_le (v k : Nat) : blen v ≤ k ↔ v < 2 ^ k := by
  unfold blen
  by_cases h : v = 0
  · simp [h, Nat.two_pow_pos]
  · rw [if_neg h, ← Nat.log2_lt h]; omega
theorem blen_half (v : Nat) (h : 0 < v) : blen v = blen (v / 2) + 1 := by
  have h1 : ∀ k, blen v ≤ k + 1 ↔ blen (v / 2) ≤ k := fun k => by
    rw [blen_le, blen_le, Nat.pow_succ]; omega
  have h2 := (h1 (blen (v / 2))).2 (Nat.le_refl _)
  have h3 : 0 < blen v := by
    rcases Nat.eq_zero_or_pos (blen v) with h0 | h0
    · have := (blen_le v 0).1 (by omega); simp at this; omega
    · exact h0
  have h4 := (h1 (blen v - 1)).1 (by omega)
  omega
theorem blen_or (a b : Nat) : blen (a ||| b) = max (blen a) (blen b) := by
  have h : ∀ k, blen (a ||| b) ≤ k ↔ max (blen a) (blen b) ≤ k := fun k => by
    rw [Nat.max_le, blen_le, blen_le, blen_le]
    constructor
    · intro h; exact ⟨Nat.lt_of_le_of_lt Nat.left_le_or h, Nat.lt_of_le_of_lt Nat.right_le_or h⟩
    · intro h; exact Nat.or_lt_two_pow h.1 h.2
  have h1 := (h _).1 (Nat.le_refl _)
  have h2 := (h _).2 (Nat.le_refl _)
  omega
theorem blen_lt64 (v : Nat) (h : v < 18446744073709551616) : blen v ≤ 64 := (blen_le v 64).2 (by simpa using h)
/-- The least width that all go into. -/
def wd : List Nat → Nat := List.foldl (fun m a => max m (blen a)) 0
/-- All of them, bit by bit by or. -/
def orl : List Nat → Nat := List.foldl (· ||| ·) 0
theorem wd_snoc (l : List Nat) (a : Nat) : wd (l ++ [a]) = max (wd l) (blen a) := by simp [wd]
theorem orl_snoc (l : List Nat) (a : Nat) : orl (l ++ [a]) = orl l ||| a := by simp [orl]
theorem snoc_ind {p : List Nat → Prop} (h0 : p []) (h1 : ∀ l a, p l → p (l ++ [a])) (l : List Nat) : p l := by
  have : ∀ m : List Nat, p m.reverse := fun m => by
    induction m with
    | nil => exact h0
    | cons a m ih => rw [List.reverse_cons]; exact h1 _ _ ih
  have := this l.reverse
  rwa [List.reverse_reverse] at this
theorem wd_le (l : List Nat) (k : Nat) : wd l ≤ k ↔ ∀ a ∈ l, a < 2 ^ k := by
  refine snoc_ind (p := fun l => wd l ≤ k ↔ ∀ a ∈ l, a < 2 ^ k) ?_ ?_ l
  · simp [wd]
  · intro l a ih
    rw [wd_snoc, Nat.max_le, ih, blen_le]
    simp only [List.mem_append, List.mem_singleton]
    constructor
    · rintro ⟨h1, h2⟩ x (hx | rfl)
      · exact h1 x hx
      · exact h2
    · intro h
      exact ⟨fun x hx => h x (.inl hx), h a (.inr rfl)⟩
theorem blen_orl (l : List Nat) : blen (orl l) = wd l := by
  refine snoc_ind (p := fun l => blen (orl l) = wd l) rfl ?_ l
  intro l a ih
  rw [orl_snoc, wd_snoc, blen_or, ih]
theorem orl_lt (l : List Nat) (k : Nat) (h : ∀ a ∈ l, a < 2 ^ k) : orl l < 2 ^ k := by
  rw [← blen_le, blen_orl, wd_le]; exact h

/-- How many bytes 'n' numbers have in a width. -/
def sz (n w : Nat) : Nat := (n * w + 7) / 8
/-- The numbers' bytes. -/
def packB (w : Nat) (l : List Nat) : List Nat := dg 8 (sz l.length w) (pk w l)
theorem packB_length (w : Nat) (l : List Nat) : (packB w l).length = sz l.length w := dg_length _ _ _
theorem packB_byte (w : Nat) (l : List Nat) : ∀ b ∈ packB w l, b < 256 := dg_lt 8 _ _
theorem sz_le (n w : Nat) : w * n ≤ 8 * sz n w := by unfold sz; rw [Nat.mul_comm w n]; omega
/-- What is packed is unpacked as it was. -/
theorem pk_packB (w : Nat) (l : List Nat) (h : ∀ a ∈ l, a < 2 ^ w) : pk 8 (packB w l) = pk w l := by
  unfold packB
  rw [pk_dg]
  exact Nat.mod_eq_of_lt (Nat.lt_of_lt_of_le (pk_lt w l h) (Nat.pow_le_pow_right (by omega) (sz_le _ _)))
theorem unpack_pack (w : Nat) (l : List Nat) (h : ∀ a ∈ l, a < 2 ^ w) : dg w l.length (pk 8 (packB w l)) = l := by
  rw [pk_packB w l h, dg_pk w l h]
theorem pack_unpack (w n : Nat) (b : List Nat) (hb : ∀ a ∈ b, a < 256) (hl : b.length = sz n w) (hv : pk 8 b < 2 ^ (w * n)) : packB w (dg w n (pk 8 b)) = b := by
  unfold packB
  rw [dg_length, pk_dg, Nat.mod_eq_of_lt hv, ← hl, dg_pk 8 b hb]
theorem packB_append (w : Nat) (a b : List Nat) (ha : ∀ x ∈ a, x < 2 ^ w) (h8 : a.length * w % 8 = 0) : packB w (a ++ b) = packB w a ++ packB w b := by
  have hs : 8 * sz a.length w = w * a.length := by unfold sz; rw [Nat.mul_comm w]; omega
  have hs2 : sz (a ++ b).length w = sz a.length w + sz b.length w := by
    unfold sz; rw [List.length_append, Nat.add_mul]; omega
  unfold packB
  rw [hs2, dg_add, pk_append]
  congr 1
  · rw [← hs, dg_over]
  · rw [hs, Nat.add_mul_div_left _ _ (Nat.two_pow_pos _), Nat.div_eq_of_lt (pk_lt w a ha), Nat.zero_add]
end Go.Proofs.YtfpbijnlmlaloaaDoor
