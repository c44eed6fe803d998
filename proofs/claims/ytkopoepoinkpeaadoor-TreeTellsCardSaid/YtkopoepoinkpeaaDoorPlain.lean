/- Plain facts on numbers as bytes: the short number's bytes, the fixed number's bytes and its value. No condition. -/
namespace Go.Proofs.YtkopoepoinkpeaaDoor

/-- The short number of 'v', with fuel. -/
def vbF : Nat → Nat → List Nat
  | 0, v => [v]
  | f + 1, v => if v < 128 then [v] else (128 + v % 128) :: vbF f (v / 128)
/-- The short number of 'v' (below 2^64). -/
def vb (v : Nat) : List Nat := vbF 9 v

theorem vbF_step (f v : Nat) : vbF (f + 1) v = if v < 128 then [v] else (128 + v % 128) :: vbF f (v / 128) := rfl
theorem vbF_succ (f v : Nat) (h : v < 128 ^ (f + 1)) : vbF (f + 1) v = vbF f v := by
  induction f generalizing v with
  | zero => unfold vbF; rw [if_pos (by simpa using h)]
  | succ f ih =>
    rw [vbF_step (f + 1) v, vbF_step f v]
    by_cases h1 : v < 128
    · rw [if_pos h1, if_pos h1]
    · rw [if_neg h1, if_neg h1, ih]
      rw [Nat.pow_succ] at h
      exact Nat.div_lt_of_lt_mul (by omega)
theorem vb_small (v : Nat) (h : v < 128) : vb v = [v] := by unfold vb; rw [vbF_step, if_pos h]
theorem vb_big (v : Nat) (h : ¬ v < 128) (h2 : v < 18446744073709551616) : vb v = (128 + v % 128) :: vb (v / 128) := by
  unfold vb
  rw [vbF_step 8 v, if_neg h, vbF_succ 8 (v / 128)]
  have : (128 : Nat) ^ (8 + 1) = 9223372036854775808 := by decide
  rw [this]; omega
theorem vbF_length (f v : Nat) : 0 < (vbF f v).length ∧ (vbF f v).length ≤ f + 1 := by
  induction f generalizing v with
  | zero => simp [vbF]
  | succ f ih =>
    rw [vbF_step]
    by_cases h : v < 128
    · rw [if_pos h]; simp
    · rw [if_neg h]; have := ih (v / 128); simp only [List.length_cons]; omega
theorem vb_length (v : Nat) : 0 < (vb v).length ∧ (vb v).length ≤ 10 := by have := vbF_length 9 v; unfold vb; omega
theorem vbF_byte (f v : Nat) (h : v < 128 ^ (f + 1)) : ∀ b ∈ vbF f v, b < 256 := by
  induction f generalizing v with
  | zero => intro b hb; simp [vbF] at hb h; omega
  | succ f ih =>
    rw [vbF_step]
    by_cases h1 : v < 128
    · rw [if_pos h1]; intro b hb; simp at hb; omega
    · rw [if_neg h1]
      intro b hb
      rcases List.mem_cons.1 hb with rfl | hb
      · omega
      · refine ih _ ?_ b hb
        rw [Nat.pow_succ] at h
        exact Nat.div_lt_of_lt_mul (by omega)
theorem vb_byte (v : Nat) (h : v < 18446744073709551616) : ∀ b ∈ vb v, b < 256 :=
  vbF_byte 9 v (by have : (128 : Nat) ^ (9 + 1) = 1180591620717411303424 := by decide
                   rw [this]; omega)

/-- The fixed number of 'v' in 'n' bytes. -/
def fx : Nat → Nat → List Nat
  | 0, _ => []
  | n + 1, v => v % 256 :: fx n (v / 256)
/-- The number that fixed bytes are. -/
def unfx : List Nat → Nat
  | [] => 0
  | b :: l => b + 256 * unfx l
theorem fx_length (n v : Nat) : (fx n v).length = n := by
  induction n generalizing v with
  | zero => rfl
  | succ n ih => simp [fx, ih]
theorem fx_byte (n v : Nat) : ∀ b ∈ fx n v, b < 256 := by
  induction n generalizing v with
  | zero => intro b hb; simp [fx] at hb
  | succ n ih =>
    intro b hb
    rcases List.mem_cons.1 hb with rfl | hb
    · omega
    · exact ih _ b hb
theorem unfx_fx (n v : Nat) : unfx (fx n v) = v % 256 ^ n := by
  induction n generalizing v with
  | zero => simp [fx, unfx, Nat.mod_one]
  | succ n ih =>
    simp only [fx, unfx, ih]
    rw [Nat.pow_succ, Nat.mul_comm (256 ^ n) 256, Nat.mod_mul]
theorem unfx_lt (l : List Nat) (h : ∀ b ∈ l, b < 256) : unfx l < 256 ^ l.length := by
  induction l with
  | nil => simp [unfx]
  | cons b l ih =>
    have h1 := h b (by simp)
    have h2 := ih fun x hx => h x (by simp [hx])
    simp only [unfx, List.length_cons, Nat.pow_succ]
    omega
set_option maxRecDepth 10000 in
theorem bit7' : ∀ b : Fin 256, b.val ||| 128 = 128 + b.val % 128 := by decide +kernel
theorem bit7 (b : Nat) (h : b < 256) : b ||| 128 = 128 + b % 128 := bit7' ⟨b, h⟩
end Go.Proofs.YtkopoepoinkpeaaDoor
