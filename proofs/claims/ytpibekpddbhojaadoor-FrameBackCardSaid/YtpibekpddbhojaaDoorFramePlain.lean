/- Frames, plainly: a part's frame; what the first frame of bytes is, or why there is none; all frames of bytes. No program, no condition. -/
import Derived.Test.YtpibekpddbhojaaDoorPlain
import Derived.Test.YtpibekpddbhojaaDoorCrcPlain
namespace Go.Proofs.YtpibekpddbhojaaDoor
set_option linter.unusedVariables false

/-- The frame of a part. -/
def fr (p : List Nat) : List Nat := fx 4 p.length ++ fx 4 (sumN (fx 4 p.length ++ p)) ++ p
/-- The length that bytes tell. -/
def fz (b : List Nat) : Nat := unfx (b.take 4)
/-- The part of the frame that begins bytes, how many bytes the frame has, an error's number. -/
def getS (b : List Nat) : List Nat × Nat × Int :=
  if b.length < 4 then ([], 0, 2)
  else if 16777216 < fz b then ([], 0, 12)
  else if b.length < 8 + fz b then ([], 0, 2)
  else if sumN (b.take 4 ++ (b.drop 8).take (fz b)) ≠ unfx ((b.drop 4).take 4) then ([], 0, 6)
  else ((b.drop 8).take (fz b), 8 + fz b, 0)
/-- All frames of bytes, with fuel. -/
def allF : Nat → List Nat → List (List Nat) × Nat
  | 0, _ => ([], 0)
  | f + 1, b => if (getS b).2.2 = 0 then ((getS b).1 :: (allF f (b.drop (getS b).2.1)).1, (getS b).2.1 + (allF f (b.drop (getS b).2.1)).2) else ([], 0)
def allS (b : List Nat) : List (List Nat) × Nat := allF (b.length + 1) b

theorem fr_length (p : List Nat) : (fr p).length = 8 + p.length := by simp [fr, fx_length]; omega
theorem fr_byte (p : List Nat) (h : ∀ b ∈ p, b < 256) : ∀ b ∈ fr p, b < 256 := by
  intro b hb
  unfold fr at hb
  rcases List.mem_append.1 hb with hb | hb
  · rcases List.mem_append.1 hb with hb | hb
    · exact fx_byte _ _ b hb
    · exact fx_byte _ _ b hb
  · exact h b hb
theorem getS_cases (b : List Nat) : ((getS b).1 = [] ∧ (getS b).2.1 = 0 ∧ ((getS b).2.2 = 2 ∨ (getS b).2.2 = 12 ∨ (getS b).2.2 = 6)) ∨
    ((getS b).2.2 = 0 ∧ 8 ≤ (getS b).2.1 ∧ (getS b).2.1 ≤ b.length ∧ (getS b).2.1 = 8 + (getS b).1.length) := by
  unfold getS
  split
  · simp
  · split
    · simp
    · split
      · simp
      · split
        · simp
        · right
          simp only [List.length_take, List.length_drop]
          refine ⟨by trivial, by omega, by omega, ?_⟩
          omega
theorem getS_byte (b : List Nat) (h : ∀ x ∈ b, x < 256) : ∀ x ∈ (getS b).1, x < 256 := by
  unfold getS
  intro x
  split
  · simp
  · split
    · simp
    · split
      · simp
      · split
        · simp
        · intro hx; exact h x (List.mem_of_mem_drop (List.mem_of_mem_take hx))
theorem getS_fr (p m : List Nat) (hp : p.length ≤ 16777216) : getS (fr p ++ m) = (p, 8 + p.length, 0) := by
  have e1 : (fr p ++ m).take 4 = fx 4 p.length := by
    unfold fr
    rw [List.append_assoc, List.append_assoc, List.take_append_of_le_length (by simp [fx_length]), List.take_of_length_le (by simp [fx_length])]
  have e2 : fz (fr p ++ m) = p.length := by
    unfold fz
    rw [e1, unfx_fx, Nat.mod_eq_of_lt]
    have : (256 : Nat) ^ 4 = 4294967296 := by decide
    omega
  have e3 : (fr p ++ m).drop 8 = p ++ m := by
    unfold fr
    rw [List.append_assoc, List.drop_append]
    simp [fx_length]
  have e4 : ((fr p ++ m).drop 4).take 4 = fx 4 (sumN (fx 4 p.length ++ p)) := by
    unfold fr
    rw [List.append_assoc, List.append_assoc, List.drop_append]
    simp [fx_length, List.drop_of_length_le]
  have e5 : (p ++ m).take p.length = p := by simp
  have e6 : unfx (fx 4 (sumN (fx 4 p.length ++ p))) = sumN (fx 4 p.length ++ p) := by
    rw [unfx_fx, Nat.mod_eq_of_lt]
    have : (256 : Nat) ^ 4 = 4294967296 := by decide
    have := sumN_lt (fx 4 p.length ++ p)
    omega
  have e7 : (fr p ++ m).length = 8 + p.length + m.length := by simp [fr_length]
  unfold getS
  rw [e1, e2, e3, e4, e5, e6, e7, if_neg (by omega), if_neg (by omega), if_neg (by omega), if_neg (by simp)]
theorem getS_short (b : List Nat) (h : b.length < 8) : (getS b).2.2 ≠ 0 ∧ (getS b).1 = [] ∧ (getS b).2.1 = 0 := by
  unfold getS
  split
  · simp
  · split
    · simp
    · rw [if_pos (by omega)]; simp
/-- Whatever stands behind the first frame. -/
theorem getS_app (a b : List Nat) (h : (getS a).2.2 = 0) : getS (a ++ b) = getS a := by
  unfold getS at h ⊢
  by_cases h1 : a.length < 4
  · rw [if_pos h1] at h; simp at h
  · rw [if_neg h1] at h ⊢
    have t4 : (a ++ b).take 4 = a.take 4 := List.take_append_of_le_length (by omega)
    have ez : fz (a ++ b) = fz a := by unfold fz; rw [t4]
    rw [t4, ez]
    by_cases h2 : 16777216 < fz a
    · rw [if_pos h2] at h; simp at h
    · rw [if_neg h2] at h ⊢
      by_cases h3 : a.length < 8 + fz a
      · rw [if_pos h3] at h; simp at h
      · rw [if_neg h3] at h ⊢
        have d8 : ((a ++ b).drop 8).take (fz a) = (a.drop 8).take (fz a) := by
          rw [List.drop_append_of_le_length (by omega), List.take_append_of_le_length (by rw [List.length_drop]; omega)]
        have d4 : ((a ++ b).drop 4).take 4 = (a.drop 4).take 4 := by
          rw [List.drop_append_of_le_length (by omega), List.take_append_of_le_length (by rw [List.length_drop]; omega)]
        rw [d8, d4, if_neg (by rw [List.length_append]; omega), if_neg (by rw [List.length_append]; omega), if_neg h2]
theorem allF_fuel (f : Nat) : ∀ g b, b.length < f → b.length < g → allF f b = allF g b := by
  induction f with
  | zero => intro g b h; omega
  | succ f ih =>
    intro g b h1 h2
    obtain ⟨g, rfl⟩ : ∃ k, g = k + 1 := ⟨g - 1, by omega⟩
    unfold allF
    by_cases h : (getS b).2.2 = 0
    · rw [if_pos h, if_pos h]
      have hc := getS_cases b
      have hl : (b.drop (getS b).2.1).length < f := by rw [List.length_drop]; omega
      have hl2 : (b.drop (getS b).2.1).length < g := by rw [List.length_drop]; omega
      rw [ih g _ hl hl2]
    · rw [if_neg h, if_neg h]
theorem allS_stop (b : List Nat) (h : (getS b).2.2 ≠ 0) : allS b = ([], 0) := by unfold allS allF; rw [if_neg h]
theorem allS_go (b : List Nat) (h : (getS b).2.2 = 0) : allS b = ((getS b).1 :: (allS (b.drop (getS b).2.1)).1, (getS b).2.1 + (allS (b.drop (getS b).2.1)).2) := by
  have hc := getS_cases b
  have hl : (b.drop (getS b).2.1).length < b.length := by rw [List.length_drop]; omega
  have e : allF b.length (b.drop (getS b).2.1) = allS (b.drop (getS b).2.1) := by
    unfold allS
    exact allF_fuel _ _ _ hl (by omega)
  rw [← e]
  rw [show allS b = allF (b.length + 1) b from rfl]
  rw [show allF (b.length + 1) b = if (getS b).2.2 = 0 then ((getS b).1 :: (allF b.length (b.drop (getS b).2.1)).1, (getS b).2.1 + (allF b.length (b.drop (getS b).2.1)).2) else ([], 0) from rfl, if_pos h]
theorem allS_le (b : List Nat) : (allS b).2 ≤ b.length := by
  obtain ⟨n, hn⟩ : ∃ n, b.length = n := ⟨_, rfl⟩
  induction n using Nat.strongRecOn generalizing b with
  | ind n ih =>
    by_cases h : (getS b).2.2 = 0
    · have hc := getS_cases b
      have hl : (b.drop (getS b).2.1).length < n := by rw [List.length_drop]; omega
      have := ih _ hl _ rfl
      rw [allS_go b h]
      rw [List.length_drop] at this
      simp only
      omega
    · rw [allS_stop b h]; simp
/-- Frames of parts, and less than a frame behind them. -/
theorem allS_frames (l : List (List Nat)) (m : List Nat) (hl : ∀ p ∈ l, p.length ≤ 16777216) (hm : m.length < 8) : allS ((l.map fr).flatten ++ m) = (l, (l.map fr).flatten.length) := by
  induction l with
  | nil => simp only [List.map_nil, List.flatten_nil, List.nil_append, List.length_nil]; exact allS_stop _ (getS_short m hm).1
  | cons p l ih =>
    have hg := getS_fr p ((l.map fr).flatten ++ m) (hl p (by simp))
    rw [List.map_cons, List.flatten_cons, List.append_assoc]
    rw [allS_go _ (by rw [hg]), hg]
    have hd : (fr p ++ ((l.map fr).flatten ++ m)).drop (8 + p.length) = (l.map fr).flatten ++ m := by
      rw [List.drop_append, List.drop_of_length_le (by rw [fr_length]; omega), fr_length]
      simp
    simp only [hd, ih fun q hq => hl q (by simp [hq]), List.length_append, fr_length]
/-- Behind frames that are whole. -/
theorem allS_app (a b : List Nat) (h : (allS a).2 = a.length) : allS (a ++ b) = ((allS a).1 ++ (allS b).1, a.length + (allS b).2) := by
  obtain ⟨n, hn⟩ : ∃ n, a.length = n := ⟨_, rfl⟩
  induction n using Nat.strongRecOn generalizing a with
  | ind n ih =>
    by_cases hg : (getS a).2.2 = 0
    · have hc := getS_cases a
      have e := allS_go a hg
      rw [e] at h
      simp only at h
      have hl : (a.drop (getS a).2.1).length < n := by rw [List.length_drop]; omega
      have := ih _ hl (a.drop (getS a).2.1) (by rw [List.length_drop]; omega) rfl
      rw [e, allS_go (a ++ b) (by rw [getS_app a b hg]; exact hg), getS_app a b hg, List.drop_append_of_le_length (by omega), this, List.length_drop]
      simp only [List.cons_append]
      congr 1
      omega
    · rw [allS_stop a hg] at h ⊢
      simp only at h
      have : a = [] := List.eq_nil_of_length_eq_zero h.symm
      subst this
      simp

/-! A frame of which a bit is turned. -/
theorem unfx_inj (l : List Nat) : ∀ m : List Nat, l.length = m.length → (∀ b ∈ l, b < 256) → (∀ b ∈ m, b < 256) → unfx l = unfx m → l = m := by
  induction l with
  | nil => intro m h _ _ _; exact (List.eq_nil_of_length_eq_zero h.symm).symm
  | cons b l ih =>
    intro m h h1 h2 he
    cases m with
    | nil => simp at h
    | cons c m =>
      have hb := h1 b (by simp)
      have hc := h2 c (by simp)
      simp only [unfx] at he
      have e1 : b = c := by omega
      have e2 : unfx l = unfx m := by omega
      rw [e1, ih m (by simpa using h) (fun x hx => h1 x (by simp [hx])) (fun x hx => h2 x (by simp [hx])) e2]
theorem xor_self_ne {b x : Nat} (hx : x ≠ 0) : b ^^^ x ≠ b := by
  intro h
  apply hx
  have := congrArg (b ^^^ ·) h
  simp only [← Nat.xor_assoc, Nat.xor_self, Nat.zero_xor] at this
  exact this
/-- Bytes of which one is turned have another sum. -/
theorem sum_flip (l : List Nat) (i x : Nat) (hi : i < l.length) (hx : x ≠ 0) (hx2 : x < 256) (bl : ∀ b ∈ l, b < 256) : sumN (l.set i (l[i] ^^^ x)) ≠ sumN l := by
  intro he
  have b2 : ∀ b ∈ l.set i (l[i] ^^^ x), b < 256 := by
    intro b hb
    rcases List.mem_or_eq_of_mem_set hb with h | h
    · exact bl b h
    · subst h; exact Nat.xor_lt_two_pow (n := 8) (bl _ (List.getElem_mem hi)) hx2
  unfold sumN moreN at he
  have c1 := crc_lt _ (v := 4294967295 - 0) (by omega) b2
  have c2 := crc_lt _ (v := 4294967295 - 0) (by omega) bl
  have he2 : crc (4294967295 - 0) (l.set i (l[i] ^^^ x)) = crc (4294967295 - 0) l := by omega
  rw [crc_le, crc_le, List.length_set, le_set x l i hi, ← Nat.xor_assoc, sts_xor] at he2
  have hz : sts (8 * l.length) (256 ^ i * x) = 0 := by
    have h := congrArg (fun z => sts (8 * l.length) (4294967295 - 0 ^^^ le l) ^^^ z) he2
    simp only [← Nat.xor_assoc, Nat.xor_self, Nat.zero_xor] at h
    exact h
  have h256 : (256 : Nat) ^ i = 2 ^ (8 * i) := by rw [Nat.pow_mul]
  rw [h256, show 8 * l.length = 8 * i + (8 * l.length - 8 * i) by omega, sts_add, sts_pow] at hz
  exact hx (sts_eq_zero _ (by omega) hz)
theorem getS_turned (p : List Nat) (i x : Nat) (hp : p.length ≤ 16777216) (bp : ∀ b ∈ p, b < 256) (hi : i < (fr p).length) (hx : x ≠ 0) (hx2 : x < 256) :
    (getS ((fr p).set i ((fr p)[i] ^^^ x))).2.2 ≠ 0 ∨ (getS ((fr p).set i ((fr p)[i] ^^^ x))).2.1 ≠ (fr p).length := by
  rcases Classical.em ((getS ((fr p).set i ((fr p)[i] ^^^ x))).2.2 = 0) with h0 | h0
  case inr => exact .inl h0
  right
  intro hn
  have hF : fr p = fx 4 p.length ++ (fx 4 (sumN (fx 4 p.length ++ p)) ++ p) := by unfold fr; rw [List.append_assoc]
  have hlen := fr_length p
  have bF := fr_byte p bp
  obtain ⟨b', hb'⟩ : ∃ b', (fr p).set i ((fr p)[i] ^^^ x) = b' := ⟨_, rfl⟩
  have hl' : b'.length = 8 + p.length := by rw [← hb', List.length_set, hlen]
  have bB : ∀ b ∈ b', b < 256 := by
    rw [← hb']
    intro b hb
    rcases List.mem_or_eq_of_mem_set hb with h | h
    · exact bF b h
    · subst h; exact Nat.xor_lt_two_pow (n := 8) (bF _ (List.getElem_mem hi)) hx2
  have hne : b' ≠ fr p := by
    intro h
    have h1 : b'[i]? = (fr p)[i]? := by rw [h]
    rw [← hb', List.getElem?_set_self hi, List.getElem?_eq_getElem hi] at h1
    injection h1 with h1
    exact xor_self_ne hx h1
  rw [hb'] at h0 hn
  -- what Get saw
  unfold getS at h0 hn
  rw [if_neg (by omega)] at h0 hn
  by_cases h2 : 16777216 < fz b'
  · rw [if_pos h2] at h0; simp at h0
  rw [if_neg h2] at h0 hn
  by_cases h3 : b'.length < 8 + fz b'
  · rw [if_pos h3] at h0; simp at h0
  rw [if_neg h3] at h0 hn
  by_cases h4 : sumN (b'.take 4 ++ (b'.drop 8).take (fz b')) ≠ unfx ((b'.drop 4).take 4)
  · rw [if_pos h4] at h0; simp at h0
  rw [if_neg h4] at hn
  have hz : fz b' = p.length := by simp only at hn; omega
  have hs : sumN (b'.take 4 ++ (b'.drop 8).take (fz b')) = unfx ((b'.drop 4).take 4) := Classical.not_not.1 h4
  have p4 : (256 : Nat) ^ 4 = 4294967296 := by decide
  -- the length's bytes are as they were
  have ht4 : b'.take 4 = fx 4 p.length := by
    refine unfx_inj _ _ (by rw [List.length_take, fx_length]; omega) (fun b hb => bB b (List.mem_of_mem_take hb)) (fx_byte _ _) ?_
    rw [unfx_fx, Nat.mod_eq_of_lt (by omega)]
    exact hz
  have hd8 : (b'.drop 8).take (fz b') = b'.drop 8 := List.take_of_length_le (by rw [List.length_drop]; omega)
  rw [ht4, hd8] at hs
  have F4 : (fr p).take 4 = fx 4 p.length := by rw [hF, List.take_append_of_le_length (by rw [fx_length]; omega), List.take_of_length_le (by rw [fx_length]; omega)]
  have F8 : (fr p).drop 8 = p := by unfold fr; rw [List.drop_append, List.drop_of_length_le (by simp [fx_length])]; simp [fx_length]
  have FS : ((fr p).drop 4).take 4 = fx 4 (sumN (fx 4 p.length ++ p)) := by rw [hF, List.drop_append]; simp [fx_length, List.drop_of_length_le]
  have us : unfx (fx 4 (sumN (fx 4 p.length ++ p))) = sumN (fx 4 p.length ++ p) := by
    have := sumN_lt (fx 4 p.length ++ p)
    rw [unfx_fx, Nat.mod_eq_of_lt (by omega)]
  have split3 : ∀ z : List Nat, 8 ≤ z.length → z = z.take 4 ++ ((z.drop 4).take 4 ++ z.drop 8) := by
    intro z hz
    have a1 := List.take_append_drop 4 z
    have a2 := List.take_append_drop 4 (z.drop 4)
    rw [List.drop_drop] at a2
    rw [a2, a1]
  rcases Nat.lt_or_ge i 8 with hi8 | hi8
  · -- the part is as it was; so the sum's bytes are
    have e8 : b'.drop 8 = p := by
      rw [← hb', List.drop_set_of_lt (by omega), F8]
    rw [e8] at hs
    have e4 : (b'.drop 4).take 4 = fx 4 (sumN (fx 4 p.length ++ p)) := by
      refine unfx_inj _ _ (by rw [List.length_take, List.length_drop, fx_length]; omega) (fun b hb => bB b (List.mem_of_mem_drop (List.mem_of_mem_take hb))) (fx_byte _ _) ?_
      rw [us, hs]
    apply hne
    rw [split3 b' (by omega), split3 (fr p) (by omega), ht4, e4, e8, F4, FS, F8]
  · -- the sum's bytes are as they were; the part has one byte turned
    have e4 : (b'.drop 4).take 4 = fx 4 (sumN (fx 4 p.length ++ p)) := by
      rw [← hb', List.drop_set, if_neg (by omega), List.take_set_of_le (by omega), FS]
    rw [e4, us] at hs
    have hi' : i - 4 < (fx 4 p.length ++ p).length := by rw [List.length_append, fx_length]; omega
    have gi : (fx 4 p.length ++ p)[i - 4] = (fr p)[i] := by
      have h1 : (fx 4 p.length ++ p)[i - 4]? = (fr p)[i]? := by
        have h2 : (fr p)[i]? = ((fr p).drop 8)[i - 8]? := by rw [List.getElem?_drop]; congr 1; omega
        rw [h2, F8, List.getElem?_append_right (by rw [fx_length]; omega), fx_length]
        congr 1
      rw [List.getElem?_eq_getElem hi', List.getElem?_eq_getElem hi] at h1
      injection h1
    have e8 : fx 4 p.length ++ b'.drop 8 = (fx 4 p.length ++ p).set (i - 4) ((fx 4 p.length ++ p)[i - 4] ^^^ x) := by
      rw [gi, ← hb', List.drop_set, if_neg (by omega), F8, List.set_append_right _ _ (by rw [fx_length]; omega), fx_length]
      congr 2
    rw [e8] at hs
    refine sum_flip _ (i - 4) x hi' hx hx2 ?_ hs
    intro b hb
    rcases List.mem_append.1 hb with hb | hb
    · exact fx_byte _ _ b hb
    · exact bp b hb
end Go.Proofs.YtpibekpddbhojaaDoor
