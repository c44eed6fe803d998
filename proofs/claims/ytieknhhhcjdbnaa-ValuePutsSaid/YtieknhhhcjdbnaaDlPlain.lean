/- Plain facts on steps: how much each number is more than the one ahead, what has these steps, and the form of steps. No program, no condition. -/
import Derived.Test.YtieknhhhcjdbnaaPlPlain
import Derived.Test.YtieknhhhcjdbnaaArith64
namespace Go.Proofs.Ytieknhhhcjdbnaa
open Go.RowKit
set_option linter.unusedVariables false
set_option linter.unusedSimpArgs false
set_option maxRecDepth 100000

theorem w64_back (p z : Int) (h : In64 z) : wrap64 (p + wrap64 (z - p)) = z := by unfold In64 at h; rw [w64, w64]; omega
theorem w64_forth (p z : Int) (h : In64 z) : wrap64 (wrap64 (p + z) - p) = z := by unfold In64 at h; rw [w64, w64]; omega
theorem w64_shift (y z d : Int) : wrap64 (wrap64 (y + d) - wrap64 (z + d)) = wrap64 (y - z) := by rw [w64, w64, w64, w64]; omega
/-- The steps behind 'p'. -/
def stp (p : Int) : List Int → List Int
  | [] => []
  | z :: l => wrap64 (z - p) :: stp z l
/-- What has these steps, behind 'p'. -/
def sms (p : Int) : List Int → List Int
  | [] => []
  | s :: l => wrap64 (p + s) :: sms (wrap64 (p + s)) l
theorem stp_length (l : List Int) : ∀ p, (stp p l).length = l.length := by
  induction l with
  | nil => intro p; rfl
  | cons z l ih => intro p; simp [stp, ih]
theorem sms_length (l : List Int) : ∀ p, (sms p l).length = l.length := by
  induction l with
  | nil => intro p; rfl
  | cons z l ih => intro p; simp [sms, ih]
theorem stp_in (l : List Int) : ∀ p, ∀ z ∈ stp p l, In64 z := by
  induction l with
  | nil => intro p z h; simp [stp] at h
  | cons y l ih =>
    intro p z h
    rcases List.mem_cons.1 h with rfl | h
    · exact w64_in _
    · exact ih y z h
theorem sms_in (l : List Int) : ∀ p, ∀ z ∈ sms p l, In64 z := by
  induction l with
  | nil => intro p z h; simp [sms] at h
  | cons y l ih =>
    intro p z h
    rcases List.mem_cons.1 h with rfl | h
    · exact w64_in _
    · exact ih _ z h
theorem sms_stp (l : List Int) (h : ∀ z ∈ l, In64 z) : ∀ p, sms p (stp p l) = l := by
  induction l with
  | nil => intro p; rfl
  | cons z l ih =>
    intro p
    have e := w64_back p z (h z (by simp))
    simp only [stp, sms]
    rw [e, ih (fun x hx => h x (by simp [hx]))]
theorem stp_sms (l : List Int) (h : ∀ z ∈ l, In64 z) : ∀ p, stp p (sms p l) = l := by
  induction l with
  | nil => intro p; rfl
  | cons z l ih =>
    intro p
    have e := w64_forth p z (h z (by simp))
    simp only [stp, sms]
    rw [e, ih (fun x hx => h x (by simp [hx]))]
/-- The number ahead of place 'k'. -/
def ahd (p : Int) (l : List Int) (k : Nat) : Int := ((p :: l)[k]?).getD 0
theorem ahd_zero (p : Int) (l : List Int) : ahd p l 0 = p := rfl
theorem ahd_succ {p : Int} {l : List Int} {k : Nat} {z : Int} (h : l[k]? = some z) : ahd p l (k + 1) = z := by unfold ahd; simp [h]
theorem ahd_in {l : List Int} (h : ∀ z ∈ l, In64 z) (k : Nat) : In64 (ahd 0 l k) := by
  unfold ahd
  cases hk : (0 :: l)[k]? with
  | none => simp [In64]
  | some z =>
    rcases List.mem_cons.1 (List.mem_of_getElem? hk) with rfl | h1
    · simp [In64]
    · simpa using h z h1
theorem stp_at (l : List Int) : ∀ (p : Int) (k : Nat) (z : Int), l[k]? = some z → (stp p l)[k]? = some (wrap64 (z - ahd p l k)) := by
  induction l with
  | nil => intro p k z h; simp at h
  | cons y l ih =>
    intro p k z h
    cases k with
    | zero => simp at h; subst h; simp [stp, ahd]
    | succ k =>
      simp at h
      have := ih y k z h
      simp only [stp, List.getElem?_cons_succ]
      rw [this]
      rfl
/-- The sum behind so many steps. -/
def smA (p : Int) (l : List Int) : Nat → Int
  | 0 => p
  | k + 1 => wrap64 (smA p l k + (l[k]?).getD 0)
theorem smA_succ {p : Int} {l : List Int} {k : Nat} {z : Int} (h : l[k]? = some z) : smA p l (k + 1) = wrap64 (smA p l k + z) := by simp [smA, h]
theorem smA_in {p : Int} (hp : In64 p) (l : List Int) (k : Nat) : In64 (smA p l k) := by
  cases k with
  | zero => exact hp
  | succ k => exact w64_in _
theorem smA_cons (p z : Int) (l : List Int) : ∀ k, smA (wrap64 (p + z)) l k = smA p (z :: l) (k + 1) := by
  intro k
  induction k with
  | zero => simp [smA]
  | succ k ih => simp only [smA] at ih ⊢; rw [ih]; simp
theorem sms_at (l : List Int) : ∀ (p : Int) (k : Nat) (z : Int), l[k]? = some z → (sms p l)[k]? = some (smA p l (k + 1)) := by
  induction l with
  | nil => intro p k z h; simp at h
  | cons y l ih =>
    intro p k z h
    cases k with
    | zero => simp [sms, smA]
    | succ k =>
      simp at h
      simp only [sms, List.getElem?_cons_succ]
      rw [ih _ k z h, smA_cons]
/-! The form. -/
/-- The steps behind the first number, each turned. -/
def zb (l : List Int) : List Nat := ((stp 0 l).drop 1).map zg
theorem zb_length (l : List Int) : (zb l).length = l.length - 1 := by simp [zb, stp_length]
theorem zb_lt (l : List Int) : ∀ a ∈ zb l, a < 18446744073709551616 := by
  intro a h
  obtain ⟨z, hz, rfl⟩ := List.mem_map.1 h
  exact (zg_int (stp_in l 0 z (List.mem_of_mem_drop hz))).2
theorem wd_64 (l : List Nat) (h : ∀ a ∈ l, a < 18446744073709551616) : wd l ≤ 64 := (wd_le l 64).2 (by intro a ha; have := h a ha; omega)
theorem wd_zb (l : List Int) : wd (zb l) ≤ 64 := wd_64 _ (zb_lt l)
/-- The parts of the form: the first number, the width, the steps behind. -/
def dl1 (l : List Int) : List Nat := match l with | [] => [] | z :: _ => vb (zg z)
def dl2 (l : List Int) : List Nat := if l.length ≤ 1 then [] else [wd (zb l)]
def dl3 (l : List Int) : List Nat := if l.length ≤ 1 then [] else packB (wd (zb l)) (zb l)
def dl (l : List Int) : List Nat := dl1 l ++ dl2 l ++ dl3 l
theorem dl_nil : dl [] = [] := rfl
theorem dl1_cons (z : Int) (l : List Int) : dl1 (z :: l) = vb (zg z) := rfl
theorem dl_parts (l : List Int) : (dl1 l).length ≤ 10 ∧ (dl2 l).length ≤ 1 ∧ (l.length ≤ 65536 → (dl3 l).length ≤ 524289) := by
  refine ⟨?_, ?_, fun h => ?_⟩
  · cases l with
    | nil => simp [dl1]
    | cons z l => rw [dl1_cons]; exact (vb_length _).2
  · unfold dl2; split <;> simp
  · unfold dl3
    split
    · simp
    · rw [packB_length, zb_length]
      have h1 := wd_zb l
      have h2 : (l.length - 1) * wd (zb l) ≤ 65536 * 64 := Nat.mul_le_mul (by omega) h1
      unfold sz; omega
theorem dl_length (l : List Int) (h : l.length ≤ 65536) : (dl l).length ≤ 524300 := by
  obtain ⟨h1, h2, h3⟩ := dl_parts l
  have := h3 h
  unfold dl; rw [List.length_append, List.length_append]; omega
theorem dl_byte (l : List Int) (h : ∀ z ∈ l, In64 z) : ∀ b ∈ dl l, b < 256 := by
  intro b hb
  unfold dl at hb
  rcases List.mem_append.1 hb with hb | hb
  · rcases List.mem_append.1 hb with hb | hb
    · cases l with
      | nil => simp [dl1] at hb
      | cons z l => exact vb_byte _ (zg_int (h z (by simp))).2 b hb
    · unfold dl2 at hb
      have := wd_zb l
      split at hb
      · simp at hb
      · simp at hb; omega
  · unfold dl3 at hb
    split at hb
    · simp at hb
    · exact packB_byte _ _ b hb
/-- What is behind the head says all of the steps behind the first number. -/
theorem stp_shift (d : Int) (l : List Int) : ∀ z, stp (wrap64 (z + d)) (l.map fun y => wrap64 (y + d)) = stp z l := by
  induction l with
  | nil => intro z; rfl
  | cons y l ih => intro z; simp only [List.map_cons, stp]; rw [w64_shift, ih]
theorem zb_shift (d : Int) (l : List Int) : zb (l.map fun y => wrap64 (y + d)) = zb l := by
  cases l with
  | nil => rfl
  | cons z l => simp [zb, stp, stp_shift]
theorem drop_shift (d : Int) (l : List Int) : (stp 0 (l.map fun y => wrap64 (y + d))).drop 1 = (stp 0 l).drop 1 := by
  cases l with
  | nil => rfl
  | cons z l => simp [stp, stp_shift]
theorem dl_behind (l : List Int) : (dl l).drop (dl1 l).length = dl2 l ++ dl3 l := by
  unfold dl; rw [List.append_assoc, List.drop_append_of_le_length (Nat.le_refl _), List.drop_length, List.nil_append]
theorem dl_shift (d : Int) (l : List Int) : dl2 (l.map fun y => wrap64 (y + d)) ++ dl3 (l.map fun y => wrap64 (y + d)) = dl2 l ++ dl3 l := by
  unfold dl2 dl3; rw [zb_shift, List.length_map]
end Go.Proofs.Ytieknhhhcjdbnaa
