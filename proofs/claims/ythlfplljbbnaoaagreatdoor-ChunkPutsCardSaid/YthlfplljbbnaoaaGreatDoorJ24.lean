/- Texts joined: LookCanon LookBack LookCut Var ErrEnd PlRead RdFar ZagF. -/
import Derived.Test.YthlfplljbbnaoaaGreatDoorJ23
import Derived.Test.YthlfplljbbnaoaaGreatDoorJ4
import Derived.Test.YthlfplljbbnaoaaGreatDoorJ2
/- A short number that is taken has just the bytes that it has when it is put. Plain. -/
namespace Go.Proofs.YthlfplljbbnaoaaGreatDoor
open Go.RowKit
set_option linter.unusedVariables false
set_option linter.unusedSimpArgs false
set_option maxRecDepth 100000

theorem look_canon (l : List Nat) : ∀ i acc v m, (∀ b ∈ l, b < 256) → lookF i acc l = (v, m, 0) → ∃ u, v = acc + u * 128 ^ i ∧ i ≤ 9 ∧ (0 < i → u ≠ 0) ∧ l.take (m - i) = vbF (9 - i) u ∧ i < m ∧ u * 128 ^ i + 128 ^ i ≤ 18446744073709551616 := by
  induction l with
  | nil => intro i acc v m _ h; simp [lookF] at h
  | cons b r ih =>
    intro i acc v m hb h
    have hb0 := hb b (by simp)
    unfold lookF at h
    by_cases hF : (0 < i ∧ b = 0) ∨ (i = 9 ∧ 1 < b % 128) ∨ 9 < i
    · rw [if_pos hF] at h; simp at h
    · rw [if_neg hF] at h
      have h9 : i ≤ 9 := by omega
      have h91 : i = 9 → b % 128 ≤ 1 := fun e => by omega
      by_cases h1 : b < 128
      · rw [if_pos h1] at h
        simp only [Prod.mk.injEq, and_true] at h
        obtain ⟨rfl, rfl⟩ := h
        have hm := Nat.mod_eq_of_lt h1
        have hs := shl_bound b i h9 h91
        rw [hm] at hs ⊢
        refine ⟨b, rfl, h9, fun h0 e => hF (.inl ⟨h0, e⟩), ?_, by omega, hs⟩
        rw [show i + 1 - i = 1 by omega]
        rcases Nat.lt_or_ge i 9 with h8 | h8
        · rw [show 9 - i = (8 - i) + 1 by omega, vbF_step, if_pos h1]; rfl
        · rw [show 9 - i = 0 by omega]; rfl
      · rw [if_neg h1] at h
        obtain ⟨u, e1, e2, e3, e4, e5, e6⟩ := ih (i + 1) _ v m (fun x hx => hb x (by simp [hx])) h
        have hu := e3 (by omega)
        rw [Nat.pow_succ] at e1 e6
        generalize 128 ^ i = P at e1 e6 ⊢
        have e7 : (b % 128 + 128 * u) * P = b % 128 * P + u * (P * 128) := by
          rw [Nat.add_mul, Nat.mul_comm 128 u, Nat.mul_assoc, Nat.mul_comm 128 P]
        have e8 : b % 128 * P + P ≤ P * 128 := by
          have : (b % 128 + 1) * P ≤ 128 * P := Nat.mul_le_mul_right _ (by omega)
          rw [Nat.add_mul, Nat.one_mul] at this; omega
        refine ⟨b % 128 + 128 * u, by rw [e7]; omega, h9, fun _ => by omega, ?_, by omega, by rw [e7]; omega⟩
        rw [show m - i = (m - (i + 1)) + 1 by omega, List.take_succ_cons, e4, show 9 - i = (9 - (i + 1)) + 1 by omega, vbF_step, if_neg (by omega)]
        congr 1
        · omega
        · congr 1; omega
theorem look_is {l : List Nat} {v m : Nat} (hb : ∀ b ∈ l, b < 256) (h : lookF 0 0 l = (v, m, 0)) : l.take m = vb v ∧ v < 18446744073709551616 := by
  obtain ⟨u, e1, _, _, e4, _, e6⟩ := look_canon l 0 0 v m hb h
  simp only [Nat.pow_zero, Nat.mul_one, Nat.zero_add] at e1 e6
  subst e1
  exact ⟨e4, by omega⟩
end Go.Proofs.YthlfplljbbnaoaaGreatDoor

/- A short number that was put is taken as it was. Plain. -/
namespace Go.Proofs.YthlfplljbbnaoaaGreatDoor
open Go.RowKit
set_option linter.unusedVariables false
set_option linter.unusedSimpArgs false
set_option maxRecDepth 100000

theorem look_vbF (f : Nat) : ∀ v i acc (r : List Nat), i + f = 9 → v * 128 ^ i < 18446744073709551616 → (i = 0 ∨ v ≠ 0) → lookF i acc (vbF f v ++ r) = (acc + v * 128 ^ i, i + (vbF f v).length, 0) := by
  induction f with
  | zero =>
    intro v i acc r hi hv h0
    obtain rfl : i = 9 := by omega
    have hv1 : v = 1 := by
      have : (128 : Nat) ^ 9 = 9223372036854775808 := by decide
      rw [this] at hv; omega
    subst hv1
    show lookF 9 acc (1 :: r) = _
    unfold lookF
    simp [vbF]
  | succ f ih =>
    intro v i acc r hi hv h0
    rw [vbF_step]
    by_cases h : v < 128
    · rw [if_pos h]
      show lookF i acc (v :: r) = _
      unfold lookF
      rw [if_neg (by omega), if_pos h, Nat.mod_eq_of_lt h]
      rfl
    · rw [if_neg h]
      show lookF i acc ((128 + v % 128) :: (vbF f (v / 128) ++ r)) = _
      unfold lookF
      have e : (128 + v % 128) % 128 = v % 128 := by omega
      have hp : v * 128 ^ i = v % 128 * 128 ^ i + v / 128 * 128 ^ (i + 1) := by
        rw [Nat.pow_succ, Nat.mul_comm (128 ^ i) 128, ← Nat.mul_assoc, ← Nat.add_mul]
        congr 1; omega
      rw [if_neg (by omega), if_neg (by omega), e, ih (v / 128) (i + 1) _ r (by omega) (by omega) (by omega)]
      simp only [List.length_cons, Prod.mk.injEq, and_true]
      omega
theorem look_vb (v : Nat) (hv : v < 18446744073709551616) (r : List Nat) : lookF 0 0 (vb v ++ r) = (v, (vb v).length, 0) := by
  have := look_vbF 9 v 0 0 r (by omega) (by omega) (.inl rfl)
  simpa [vb] using this
end Go.Proofs.YthlfplljbbnaoaaGreatDoor

/- A short number that is cut off is short; a new reader as a reader with its error. -/
namespace Go.Proofs.YthlfplljbbnaoaaGreatDoor
open Go.RowKit
set_option linter.unusedVariables false
set_option linter.unusedSimpArgs false
set_option maxRecDepth 100000

theorem short_pre (f : Nat) : ∀ v i acc j, i + f ≤ 9 → j < (vbF f v).length → lookF i acc ((vbF f v).take j) = (0, 0, 2) := by
  induction f with
  | zero => intro v i acc j hi hj; simp [vbF] at hj; subst hj; simp [lookF]
  | succ f ih =>
    intro v i acc j hi hj
    rw [vbF_step] at hj ⊢
    by_cases h : v < 128
    · rw [if_pos h] at hj; simp at hj; subst hj; simp [lookF]
    · rw [if_neg h] at hj ⊢
      cases j with
      | zero => simp [lookF]
      | succ j =>
        simp only [List.length_cons] at hj
        rw [List.take_succ_cons]
        unfold lookF
        rw [if_neg (by omega), if_neg (by omega)]
        exact ih _ _ _ _ (by omega) (by omega)
theorem short_vb (v j : Nat) (hj : j < (vb v).length) : lookF 0 0 ((vb v).take j) = (0, 0, 2) := short_pre 9 v 0 0 j (by omega) hj
theorem rd_new {w : World} {g : Nat} {A : Option Addr} {n c : Nat} {l : List Nat} (h : Rd w g A n c 0 .nilIface l) : RdS w g l 0 none := ⟨A, n, c, _, h, rfl⟩

end Go.Proofs.YthlfplljbbnaoaaGreatDoor

/- Contract of the Reader's Var. -/
namespace Go.Proofs.YthlfplljbbnaoaaGreatDoor
open Go.RowKit
set_option linter.unusedVariables false
set_option linter.unusedSimpArgs false
set_option maxRecDepth 100000

theorem look_len (l : List Nat) : ∀ i acc, (lookF i acc l).2.2 = 0 → (lookF i acc l).2.1 ≤ i + l.length ∧ i < (lookF i acc l).2.1 := by
  induction l with
  | nil => intro i acc h; simp [lookF] at h
  | cons b r ih =>
    intro i acc h
    unfold lookF at h ⊢
    split at h
    · simp at h
    · rename_i h1
      rw [if_neg h1]
      split at h
      · rename_i h2; rw [if_pos h2]; simp
      · rename_i h2
        rw [if_neg h2]
        have := ih _ _ h
        simp only [List.length_cons]
        omega
def varS (l : List Nat) (at_ : Nat) (x : Option (Int × Nat)) : Nat × Nat × Option (Int × Nat) :=
  match x with
  | some x => (0, at_, some x)
  | none => if (lookF 0 0 (l.drop at_)).2.2 = 0 then ((lookF 0 0 (l.drop at_)).1, at_ + (lookF 0 0 (l.drop at_)).2.1, none) else (0, at_, some (((lookF 0 0 (l.drop at_)).2.2 : Int), at_))

theorem var_nil (w : World) : Calls Tryz.prog 90 #[.pointer none] w fun e w' => e = .returned (.int .u64 0) ∧ w = w' := by
  go_enter Tryz.func90, Tryz.ntmps90
  go_wp2_with (go_at_call 70; refine (stopped_nil _).mono ?_; rintro e w1 ⟨rfl, rfl⟩)
  go_ret
  exact ⟨rfl, rfl⟩

set_option maxHeartbeats 1000000 in
theorem var_is {w : World} {g : Nat} {l : List Nat} {at_ : Nat} {x : Option (Int × Nat)} (h : RdS w g l at_ x) :
    Calls Tryz.prog 90 #[.pointer (some ⟨g, 0, none⟩)] w
      fun e w' => e = .returned (.int .u64 ((varS l at_ x).1 : Int)) ∧ RdTo w g l (varS l at_ x).2.1 (varS l at_ x).2.2 w' := by
  cases x with
  | some x =>
    go_enter Tryz.func90, Tryz.ntmps90
    go_wp2_with (go_at_call 70; refine (stopped_err h).mono ?_; rintro e w1 ⟨rfl, rfl⟩)
    go_ret
    exact ⟨rfl, RdTo.same h (Drawn.refl w)⟩
  | none =>
    obtain ⟨A, n, c, err, hR, rfl⟩ := h
    have hc0 := hR.blk.cell 0
    have hc := hR.blk.cell 1
    simp only [List.getElem?_toArray, List.getElem?_cons_succ, List.getElem?_cons_zero] at hc hc0
    have hz := hR.size
    have hp := hR.place
    have hcap := hR.cap
    have hf := hR.blk.frozen 1
    have hlt := hR.blk.lt
    have hcut : Reads w g 1 (if c = at_ then A else Option.map (fun x => x.add at_) A) (n - at_) (bs (l.drop at_)) := by
      have := hR.reads.cut hp hcap
      simpa [bs_drop] using this
    have hby : ∀ b ∈ l.drop at_, b < 256 := fun b hb => hR.byte b (List.mem_of_mem_drop hb)
    have hrv := fun (W : World) (hW : Reads W g 1 (if c = at_ then A else Option.map (fun x => x.add at_) A) (n - at_) (bs (l.drop at_))) => readVar_any (c - at_) hW hby (by omega)
    have hlen := look_len (l.drop at_) 0 0
    have hln := hR.length
    rw [List.length_drop] at hlen
    have hVS : varS l at_ none = if (lookF 0 0 (l.drop at_)).2.2 = 0 then ((lookF 0 0 (l.drop at_)).1, at_ + (lookF 0 0 (l.drop at_)).2.1, none) else (0, at_, some (((lookF 0 0 (l.drop at_)).2.2 : Int), at_)) := rfl
    rw [hVS]
    rcases hlk : lookF 0 0 (l.drop at_) with ⟨v, m, e⟩
    rw [hlk] at hlen hrv
    by_cases he : e = 0
    · subst he
      have hlen2 : m ≤ 0 + (l.length - at_) ∧ 0 < m := hlen rfl
      have hm : at_ + m ≤ n := by omega
      clear hlen2
      simp only [if_true]
      have hrv2 : ∀ W : World, Reads W g 1 (if c = at_ then A else Option.map (fun x => x.add at_) A) (n - at_) (bs (l.drop at_)) → Calls Tryz.prog 141 #[.slice (if c = at_ then A else Option.map (fun x => x.add at_) A) (n - at_) (c - at_)] W (fun ev w' => ev = Ending.returned (Value.tuple #[.int .u64 (v : Int), .int .i64 (m : Int), .nilIface]) ∧ W = w') :=
        fun W hW => (hrv W hW).mono fun ev w' ⟨h1, h2⟩ => ⟨h1, h2⟩
      have HRV := Lib.hid hrv2
      clear hrv hrv2 hlen hlk hVS hln hby
      go_enter Tryz.func90, Tryz.ntmps90
      go_wp2_with (go_at_call 70; refine (stopped_ok hR).mono ?_; rintro e w1 ⟨rfl, rfl⟩)
      go_quiet ((go_at_call 141; first | exact quiet_same0 (HRV.out _ (hcut.drewN _)) | exact quiet_same (HRV.out _ (hcut.drewN _))))
      go_wp2_with fail
      all_goals
        go_ret
        exact ⟨rfl, RdS.goes hR (x := none) rfl m hm ((Drawn.one w _).below (Below.refl _ _))⟩
    · rw [if_neg he]
      have hrv2 : ∀ W : World, Reads W g 1 (if c = at_ then A else Option.map (fun x => x.add at_) A) (n - at_) (bs (l.drop at_)) → Calls Tryz.prog 141 #[.slice (if c = at_ then A else Option.map (fun x => x.add at_) A) (n - at_) (c - at_)] W (fun ev w' => ev = Ending.returned (Value.tuple #[.int .u64 (v : Int), .int .i64 (m : Int), .iface 26 (.int .i64 (e : Int))]) ∧ W = w') :=
        fun W hW => (hrv W hW).mono fun ev w' ⟨h1, h2⟩ => ⟨by rw [h1]; simp [lookV, look3, he], h2⟩
      have HRV := Lib.hid hrv2
      clear hrv hrv2 hlen hlk hVS hln hby
      go_enter Tryz.func90, Tryz.ntmps90
      go_wp2_with (go_at_call 70; refine (stopped_ok hR).mono ?_; rintro e w1 ⟨rfl, rfl⟩)
      go_quiet ((go_at_call 141; first | exact quiet_same0 (HRV.out _ (hcut.drewN _)) | exact quiet_same (HRV.out _ (hcut.drewN _))))
      go_wp2_with (go_at_call 71; refine (stop_any (e : Int) (hR.drewN _)).mono ?_; rintro e w2 ⟨rfl, hto1, hto2⟩)
      all_goals
        go_ret
        exact ⟨rfl, hto1, (only_drewN (World.grownBy.refl w _) _).trans hto2⟩
end Go.Proofs.YthlfplljbbnaoaaGreatDoor

/- Contract of the Reader's End. -/
namespace Go.Proofs.YthlfplljbbnaoaaGreatDoor
open Go.RowKit
set_option linter.unusedVariables false
set_option linter.unusedSimpArgs false
set_option maxRecDepth 100000

def endS (l : List Nat) (at_ : Nat) (x : Option (Int × Nat)) : Int × Nat := if (errS x).1 = 0 ∧ at_ < l.length then (3, at_) else errS x
set_option maxHeartbeats 400000 in
theorem end_is {w : World} {g : Nat} {l : List Nat} {at_ : Nat} {x : Option (Int × Nat)} (hm : Met w) (h : RdS w g l at_ x) :
    Calls Tryz.prog 91 #[.pointer (some ⟨g, 0, none⟩)] w fun e w' => Tells (endS l at_ x).1 ((endS l at_ x).2 : Int) e ∧ Below w.heap.size w w' := by
  have hp := h.place
  rcases hx : errS x with ⟨k, on⟩
  have hE := err_is hm h
  rw [hx] at hE
  have HE := Lib.hid hE
  clear hE
  unfold endS
  rw [hx]
  have Hx := Lib.hid hx
  clear hx
  by_cases hk : k = 0
  · subst hk
    by_cases hlt : at_ < l.length
    · rw [if_pos ⟨rfl, hlt⟩]
      go_enter Tryz.func91, Tryz.ntmps91
      go_wp2_with fail
      refine HE.out.mono ?_
      rintro e w1 ⟨rfl, hb1⟩
      have h1 := h.next hb1
      go_wp2_with fail
      refine (left_is h1).mono ?_
      rintro e w2 ⟨rfl, hd2⟩
      have hb2 := hd2.below hb1
      have h2 := h1.next (hd2.below (Below.refl _ _))
      obtain ⟨A, n, c, err, hR, _⟩ := h2
      have hc := hR.blk.cell 1
      simp only [List.getElem?_toArray, List.getElem?_cons_succ, List.getElem?_cons_zero] at hc
      go_wp2_with fail
      go_quiet (fail)
      go_wp2_with fail
      go_ret2
      exact ⟨rfl, (Drawn.one w2 _).below hb2⟩
    · rw [if_neg (fun h => hlt h.2)]
      go_enter Tryz.func91, Tryz.ntmps91
      go_wp2_with fail
      refine HE.out.mono ?_
      rintro e w1 ⟨rfl, hb1⟩
      have h1 := h.next hb1
      go_wp2_with fail
      refine (left_is h1).mono ?_
      rintro e w2 ⟨rfl, hd2⟩
      have hb2 := hd2.below hb1
      go_wp2_with fail
      go_ret2
      exact ⟨rfl, hb2⟩
  · have hk1 : (k == 0) = false := by simp [hk]
    rw [if_neg (fun h => hk h.1)]
    go_enter Tryz.func91, Tryz.ntmps91
    go_wp2_with fail
    refine HE.out.mono ?_
    rintro e w1 ⟨rfl, hb1⟩
    go_wp2_with fail
    go_ret2
    exact ⟨rfl, hb1⟩
end Go.Proofs.YthlfplljbbnaoaaGreatDoor

/- Plain facts on reading the plain form: the numbers, the reader's place and its error, number by number. -/
namespace Go.Proofs.YthlfplljbbnaoaaGreatDoor
open Go.RowKit
set_option linter.unusedVariables false
set_option linter.unusedSimpArgs false
set_option maxRecDepth 100000

/-- The reader's place and error behind so many short numbers. -/
def vst (l : List Nat) : Nat → Nat × Option (Int × Nat)
  | 0 => (0, none)
  | k + 1 => (varS l (vst l k).1 (vst l k).2).2
/-- The short number with that index. -/
def vv (l : List Nat) (k : Nat) : Nat := (varS l (vst l k).1 (vst l k).2).1
def getL (l : List Nat) (n : Nat) : List Int := (List.range n).map fun k => zagI (vv l k : Int)
/-- The error's number of reading. -/
def getE (l : List Nat) (k : Int) : Int := if k < 0 ∨ 65536 < k then 1 else (endS l (vst l k.toNat).1 (vst l k.toNat).2).1
def getS (l : List Nat) (k : Int) : List Int := if getE l k = 0 then getL l k.toNat else []
theorem getL_length (l : List Nat) (n : Nat) : (getL l n).length = n := by simp [getL]
theorem getL_succ (l : List Nat) (n : Nat) : getL l (n + 1) = getL l n ++ [zagI (vv l n : Int)] := by simp [getL, List.range_succ]
theorem getL_at (l : List Nat) (n k : Nat) (h : k < n) : (getL l n)[k]? = some (zagI (vv l k : Int)) := by simp [getL, h]
theorem getL_take (l : List Nat) (n k : Nat) (h : k ≤ n) : (getL l n).take k = getL l k := by
  induction n with
  | zero => obtain rfl : k = 0 := by omega
            simp [getL]
  | succ n ih =>
    rcases Nat.lt_or_ge k (n + 1) with h1 | h1
    · rw [getL_succ, List.take_append_of_le_length (by rw [getL_length]; omega), ih (by omega)]
    · obtain rfl : k = n + 1 := by omega
      rw [List.take_of_length_le (by rw [getL_length]; omega)]
theorem vst_some {l : List Nat} {k : Nat} {y : Int × Nat} (h : (vst l k).2 = some y) : vst l (k + 1) = vst l k := by
  show (varS l (vst l k).1 (vst l k).2).2 = _
  rw [h]
  show ((vst l k).1, some y) = _
  rw [← h]
theorem vst_stop {l : List Nat} {k : Nat} {y : Int × Nat} (h : (vst l k).2 = some y) : ∀ j, vst l (k + j) = vst l k
  | 0 => rfl
  | j + 1 => by
    have := vst_stop h j
    rw [← Nat.add_assoc, vst_some (y := y) (by rw [this]; exact h), this]
theorem vst_ok (l : List Nat) (k : Nat) : ∀ y, (vst l k).2 = some y → y.1 ≠ 0 := by
  induction k with
  | zero => intro y h; cases h
  | succ k ih =>
    intro y h
    cases hx : (vst l k).2 with
    | some z => rw [vst_some hx] at h; exact ih y h
    | none =>
      change (varS l (vst l k).1 (vst l k).2).2.2 = some y at h
      rw [hx] at h
      unfold varS at h
      simp only at h
      split at h
      · cases h
      · rename_i h1
        injection h with h
        subst h
        show ((lookF 0 0 (l.drop (vst l k).1)).2.2 : Int) ≠ 0
        omega
theorem endS_some (l : List Nat) (at_ : Nat) (y : Int × Nat) (h : y.1 ≠ 0) : (endS l at_ (some y)).1 = y.1 := by
  unfold endS errS
  rw [if_neg (by simp [h])]
  rfl
theorem endS_none (l : List Nat) (at_ : Nat) : (endS l at_ none).1 = if at_ < l.length then 3 else 0 := by
  unfold endS errS
  by_cases h : at_ < l.length
  · rw [if_pos ⟨rfl, h⟩, if_pos h]
  · rw [if_neg (fun e => h e.2), if_neg h]; rfl
/-- A step that goes well. -/
theorem vst_step {l : List Nat} {k v m : Nat} (h : (vst l k).2 = none) (hl : lookF 0 0 (l.drop (vst l k).1) = (v, m, 0)) : vst l (k + 1) = ((vst l k).1 + m, none) ∧ vv l k = v := by
  have e : varS l (vst l k).1 (vst l k).2 = (v, (vst l k).1 + m, none) := by
    rw [h]
    unfold varS
    simp only [hl, if_true]
  exact ⟨by show (varS l (vst l k).1 (vst l k).2).2 = _; rw [e], by unfold vv; rw [e]⟩
theorem vst_none {l : List Nat} {k : Nat} (h : (vst l (k + 1)).2 = none) : (vst l k).2 = none ∧ ∃ v m, lookF 0 0 (l.drop (vst l k).1) = (v, m, 0) := by
  cases hx : (vst l k).2 with
  | some y => rw [vst_some hx, hx] at h; cases h
  | none =>
    refine ⟨rfl, ?_⟩
    change (varS l (vst l k).1 (vst l k).2).2.2 = none at h
    rw [hx] at h
    unfold varS at h
    simp only at h
    split at h
    · rename_i h1
      exact ⟨(lookF 0 0 (l.drop (vst l k).1)).1, (lookF 0 0 (l.drop (vst l k).1)).2.1, Prod.ext rfl (Prod.ext rfl h1)⟩
    · cases h
theorem vv_lt {l : List Nat} (hb : ∀ b ∈ l, b < 256) (k : Nat) : vv l k < 18446744073709551616 := by
  unfold vv
  cases hx : (vst l k).2 with
  | some y => show 0 < _; omega
  | none =>
    unfold varS
    simp only
    split
    · rename_i h1
      rcases hl : lookF 0 0 (l.drop (vst l k).1) with ⟨v, m, e⟩
      rw [hl] at h1
      simp only at h1
      subst h1
      exact (look_is (fun b h => hb b (List.mem_of_mem_drop h)) hl).2
    · show 0 < _; omega
theorem getS_length (b : List Nat) (k : Int) : (getS b k).length ≤ 65536 := by
  unfold getS
  split
  · rename_i h
    rw [getL_length]
    unfold getE at h
    by_cases hk : k < 0 ∨ 65536 < k
    · rw [if_pos hk] at h; omega
    · omega
  · simp
/-- What is put is read as it was, whatever stands behind it. -/
theorem vst_put (zl : List Int) (rest : List Nat) (hz : ∀ z ∈ zl, In64 z) : ∀ k, k ≤ zl.length → vst (pl zl ++ rest) k = ((pl (zl.take k)).length, none) ∧ getL (pl zl ++ rest) k = zl.take k := by
  intro k
  induction k with
  | zero => intro _; exact ⟨by simp [vst, pl], by simp [getL]⟩
  | succ k ih =>
    intro hk
    obtain ⟨e1, e2⟩ := ih (by omega)
    have hat : zl[k]? = some zl[k] := List.getElem?_eq_getElem (by omega)
    have hin := hz _ (List.getElem_mem (show k < zl.length by omega))
    have hsplit : pl zl = pl (zl.take k) ++ (vb (zg zl[k]) ++ pl (zl.drop (k + 1))) := by
      rw [← List.append_assoc, ← pl_step hat, ← pl_append, List.take_append_drop]
    have hd : (pl zl ++ rest).drop (pl (zl.take k)).length = vb (zg zl[k]) ++ (pl (zl.drop (k + 1)) ++ rest) := by
      rw [hsplit, List.append_assoc, List.drop_append_of_le_length (Nat.le_refl _), List.drop_length, List.nil_append, List.append_assoc]
    have hl := look_vb (zg zl[k]) (zg_int hin).2 (pl (zl.drop (k + 1)) ++ rest)
    rw [← hd] at hl
    have hs := vst_step (l := pl zl ++ rest) (k := k) (by rw [e1]) (by rw [e1]; exact hl)
    refine ⟨?_, ?_⟩
    · rw [hs.1, e1, pl_step hat, List.length_append]
    · rw [getL_succ, e2, hs.2, zagI_zg hin, take_snoc hat]
theorem get_put (zl : List Int) (hz : ∀ z ∈ zl, In64 z) (hn : zl.length ≤ 65536) : getE (pl zl) (zl.length : Int) = 0 ∧ getS (pl zl) (zl.length : Int) = zl := by
  obtain ⟨e1, e2⟩ := vst_put zl [] hz zl.length (Nat.le_refl _)
  rw [List.append_nil, List.take_length] at e1 e2
  have hE : getE (pl zl) (zl.length : Int) = 0 := by
    unfold getE
    rw [if_neg (by omega), Int.toNat_natCast, e1]
    simp only
    rw [endS_none, if_neg (by omega)]
  exact ⟨hE, by unfold getS; rw [if_pos hE, Int.toNat_natCast, e2]⟩
theorem get_long (zl : List Int) (x : Nat) (hz : ∀ z ∈ zl, In64 z) (hn : zl.length ≤ 65536) : getE (pl zl ++ [x]) (zl.length : Int) = 3 ∧ getS (pl zl ++ [x]) (zl.length : Int) = [] := by
  obtain ⟨e1, e2⟩ := vst_put zl [x] hz zl.length (Nat.le_refl _)
  rw [List.take_length] at e1 e2
  have hE : getE (pl zl ++ [x]) (zl.length : Int) = 3 := by
    unfold getE
    rw [if_neg (by omega), Int.toNat_natCast, e1]
    simp only
    rw [endS_none, if_pos (by rw [List.length_append, List.length_singleton]; omega)]
  exact ⟨hE, by unfold getS; rw [if_neg (by omega)]⟩
theorem get_short (zl : List Int) (hz : ∀ z ∈ zl, In64 z) (hn : zl.length ≤ 65536) (h0 : 0 < (pl zl).length) : getE ((pl zl).take ((pl zl).length - 1)) (zl.length : Int) = 2 ∧ getS ((pl zl).take ((pl zl).length - 1)) (zl.length : Int) = [] := by
  have h1 : 0 < zl.length := by
    rcases Nat.eq_zero_or_pos zl.length with h | h
    · rw [List.eq_nil_of_length_eq_zero h] at h0; simp [pl] at h0
    · exact h
  obtain ⟨m, hm⟩ : ∃ m, zl.length = m + 1 := ⟨zl.length - 1, by omega⟩
  have hat : zl[m]? = some zl[m] := List.getElem?_eq_getElem (by omega)
  have hin := hz _ (List.getElem_mem (show m < zl.length by omega))
  have hvl := vb_length (zg zl[m])
  have hsplit : pl zl = pl (zl.take m) ++ vb (zg zl[m]) := by rw [← pl_step hat, List.take_of_length_le (by omega)]
  have hcut : (pl zl).take ((pl zl).length - 1) = pl (zl.take m) ++ (vb (zg zl[m])).take ((vb (zg zl[m])).length - 1) := by
    rw [hsplit, List.take_append, List.length_append]
    congr 1
    · rw [List.take_of_length_le (by omega)]
    · congr 1; omega
  have hml : (zl.take m).length = m := by rw [List.length_take]; omega
  obtain ⟨e1, _⟩ := vst_put (zl.take m) ((vb (zg zl[m])).take ((vb (zg zl[m])).length - 1)) (fun z h => hz z (List.mem_of_mem_take h)) m (by omega)
  rw [List.take_take, Nat.min_self, ← hcut] at e1
  have hd : ((pl zl).take ((pl zl).length - 1)).drop (pl (zl.take m)).length = (vb (zg zl[m])).take ((vb (zg zl[m])).length - 1) := by
    rw [hcut, List.drop_append_of_le_length (Nat.le_refl _), List.drop_length, List.nil_append]
  have hlk := short_vb (zg zl[m]) ((vb (zg zl[m])).length - 1) (by omega)
  have e2 : (vst ((pl zl).take ((pl zl).length - 1)) (m + 1)).2 = some (2, (pl (zl.take m)).length) := by
    show (varS _ _ _).2.2 = _
    rw [e1]
    unfold varS
    simp only [hd, hlk]
    rfl
  have hE : getE ((pl zl).take ((pl zl).length - 1)) (zl.length : Int) = 2 := by
    unfold getE
    rw [if_neg (by omega), Int.toNat_natCast, hm, e2, endS_some _ _ _ (by simp)]
  exact ⟨hE, by unfold getS; rw [if_neg (by omega)]⟩
/-- What is read is put as it was. -/
theorem put_prefix (b : List Nat) (hb : ∀ x ∈ b, x < 256) (k : Nat) : (vst b k).2 = none → (vst b k).1 ≤ b.length ∧ pl (getL b k) = b.take (vst b k).1 := by
  induction k with
  | zero => intro _; exact ⟨Nat.zero_le _, by simp [getL, pl, vst]⟩
  | succ k ih =>
    intro h
    obtain ⟨h0, v, m, hl⟩ := vst_none h
    obtain ⟨e1, e2⟩ := ih h0
    obtain ⟨e3, e4⟩ := vst_step h0 hl
    have hlk := look_is (fun x hx => hb x (List.mem_of_mem_drop hx)) hl
    have hlen := look_len (b.drop (vst b k).1) 0 0 (by rw [hl])
    rw [hl, List.length_drop] at hlen
    simp only at hlen
    rw [e3]
    simp only
    refine ⟨by omega, ?_⟩
    rw [getL_succ, pl_append, pl_one, zg_zagI, e4, e2, ← hlk.1, ← List.take_add]
theorem put_get (b : List Nat) (hb : ∀ x ∈ b, x < 256) (k : Int) (h : getE b k = 0) : 0 ≤ k ∧ k ≤ 65536 ∧ pl (getS b k) = b ∧ (getS b k).length = k.toNat ∧ ∀ z ∈ getS b k, In64 z := by
  have hS : getS b k = getL b k.toNat := by unfold getS; rw [if_pos h]
  unfold getE at h
  by_cases hk : k < 0 ∨ 65536 < k
  · rw [if_pos hk] at h; omega
  · rw [if_neg hk] at h
    rw [hS]
    refine ⟨by omega, by omega, ?_, getL_length _ _, ?_⟩
    · cases hx : (vst b k.toNat).2 with
      | some y => rw [hx, endS_some _ _ _ (vst_ok b _ y hx)] at h; exact absurd h (vst_ok b _ y hx)
      | none =>
        rw [hx, endS_none] at h
        obtain ⟨e1, e2⟩ := put_prefix b hb _ hx
        rw [e2]
        by_cases hlt : (vst b k.toNat).1 < b.length
        · rw [if_pos hlt] at h; omega
        · exact List.take_of_length_le (by omega)
    · intro z hz
      obtain ⟨j, _, rfl⟩ := List.mem_map.1 hz
      exact zagI_in (vv_lt hb j)
end Go.Proofs.YthlfplljbbnaoaaGreatDoor

/- A reader stands while a row behind it is written. -/
namespace Go.Proofs.YthlfplljbbnaoaaGreatDoor
open Go.RowKit
set_option linter.unusedVariables false
set_option linter.unusedSimpArgs false
set_option maxRecDepth 100000

theorem RdS.store {w : World} {g h : Nat} {l : List Nat} {at_ : Nat} {x : Option (Int × Nat)} (hS : RdS w g l at_ x) {t : TypeId} {cs : Array Value} (hb : Blk w h t cs) (hg : g < h) (ht : t ≠ 110) (i : Nat) (u : Value) :
    RdS (w.setCell ⟨h, i, none⟩ u) g l at_ x := by
  obtain ⟨A, n, c, err, hR, hE⟩ := hS
  exact ⟨A, n, c, err, ⟨hR.blk.far (p := ⟨h, i, none⟩) (by show g ≠ h; omega) u, hR.reads.setCell (p := ⟨h, i, none⟩) (by show g ≤ h; omega) u, hR.cap, hR.place, hR.size, hR.byte⟩,
    hE.next fun f t' cs' hf ht' => hf.far (p := ⟨h, i, none⟩) (hf.type_ne hb (by rw [ht']; exact fun e => ht e.symm)) u⟩
theorem RdS.alloc {w : World} {g : Nat} {l : List Nat} {at_ : Nat} {x : Option (Int × Nat)} (hS : RdS w g l at_ x) (o : Obj) : RdS (w.alloc o) g l at_ x :=
  hS.next ((Below.refl _ _).alloc (Nat.le_refl _) _)
end Go.Proofs.YthlfplljbbnaoaaGreatDoor

/- Contract of package num's Zag. -/
namespace Go.Proofs.YthlfplljbbnaoaaGreatDoor
open Go.RowKit
set_option linter.unusedVariables false
set_option linter.unusedSimpArgs false
set_option maxRecDepth 100000

theorem zag_any (v : Nat) (w : World) (hv : v < 18446744073709551616) : Calls Tryz.prog 89 #[.int .u64 (v : Int)] w fun e w' => e = .returned (.int .i64 (zagI v)) ∧ w = w' := by
  have HZ := Lib.hid (zag_is v hv)
  go_enter Tryz.func89, Tryz.ntmps89
  go_wp2_with fail
  go_ret
  exact ⟨ret_of (congrArg (Value.int .i64) HZ.out), rfl⟩
end Go.Proofs.YthlfplljbbnaoaaGreatDoor
