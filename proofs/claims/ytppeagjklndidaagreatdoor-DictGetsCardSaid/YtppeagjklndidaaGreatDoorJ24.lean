/- Texts joined: LookBack LookCut Var ErrEnd. -/
import Derived.Test.YtppeagjklndidaaGreatDoorJ23
import Derived.Test.YtppeagjklndidaaGreatDoorJ8
/- A short number that was put is taken as it was. Plain. -/
namespace Go.Proofs.YtppeagjklndidaaGreatDoor
open Go.RowKit
set_option linter.unusedVariables false
set_option linter.unusedSimpArgs false
set_option maxRecDepth 100000

theorem look_vbF (f : Nat) : ∀ v i acc (r : List Nat), i + f = 9 → v * 128 ^ i < 18446744073709551616 → (i = 0 ∨ v ≠ 0) → lookF i acc (vbF f v ++ r) = (acc + v * 128 ^ i, i + (vbF f v).length, 0) := by
  induction f with
  | zero =>
    intro v i acc r hi hv h0
    obtain rfl : i = 9 := by omega
    have hv1 : v = 1 := by
      have : (128 : Nat) ^ 9 = 9223372036854775808 := by decide
      rw [this] at hv; omega
    subst hv1
    show lookF 9 acc (1 :: r) = _
    unfold lookF
    simp [vbF]
  | succ f ih =>
    intro v i acc r hi hv h0
    rw [vbF_step]
    by_cases h : v < 128
    · rw [if_pos h]
      show lookF i acc (v :: r) = _
      unfold lookF
      rw [if_neg (by omega), if_pos h, Nat.mod_eq_of_lt h]
      rfl
    · rw [if_neg h]
      show lookF i acc ((128 + v % 128) :: (vbF f (v / 128) ++ r)) = _
      unfold lookF
      have e : (128 + v % 128) % 128 = v % 128 := by omega
      have hp : v * 128 ^ i = v % 128 * 128 ^ i + v / 128 * 128 ^ (i + 1) := by
        rw [Nat.pow_succ, Nat.mul_comm (128 ^ i) 128, ← Nat.mul_assoc, ← Nat.add_mul]
        congr 1; omega
      rw [if_neg (by omega), if_neg (by omega), e, ih (v / 128) (i + 1) _ r (by omega) (by omega) (by omega)]
      simp only [List.length_cons, Prod.mk.injEq, and_true]
      omega
theorem look_vb (v : Nat) (hv : v < 18446744073709551616) (r : List Nat) : lookF 0 0 (vb v ++ r) = (v, (vb v).length, 0) := by
  have := look_vbF 9 v 0 0 r (by omega) (by omega) (.inl rfl)
  simpa [vb] using this
end Go.Proofs.YtppeagjklndidaaGreatDoor

/- A short number that is cut off is short; a new reader as a reader with its error. -/
namespace Go.Proofs.YtppeagjklndidaaGreatDoor
open Go.RowKit
set_option linter.unusedVariables false
set_option linter.unusedSimpArgs false
set_option maxRecDepth 100000

theorem short_pre (f : Nat) : ∀ v i acc j, i + f ≤ 9 → j < (vbF f v).length → lookF i acc ((vbF f v).take j) = (0, 0, 2) := by
  induction f with
  | zero => intro v i acc j hi hj; simp [vbF] at hj; subst hj; simp [lookF]
  | succ f ih =>
    intro v i acc j hi hj
    rw [vbF_step] at hj ⊢
    by_cases h : v < 128
    · rw [if_pos h] at hj; simp at hj; subst hj; simp [lookF]
    · rw [if_neg h] at hj ⊢
      cases j with
      | zero => simp [lookF]
      | succ j =>
        simp only [List.length_cons] at hj
        rw [List.take_succ_cons]
        unfold lookF
        rw [if_neg (by omega), if_neg (by omega)]
        exact ih _ _ _ _ (by omega) (by omega)
theorem short_vb (v j : Nat) (hj : j < (vb v).length) : lookF 0 0 ((vb v).take j) = (0, 0, 2) := short_pre 9 v 0 0 j (by omega) hj
theorem rd_new {w : World} {g : Nat} {A : Option Addr} {n c : Nat} {l : List Nat} (h : Rd w g A n c 0 .nilIface l) : RdS w g l 0 none := ⟨A, n, c, _, h, rfl⟩

end Go.Proofs.YtppeagjklndidaaGreatDoor

/- Contract of the Reader's Var. -/
namespace Go.Proofs.YtppeagjklndidaaGreatDoor
open Go.RowKit
set_option linter.unusedVariables false
set_option linter.unusedSimpArgs false
set_option maxRecDepth 100000

theorem look_len (l : List Nat) : ∀ i acc, (lookF i acc l).2.2 = 0 → (lookF i acc l).2.1 ≤ i + l.length ∧ i < (lookF i acc l).2.1 := by
  induction l with
  | nil => intro i acc h; simp [lookF] at h
  | cons b r ih =>
    intro i acc h
    unfold lookF at h ⊢
    split at h
    · simp at h
    · rename_i h1
      rw [if_neg h1]
      split at h
      · rename_i h2; rw [if_pos h2]; simp
      · rename_i h2
        rw [if_neg h2]
        have := ih _ _ h
        simp only [List.length_cons]
        omega
def varS (l : List Nat) (at_ : Nat) (x : Option (Int × Nat)) : Nat × Nat × Option (Int × Nat) :=
  match x with
  | some x => (0, at_, some x)
  | none => if (lookF 0 0 (l.drop at_)).2.2 = 0 then ((lookF 0 0 (l.drop at_)).1, at_ + (lookF 0 0 (l.drop at_)).2.1, none) else (0, at_, some (((lookF 0 0 (l.drop at_)).2.2 : Int), at_))

theorem var_nil (w : World) : Calls Tryz.prog 35 #[.pointer none] w fun e w' => e = .returned (.int .u64 0) ∧ w = w' := by
  go_enter Tryz.func35, Tryz.ntmps35
  go_wp2_with (go_at_call 65; refine (stopped_nil _).mono ?_; rintro e w1 ⟨rfl, rfl⟩)
  go_ret
  exact ⟨rfl, rfl⟩

set_option maxHeartbeats 1000000 in
theorem var_is {w : World} {g : Nat} {l : List Nat} {at_ : Nat} {x : Option (Int × Nat)} (h : RdS w g l at_ x) :
    Calls Tryz.prog 35 #[.pointer (some ⟨g, 0, none⟩)] w
      fun e w' => e = .returned (.int .u64 ((varS l at_ x).1 : Int)) ∧ RdTo w g l (varS l at_ x).2.1 (varS l at_ x).2.2 w' := by
  cases x with
  | some x =>
    go_enter Tryz.func35, Tryz.ntmps35
    go_wp2_with (go_at_call 65; refine (stopped_err h).mono ?_; rintro e w1 ⟨rfl, rfl⟩)
    go_ret
    exact ⟨rfl, RdTo.same h (Drawn.refl w)⟩
  | none =>
    obtain ⟨A, n, c, err, hR, rfl⟩ := h
    have hc0 := hR.blk.cell 0
    have hc := hR.blk.cell 1
    simp only [List.getElem?_toArray, List.getElem?_cons_succ, List.getElem?_cons_zero] at hc hc0
    have hz := hR.size
    have hp := hR.place
    have hcap := hR.cap
    have hf := hR.blk.frozen 1
    have hlt := hR.blk.lt
    have hcut : Reads w g 1 (if c = at_ then A else Option.map (fun x => x.add at_) A) (n - at_) (bs (l.drop at_)) := by
      have := hR.reads.cut hp hcap
      simpa [bs_drop] using this
    have hby : ∀ b ∈ l.drop at_, b < 256 := fun b hb => hR.byte b (List.mem_of_mem_drop hb)
    have hrv := fun (W : World) (hW : Reads W g 1 (if c = at_ then A else Option.map (fun x => x.add at_) A) (n - at_) (bs (l.drop at_))) => readVar_any (c - at_) hW hby (by omega)
    have hlen := look_len (l.drop at_) 0 0
    have hln := hR.length
    rw [List.length_drop] at hlen
    have hVS : varS l at_ none = if (lookF 0 0 (l.drop at_)).2.2 = 0 then ((lookF 0 0 (l.drop at_)).1, at_ + (lookF 0 0 (l.drop at_)).2.1, none) else (0, at_, some (((lookF 0 0 (l.drop at_)).2.2 : Int), at_)) := rfl
    rw [hVS]
    rcases hlk : lookF 0 0 (l.drop at_) with ⟨v, m, e⟩
    rw [hlk] at hlen hrv
    by_cases he : e = 0
    · subst he
      have hlen2 : m ≤ 0 + (l.length - at_) ∧ 0 < m := hlen rfl
      have hm : at_ + m ≤ n := by omega
      clear hlen2
      simp only [if_true]
      have hrv2 : ∀ W : World, Reads W g 1 (if c = at_ then A else Option.map (fun x => x.add at_) A) (n - at_) (bs (l.drop at_)) → Calls Tryz.prog 66 #[.slice (if c = at_ then A else Option.map (fun x => x.add at_) A) (n - at_) (c - at_)] W (fun ev w' => ev = Ending.returned (Value.tuple #[.int .u64 (v : Int), .int .i64 (m : Int), .nilIface]) ∧ W = w') :=
        fun W hW => (hrv W hW).mono fun ev w' ⟨h1, h2⟩ => ⟨h1, h2⟩
      have HRV := Lib.hid hrv2
      clear hrv hrv2 hlen hlk hVS hln hby
      go_enter Tryz.func35, Tryz.ntmps35
      go_wp2_with (go_at_call 65; refine (stopped_ok hR).mono ?_; rintro e w1 ⟨rfl, rfl⟩)
      go_quiet ((go_at_call 66; first | exact quiet_same0 (HRV.out _ (hcut.drewN _)) | exact quiet_same (HRV.out _ (hcut.drewN _))))
      go_wp2_with fail
      all_goals
        go_ret
        exact ⟨rfl, RdS.goes hR (x := none) rfl m hm ((Drawn.one w _).below (Below.refl _ _))⟩
    · rw [if_neg he]
      have hrv2 : ∀ W : World, Reads W g 1 (if c = at_ then A else Option.map (fun x => x.add at_) A) (n - at_) (bs (l.drop at_)) → Calls Tryz.prog 66 #[.slice (if c = at_ then A else Option.map (fun x => x.add at_) A) (n - at_) (c - at_)] W (fun ev w' => ev = Ending.returned (Value.tuple #[.int .u64 (v : Int), .int .i64 (m : Int), .iface 25 (.int .i64 (e : Int))]) ∧ W = w') :=
        fun W hW => (hrv W hW).mono fun ev w' ⟨h1, h2⟩ => ⟨by rw [h1]; simp [lookV, look3, he], h2⟩
      have HRV := Lib.hid hrv2
      clear hrv hrv2 hlen hlk hVS hln hby
      go_enter Tryz.func35, Tryz.ntmps35
      go_wp2_with (go_at_call 65; refine (stopped_ok hR).mono ?_; rintro e w1 ⟨rfl, rfl⟩)
      go_quiet ((go_at_call 66; first | exact quiet_same0 (HRV.out _ (hcut.drewN _)) | exact quiet_same (HRV.out _ (hcut.drewN _))))
      go_wp2_with (go_at_call 67; refine (stop_any (e : Int) (hR.drewN _)).mono ?_; rintro e w2 ⟨rfl, hto1, hto2⟩)
      all_goals
        go_ret
        exact ⟨rfl, hto1, (only_drewN (World.grownBy.refl w _) _).trans hto2⟩
end Go.Proofs.YtppeagjklndidaaGreatDoor

/- Contract of the Reader's End. -/
namespace Go.Proofs.YtppeagjklndidaaGreatDoor
open Go.RowKit
set_option linter.unusedVariables false
set_option linter.unusedSimpArgs false
set_option maxRecDepth 100000

def endS (l : List Nat) (at_ : Nat) (x : Option (Int × Nat)) : Int × Nat := if (errS x).1 = 0 ∧ at_ < l.length then (3, at_) else errS x
set_option maxHeartbeats 400000 in
theorem end_is {w : World} {g : Nat} {l : List Nat} {at_ : Nat} {x : Option (Int × Nat)} (hm : Met w) (h : RdS w g l at_ x) :
    Calls Tryz.prog 34 #[.pointer (some ⟨g, 0, none⟩)] w fun e w' => Tells (endS l at_ x).1 ((endS l at_ x).2 : Int) e ∧ Below w.heap.size w w' := by
  have hp := h.place
  rcases hx : errS x with ⟨k, on⟩
  have hE := err_is hm h
  rw [hx] at hE
  have HE := Lib.hid hE
  clear hE
  unfold endS
  rw [hx]
  have Hx := Lib.hid hx
  clear hx
  by_cases hk : k = 0
  · subst hk
    by_cases hlt : at_ < l.length
    · rw [if_pos ⟨rfl, hlt⟩]
      go_enter Tryz.func34, Tryz.ntmps34
      go_wp2_with fail
      refine HE.out.mono ?_
      rintro e w1 ⟨rfl, hb1⟩
      have h1 := h.next hb1
      go_wp2_with fail
      refine (left_is h1).mono ?_
      rintro e w2 ⟨rfl, hd2⟩
      have hb2 := hd2.below hb1
      have h2 := h1.next (hd2.below (Below.refl _ _))
      obtain ⟨A, n, c, err, hR, _⟩ := h2
      have hc := hR.blk.cell 1
      simp only [List.getElem?_toArray, List.getElem?_cons_succ, List.getElem?_cons_zero] at hc
      go_wp2_with fail
      go_quiet (fail)
      go_wp2_with fail
      go_ret2
      exact ⟨rfl, (Drawn.one w2 _).below hb2⟩
    · rw [if_neg (fun h => hlt h.2)]
      go_enter Tryz.func34, Tryz.ntmps34
      go_wp2_with fail
      refine HE.out.mono ?_
      rintro e w1 ⟨rfl, hb1⟩
      have h1 := h.next hb1
      go_wp2_with fail
      refine (left_is h1).mono ?_
      rintro e w2 ⟨rfl, hd2⟩
      have hb2 := hd2.below hb1
      go_wp2_with fail
      go_ret2
      exact ⟨rfl, hb2⟩
  · have hk1 : (k == 0) = false := by simp [hk]
    rw [if_neg (fun h => hk h.1)]
    go_enter Tryz.func34, Tryz.ntmps34
    go_wp2_with fail
    refine HE.out.mono ?_
    rintro e w1 ⟨rfl, hb1⟩
    go_wp2_with fail
    go_ret2
    exact ⟨rfl, hb1⟩
end Go.Proofs.YtppeagjklndidaaGreatDoor
