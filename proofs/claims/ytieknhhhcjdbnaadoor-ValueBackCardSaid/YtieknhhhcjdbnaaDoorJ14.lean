/- Texts joined: Var BlobPlain FixByte. -/
import Derived.Test.YtieknhhhcjdbnaaDoorJ13
import Derived.Test.YtieknhhhcjdbnaaDoorRdE
/- Contract of the Reader's Var. -/
namespace Go.Proofs.YtieknhhhcjdbnaaDoor
open Go.RowKit
set_option linter.unusedVariables false
set_option linter.unusedSimpArgs false
set_option maxRecDepth 100000

theorem look_len (l : List Nat) : ∀ i acc, (lookF i acc l).2.2 = 0 → (lookF i acc l).2.1 ≤ i + l.length ∧ i < (lookF i acc l).2.1 := by
  induction l with
  | nil => intro i acc h; simp [lookF] at h
  | cons b r ih =>
    intro i acc h
    unfold lookF at h ⊢
    split at h
    · simp at h
    · rename_i h1
      rw [if_neg h1]
      split at h
      · rename_i h2; rw [if_pos h2]; simp
      · rename_i h2
        rw [if_neg h2]
        have := ih _ _ h
        simp only [List.length_cons]
        omega
def varS (l : List Nat) (at_ : Nat) (x : Option (Int × Nat)) : Nat × Nat × Option (Int × Nat) :=
  match x with
  | some x => (0, at_, some x)
  | none => if (lookF 0 0 (l.drop at_)).2.2 = 0 then ((lookF 0 0 (l.drop at_)).1, at_ + (lookF 0 0 (l.drop at_)).2.1, none) else (0, at_, some (((lookF 0 0 (l.drop at_)).2.2 : Int), at_))

theorem var_nil (w : World) : Calls Tryd.prog 26 #[.pointer none] w fun e w' => e = .returned (.int .u64 0) ∧ w = w' := by
  go_enter Tryd.func26, Tryd.ntmps26
  go_wp2_with (go_at_call 52; refine (stopped_nil _).mono ?_; rintro e w1 ⟨rfl, rfl⟩)
  go_ret
  exact ⟨rfl, rfl⟩

set_option maxHeartbeats 1000000 in
theorem var_is {w : World} {g : Nat} {l : List Nat} {at_ : Nat} {x : Option (Int × Nat)} (h : RdS w g l at_ x) :
    Calls Tryd.prog 26 #[.pointer (some ⟨g, 0, none⟩)] w
      fun e w' => e = .returned (.int .u64 ((varS l at_ x).1 : Int)) ∧ RdTo w g l (varS l at_ x).2.1 (varS l at_ x).2.2 w' := by
  cases x with
  | some x =>
    go_enter Tryd.func26, Tryd.ntmps26
    go_wp2_with (go_at_call 52; refine (stopped_err h).mono ?_; rintro e w1 ⟨rfl, rfl⟩)
    go_ret
    exact ⟨rfl, RdTo.same h (Drawn.refl w)⟩
  | none =>
    obtain ⟨A, n, c, err, hR, rfl⟩ := h
    have hc0 := hR.blk.cell 0
    have hc := hR.blk.cell 1
    simp only [List.getElem?_toArray, List.getElem?_cons_succ, List.getElem?_cons_zero] at hc hc0
    have hz := hR.size
    have hp := hR.place
    have hcap := hR.cap
    have hf := hR.blk.frozen 1
    have hlt := hR.blk.lt
    have hcut : Reads w g 1 (if c = at_ then A else Option.map (fun x => x.add at_) A) (n - at_) (bs (l.drop at_)) := by
      have := hR.reads.cut hp hcap
      simpa [bs_drop] using this
    have hby : ∀ b ∈ l.drop at_, b < 256 := fun b hb => hR.byte b (List.mem_of_mem_drop hb)
    have hrv := fun (W : World) (hW : Reads W g 1 (if c = at_ then A else Option.map (fun x => x.add at_) A) (n - at_) (bs (l.drop at_))) => readVar_any (c - at_) hW hby (by omega)
    have hlen := look_len (l.drop at_) 0 0
    have hln := hR.length
    rw [List.length_drop] at hlen
    have hVS : varS l at_ none = if (lookF 0 0 (l.drop at_)).2.2 = 0 then ((lookF 0 0 (l.drop at_)).1, at_ + (lookF 0 0 (l.drop at_)).2.1, none) else (0, at_, some (((lookF 0 0 (l.drop at_)).2.2 : Int), at_)) := rfl
    rw [hVS]
    rcases hlk : lookF 0 0 (l.drop at_) with ⟨v, m, e⟩
    rw [hlk] at hlen hrv
    by_cases he : e = 0
    · subst he
      have hlen2 : m ≤ 0 + (l.length - at_) ∧ 0 < m := hlen rfl
      have hm : at_ + m ≤ n := by omega
      clear hlen2
      simp only [if_true]
      have hrv2 : ∀ W : World, Reads W g 1 (if c = at_ then A else Option.map (fun x => x.add at_) A) (n - at_) (bs (l.drop at_)) → Calls Tryd.prog 55 #[.slice (if c = at_ then A else Option.map (fun x => x.add at_) A) (n - at_) (c - at_)] W (fun ev w' => ev = Ending.returned (Value.tuple #[.int .u64 (v : Int), .int .i64 (m : Int), .nilIface]) ∧ W = w') :=
        fun W hW => (hrv W hW).mono fun ev w' ⟨h1, h2⟩ => ⟨h1, h2⟩
      have HRV := Lib.hid hrv2
      clear hrv hrv2 hlen hlk hVS hln hby
      go_enter Tryd.func26, Tryd.ntmps26
      go_wp2_with (go_at_call 52; refine (stopped_ok hR).mono ?_; rintro e w1 ⟨rfl, rfl⟩)
      go_quiet ((go_at_call 55; first | exact quiet_same0 (HRV.out _ (hcut.drewN _)) | exact quiet_same (HRV.out _ (hcut.drewN _))))
      go_wp2_with fail
      all_goals
        go_ret
        exact ⟨rfl, RdS.goes hR (x := none) rfl m hm ((Drawn.one w _).below (Below.refl _ _))⟩
    · rw [if_neg he]
      have hrv2 : ∀ W : World, Reads W g 1 (if c = at_ then A else Option.map (fun x => x.add at_) A) (n - at_) (bs (l.drop at_)) → Calls Tryd.prog 55 #[.slice (if c = at_ then A else Option.map (fun x => x.add at_) A) (n - at_) (c - at_)] W (fun ev w' => ev = Ending.returned (Value.tuple #[.int .u64 (v : Int), .int .i64 (m : Int), .iface 44 (.int .i64 (e : Int))]) ∧ W = w') :=
        fun W hW => (hrv W hW).mono fun ev w' ⟨h1, h2⟩ => ⟨by rw [h1]; simp [lookV, look3, he], h2⟩
      have HRV := Lib.hid hrv2
      clear hrv hrv2 hlen hlk hVS hln hby
      go_enter Tryd.func26, Tryd.ntmps26
      go_wp2_with (go_at_call 52; refine (stopped_ok hR).mono ?_; rintro e w1 ⟨rfl, rfl⟩)
      go_quiet ((go_at_call 55; first | exact quiet_same0 (HRV.out _ (hcut.drewN _)) | exact quiet_same (HRV.out _ (hcut.drewN _))))
      go_wp2_with (go_at_call 53; refine (stop_any (e : Int) (hR.drewN _)).mono ?_; rintro e w2 ⟨rfl, hto1, hto2⟩)
      all_goals
        go_ret
        exact ⟨rfl, hto1, (only_drewN (World.grownBy.refl w _) _).trans hto2⟩
end Go.Proofs.YtieknhhhcjdbnaaDoor

/- Plain facts on a blob that is read: what was put is read as it was, whatever stands behind it; what is read has just the bytes that it has when it is put. No program. -/
namespace Go.Proofs.YtieknhhhcjdbnaaDoor
open Go.RowKit
set_option linter.unusedVariables false
set_option linter.unusedSimpArgs false
set_option maxRecDepth 100000

theorem blobS_some (l : List Nat) (at_ : Nat) (y : Int × Nat) (most : Int) : blobS l at_ (some y) most = ([], at_, some y) := rfl
theorem blobS_put (l p rest : List Nat) (at_ : Nat) (most : Int) (h : l.drop at_ = vb p.length ++ p ++ rest) (hp : (p.length : Int) ≤ most) (h64 : p.length < 18446744073709551616) :
    blobS l at_ none most = (p, at_ + ((vb p.length).length + p.length), none) := by
  have hk := look_vb p.length h64 (p ++ rest)
  have hB : lookB (l.drop at_) most = ((vb p.length).length, (vb p.length).length + p.length, 0) := by
    unfold lookB
    rw [h, List.append_assoc]
    simp only [hk, if_true]
    rw [if_neg (by omega), if_neg (by simp)]
  unfold blobS
  simp only [hB, if_true]
  rw [h, List.append_assoc, List.drop_take, Nat.add_sub_cancel_left, List.drop_append_of_le_length (Nat.le_refl _), List.drop_length, List.nil_append, List.take_append_of_le_length (Nat.le_refl _), List.take_length]
theorem blobS_ok (l : List Nat) (at_ : Nat) (most : Int) (y : Int × Nat) (h : (blobS l at_ none most).2.2 = some y) : y.1 ≠ 0 := by
  unfold blobS at h
  simp only at h
  split at h
  · cases h
  · rename_i h1
    injection h with h
    subst h
    show ((lookB (l.drop at_) most).2.2 : Int) ≠ 0
    omega
theorem blobS_is {l : List Nat} (hb : ∀ x ∈ l, x < 256) {at_ : Nat} (hat : at_ ≤ l.length) {most : Int} (h : (blobS l at_ none most).2.2 = none) :
    ∃ p, blobS l at_ none most = (p, at_ + ((vb p.length).length + p.length), none) ∧ (p.length : Int) ≤ most ∧ at_ + ((vb p.length).length + p.length) ≤ l.length ∧ l.take (at_ + ((vb p.length).length + p.length)) = l.take at_ ++ (vb p.length ++ p) ∧ ∀ x ∈ p, x < 256 := by
  have hE : (lookB (l.drop at_) most).2.2 = 0 := by
    unfold blobS at h
    simp only at h
    split at h
    · rename_i h1; exact h1
    · cases h
  rcases hk : lookF 0 0 (l.drop at_) with ⟨v, m, e⟩
  have hB := hE
  unfold lookB at hB
  rw [hk] at hB
  simp only at hB
  by_cases he : e = 0
  · subst he
    rw [if_pos rfl] at hB
    by_cases hq : most < 0 ∨ most < (v : Int)
    · rw [if_pos hq] at hB; simp at hB
    · rw [if_neg hq] at hB
      by_cases hs : (l.drop at_).length - m < v
      · rw [if_pos hs] at hB; simp at hB
      · have hlk := look_is (fun x hx => hb x (List.mem_of_mem_drop hx)) hk
        have hlen := look_len (l.drop at_) 0 0 (by rw [hk])
        rw [hk] at hlen
        simp only [List.length_drop] at hlen hs
        have hL : lookB (l.drop at_) most = (m, m + v, 0) := by
          unfold lookB
          rw [hk]
          simp only [if_true]
          rw [if_neg hq, if_neg (by rw [List.length_drop]; exact hs)]
        have hm : (vb v).length = m := by rw [← hlk.1, List.length_take, List.length_drop]; omega
        have hp : (((l.drop at_).take (m + v)).drop m).length = v := by rw [List.length_drop, List.length_take, List.length_drop]; omega
        refine ⟨((l.drop at_).take (m + v)).drop m, ?_, ?_, ?_, ?_, ?_⟩
        · unfold blobS
          simp only [hL, if_true]
          rw [hp, hm]
        · rw [hp]; omega
        · rw [hp, hm]; omega
        · rw [hp, hm, List.take_add, ← hlk.1]
          congr 1
          have h1 : ((l.drop at_).take (m + v)).take m = (l.drop at_).take m := by rw [List.take_take]; congr 1; omega
          rw [← h1, List.take_append_drop]
        · intro x hx
          exact hb x (List.mem_of_mem_drop (List.mem_of_mem_take (List.mem_of_mem_drop hx)))
  · rw [if_neg he] at hB; exact absurd hB he
end Go.Proofs.YtieknhhhcjdbnaaDoor

/- A byte that is taken of a reader. No condition. -/
namespace Go.Proofs.YtieknhhhcjdbnaaDoor
open Go.RowKit
set_option linter.unusedVariables false
set_option linter.unusedSimpArgs false
set_option maxRecDepth 100000

theorem fix_byte (b : List Nat) (at_ v : Nat) (h : b[at_]? = some v) : fixS b at_ none 1 = (v, at_ + 1, none) := by
  obtain ⟨hl, rfl⟩ := List.getElem?_eq_some_iff.1 h
  unfold fixS
  simp only
  rw [if_neg (by omega), if_neg (by omega)]
  have e : (b.drop at_).take (1 : Int).toNat = [b[at_]] := by
    rw [List.drop_eq_getElem_cons hl]; rfl
  rw [e]
  rfl
theorem fix_small (b : List Nat) (at_ : Nat) (x : Option (Int × Nat)) (hb : ∀ v ∈ b, v < 256) : (fixS b at_ x 1).1 < 256 := by
  cases x with
  | some y => show (0 : Nat) < 256; omega
  | none =>
    cases h : b[at_]? with
    | none =>
      have := List.getElem?_eq_none_iff.1 h
      unfold fixS
      simp only
      rw [if_neg (by omega), if_pos (by omega)]
      show (0 : Nat) < 256
      omega
    | some v => rw [fix_byte b at_ v h]; exact hb v (List.mem_of_getElem? h)
end Go.Proofs.YtieknhhhcjdbnaaDoor
