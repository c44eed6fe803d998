/- Texts joined: DcGet VvErr DcCover. -/
import Derived.Test.YtppeagjklndidaaGreatDoorJ35
import Derived.Test.YtppeagjklndidaaGreatDoorDcReadL
import Derived.Test.YtppeagjklndidaaGreatDoorJ24
import Derived.Test.YtppeagjklndidaaGreatDoorDcRead2
/- Contract of package dict's Get: the numbers in new memory, or the error's number. -/
namespace Go.Proofs.YtppeagjklndidaaGreatDoor
open Go.RowKit
set_option linter.unusedVariables false
set_option linter.unusedSimpArgs false
set_option maxRecDepth 100000

theorem dcGet_no (A : Option Addr) (n c : Nat) (b : List Nat) (k : Int) (w : World) (h : k < 0 ∨ 65536 < k) :
    Calls Tryz.prog 6 #[.slice A n c, .int .i64 k] w (NewLE w (dcG b k) (dcE b k)) := by
  obtain ⟨h1, h2⟩ := dcE_bad (b := b) h
  rw [h1, h2]
  have HC := Lib.hid (pcGetI_no A n c k (.func (.func 16) #[] #[]) w h)
  clear h1 h2 h
  go_enter Tryz.func6, Tryz.ntmps6
  go_wp2_with fail
  refine HC.out.mono ?_
  rintro e w1 ⟨rfl, rfl⟩
  go_wp2_with fail
  go_ret2
  exact ⟨.slice none 0 0, rfl, own_nil _ _ _ _, Below.refl _ _⟩
theorem dcS_fit {b : List Nat} (hb : ∀ x ∈ b, x < 256) {N : Nat} (hN : N ≤ 65536) (hE : dcE b (N : Int) = 0) : (dcS b N).1.length = N ∧ ∀ a ∈ (dcS b N).1, a < (rdl b N).2.length := by
  obtain ⟨z1, z2, z3⟩ := dcE_zero hN hE
  obtain ⟨h1, h2, h3, _⟩ := dcG_rest hb hN z2 z3 hE
  obtain ⟨e1, e2, e3⟩ := ld_place hb z3
  have hr : rdl b N = ((ldS b (vv b 0)).1, ldL b (vv b 0)) := by unfold rdl; rw [if_neg z2]
  have hP : (dcS b N).1 = unpackS (b.drop ((vst b (vv b 0 + 1)).1 + 1)) (N : Int) (blen (vv b 0 - 1) : Int) := by
    unfold dcS
    rw [hr]
    simp only
    rw [e1, ldL_length]
    simp only
    rw [rp_rest b _ N _ h1]
  obtain ⟨_, _, p3, _⟩ := pack_again (b.drop ((vst b (vv b 0 + 1)).1 + 1)) (N : Int) (blen (vv b 0 - 1) : Int) (fun x hx => hb x (List.mem_of_mem_drop hx)) h2
  obtain ⟨w1, _⟩ := whE_zero h3
  rw [hP, hr]
  simp only
  rw [ldL_length]
  exact ⟨by rw [p3]; simp, w1⟩
theorem rdl_length {b : List Nat} {N : Nat} (hN : N ≤ 65536) : (rdl b N).2.length ≤ 65536 := by
  unfold rdl
  split
  · simp
  · rename_i h; rw [ldL_length]; omega
theorem dcGet_ok (A : Option Addr) (n c N : Nat) (b : List Nat) (w : World) (hr : Reads w w.heap.size 1 A n (bs b)) (hb : ∀ x ∈ b, x < 256) (hn : n ≤ 140737488355328) (hN : N ≤ 65536) (hmet : Met w) :
    Calls Tryz.prog 6 #[.slice A n c, .int .i64 (N : Int)] w (NewLE w (dcG b (N : Int)) (dcE b (N : Int))) := by
  have hE : dcE b (N : Int) = (endS b (dcS b N).2.1 (dcS b N).2.2).1 := by
    unfold dcE
    rw [if_neg (by omega), Int.toNat_natCast]
  have hG : dcG b (N : Int) = if dcE b (N : Int) = 0 then (dcS b N).1.map (fun a => ((rdl b N).2[a]?).getD 0) else [] := by
    unfold dcG
    rw [Int.toNat_natCast]
  have HC := Lib.hid (pcGetI_any A n c N b (rdl b N).1.1 (rdl b N).1.2 (fun X => X = zs (rdl b N).2) (dcE b (N : Int)) (zs (dcG b (N : Int))) w hr hb hn hN hmet
    (fun w g _ h => (readL_any N h hN).mono fun e w' ⟨v, h1, h2, h3⟩ => ⟨v, zs (rdl b N).2, h1, by rw [zs_length]; exact h2, rfl, h3⟩)
    (fun X hX => by
      subst hX
      rw [zs_length]
      refine ⟨rdl_length hN, hE.symm, fun h0 => ?_⟩
      obtain ⟨f1, f2⟩ := dcS_fit hb hN h0
      refine ⟨f1, ?_, fun k p hp => ?_⟩
      · rw [zs_length, hG, if_pos h0, List.length_map, f1]
      · have hpX : p < (rdl b N).2.length := f2 p (List.mem_of_getElem? hp)
        have hz : (rdl b N).2[p]? = some (rdl b N).2[p] := List.getElem?_eq_getElem hpX
        refine ⟨(rdl b N).2[p], zs_get hz, zs_get ?_⟩
        rw [hG, if_pos h0, List.getElem?_map, show (dcS b N).1[k]? = some p from hp]
        simp [hz])
    (fun h0 => by rw [hG, if_neg h0]; rfl))
  clear hE hG
  go_enter Tryz.func6, Tryz.ntmps6
  go_wp2_with fail
  refine HC.out.mono ?_
  rintro e w1 ⟨v, rfl, hown, hb1⟩
  go_wp2_with fail
  go_ret2
  exact ⟨v, rfl, by rw [zs_length] at hown; exact hown, hb1⟩
theorem dcGet_any (A : Option Addr) (n c : Nat) (k : Int) (b : List Nat) (w : World) (hr : Reads w w.heap.size 1 A n (bs b)) (hb : ∀ x ∈ b, x < 256) (hn : n ≤ 140737488355328) (hmet : Met w) :
    Calls Tryz.prog 6 #[.slice A n c, .int .i64 k] w (NewLE w (dcG b k) (dcE b k)) := by
  by_cases h : k < 0 ∨ 65536 < k
  · exact dcGet_no A n c b k w h
  · obtain ⟨N, rfl⟩ : ∃ N : Nat, k = (N : Int) := ⟨k.toNat, by omega⟩
    exact dcGet_ok A n c N b w hr hb hn (by omega) hmet
end Go.Proofs.YtppeagjklndidaaGreatDoor

/- Where the first short number can't be read it is told as 0. No program. -/
namespace Go.Proofs.YtppeagjklndidaaGreatDoor
open Go.RowKit
set_option linter.unusedVariables false
set_option linter.unusedSimpArgs false

theorem vv_err {b : List Nat} {y : Int × Nat} (h : (vst b 1).2 = some y) : vv b 0 = 0 := by
  have h2 : (varS b 0 none).2.2 = some y := h
  show (varS b 0 none).1 = 0
  unfold varS at h2 ⊢
  simp only at h2 ⊢
  split
  · rename_i h3; rw [if_pos h3] at h2; cases h2
  · rfl
end Go.Proofs.YtppeagjklndidaaGreatDoor

/- Plain facts: what numbers at places of a list have of it; the document's way to reckon a number of the list. -/
namespace Go.Proofs.YtppeagjklndidaaGreatDoor
open Go.RowKit
set_option linter.unusedVariables false
set_option linter.unusedSimpArgs false
set_option maxRecDepth 100000

theorem rise_sub : ∀ (b a : List Int), Rise a → Rise b → (∀ x ∈ a, x ∈ b) → a.length ≤ b.length ∧ (a.length = b.length → a = b) := by
  intro b
  induction b with
  | nil =>
    intro a _ _ h
    cases a with
    | nil => exact ⟨Nat.le_refl _, fun _ => rfl⟩
    | cons x a => have := h x (by simp); simp at this
  | cons y b ih =>
    intro a ha hb h
    cases a with
    | nil => exact ⟨by simp, fun e => by simp at e⟩
    | cons x a =>
      obtain ⟨a1, a2⟩ := List.pairwise_cons.1 ha
      obtain ⟨b1, b2⟩ := List.pairwise_cons.1 hb
      by_cases hxy : x = y
      · subst hxy
        have hs : ∀ z ∈ a, z ∈ b := fun z hz => by
          rcases List.mem_cons.1 (h z (List.mem_cons_of_mem _ hz)) with rfl | h1
          · have := a1 z hz; omega
          · exact h1
        obtain ⟨i1, i2⟩ := ih a a2 b2 hs
        refine ⟨by simp only [List.length_cons]; omega, fun e => ?_⟩
        simp only [List.length_cons] at e
        rw [i2 (by omega)]
      · have hxb : x ∈ b := by
          rcases List.mem_cons.1 (h x (by simp)) with h1 | h1
          · exact absurd h1 hxy
          · exact h1
        have hyx := b1 x hxb
        have hs : ∀ z ∈ x :: a, z ∈ b := fun z hz => by
          rcases List.mem_cons.1 (h z hz) with rfl | h1
          · rcases List.mem_cons.1 hz with h2 | h2
            · omega
            · have := a1 z h2; omega
          · exact h1
        obtain ⟨i1, _⟩ := ih (x :: a) ha b2 hs
        simp only [List.length_cons] at i1 ⊢
        exact ⟨by omega, fun e => by omega⟩
/-- The numbers at these places. -/
def atL (X : List Int) (L : List Nat) : List Int := L.map fun a => (X[a]?).getD 0
theorem atL_length (X : List Int) (L : List Nat) : (atL X L).length = L.length := by simp [atL]
theorem atL_step {X : List Int} {L : List Nat} {k a : Nat} {z : Int} (h : L[k]? = some a) (hz : X[a]? = some z) : atL X (L.take (k + 1)) = atL X (L.take k) ++ [z] := by
  unfold atL
  rw [take_snoc h, List.map_append]
  simp [hz]
theorem cover_iff {X : List Int} {L : List Nat} {c : Nat} (hX : Rise X) (hc : X.length = c) (hL : ∀ a ∈ L, a < c) : (whE L c = 0 ∧ (lstD (atL X L)).length = c) ∨ (whE L c = 4 ∧ (lstD (atL X L)).length ≠ c) := by
  have hget : ∀ a, a < c → ∃ z, X[a]? = some z ∧ (X[a]?).getD 0 = z := fun a ha => by
    have : X[a]? = some X[a] := List.getElem?_eq_getElem (by omega)
    exact ⟨_, this, by rw [this]; rfl⟩
  have hmem : ∀ x, x ∈ atL X L ↔ ∃ a ∈ L, X[a]? = some x := fun x => by
    unfold atL
    rw [List.mem_map]
    constructor
    · rintro ⟨a, ha, rfl⟩
      obtain ⟨z, e1, e2⟩ := hget a (hL a ha)
      exact ⟨a, ha, by rw [e2]; exact e1⟩
    · rintro ⟨a, ha, h⟩
      exact ⟨a, ha, by rw [h]; rfl⟩
  have hsub : ∀ x ∈ lstD (atL X L), x ∈ X := fun x hx => by
    obtain ⟨a, _, h⟩ := (hmem x).1 ((lstD_mem _ x).1 hx)
    exact List.mem_of_getElem? h
  obtain ⟨_, s2⟩ := rise_sub X _ (lstD_rise (atL X L)) hX hsub
  have hel : (∀ i, i < c → i ∈ L) ↔ (lstD (atL X L)).length = c := by
    constructor
    · intro h
      have : lstD (atL X L) = X := rise_ext _ _ (lstD_rise _) hX fun x => by
        refine ⟨hsub x, fun hx => ?_⟩
        obtain ⟨i, hi, rfl⟩ := List.mem_iff_getElem.1 hx
        exact (lstD_mem _ _).2 ((hmem _).2 ⟨i, h i (by omega), List.getElem?_eq_getElem hi⟩)
      rw [this, hc]
    · intro h i hi
      have h1 := s2 (by rw [h, hc])
      have hiX : X[i]? = some X[i] := List.getElem?_eq_getElem (by omega)
      have h2 : X[i] ∈ lstD (atL X L) := by rw [h1]; exact List.getElem_mem _
      obtain ⟨a, ha, h3⟩ := (hmem _).1 ((lstD_mem _ _).1 h2)
      rw [rise_inj hX hiX h3]; exact ha
  by_cases h : (lstD (atL X L)).length = c
  · exact .inl ⟨whE_of hL (hel.2 h), h⟩
  · refine .inr ⟨?_, h⟩
    unfold whE
    rw [if_neg, if_neg]
    · intro h1
      refine h (hel.1 fun i hi => ?_)
      have := List.all_eq_true.1 h1 i (by simpa using hi)
      simpa using this
    · intro h1
      rw [List.any_eq_true] at h1
      obtain ⟨a, ha, hca⟩ := h1
      have := hL a ha
      simp at hca; omega
theorem whE_out {L : List Nat} {c k a : Nat} (h : L[k]? = some a) (hc : c ≤ a) : whE L c = 5 := by
  unfold whE
  rw [if_pos]
  rw [List.any_eq_true]
  exact ⟨a, List.mem_of_getElem? h, by simpa using hc⟩
theorem step_eq2 (p : Int) (v : Nat) : wrap64 (IntKind.u64.wrap (IntKind.u64.wrap (IntKind.u64.wrap p + (v : Int)) + 1)) = wrap64 (p + v + 1) := by
  rw [u64w, u64w, u64w, wr64, wr64]; omega
end Go.Proofs.YtppeagjklndidaaGreatDoor
