/- Texts joined: TxGet DcCover TxCover. -/
import Derived.Test.YtppeagjklndidaaGreatDoorJ32
import Derived.Test.YtppeagjklndidaaGreatDoorTxReadL
import Derived.Test.YtppeagjklndidaaGreatDoorJ22
import Derived.Test.YtppeagjklndidaaGreatDoorDcRead2
import Derived.Test.YtppeagjklndidaaGreatDoorJ34
import Derived.Test.YtppeagjklndidaaGreatDoorTxRead
/- Contract of package texts' Get: the texts in new memory, or the error's number. -/
namespace Go.Proofs.YtppeagjklndidaaGreatDoor
open Go.RowKit
set_option linter.unusedVariables false
set_option linter.unusedSimpArgs false
set_option maxRecDepth 100000

theorem txGet_no (A : Option Addr) (n c : Nat) (b : List Nat) (k : Int) (w : World) (h : k < 0 ∨ 65536 < k) :
    Calls Tryz.prog 10 #[.slice A n c, .int .i64 k] w (NewTE w (txG b k) (txE b k)) := by
  obtain ⟨h1, h2⟩ := txE_bad (b := b) h
  rw [h1, h2]
  have HC := Lib.hid (pcGetS_no A n c k (.func (.func 25) #[] #[]) w h)
  clear h1 h2 h
  go_enter Tryz.func10, Tryz.ntmps10
  go_wp2_with fail
  refine HC.out.mono ?_
  rintro e w1 ⟨rfl, rfl⟩
  go_wp2_with fail
  go_ret2
  exact ⟨.slice none 0 0, rfl, own_nil _ _ _ _, Below.refl _ _⟩
theorem txS_fit {b : List Nat} (hb : ∀ x ∈ b, x < 256) {N : Nat} (hN : N ≤ 65536) (hE : txE b (N : Int) = 0) : (txS b N).1.length = N ∧ ∀ a ∈ (txS b N).1, a < (rdt b N).2.length := by
  obtain ⟨z1, z2, z3⟩ := txE_zero hN hE
  obtain ⟨h1, h2, h3, _⟩ := txG_rest hb hN z2 z3 hE
  have hr : rdt b N = ((tdS b (vv b 0)).1, tdL b (vv b 0)) := by unfold rdt; rw [if_neg z2]
  have hP : (txS b N).1 = unpackS (b.drop ((tdS b (vv b 0)).1.1 + 1)) (N : Int) (blen (vv b 0 - 1) : Int) := by
    unfold txS
    rw [hr]
    simp only
    rw [z3, tdL_length]
    rw [rp_rest b _ N _ h1]
  obtain ⟨_, _, p3, _⟩ := pack_again (b.drop ((tdS b (vv b 0)).1.1 + 1)) (N : Int) (blen (vv b 0 - 1) : Int) (fun x hx => hb x (List.mem_of_mem_drop hx)) h2
  obtain ⟨w1, _⟩ := whE_zero h3
  rw [hP, hr]
  simp only
  rw [tdL_length]
  exact ⟨by rw [p3]; simp, w1⟩
theorem rdt_length {b : List Nat} {N : Nat} (hN : N ≤ 65536) : (rdt b N).2.length ≤ 65536 := by
  unfold rdt
  split
  · simp
  · rename_i h; simp only; rw [tdL_length]; omega
theorem rdt_ok (b : List Nat) (N : Nat) (y : Int × Nat) (h : (rdt b N).1.2 = some y) : y.1 ≠ 0 := by
  unfold rdt at h
  split at h
  · simp only at h
    cases hx : (vst b 1).2 with
    | some z =>
      rw [hx] at h
      injection h with h
      subst h
      exact vst_ok b 1 z hx
    | none =>
      rw [hx, failS_none _ _ (by omega)] at h
      injection h with h
      subst h
      simp
  · exact tdS_ok b _ y h
/-- What readList hands out. -/
def ReadQ (b : List Nat) (N : Nat) (X : List Value) : Prop := ∃ L : List Tx, X = ts L ∧ L.length ≤ N ∧ ((rdt b N).1.2 = none → L = (rdt b N).2)
theorem readLT_any {w : World} {g : Nat} {b : List Nat} (n : Nat) (h : RdS w g b 0 none) (hn : n ≤ 65536) (hmet : Met w) :
    Calls Tryz.prog 25 #[.pointer (some ⟨g, 0, none⟩), .int .i64 (n : Int)] w (ReadLT w g b n) := by
  by_cases hc : n < vv b 0
  · exact readLT_much n h hn hmet hc
  · exact readLT_ok n h hn hmet hc
theorem readQ_fit {b : List Nat} (hb : ∀ x ∈ b, x < 256) {N : Nat} (hN : N ≤ 65536) {X : List Value} (hX : ReadQ b N X) : X.length ≤ 65536 ∧ (endS b (rpS b (rdt b N).1.1 (rdt b N).1.2 N X.length).2.1 (rpS b (rdt b N).1.1 (rdt b N).1.2 N X.length).2.2).1 = txE b (N : Int) ∧
    (txE b (N : Int) = 0 → (rpS b (rdt b N).1.1 (rdt b N).1.2 N X.length).1.length = N ∧ (ts (txG b (N : Int))).length = N ∧ ∀ (k p : Nat), (rpS b (rdt b N).1.1 (rdt b N).1.2 N X.length).1[k]? = some p → ∃ u : ByteArray, X[p]? = some (.string u) ∧ (ts (txG b (N : Int)))[k]? = some (.string u)) := by
  obtain ⟨L, rfl, hL, hQ⟩ := hX
  rw [ts_length]
  cases hx : (rdt b N).1.2 with
  | some y =>
    have hy := rdt_ok b N y hx
    have hE := txE_some hN hy hx
    refine ⟨by omega, ?_, fun h0 => ?_⟩
    · rw [rp_some, hE, endS_some _ _ _ hy]
    · rw [hE] at h0; exact absurd h0 hy
  | none =>
    obtain rfl := hQ hx
    have hS : rpS b (rdt b N).1.1 none N (rdt b N).2.length = txS b N := by unfold txS; rw [hx]
    rw [hS]
    have hE : txE b (N : Int) = (endS b (txS b N).2.1 (txS b N).2.2).1 := by unfold txE; rw [if_neg (by omega), Int.toNat_natCast]
    refine ⟨rdt_length hN, hE.symm, fun h0 => ?_⟩
    have hG : txG b (N : Int) = (txS b N).1.map (fun a => ((rdt b N).2[a]?).getD []) := by unfold txG; rw [if_pos h0, Int.toNat_natCast]
    obtain ⟨f1, f2⟩ := txS_fit hb hN h0
    refine ⟨f1, by rw [ts_length, hG, List.length_map, f1], fun k p hp => ?_⟩
    have hz : (rdt b N).2[p]? = some ((rdt b N).2[p]'(f2 p (List.mem_of_getElem? hp))) := List.getElem?_eq_getElem _
    refine ⟨_, ts_get hz, ts_get ?_⟩
    rw [hG, List.getElem?_map, hp]
    simp [hz]
theorem txGet_ok (A : Option Addr) (n c N : Nat) (b : List Nat) (w : World) (hr : Reads w w.heap.size 1 A n (bs b)) (hb : ∀ x ∈ b, x < 256) (hn : n ≤ 140737488355328) (hN : N ≤ 65536) (hmet : Met w) :
    Calls Tryz.prog 10 #[.slice A n c, .int .i64 (N : Int)] w (NewTE w (txG b (N : Int)) (txE b (N : Int))) := by
  have HC := Lib.hid (pcGetS_any A n c N b (rdt b N).1.1 (rdt b N).1.2 (ReadQ b N) (txE b (N : Int)) (ts (txG b (N : Int))) w hr hb hn hN hmet
    (fun w g hm h => (readLT_any N h hN hm).mono fun e w' ⟨v, X, h1, h2, h3, h4⟩ => ⟨v, ts X, h1, by rw [ts_length]; exact h2, ⟨X, rfl, h3.1, h3.2⟩, h4⟩)
    (fun X hX => readQ_fit hb hN hX)
    (fun h0 => by unfold txG; rw [if_neg h0]; rfl))
  go_enter Tryz.func10, Tryz.ntmps10
  go_wp2_with fail
  refine HC.out.mono ?_
  rintro e w1 ⟨v, rfl, hown, hb1⟩
  go_wp2_with fail
  go_ret2
  exact ⟨v, rfl, by rw [ts_length] at hown; exact hown, hb1⟩
theorem txGet_any (A : Option Addr) (n c : Nat) (k : Int) (b : List Nat) (w : World) (hr : Reads w w.heap.size 1 A n (bs b)) (hb : ∀ x ∈ b, x < 256) (hn : n ≤ 140737488355328) (hmet : Met w) :
    Calls Tryz.prog 10 #[.slice A n c, .int .i64 k] w (NewTE w (txG b k) (txE b k)) := by
  by_cases h : k < 0 ∨ 65536 < k
  · exact txGet_no A n c b k w h
  · obtain ⟨N, rfl⟩ : ∃ N : Nat, k = (N : Int) := ⟨k.toNat, by omega⟩
    exact txGet_ok A n c N b w hr hb hn (by omega) hmet
end Go.Proofs.YtppeagjklndidaaGreatDoor

/- Plain facts: what numbers at places of a list have of it; the document's way to reckon a number of the list. -/
namespace Go.Proofs.YtppeagjklndidaaGreatDoor
open Go.RowKit
set_option linter.unusedVariables false
set_option linter.unusedSimpArgs false
set_option maxRecDepth 100000

theorem rise_sub : ∀ (b a : List Int), Rise a → Rise b → (∀ x ∈ a, x ∈ b) → a.length ≤ b.length ∧ (a.length = b.length → a = b) := by
  intro b
  induction b with
  | nil =>
    intro a _ _ h
    cases a with
    | nil => exact ⟨Nat.le_refl _, fun _ => rfl⟩
    | cons x a => have := h x (by simp); simp at this
  | cons y b ih =>
    intro a ha hb h
    cases a with
    | nil => exact ⟨by simp, fun e => by simp at e⟩
    | cons x a =>
      obtain ⟨a1, a2⟩ := List.pairwise_cons.1 ha
      obtain ⟨b1, b2⟩ := List.pairwise_cons.1 hb
      by_cases hxy : x = y
      · subst hxy
        have hs : ∀ z ∈ a, z ∈ b := fun z hz => by
          rcases List.mem_cons.1 (h z (List.mem_cons_of_mem _ hz)) with rfl | h1
          · have := a1 z hz; omega
          · exact h1
        obtain ⟨i1, i2⟩ := ih a a2 b2 hs
        refine ⟨by simp only [List.length_cons]; omega, fun e => ?_⟩
        simp only [List.length_cons] at e
        rw [i2 (by omega)]
      · have hxb : x ∈ b := by
          rcases List.mem_cons.1 (h x (by simp)) with h1 | h1
          · exact absurd h1 hxy
          · exact h1
        have hyx := b1 x hxb
        have hs : ∀ z ∈ x :: a, z ∈ b := fun z hz => by
          rcases List.mem_cons.1 (h z hz) with rfl | h1
          · rcases List.mem_cons.1 hz with h2 | h2
            · omega
            · have := a1 z h2; omega
          · exact h1
        obtain ⟨i1, _⟩ := ih (x :: a) ha b2 hs
        simp only [List.length_cons] at i1 ⊢
        exact ⟨by omega, fun e => by omega⟩
/-- The numbers at these places. -/
def atL (X : List Int) (L : List Nat) : List Int := L.map fun a => (X[a]?).getD 0
theorem atL_length (X : List Int) (L : List Nat) : (atL X L).length = L.length := by simp [atL]
theorem atL_step {X : List Int} {L : List Nat} {k a : Nat} {z : Int} (h : L[k]? = some a) (hz : X[a]? = some z) : atL X (L.take (k + 1)) = atL X (L.take k) ++ [z] := by
  unfold atL
  rw [take_snoc h, List.map_append]
  simp [hz]
theorem cover_iff {X : List Int} {L : List Nat} {c : Nat} (hX : Rise X) (hc : X.length = c) (hL : ∀ a ∈ L, a < c) : (whE L c = 0 ∧ (lstD (atL X L)).length = c) ∨ (whE L c = 4 ∧ (lstD (atL X L)).length ≠ c) := by
  have hget : ∀ a, a < c → ∃ z, X[a]? = some z ∧ (X[a]?).getD 0 = z := fun a ha => by
    have : X[a]? = some X[a] := List.getElem?_eq_getElem (by omega)
    exact ⟨_, this, by rw [this]; rfl⟩
  have hmem : ∀ x, x ∈ atL X L ↔ ∃ a ∈ L, X[a]? = some x := fun x => by
    unfold atL
    rw [List.mem_map]
    constructor
    · rintro ⟨a, ha, rfl⟩
      obtain ⟨z, e1, e2⟩ := hget a (hL a ha)
      exact ⟨a, ha, by rw [e2]; exact e1⟩
    · rintro ⟨a, ha, h⟩
      exact ⟨a, ha, by rw [h]; rfl⟩
  have hsub : ∀ x ∈ lstD (atL X L), x ∈ X := fun x hx => by
    obtain ⟨a, _, h⟩ := (hmem x).1 ((lstD_mem _ x).1 hx)
    exact List.mem_of_getElem? h
  obtain ⟨_, s2⟩ := rise_sub X _ (lstD_rise (atL X L)) hX hsub
  have hel : (∀ i, i < c → i ∈ L) ↔ (lstD (atL X L)).length = c := by
    constructor
    · intro h
      have : lstD (atL X L) = X := rise_ext _ _ (lstD_rise _) hX fun x => by
        refine ⟨hsub x, fun hx => ?_⟩
        obtain ⟨i, hi, rfl⟩ := List.mem_iff_getElem.1 hx
        exact (lstD_mem _ _).2 ((hmem _).2 ⟨i, h i (by omega), List.getElem?_eq_getElem hi⟩)
      rw [this, hc]
    · intro h i hi
      have h1 := s2 (by rw [h, hc])
      have hiX : X[i]? = some X[i] := List.getElem?_eq_getElem (by omega)
      have h2 : X[i] ∈ lstD (atL X L) := by rw [h1]; exact List.getElem_mem _
      obtain ⟨a, ha, h3⟩ := (hmem _).1 ((lstD_mem _ _).1 h2)
      rw [rise_inj hX hiX h3]; exact ha
  by_cases h : (lstD (atL X L)).length = c
  · exact .inl ⟨whE_of hL (hel.2 h), h⟩
  · refine .inr ⟨?_, h⟩
    unfold whE
    rw [if_neg, if_neg]
    · intro h1
      refine h (hel.1 fun i hi => ?_)
      have := List.all_eq_true.1 h1 i (by simpa using hi)
      simpa using this
    · intro h1
      rw [List.any_eq_true] at h1
      obtain ⟨a, ha, hca⟩ := h1
      have := hL a ha
      simp at hca; omega
theorem whE_out {L : List Nat} {c k a : Nat} (h : L[k]? = some a) (hc : c ≤ a) : whE L c = 5 := by
  unfold whE
  rw [if_pos]
  rw [List.any_eq_true]
  exact ⟨a, List.mem_of_getElem? h, by simpa using hc⟩
theorem step_eq2 (p : Int) (v : Nat) : wrap64 (IntKind.u64.wrap (IntKind.u64.wrap (IntKind.u64.wrap p + (v : Int)) + 1)) = wrap64 (p + v + 1) := by
  rw [u64w, u64w, u64w, wr64, wr64]; omega
end Go.Proofs.YtppeagjklndidaaGreatDoor

/- Plain facts: what texts at places of a list have of it. -/
namespace Go.Proofs.YtppeagjklndidaaGreatDoor
open Go.RowKit
set_option linter.unusedVariables false
set_option linter.unusedSimpArgs false
set_option maxRecDepth 100000

theorem riseT_sub : ∀ (b a : List Tx), RiseT a → RiseT b → (∀ x ∈ a, x ∈ b) → a.length ≤ b.length ∧ (a.length = b.length → a = b) := by
  intro b
  induction b with
  | nil =>
    intro a _ _ h
    cases a with
    | nil => exact ⟨Nat.le_refl _, fun _ => rfl⟩
    | cons x a => have := h x (by simp); simp at this
  | cons y b ih =>
    intro a ha hb h
    cases a with
    | nil => exact ⟨by simp, fun e => by simp at e⟩
    | cons x a =>
      obtain ⟨a1, a2⟩ := List.pairwise_cons.1 ha
      obtain ⟨b1, b2⟩ := List.pairwise_cons.1 hb
      by_cases hxy : x = y
      · subst hxy
        have hs : ∀ z ∈ a, z ∈ b := fun z hz => by
          rcases List.mem_cons.1 (h z (List.mem_cons_of_mem _ hz)) with rfl | h1
          · exact absurd (a1 z hz) (tlt_irrefl z)
          · exact h1
        obtain ⟨i1, i2⟩ := ih a a2 b2 hs
        refine ⟨by simp only [List.length_cons]; omega, fun e => ?_⟩
        simp only [List.length_cons] at e
        rw [i2 (by omega)]
      · have hxb : x ∈ b := by
          rcases List.mem_cons.1 (h x (by simp)) with h1 | h1
          · exact absurd h1 hxy
          · exact h1
        have hyx := b1 x hxb
        have hs : ∀ z ∈ x :: a, z ∈ b := fun z hz => by
          rcases List.mem_cons.1 (h z hz) with rfl | h1
          · rcases List.mem_cons.1 hz with h2 | h2
            · exact absurd (by rw [← h2] at hyx; exact hyx) (tlt_irrefl _)
            · exact absurd (tlt_trans hyx (a1 z h2)) (tlt_irrefl z)
          · exact h1
        obtain ⟨i1, _⟩ := ih (x :: a) ha b2 hs
        simp only [List.length_cons] at i1 ⊢
        exact ⟨by omega, fun e => by omega⟩
/-- The texts at these places. -/
def atT (X : List Tx) (L : List Nat) : List Tx := L.map fun a => (X[a]?).getD []
theorem atT_length (X : List Tx) (L : List Nat) : (atT X L).length = L.length := by simp [atT]
theorem atT_step {X : List Tx} {L : List Nat} {k a : Nat} {z : Tx} (h : L[k]? = some a) (hz : X[a]? = some z) : atT X (L.take (k + 1)) = atT X (L.take k) ++ [z] := by
  unfold atT
  rw [take_snoc h, List.map_append]
  simp [hz]
theorem coverT_iff {X : List Tx} {L : List Nat} {c : Nat} (hX : RiseT X) (hc : X.length = c) (hL : ∀ a ∈ L, a < c) : (whE L c = 0 ∧ (lstT (atT X L)).length = c) ∨ (whE L c = 4 ∧ (lstT (atT X L)).length ≠ c) := by
  have hget : ∀ a, a < c → ∃ z, X[a]? = some z ∧ (X[a]?).getD [] = z := fun a ha => by
    have : X[a]? = some X[a] := List.getElem?_eq_getElem (by omega)
    exact ⟨_, this, by rw [this]; rfl⟩
  have hmem : ∀ x, x ∈ atT X L ↔ ∃ a ∈ L, X[a]? = some x := fun x => by
    unfold atT
    rw [List.mem_map]
    constructor
    · rintro ⟨a, ha, rfl⟩
      obtain ⟨z, e1, e2⟩ := hget a (hL a ha)
      exact ⟨a, ha, by rw [e2]; exact e1⟩
    · rintro ⟨a, ha, h⟩
      exact ⟨a, ha, by rw [h]; rfl⟩
  have hsub : ∀ x ∈ lstT (atT X L), x ∈ X := fun x hx => by
    obtain ⟨a, _, h⟩ := (hmem x).1 ((lstT_mem _ x).1 hx)
    exact List.mem_of_getElem? h
  obtain ⟨_, s2⟩ := riseT_sub X _ (lstT_rise (atT X L)) hX hsub
  have hel : (∀ i, i < c → i ∈ L) ↔ (lstT (atT X L)).length = c := by
    constructor
    · intro h
      have : lstT (atT X L) = X := riseT_ext _ _ (lstT_rise _) hX fun x => by
        refine ⟨hsub x, fun hx => ?_⟩
        obtain ⟨i, hi, rfl⟩ := List.mem_iff_getElem.1 hx
        exact (lstT_mem _ _).2 ((hmem _).2 ⟨i, h i (by omega), List.getElem?_eq_getElem hi⟩)
      rw [this, hc]
    · intro h i hi
      have h1 := s2 (by rw [h, hc])
      have hiX : X[i]? = some X[i] := List.getElem?_eq_getElem (by omega)
      have h2 : X[i] ∈ lstT (atT X L) := by rw [h1]; exact List.getElem_mem _
      obtain ⟨a, ha, h3⟩ := (hmem _).1 ((lstT_mem _ _).1 h2)
      rw [riseT_inj hX hiX h3]; exact ha
  by_cases h : (lstT (atT X L)).length = c
  · exact .inl ⟨whE_of hL (hel.2 h), h⟩
  · refine .inr ⟨?_, h⟩
    unfold whE
    rw [if_neg, if_neg]
    · intro h1
      refine h (hel.1 fun i hi => ?_)
      have := List.all_eq_true.1 h1 i (by simpa using hi)
      simpa using this
    · intro h1
      rw [List.any_eq_true] at h1
      obtain ⟨a, ha, hca⟩ := h1
      have := hL a ha
      simp at hca; omega
end Go.Proofs.YtppeagjklndidaaGreatDoor
