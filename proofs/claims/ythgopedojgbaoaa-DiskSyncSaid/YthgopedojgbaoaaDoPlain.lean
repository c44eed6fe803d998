/- Acts on a disk, over no program: what each leaves and answers; rooms; what is refused as too much changes nothing. -/
import Derived.Test.YthgopedojgbaoaaDkBoot
namespace Go.Proofs.Ythgopedojgbaoaa
set_option linter.unusedVariables false
set_option linter.unusedSimpArgs false

/-- An act. -/
structure Ac where
  kind : Int
  name : ByteArray
  to : ByteArray
  b : List Nat
  bA : Option Addr
  bc : Nat
  n : Int
  ks : List Int
  kA : Option Addr
  kc : Nat
def addS (S : St) (k : List UInt8) (x : List Nat) : Nat × St := S.deed (fun T => T.add k x) (fun T => T.add k x)
def onS (S : St) (k : List UInt8) (act : St → Fl → Nat × St) : Nat × St := S.deed (fun T => T.on k act) (fun T => (0, T))
/-- What is done, and what it answers. -/
def DoR (x : Ac) (S : St) (r : Nat × St) : Prop :=
  if x.kind = 0 ∨ x.kind = 1 then r = addS S x.name.data.toList x.b
  else if x.kind = 2 then r = onS S x.name.data.toList (actSync x.name.data.toList)
  else if x.kind = 3 then r = onS S x.name.data.toList (actRen x.name.data.toList x.to.data.toList)
  else if x.kind = 4 then r = onS S x.name.data.toList (actDel x.name.data.toList)
  else if x.kind = 5 then r = onS S x.name.data.toList (actCut x.name.data.toList x.n)
  else if x.kind = 6 then r = (0, { S with fuse := x.n })
  else if x.kind = 7 then ∃ ts, NamesOf S.V ts ∧ r = (0, (bootS ts ({ S with down := false, fuse := -1 }, x.ks)).1)
  else r = (0, S)
/-- What Used tells. -/
def shown (S : St) : Nat := if S.down = true then 0 else S.used
theorem deed_room {S : St} {whole ahead : St → Nat × St} (hw : ∀ T : St, (whole T).2.room = T.room) (ha : ∀ T : St, (ahead T).2.room = T.room) : (S.deed whole ahead).2.room = S.room := by
  unfold St.deed
  split
  · rfl
  · split
    · exact ha S
    · exact hw S.tick
theorem add_room (k : List UInt8) (x : List Nat) (S : St) : (S.add k x).2.room = S.room := by
  unfold St.add
  repeat (first | rfl | split)
theorem on_room {k : List UInt8} {act : St → Fl → Nat × St} (ha : ∀ T f, (act T f).2.room = T.room) (S : St) : (S.on k act).2.room = S.room := by
  unfold St.on
  split
  · rfl
  · split
    · rfl
    · exact ha _ _
theorem gone_room (k : List UInt8) (S : St) : (S.gone k).room = S.room := by
  unfold St.gone
  split <;> rfl
theorem actRen_room (k k2 : List UInt8) (S : St) (f : Fl) : (actRen k k2 S f).2.room = S.room := by
  unfold actRen
  split
  · rfl
  · split
    · rfl
    · exact gone_room k2 S
theorem actCut_room (k : List UInt8) (n : Int) (S : St) (f : Fl) : (actCut k n S f).2.room = S.room := by
  unfold actCut
  split <;> rfl
theorem bootS_room : ∀ (ts : List (List UInt8)) (x : St × List Int), (bootS ts x).1.room = x.1.room
  | [], _ => rfl
  | k :: r, (S, l) => by
    rw [bootS_cons, bootS_room r]
    unfold bootK
    simp only
    split <;> rfl
theorem DoR.room {x : Ac} {S : St} {r : Nat × St} (h : DoR x S r) : r.2.room = S.room := by
  unfold DoR at h
  split at h
  · rw [h]; exact deed_room (add_room _ _) (add_room _ _)
  · split at h
    · rw [h]; exact deed_room (on_room fun _ _ => rfl) (fun _ => rfl)
    · split at h
      · rw [h]; exact deed_room (on_room (actRen_room _ _)) (fun _ => rfl)
      · split at h
        · rw [h]; exact deed_room (on_room fun T f => gone_room _ _) (fun _ => rfl)
        · split at h
          · rw [h]; exact deed_room (on_room (actCut_room _ _)) (fun _ => rfl)
          · split at h
            · rw [h]
            · split at h
              · obtain ⟨ts, _, h⟩ := h
                rw [h]
                exact bootS_room ts _
              · rw [h]
theorem deed_full {S : St} {whole ahead : St → Nat × St} (hw : ∀ T : St, (whole T).1 = 7 → (whole T).2 = T) (h : (S.deed whole ahead).1 = 7) : shown (S.deed whole ahead).2 = shown S := by
  unfold St.deed at h ⊢
  split
  · rfl
  · rename_i h1
    rw [if_neg h1] at h
    split
    · rename_i h2
      rw [if_pos h2] at h
      cases h
    · rename_i h2
      rw [if_neg h2] at h
      rw [hw _ h]
      rfl
theorem add_full (k : List UInt8) (x : List Nat) (S : St) (h : (S.add k x).1 = 7) : (S.add k x).2 = S := by
  unfold St.add at h ⊢
  split
  · rfl
  · rename_i h1
    rw [if_neg h1] at h
    cases hv : S.V k with
    | none =>
      rw [hv] at h
      simp only at h ⊢
      split
      · rfl
      · rename_i h2
        rw [if_neg h2] at h
        split
        · rfl
        · rename_i h3
          rw [if_neg h3] at h
          cases h
    | some f =>
      rw [hv] at h
      simp only at h ⊢
      split
      · rfl
      · rename_i h3
        rw [if_neg h3] at h
        cases h
theorem on_full {k : List UInt8} {act : St → Fl → Nat × St} (ha : ∀ T f, (act T f).1 ≠ 7) (S : St) (h : (S.on k act).1 = 7) : (S.on k act).2 = S := by
  exfalso
  unfold St.on at h
  split at h
  · cases h
  · split at h
    · cases h
    · exact ha _ _ h
theorem DoR.full {x : Ac} {S : St} {r : Nat × St} (h : DoR x S r) (h7 : r.1 = 7) : shown r.2 = shown S := by
  unfold DoR at h
  split at h
  · subst h; exact deed_full (add_full _ _) h7
  · split at h
    · subst h; exact deed_full (on_full fun _ _ e => by cases e) h7
    · split at h
      · subst h
        refine deed_full (on_full fun T f e => ?_) h7
        unfold actRen at e
        split at e
        · cases e
        · split at e <;> cases e
      · split at h
        · subst h; exact deed_full (on_full fun _ _ e => by cases e) h7
        · split at h
          · subst h
            refine deed_full (on_full fun T f e => ?_) h7
            unfold actCut at e
            split at e <;> cases e
          · split at h
            · subst h; cases h7
            · split at h
              · obtain ⟨ts, _, h⟩ := h
                subst h; cases h7
              · subst h; cases h7
theorem shown_le {S : St} (h : S.ok) : shown S ≤ S.room := by
  unfold shown
  have := h.le
  split <;> omega
end Go.Proofs.Ythgopedojgbaoaa
