/- A disk of which each file is synced, over no program: a new start changes nothing. -/
import Derived.Test.YthgopedojgbaoaaDkBoot
namespace Go.Proofs.Ythgopedojgbaoaa
set_option linter.unusedVariables false
set_option linter.unusedSimpArgs false

def bytesOf (V : Fs) (t : List UInt8) : List Nat := match V t with | some f => f.1 | none => []
theorem bytesOf_some {V : Fs} {t : List UInt8} {f : Fl} (h : V t = some f) : bytesOf V t = f.1 := by simp [bytesOf, h]
/-- The disk 'S1', of which the files 'done' have been synced. -/
structure Half (S1 S : St) (done : List (List UInt8)) : Prop where
  down : S.down = false
  fuse : S.fuse = -1
  used : S.used = S1.used
  same : ∀ t, (S.V t).map Prod.fst = (S1.V t).map Prod.fst
  sure : ∀ t ∈ done, ∀ f, S.V t = some f → f.2 = f.1.length
theorem Half.start {S1 : St} (hd : S1.down = false) (hf : S1.fuse = -1) : Half S1 S1 [] := ⟨hd, hf, rfl, fun _ => rfl, fun t ht => by simp at ht⟩
theorem Half.dom {S1 S : St} {done : List (List UInt8)} (h : Half S1 S done) (t : List UInt8) : (S.V t).isSome = (S1.V t).isSome := by
  have := h.same t
  cases h1 : S.V t <;> cases h2 : S1.V t <;> simp [h1, h2] at this ⊢
theorem Half.bytes {S1 S : St} {done : List (List UInt8)} (h : Half S1 S done) (t : List UInt8) : bytesOf S.V t = bytesOf S1.V t := by
  have := h.same t
  unfold bytesOf
  cases h1 : S.V t <;> cases h2 : S1.V t <;> simp [h1, h2] at this ⊢
  exact this
theorem NamesOf.congr {V V' : Fs} {ts : List (List UInt8)} (h : NamesOf V ts) (he : ∀ t, (V' t).isSome = (V t).isSome) : NamesOf V' ts := by
  obtain ⟨ss, h1, h2, h3⟩ := h
  exact ⟨ss, h1, fun k => by rw [he k]; exact h2 k, h3⟩
theorem Half.read {S1 S : St} {done : List (List UInt8)} (h : Half S1 S done) (hok : S.ok) {t : List UInt8} (ht : (S1.V t).isSome = true) : S.read t = (0, bytesOf S1.V t) := by
  have hs := h.dom t
  rw [ht] at hs
  obtain ⟨f, hf⟩ := Option.isSome_iff_exists.1 hs
  have hb := h.bytes t
  rw [bytesOf_some hf] at hb
  unfold St.read
  have hn := hok.name t f hf
  rw [if_neg (by rw [h.down]; simp), if_neg (by rw [hn]; simp), hf]
  simp only [hb]
theorem Half.sync {S1 S : St} {done : List (List UInt8)} (h : Half S1 S done) (hok : S.ok) {t : List UInt8} (ht : (S1.V t).isSome = true) :
    ∃ S', S.deed (fun T => T.on t (actSync t)) (fun T => (0, T)) = (0, S') ∧ Half S1 S' (done ++ [t]) := by
  have hs := h.dom t
  rw [ht] at hs
  obtain ⟨f, hf⟩ := Option.isSome_iff_exists.1 hs
  have hn := hok.name t f hf
  have htk : S.tick = S := by
    unfold St.tick
    rw [if_neg (by rw [h.fuse]; omega)]
  refine ⟨{ S with V := upd S.V t (some (f.1, f.1.length)) }, ?_, h.down, h.fuse, h.used, fun k => ?_, fun k hk g hg => ?_⟩
  · unfold St.deed
    rw [if_neg (by rw [h.down]; simp), if_neg (by rw [h.fuse]; omega), htk]
    show S.on t (actSync t) = _
    unfold St.on
    rw [if_neg (by rw [hn]; simp), hf]
    rfl
  · show (upd S.V t _ k).map Prod.fst = _
    by_cases e : k = t
    · subst e
      rw [upd_same, ← h.same k, hf]
      rfl
    · rw [upd_other _ _ e]
      exact h.same k
  · rcases upd_some hg with ⟨_, e⟩ | ⟨hne, e⟩
    · cases e; rfl
    · rcases List.mem_append.1 hk with hk | hk
      · exact h.sure k hk g e
      · simp at hk
        exact absurd hk hne
theorem bootF_sure {f : Fl} (h : f.2 = f.1.length) (l : List Int) : bootF f l = (f, l) := by
  obtain ⟨a, b⟩ := f
  simp only at h
  subst h
  cases l with
  | nil => rfl
  | cons k r =>
    unfold bootF
    simp only
    rw [if_neg (by omega)]
theorem bootK_sure {S : St} (h : ∀ t f, S.V t = some f → f.2 = f.1.length) (k : List UInt8) (l : List Int) : bootK k (S, l) = (S, l) := by
  unfold bootK
  simp only
  cases hf : S.V k with
  | none => rfl
  | some f =>
    simp only [bootF_sure (h k f hf) l, Nat.sub_self, Nat.sub_zero, upd_self _ hf]
theorem bootS_sure {S : St} (h : ∀ t f, S.V t = some f → f.2 = f.1.length) : ∀ (ts : List (List UInt8)) (l : List Int), bootS ts (S, l) = (S, l)
  | [], _ => rfl
  | k :: r, l => by rw [bootS_cons, bootK_sure h, bootS_sure h r l]
theorem Half.boot {S1 S : St} {ts ts' : List (List UInt8)} (h : Half S1 S ts) (hn : NamesOf S1.V ts) (l : List Int) : (bootS ts' ({ S with down := false, fuse := -1 }, l)).1 = S := by
  have e : ({ S with down := false, fuse := -1 } : St) = S := by
    have h1 := h.down
    have h2 := h.fuse
    cases S
    simp only at h1 h2
    subst h1 h2
    rfl
  rw [e, bootS_sure (fun t f hf => h.sure t ((hn.mem t).2 (by rw [← h.dom t, hf]; rfl)) f hf)]
theorem Half.names {S1 S : St} {done ts ts' : List (List UInt8)} (h : Half S1 S done) (hn : NamesOf S1.V ts) (hn' : NamesOf S.V ts') : ts' = ts :=
  NamesOf.one (hn'.congr fun t => (h.dom t).symm) hn
end Go.Proofs.Ythgopedojgbaoaa
