/- Taking values, schemas and rows of bytes, told by a reader's place and error; what is put is taken as it was. No condition. -/
import Derived.Test.YtieknhhhcjdbnaaDoorJ12
import Derived.Test.YtieknhhhcjdbnaaDoorJ14
import Derived.Test.YtieknhhhcjdbnaaDoorJ13
namespace Go.Proofs.YtieknhhhcjdbnaaDoor
open Go.RowKit
set_option linter.unusedVariables false
set_option linter.unusedSimpArgs false
set_option maxRecDepth 100000

/-- Taking a value: the value, the place and the error behind it. -/
def tkV (b : List Nat) (at_ : Nat) (x : Option (Int × Nat)) : Vl × Nat × Option (Int × Nat) :=
  let f := fixS b at_ x 1
  if f.1 = 1 then
    let g := varS b f.2.1 f.2.2
    (if g.2.2 = none then (1, zagI (g.1 : Int), []) else (0, 0, []), g.2.1, g.2.2)
  else if f.1 = 2 then
    let g := blobS b f.2.1 f.2.2 65536
    (if g.2.2 = none then (2, 0, tb g.1) else (0, 0, []), g.2.1, g.2.2)
  else ((0, 0, []), f.2.1, if 2 < f.1 then failS f.2.1 f.2.2 4 else f.2.2)
/-- Taking a column. -/
def tkC (b : List Nat) (at_ : Nat) (x : Option (Int × Nat)) : Cl × Nat × Option (Int × Nat) :=
  let k := fixS b at_ x 1
  let n := fixS b k.2.1 k.2.2 1
  let w := fixS b n.2.1 n.2.2 1
  (((k.1 : Int), decide (n.1 = 1), (w.1 : Int) - 1), w.2.1, if 1 < n.1 then failS w.2.1 w.2.2 4 else w.2.2)
/-- So many columns. -/
def csS (b : List Nat) (at_ : Nat) (x : Option (Int × Nat)) : Nat → List Cl × Nat × Option (Int × Nat)
  | 0 => ([], at_, x)
  | k + 1 => let s := csS b at_ x k; let c := tkC b s.2.1 s.2.2; (s.1 ++ [c.1], c.2.1, c.2.2)
/-- A schema. -/
def tkS (b : List Nat) (at_ : Nat) (x : Option (Int × Nat)) : List Cl × Nat × Option (Int × Nat) :=
  let n := fixS b at_ x 1
  let s := csS b n.2.1 n.2.2 n.1
  let e := failS s.2.1 s.2.2 (scE s.1)
  (if e = none then s.1 else [], s.2.1, e)
/-- So many values. -/
def vsS (b : List Nat) (at_ : Nat) (x : Option (Int × Nat)) : Nat → List Vl × Nat × Option (Int × Nat)
  | 0 => ([], at_, x)
  | k + 1 => let s := vsS b at_ x k; let v := tkV b s.2.1 s.2.2; (s.1 ++ [v.1], v.2.1, v.2.2)
/-- So many rows of a schema. -/
def rsS (b : List Nat) (s : List Cl) (at_ : Nat) (x : Option (Int × Nat)) : Nat → List (List Vl) × Nat × Option (Int × Nat)
  | 0 => ([], at_, x)
  | k + 1 => let p := rsS b s at_ x k; let r := vsS b p.2.1 p.2.2 s.length; (p.1 ++ [r.1], r.2.1, failS r.2.1 r.2.2 (rwE s r.1))
/-- Rows. -/
def tkR (b : List Nat) (s : List Cl) (at_ : Nat) (x : Option (Int × Nat)) : List (List Vl) × Nat × Option (Int × Nat) :=
  let n := varS b at_ x
  let e := if 65536 < n.1 then failS n.2.1 n.2.2 12 else n.2.2
  if e = none then
    let p := rsS b s n.2.1 e n.1
    (if p.2.2 = none then p.1 else [], p.2.1, p.2.2)
  else ([], n.2.1, e)
section
variable (b : List Nat) (at_ : Nat) (y : Int × Nat)
theorem failS_some (k : Int) : failS at_ (some y) k = some y := rfl
theorem tkV_some : tkV b at_ (some y) = ((0, 0, []), at_, some y) := rfl
theorem tkC_some : (tkC b at_ (some y)).2 = (at_, some y) := rfl
theorem csS_some (k : Nat) : (csS b at_ (some y) k).2 = (at_, some y) := by
  induction k with
  | zero => rfl
  | succ k ih => rw [csS]; simp only; rw [ih]; exact tkC_some _ _ _
theorem vsS_some (k : Nat) : (vsS b at_ (some y) k).2 = (at_, some y) := by
  induction k with
  | zero => rfl
  | succ k ih => rw [vsS]; simp only; rw [ih]; rfl
theorem rsS_some (s : List Cl) (k : Nat) : (rsS b s at_ (some y) k).2 = (at_, some y) := by
  induction k with
  | zero => rfl
  | succ k ih => rw [rsS]; simp only; rw [ih]; simp only; rw [vsS_some]; rfl
end
/-! What is put is taken as it was. -/
theorem drop_byte {l : List Nat} {at_ v : Nat} {rest : List Nat} (h : l.drop at_ = v :: rest) : l[at_]? = some v ∧ l.drop (at_ + 1) = rest := by
  have hl : at_ < l.length := by
    rcases Nat.lt_or_ge at_ l.length with h1 | h1
    · exact h1
    · rw [List.drop_eq_nil_of_le h1] at h; cases h
  have := List.drop_eq_getElem_cons hl
  rw [h] at this
  injection this with h1 h2
  exact ⟨by rw [h1]; exact List.getElem?_eq_getElem hl, h2.symm⟩
theorem drop_part {l p rest : List Nat} {at_ : Nat} (h : l.drop at_ = p ++ rest) : l.drop (at_ + p.length) = rest := by
  rw [← List.drop_drop, h, List.drop_append_of_le_length (Nat.le_refl _), List.drop_length, List.nil_append]
theorem varS_put {l rest : List Nat} {at_ u : Nat} (hu : u < 18446744073709551616) (h : l.drop at_ = vb u ++ rest) : varS l at_ none = (u, at_ + (vb u).length, none) := by
  unfold varS
  simp only
  rw [h, look_vb u hu rest]
  rfl
theorem tkV_put {l rest : List Nat} {at_ : Nat} {v : Vl} (hr : rgt 1 v = true ∨ rgt 2 v = true) (hi : In64 v.2.1) (hs : v.2.2.length ≤ 65536) (h : l.drop at_ = vB v ++ rest) : tkV l at_ none = (v, at_ + (vB v).length, none) := by
  have hf : v = (0, 0, []) ∨ (v.1 = 1 ∧ v.2.2 = []) ∨ (v.1 = 2 ∧ v.2.1 = 0) := by
    rcases hr with hv | hv
    · rcases rgt_kind hv with e | ⟨e, _, e2⟩ | ⟨_, e, _⟩
      · exact .inl e
      · exact .inr (.inl ⟨e, e2⟩)
      · omega
    · rcases rgt_kind hv with e | ⟨_, e, _⟩ | ⟨e, _, e2⟩
      · exact .inl e
      · omega
      · exact .inr (.inr ⟨e, e2⟩)
  obtain ⟨k, z, t⟩ := v
  rcases hf with e | ⟨e1, e2⟩ | ⟨e1, e2⟩
  · cases e
    obtain ⟨h1, _⟩ := drop_byte (v := 0) (rest := rest) h
    unfold tkV
    rw [fix_byte l at_ 0 h1]
    rfl
  · simp only at e1 e2
    subst e1 e2
    obtain ⟨h1, h2⟩ := drop_byte (v := 1) (rest := vb (zg z) ++ rest) h
    have hz : zg z < 18446744073709551616 := (zg_int hi).2
    unfold tkV
    rw [fix_byte l at_ 1 h1]
    simp only [if_true]
    rw [varS_put hz h2]
    simp only [if_true]
    rw [zagI_zg hi]
    simp [vB]; omega
  · simp only at e1 e2
    subst e1 e2
    obtain ⟨h1, h2⟩ := drop_byte (v := 2) (rest := blbT t ++ rest) h
    have h3 := blobS_put l (nb t) rest (at_ + 1) 65536 (by rw [h2]; unfold blbT; rw [nb_length]) (by rw [nb_length]; simp only at hs; omega) (by rw [nb_length]; simp only at hs; omega)
    unfold tkV
    rw [fix_byte l at_ 2 h1]
    simp only
    rw [if_neg (by decide), if_pos trivial, h3]
    simp only [if_true]
    rw [tb_nb]
    simp [vB, blbT, nb_length]; omega
theorem csS_put {l rest : List Nat} {s : List Cl} {at_ : Nat} (hk : ∀ c ∈ s, c.1 = 1 ∨ c.1 = 2) (hw : ∀ c ∈ s, -1 ≤ c.2.2 ∧ c.2.2 ≤ 5) (h : l.drop at_ = s.flatMap cB ++ rest) : ∀ k, k ≤ s.length → csS l at_ none k = (s.take k, at_ + 3 * k, none) := by
  intro k
  induction k with
  | zero => intro _; rfl
  | succ k ih =>
    intro hlt
    obtain ⟨c, hc⟩ : ∃ c, s[k]? = some c := ⟨_, List.getElem?_eq_getElem (by omega)⟩
    have hcm := List.mem_of_getElem? hc
    have hkc := hk c hcm
    have hwc := hw c hcm
    have hd : l.drop (at_ + 3 * k) = cB c ++ ((s.drop (k + 1)).flatMap cB ++ rest) := by
      have e : s.flatMap cB = (s.take k).flatMap cB ++ (cB c ++ (s.drop (k + 1)).flatMap cB) := by
        have h1 : s = s.take k ++ (c :: s.drop (k + 1)) := by
          have := List.drop_eq_getElem_cons (l := s) (i := k) (by omega)
          rw [(List.getElem?_eq_some_iff.1 hc).2] at this
          rw [← this, List.take_append_drop]
        conv => lhs; rw [h1]
        simp
      have hl : ((s.take k).flatMap cB).length = 3 * k := by
        have : ∀ q : List Cl, (q.flatMap cB).length = 3 * q.length := by
          intro q
          induction q with
          | nil => rfl
          | cons x q ih => rw [List.flatMap_cons, List.length_append, ih]; simp [cB]; omega
        rw [this, List.length_take]; omega
      rw [e, List.append_assoc] at h
      have := drop_part h
      rw [hl] at this
      rw [this, List.append_assoc]
    rw [csS, ih (by omega)]
    simp only
    obtain ⟨kd, nu, wy⟩ := c
    simp only at hkc hwc
    obtain ⟨h1, h1'⟩ := drop_byte hd
    obtain ⟨h2, h2'⟩ := drop_byte h1'
    obtain ⟨h3, _⟩ := drop_byte h2'
    have hc' : tkC l (at_ + 3 * k) none = ((kd, nu, wy), at_ + 3 * (k + 1), none) := by
      unfold tkC
      rw [fix_byte l _ _ h1]
      simp only
      rw [fix_byte l _ _ h2]
      simp only
      rw [fix_byte l _ _ h3]
      simp only
      have e1 : (((kd % 256).toNat : Nat) : Int) = kd := by omega
      have e3 : ((((wy + 1) % 256).toNat : Nat) : Int) - 1 = wy := by omega
      rw [e1, e3]
      cases nu <;> simp <;> omega
    rw [hc']
    simp only
    rw [take_snoc hc]
theorem tkS_put {l rest : List Nat} {s : List Cl} {at_ : Nat} (hs : scE s = 0) (h : l.drop at_ = scB s ++ rest) : tkS l at_ none = (s, at_ + (scB s).length, none) := by
  have h0 := hs
  unfold scE at hs
  split at hs
  · cases hs
  split at hs
  · cases hs
  split at hs
  · cases hs
  rename_i h1 h2 h3
  have hk : ∀ c ∈ s, c.1 = 1 ∨ c.1 = 2 := fun c hc => by
    apply Classical.byContradiction
    intro e
    exact h2 ⟨c, hc, by omega, by omega⟩
  have hw : ∀ c ∈ s, -1 ≤ c.2.2 ∧ c.2.2 ≤ 5 := fun c hc => by
    by_cases e : c.2.2 = -1
    · omega
    · cases e2 : ofW c.2.2 c.1 with
      | true => have := ofW_range e2; omega
      | false => exact absurd ⟨c, hc, e, e2⟩ h3
  have hl : s.length % 256 = s.length := Nat.mod_eq_of_lt (by omega)
  unfold scB at h
  rw [hl] at h
  obtain ⟨g1, g2⟩ := drop_byte h
  have g3 := csS_put (rest := rest) hk hw g2 s.length (Nat.le_refl _)
  unfold tkS
  rw [fix_byte l at_ _ g1]
  simp only
  rw [g3, List.take_length]
  simp only
  rw [h0]
  have hlen : (scB s).length = 1 + 3 * s.length := by
    have : ∀ q : List Cl, (q.flatMap cB).length = 3 * q.length := by
      intro q
      induction q with
      | nil => rfl
      | cons x q ih => rw [List.flatMap_cons, List.length_append, ih]; simp [cB]; omega
    unfold scB
    rw [List.length_cons, this]; omega
  rw [hlen]
  simp [failS]; omega
theorem vsS_put {l rest : List Nat} {r : List Vl} {at_ : Nat} (hr : ∀ v ∈ r, rgt 1 v = true ∨ rgt 2 v = true) (hi : ∀ v ∈ r, In64 v.2.1) (hs : ∀ v ∈ r, v.2.2.length ≤ 65536) (h : l.drop at_ = rowB r ++ rest) : ∀ k, k ≤ r.length → vsS l at_ none k = (r.take k, at_ + (rowB (r.take k)).length, none) := by
  intro k
  induction k with
  | zero => intro _; rfl
  | succ k ih =>
    intro hlt
    obtain ⟨v, hv⟩ : ∃ v, r[k]? = some v := ⟨_, List.getElem?_eq_getElem (by omega)⟩
    have hm := List.mem_of_getElem? hv
    have hd : l.drop (at_ + (rowB (r.take k)).length) = vB v ++ (rowB (r.drop (k + 1)) ++ rest) := by
      have h1 : r = r.take k ++ (v :: r.drop (k + 1)) := by
        have := List.drop_eq_getElem_cons (l := r) (i := k) (by omega)
        rw [(List.getElem?_eq_some_iff.1 hv).2] at this
        rw [← this, List.take_append_drop]
      have e : rowB r = rowB (r.take k) ++ (vB v ++ rowB (r.drop (k + 1))) := by
        conv => lhs; rw [h1]
        rw [rowB_append, rowB_cons]
      rw [e, List.append_assoc] at h
      rw [drop_part h, List.append_assoc]
    rw [vsS, ih (by omega)]
    simp only
    rw [tkV_put (hr v hm) (hi v hm) (hs v hm) hd, take_snoc hv, rowB_append]
    simp [rowB]; omega
theorem colsE_ok : ∀ {s : List Cl} {r : List Vl}, r.length = s.length → colsE s r = 0 → ∀ v ∈ r, (∃ kd, rgt kd v = true) ∧ v.2.2.length ≤ 65536
  | [], [], _, _, v, hv => by cases hv
  | c :: s, u :: r, hl, he, v, hv => by
    rw [colsE] at he
    by_cases h : colE c u = 0
    · rw [if_neg (fun e => e h)] at he
      rcases List.mem_cons.1 hv with rfl | hv
      · unfold colE at h
        split at h
        · cases h
        split at h
        · cases h
        rename_i h1 h2
        refine ⟨⟨c.1, ?_⟩, by omega⟩
        cases e : rgt c.1 v with
        | true => rfl
        | false => exact absurd (.inl e) h1
      · exact colsE_ok (by simpa using hl) he v hv
    · rw [if_pos h] at he; exact absurd he h
theorem rgt_some {kd : Int} {v : Vl} (h : rgt kd v = true) : rgt 1 v = true ∨ rgt 2 v = true := by
  rcases rgt_kind h with e | ⟨_, e, _⟩ | ⟨_, e, _⟩
  · left; rw [e]; rfl
  · left; rw [← e]; exact h
  · right; rw [← e]; exact h
theorem rsS_put {l rest : List Nat} {s : List Cl} {rows : List (List Vl)} {at_ : Nat} (hr : ∀ r ∈ rows, rwE s r = 0) (hi : ∀ r ∈ rows, ∀ v ∈ r, In64 v.2.1) (h : l.drop at_ = rows.flatMap rowB ++ rest) : ∀ k, k ≤ rows.length → rsS l s at_ none k = (rows.take k, at_ + ((rows.take k).flatMap rowB).length, none) := by
  intro k
  induction k with
  | zero => intro _; rfl
  | succ k ih =>
    intro hlt
    obtain ⟨r, hrr⟩ : ∃ r, rows[k]? = some r := ⟨_, List.getElem?_eq_getElem (by omega)⟩
    have hm := List.mem_of_getElem? hrr
    have hre := hr r hm
    have hlen : r.length = s.length := by
      apply Classical.byContradiction
      intro e
      unfold rwE at hre
      rw [if_pos e] at hre
      cases hre
    have hce : colsE s r = 0 := by unfold rwE at hre; rwa [if_neg (fun e => e hlen)] at hre
    have hok := colsE_ok hlen hce
    have hd : l.drop (at_ + ((rows.take k).flatMap rowB).length) = rowB r ++ ((rows.drop (k + 1)).flatMap rowB ++ rest) := by
      have h1 : rows = rows.take k ++ (r :: rows.drop (k + 1)) := by
        have := List.drop_eq_getElem_cons (l := rows) (i := k) (by omega)
        rw [(List.getElem?_eq_some_iff.1 hrr).2] at this
        rw [← this, List.take_append_drop]
      have e : rows.flatMap rowB = (rows.take k).flatMap rowB ++ (rowB r ++ (rows.drop (k + 1)).flatMap rowB) := by
        conv => lhs; rw [h1]
        simp
      rw [e, List.append_assoc] at h
      rw [drop_part h, List.append_assoc]
    have hvs := vsS_put (fun v hv => by obtain ⟨⟨kd, h⟩, _⟩ := hok v hv; exact rgt_some h) (hi r hm) (fun v hv => (hok v hv).2) hd r.length (Nat.le_refl _)
    rw [List.take_length] at hvs
    rw [rsS, ih (by omega)]
    simp only
    rw [← hlen, hvs]
    simp only
    rw [hre, take_snoc hrr]
    simp [failS]; omega
theorem tkR_put {l rest : List Nat} {s : List Cl} {rows : List (List Vl)} {at_ : Nat} (hn : rows.length ≤ 65536) (hr : ∀ r ∈ rows, rwE s r = 0) (hi : ∀ r ∈ rows, ∀ v ∈ r, In64 v.2.1) (h : l.drop at_ = rwB rows ++ rest) : tkR l s at_ none = (rows, at_ + (rwB rows).length, none) := by
  unfold rwB at h
  rw [List.append_assoc] at h
  have h1 := varS_put (u := rows.length) (by omega) h
  have h2 := drop_part h
  have h3 := rsS_put (s := s) hr hi h2 rows.length (Nat.le_refl _)
  rw [List.take_length] at h3
  unfold tkR
  rw [h1]
  simp only
  have hx : (if 65536 < rows.length then failS (at_ + (vb rows.length).length) none 12 else none) = none := if_neg (by omega)
  rw [hx, if_pos rfl, h3]
  simp [rwB]; omega
end Go.Proofs.YtieknhhhcjdbnaaDoor
