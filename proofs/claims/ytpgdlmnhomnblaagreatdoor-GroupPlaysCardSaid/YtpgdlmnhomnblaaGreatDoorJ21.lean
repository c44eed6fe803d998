import Derived.Test.YtpgdlmnhomnblaaGreatDoorJ6
import Derived.Deep.Slices
import Derived.Test.YtpgdlmnhomnblaaGreatDoorJ4
namespace Go.Proofs.YtpgdlmnhomnblaaGreatDoor
open Go.RowKit
set_option linter.unusedVariables false
set_option linter.unusedSimpArgs false
def vahd (a b : Vl) : Prop := a.1 = 1 ∧ a.2.1 < b.2.1 ∨ a.1 = 2 ∧ tlt a.2.2 b.2.2
instance (a b : Vl) : Decidable (vahd a b) := by unfold vahd; exact inferInstance
def cmpV (a b : Vl) : Int := if a.1 < b.1 then -1 else if b.1 < a.1 then 1 else if vahd a b then -1 else if vahd b a then 1 else 0
theorem cmp_cases (a b : Vl) : (a.1 < b.1 ∧ cmpV a b = -1) ∨ (b.1 < a.1 ∧ cmpV a b = 1) ∨ (a.1 = b.1 ∧ ((a.1 = 1 ∧ (a.2.1 < b.2.1 ∧ cmpV a b = -1 ∨ b.2.1 < a.2.1 ∧ cmpV a b = 1 ∨ a.2.1 = b.2.1 ∧ cmpV a b = 0)) ∨
    (a.1 = 2 ∧ (tlt a.2.2 b.2.2 ∧ cmpV a b = -1 ∨ tlt b.2.2 a.2.2 ∧ cmpV a b = 1 ∨ a.2.2 = b.2.2 ∧ cmpV a b = 0)) ∨ (a.1 ≠ 1 ∧ a.1 ≠ 2 ∧ cmpV a b = 0))) := by
  by_cases h1 : a.1 < b.1
  · exact .inl ⟨h1, by unfold cmpV; rw [if_pos h1]⟩
  by_cases h2 : b.1 < a.1
  · exact .inr (.inl ⟨h2, by unfold cmpV; rw [if_neg h1, if_pos h2]⟩)
  have h3 : a.1 = b.1 := by omega
  refine .inr (.inr ⟨h3, ?_⟩)
  have hc : cmpV a b = if vahd a b then -1 else if vahd b a then 1 else 0 := by unfold cmpV; rw [if_neg h1, if_neg h2]
  rw [hc]
  by_cases k1 : a.1 = 1
  · refine .inl ⟨k1, ?_⟩
    have e1 : vahd a b ↔ a.2.1 < b.2.1 := by unfold vahd; constructor; (rintro (⟨_, h⟩ | ⟨h, _⟩); exact h; omega); exact fun h => .inl ⟨k1, h⟩
    have e2 : vahd b a ↔ b.2.1 < a.2.1 := by unfold vahd; constructor; (rintro (⟨_, h⟩ | ⟨h, _⟩); exact h; omega); exact fun h => .inl ⟨by omega, h⟩
    by_cases l1 : a.2.1 < b.2.1
    · exact .inl ⟨l1, by rw [if_pos (e1.2 l1)]⟩
    by_cases l2 : b.2.1 < a.2.1
    · exact .inr (.inl ⟨l2, by rw [if_neg (fun h => l1 (e1.1 h)), if_pos (e2.2 l2)]⟩)
    · exact .inr (.inr ⟨by omega, by rw [if_neg (fun h => l1 (e1.1 h)), if_neg (fun h => l2 (e2.1 h))]⟩)
  by_cases k2 : a.1 = 2
  · refine .inr (.inl ⟨k2, ?_⟩)
    have e1 : vahd a b ↔ tlt a.2.2 b.2.2 := by unfold vahd; constructor; (rintro (⟨h, _⟩ | ⟨_, h⟩); omega; exact h); exact fun h => .inr ⟨k2, h⟩
    have e2 : vahd b a ↔ tlt b.2.2 a.2.2 := by unfold vahd; constructor; (rintro (⟨h, _⟩ | ⟨_, h⟩); omega; exact h); exact fun h => .inr ⟨by omega, h⟩
    by_cases l1 : tlt a.2.2 b.2.2
    · exact .inl ⟨l1, by rw [if_pos (e1.2 l1)]⟩
    by_cases l2 : tlt b.2.2 a.2.2
    · exact .inr (.inl ⟨l2, by rw [if_neg (fun h => l1 (e1.1 h)), if_pos (e2.2 l2)]⟩)
    · refine .inr (.inr ⟨Classical.byContradiction fun e => l2 (tlt_total l1 e), by rw [if_neg (fun h => l1 (e1.1 h)), if_neg (fun h => l2 (e2.1 h))]⟩)
  · refine .inr (.inr ⟨k1, k2, ?_⟩)
    rw [if_neg, if_neg]
    · unfold vahd; rintro (⟨h, _⟩ | ⟨h, _⟩) <;> omega
    · unfold vahd; rintro (⟨h, _⟩ | ⟨h, _⟩) <;> omega
theorem cmp_turn (a b : Vl) : cmpV b a = - cmpV a b := by
  rcases cmp_cases a b with ⟨h, e⟩ | ⟨h, e⟩ | ⟨h, hr⟩
  · rw [e]; rcases cmp_cases b a with ⟨h', e'⟩ | ⟨h', e'⟩ | ⟨h', _⟩ <;> omega
  · rw [e]; rcases cmp_cases b a with ⟨h', e'⟩ | ⟨h', e'⟩ | ⟨h', _⟩ <;> omega
  · rcases cmp_cases b a with ⟨h', e'⟩ | ⟨h', e'⟩ | ⟨h', hr'⟩
    · omega
    · omega
    · rcases hr with ⟨k, hr⟩ | ⟨k, hr⟩ | ⟨k, k', hr⟩
      · rcases hr' with ⟨_, hr'⟩ | ⟨_, _⟩ | ⟨_, _, _⟩
        · rcases hr with ⟨_, e⟩ | ⟨_, e⟩ | ⟨_, e⟩ <;> rcases hr' with ⟨_, e'⟩ | ⟨_, e'⟩ | ⟨_, e'⟩ <;> omega
        · omega
        · omega
      · rcases hr' with ⟨_, _⟩ | ⟨_, hr'⟩ | ⟨_, _, _⟩
        · omega
        · rcases hr with ⟨l, e⟩ | ⟨l, e⟩ | ⟨l, e⟩ <;> rcases hr' with ⟨l', e'⟩ | ⟨l', e'⟩ | ⟨l', e'⟩
          all_goals first
            | omega
            | exact absurd l' (tlt_asymm l)
            | (rw [l'] at l; exact absurd l (tlt_irrefl _))
            | (rw [l] at l'; exact absurd l' (tlt_irrefl _))
        · omega
      · rcases hr' with ⟨_, _⟩ | ⟨_, _⟩ | ⟨_, _, e'⟩ <;> omega
theorem cmp_le_iff (a b : Vl) : cmpV a b ≤ 0 ↔ a.1 < b.1 ∨ a.1 = b.1 ∧ (a.1 = 1 → a.2.1 ≤ b.2.1) ∧ (a.1 = 2 → ¬ tlt b.2.2 a.2.2) := by
  rcases cmp_cases a b with ⟨h, e⟩ | ⟨h, e⟩ | ⟨h, ⟨k, ⟨l, e⟩ | ⟨l, e⟩ | ⟨l, e⟩⟩ | ⟨k, ⟨l, e⟩ | ⟨l, e⟩ | ⟨l, e⟩⟩ | ⟨k, k', e⟩⟩
  · exact ⟨fun _ => .inl h, fun _ => by omega⟩
  · exact ⟨fun _ => by omega, fun h' => by rcases h' with h' | ⟨h', _⟩ <;> omega⟩
  · exact ⟨fun _ => .inr ⟨h, fun _ => by omega, fun _ => by omega⟩, fun _ => by omega⟩
  · exact ⟨fun _ => by omega, fun h' => by rcases h' with h' | ⟨_, h', _⟩; omega; have := h' k; omega⟩
  · exact ⟨fun _ => .inr ⟨h, fun _ => by omega, fun _ => by omega⟩, fun _ => by omega⟩
  · exact ⟨fun _ => .inr ⟨h, fun _ => by omega, fun _ => tlt_asymm l⟩, fun _ => by omega⟩
  · exact ⟨fun _ => by omega, fun h' => by rcases h' with h' | ⟨_, _, h'⟩; omega; exact absurd l (h' k)⟩
  · exact ⟨fun _ => .inr ⟨h, fun _ => by omega, fun _ => by rw [l]; exact tlt_irrefl _⟩, fun _ => by omega⟩
  · exact ⟨fun _ => .inr ⟨h, fun _ => by omega, fun _ => by omega⟩, fun _ => by omega⟩
theorem cmp_trans {a b c : Vl} (h1 : cmpV a b ≤ 0) (h2 : cmpV b c ≤ 0) : cmpV a c ≤ 0 := by
  rw [cmp_le_iff] at *
  rcases h1 with h1 | ⟨h1, n1, t1⟩
  · rcases h2 with h2 | ⟨h2, _, _⟩
    · exact .inl (by omega)
    · exact .inl (by omega)
  · rcases h2 with h2 | ⟨h2, n2, t2⟩
    · exact .inl (by omega)
    · refine .inr ⟨by omega, fun k => ?_, fun k hlt => ?_⟩
      · have := n1 k; have := n2 (by omega); omega
      · have h3 := t1 k
        have h4 := t2 (by omega)
        by_cases e : c.2.2 = b.2.2
        · rw [e] at hlt; exact h3 hlt
        · have hbc : tlt b.2.2 c.2.2 := tlt_total h4 e
          exact h3 (tlt_trans hbc hlt)
end Go.Proofs.YtpgdlmnhomnblaaGreatDoor
namespace Go.Proofs.YtpgdlmnhomnblaaGreatDoor
open Go.RowKit
set_option linter.unusedVariables false
set_option linter.unusedSimpArgs false
set_option maxRecDepth 100000
inductive Pd where
  | mk (op col : Int) (vals : List Vl) (parts : List Pd) : Pd
def Pd.op : Pd → Int | .mk o _ _ _ => o
def Pd.col : Pd → Int | .mk _ c _ _ => c
def Pd.vals : Pd → List Vl | .mk _ _ v _ => v
def Pd.parts : Pd → List Pd | .mk _ _ _ l => l
def Pd.none_ : Pd := .mk 0 0 [] []
def fmd (op : Int) (v n : Nat) : Prop := (1 ≤ op ∧ op ≤ 6 ∧ v = 1 ∧ n = 0) ∨ (op = 7 ∧ v ≤ 256 ∧ n = 0) ∨ (op = 8 ∧ v = 2 ∧ n = 0) ∨ (op = 9 ∧ v = 0 ∧ n = 0)
instance (op : Int) (v n : Nat) : Decidable (fmd op v n) := by unfold fmd; exact inferInstance
end Go.Proofs.YtpgdlmnhomnblaaGreatDoor
namespace Go.Proofs.YtpgdlmnhomnblaaGreatDoor
open Go.RowKit
set_option linter.unusedVariables false
set_option linter.unusedSimpArgs false
set_option maxRecDepth 100000
abbrev Zn := Int × Bool × Vl × Vl
abbrev Tr3 := Bool × Bool × Bool
def frmZ (op col : Int) (v n : Nat) : Prop := ((1 ≤ op ∧ op ≤ 9) ∨ col = 0) ∧
  (((op = 0 ∨ op = 9) ∧ v = 0 ∧ n = 0) ∨ (1 ≤ op ∧ op ≤ 6 ∧ v = 1 ∧ n = 0) ∨ (op = 7 ∧ v ≤ 256 ∧ n = 0) ∨ (op = 8 ∧ v = 2 ∧ n = 0) ∨ ((op = 10 ∨ op = 11) ∧ v = 0 ∧ 1 ≤ n ∧ n ≤ 256) ∨ (op = 12 ∧ v = 0 ∧ n = 1))
instance (op col : Int) (v n : Nat) : Decidable (frmZ op col v n) := by unfold frmZ; exact inferInstance
def put3 (t : Tr3) (is : Bool) (k : Nat) : Tr3 := (t.1 || (is && decide (k = 0)), t.2.1 || (is && decide (k = 1)), t.2.2 || (is && decide (k = 2)))
def zNone : Zn := (0, false, (0, 0, []), (0, 0, []))
end Go.Proofs.YtpgdlmnhomnblaaGreatDoor
namespace Go.Proofs.YtpgdlmnhomnblaaGreatDoor
open Go.RowKit
set_option linter.unusedVariables false
set_option linter.unusedSimpArgs false
set_option maxRecDepth 100000
def le3 (t u : Tr3) : Prop := (t.1 = true → u.1 = true) ∧ (t.2.1 = true → u.2.1 = true) ∧ (t.2.2 = true → u.2.2 = true)
theorem le3.refl (t : Tr3) : le3 t t := ⟨id, id, id⟩
def leV (a b : Vl) : Prop := cmpV a b ≤ 0
theorem leV.trans {a b c : Vl} (h : leV a b) (k : leV b c) : leV a c := cmp_trans h k
theorem lt_iff (a b : Vl) : cmpV a b < 0 ↔ ¬ leV b a := by unfold leV; rw [cmp_turn a b]; omega
structure ZSub (k : Int) (y : Zn) (rows : Int) (z : Zn) : Prop where
  nulls : y.1 ≤ z.1
  some : y.2.1 = true → z.2.1 = true ∧ leV z.2.2.1 y.2.2.1 ∧ leV y.2.2.2 z.2.2.2 ∧ leV y.2.2.1 y.2.2.2
  left : y.1 < k → z.1 < rows
open Classical in
structure ZsSub (k : Int) (ys : List Zn) (rows : Int) (zs : List Zn) : Prop where
  len : ys.length = zs.length
  pos : 1 ≤ k
  pos' : 1 ≤ rows
  each : ∀ c, c < zs.length → ZSub k (ys.getD c zNone) rows (zs.getD c zNone)
end Go.Proofs.YtpgdlmnhomnblaaGreatDoor
namespace Go.Proofs.YtpgdlmnhomnblaaGreatDoor
open Go.RowKit
set_option linter.unusedVariables false
set_option linter.unusedSimpArgs false
set_option maxRecDepth 100000
def addZ (z : Zn) (v : Vl) : Zn :=
  if v.1 = 0 then (z.1 + 1, z.2)
  else if z.2.1 = false then (z.1, true, v, v)
  else if cmpV v z.2.2.1 < 0 then (z.1, true, v, z.2.2.2)
  else if 0 < cmpV v z.2.2.2 then (z.1, true, z.2.2.1, v)
  else z
def zoV (l : List Vl) : Zn := l.foldl addZ zNone
theorem leV.refl (a : Vl) : leV a a := by have := cmp_turn a a; unfold leV; omega
theorem leV.total (a b : Vl) : leV a b ∨ leV b a := by
  by_cases h : leV a b
  · exact .inl h
  · exact .inr (by unfold leV at h ⊢; rw [cmp_turn a b]; omega)
structure OfZ (l : List Vl) (z : Zn) : Prop where
  nulls : z.1 = ((l.filter fun v => decide (v.1 = 0)).length : Int)
  none_ : z.2.1 = false → z.2.2 = ((0, 0, []), (0, 0, [])) ∧ ∀ v ∈ l, v.1 = 0
  some_ : z.2.1 = true → (z.2.2.1 ∈ l ∧ z.2.2.1.1 ≠ 0) ∧ (z.2.2.2 ∈ l ∧ z.2.2.2.1 ≠ 0) ∧ ∀ v ∈ l, v.1 ≠ 0 → leV z.2.2.1 v ∧ leV v z.2.2.2
theorem OfZ.start : OfZ [] zNone := ⟨rfl, fun _ => ⟨rfl, fun v h => by cases h⟩, fun h => by cases h⟩
theorem OfZ.add {l : List Vl} {z : Zn} (h : OfZ l z) (v : Vl) : OfZ (l ++ [v]) (addZ z v) := by
  obtain ⟨n, s, a, b⟩ := z
  have h1 := h.nulls
  have h2 := h.none_
  have h3 := h.some_
  simp only at h1 h2 h3
  unfold addZ
  by_cases h0 : v.1 = 0
  · rw [if_pos h0]
    refine ⟨?_, fun hs => ?_, fun hs => ?_⟩
    · simp only [List.filter_append, List.length_append, h1]
      rw [List.filter_cons, if_pos (by simpa using h0)]
      simp
    · refine ⟨(h2 hs).1, fun u hu => ?_⟩
      rcases List.mem_append.1 hu with hu | hu
      · exact (h2 hs).2 u hu
      · rw [List.mem_singleton.1 hu]; exact h0
    · obtain ⟨k1, k2, k3⟩ := h3 hs
      refine ⟨⟨List.mem_append_left _ k1.1, k1.2⟩, ⟨List.mem_append_left _ k2.1, k2.2⟩, fun u hu hn => ?_⟩
      rcases List.mem_append.1 hu with hu | hu
      · exact k3 u hu hn
      · rw [List.mem_singleton.1 hu] at hn; exact absurd h0 hn
  rw [if_neg h0]
  have hnull : n = (((l ++ [v]).filter fun v => decide (v.1 = 0)).length : Int) := by
    simp only [List.filter_append, List.length_append, h1]
    rw [List.filter_cons, if_neg (by simpa using h0)]
    simp
  have hv : v ∈ l ++ [v] := List.mem_append_right _ (List.mem_singleton.2 rfl)
  by_cases hs : s = false
  · rw [if_pos hs]
    refine ⟨hnull, fun k => (by cases k), fun _ => ⟨⟨hv, h0⟩, ⟨hv, h0⟩, fun u hu hn => ?_⟩⟩
    rcases List.mem_append.1 hu with hu | hu
    · exact absurd ((h2 hs).2 u hu) hn
    · rw [List.mem_singleton.1 hu]; exact ⟨leV.refl v, leV.refl v⟩
  rw [if_neg hs]
  have hs' : s = true := by cases s <;> simp_all
  obtain ⟨⟨ma, na⟩, ⟨mb, nb⟩, k3⟩ := h3 hs'
  have hab : leV a b := (k3 b mb nb).1
  simp only
  by_cases c1 : cmpV v a < 0
  · rw [if_pos c1]
    have va : leV v a := by unfold leV; omega
    refine ⟨hnull, fun k => (by cases k), fun _ => ⟨⟨hv, h0⟩, ⟨List.mem_append_left _ mb, nb⟩, fun u hu hn => ?_⟩⟩
    rcases List.mem_append.1 hu with hu | hu
    · exact ⟨va.trans (k3 u hu hn).1, (k3 u hu hn).2⟩
    · rw [List.mem_singleton.1 hu]; exact ⟨leV.refl v, va.trans hab⟩
  rw [if_neg c1]
  have av : leV a v := Classical.not_not.1 fun k => c1 ((lt_iff v a).2 k)
  by_cases c2 : 0 < cmpV v b
  · rw [if_pos c2]
    have bv : leV b v := (leV.total b v).resolve_right fun k => by unfold leV at k; omega
    refine ⟨hnull, fun k => (by cases k), fun _ => ⟨⟨List.mem_append_left _ ma, na⟩, ⟨hv, h0⟩, fun u hu hn => ?_⟩⟩
    rcases List.mem_append.1 hu with hu | hu
    · exact ⟨(k3 u hu hn).1, (k3 u hu hn).2.trans bv⟩
    · rw [List.mem_singleton.1 hu]; exact ⟨av, leV.refl v⟩
  rw [if_neg c2]
  have vb : leV v b := by unfold leV; omega
  refine ⟨hnull, fun k => absurd k hs, fun _ => ⟨⟨List.mem_append_left _ ma, na⟩, ⟨List.mem_append_left _ mb, nb⟩, fun u hu hn => ?_⟩⟩
  rcases List.mem_append.1 hu with hu | hu
  · exact k3 u hu hn
  · rw [List.mem_singleton.1 hu]; exact ⟨av, vb⟩
theorem OfZ.fold : ∀ (m l : List Vl) {z : Zn}, OfZ l z → OfZ (l ++ m) (m.foldl addZ z)
  | [], l, _, h => by simpa using h
  | v :: m, l, _, h => by
    have := OfZ.fold m (l ++ [v]) (h.add v)
    simpa using this
theorem zoV_of (l : List Vl) : OfZ l (zoV l) := by have := OfZ.fold l [] OfZ.start; rwa [List.nil_append] at this
theorem OfZ.any {l : List Vl} {z : Zn} (h : OfZ l z) : z.2.1 = true ↔ ∃ v ∈ l, v.1 ≠ 0 := by
  constructor
  · intro hs; exact ⟨_, (h.some_ hs).1.1, (h.some_ hs).1.2⟩
  · rintro ⟨v, hv, hn⟩
    cases hs : z.2.1 with
    | true => rfl
    | false => exact absurd ((h.none_ hs).2 v hv) hn
theorem OfZ.range {l : List Vl} {z : Zn} (h : OfZ l z) : 0 ≤ z.1 ∧ z.1 ≤ (l.length : Int) := by
  have := List.length_filter_le (fun v : Vl => decide (v.1 = 0)) l
  rw [h.nulls]
  omega
end Go.Proofs.YtpgdlmnhomnblaaGreatDoor
namespace Go.Proofs.YtpgdlmnhomnblaaGreatDoor
open Go.RowKit
set_option linter.unusedVariables false
set_option linter.unusedSimpArgs false
set_option maxRecDepth 100000
abbrev Cl := Int × Bool × Int
def scE (s : List Cl) : Int := if s.length = 0 ∨ 64 < s.length then 12 else if ∃ c ∈ s, c.1 ≠ 1 ∧ c.1 ≠ 2 then 11 else if ∃ c ∈ s, c.2.2 ≠ -1 ∧ ofW c.2.2 c.1 = false then 1 else 0
def colE (c : Cl) (v : Vl) : Int := if rgt c.1 v = false ∨ v.1 = 0 ∧ c.2.1 = false then 11 else if 65536 < v.2.2.length then 12 else 0
def colsE : List Cl → List Vl → Int
  | c :: s, v :: r => if colE c v ≠ 0 then colE c v else colsE s r
  | _, _ => 0
def rwE (s : List Cl) (row : List Vl) : Int := if row.length ≠ s.length then 1 else colsE s row
end Go.Proofs.YtpgdlmnhomnblaaGreatDoor
namespace Go.Proofs.YtpgdlmnhomnblaaGreatDoor
open Go.RowKit
set_option linter.unusedVariables false
set_option linter.unusedSimpArgs false
set_option maxRecDepth 100000
def colV (rows : List (List Vl)) (c : Nat) : List Vl := rows.map fun r => r.getD c (0, 0, [])
theorem colV_length (rows : List (List Vl)) (c : Nat) : (colV rows c).length = rows.length := by simp [colV]
theorem colsE_each : ∀ {s : List Cl} {r : List Vl}, colsE s r = 0 → ∀ {k : Nat} {c : Cl} {v : Vl}, s[k]? = some c → r[k]? = some v → colE c v = 0
  | [], _, _, _, _, _, h, _ => by simp at h
  | _ :: _, [], _, _, _, _, _, h => by simp at h
  | c :: s, v :: r, h, k, c', v', hc, hv => by
    unfold colsE at h
    split at h
    · rename_i hn; exact absurd h hn
    rename_i hn
    have h0 : colE c v = 0 := Classical.not_not.1 hn
    cases k with
    | zero =>
      simp only [List.getElem?_cons_zero, Option.some.injEq] at hc hv
      rw [← hc, ← hv]; exact h0
    | succ k =>
      simp only [List.getElem?_cons_succ] at hc hv
      exact colsE_each h hc hv
end Go.Proofs.YtpgdlmnhomnblaaGreatDoor
namespace Go.Proofs.YtpgdlmnhomnblaaGreatDoor
set_option linter.unusedVariables false
set_option linter.unusedSimpArgs false
def rowsE (s : List Cl) : List (List Vl) → Int
  | [] => 0
  | r :: l => if rwE s r = 0 then rowsE s l else rwE s r
def newE (s : List Cl) (rows : List (List Vl)) : Int :=
  if scE s ≠ 0 then scE s else if rows.length < 1 ∨ 65536 < rows.length then 12 else rowsE s rows
theorem rowsE_all {s : List Cl} : ∀ {l : List (List Vl)}, rowsE s l = 0 → ∀ r ∈ l, rwE s r = 0
  | [], _, r, h => by cases h
  | q :: l, h, r, hr => by
    unfold rowsE at h
    by_cases h0 : rwE s q = 0
    · rw [if_pos h0] at h
      rcases List.mem_cons.1 hr with rfl | hr
      · exact h0
      · exact rowsE_all h r hr
    · rw [if_neg h0] at h; exact absurd h h0
theorem rowsE_first {s : List Cl} : ∀ {l : List (List Vl)} {k : Nat} {r : List Vl}, (∀ q ∈ l.take k, rwE s q = 0) → l[k]? = some r → rwE s r ≠ 0 → rowsE s l = rwE s r
  | [], k, r, _, h, _ => by simp at h
  | q :: l, 0, r, _, h, hr => by simp at h; subst h; unfold rowsE; rw [if_neg hr]
  | q :: l, k + 1, r, hk, h, hr => by
    unfold rowsE
    rw [if_pos (hk q (by simp))]
    exact rowsE_first (fun x hx => hk x (by rw [List.take_succ_cons]; exact List.mem_cons_of_mem _ hx)) (by simpa using h) hr
theorem rowsE_zero {s : List Cl} : ∀ {l : List (List Vl)}, (∀ q ∈ l, rwE s q = 0) → rowsE s l = 0
  | [], _ => rfl
  | q :: l, h => by unfold rowsE; rw [if_pos (h q (by simp))]; exact rowsE_zero (fun x hx => h x (List.mem_cons_of_mem _ hx))
theorem colV_at {rows : List (List Vl)} {k c : Nat} {r : List Vl} {v : Vl} (h : rows[k]? = some r) (hv : r[c]? = some v) : (colV rows c)[k]? = some v := by
  simp [colV, h, List.getD_eq_getElem?_getD, hv]
end Go.Proofs.YtpgdlmnhomnblaaGreatDoor
namespace Go.Proofs.YtpgdlmnhomnblaaGreatDoor
open Go.ChangeShapes Go.WideShapes Go.RowKit
set_option linter.unusedVariables false
set_option linter.unusedSimpArgs false
set_option maxRecDepth 100000
def cc (c : Int × Bool × Int) : List Value := [.int .i64 c.1, .bool c.2.1, .int .i64 c.2.2]
def cls (l : List (Int × Bool × Int)) : List Value := l.flatMap cc
theorem cls_cons (c : Int × Bool × Int) (l : List (Int × Bool × Int)) : cls (c :: l) = cc c ++ cls l := by simp [cls]
theorem cls_length : ∀ l : List (Int × Bool × Int), (cls l).length = l.length * 3
  | [] => rfl
  | c :: l => by rw [cls_cons, List.length_append, cls_length l]; simp [cc]; omega
theorem cls_at : ∀ {l : List (Int × Bool × Int)} {k : Nat} {c : Int × Bool × Int}, l[k]? = some c → (cls l)[k * 3]? = some (.int .i64 c.1) ∧ (cls l)[k * 3 + 1]? = some (.bool c.2.1) ∧ (cls l)[k * 3 + 2]? = some (.int .i64 c.2.2)
  | [], k, c, h => by simp at h
  | x :: l, 0, c, h => by
    simp at h
    subst h
    rw [cls_cons]
    exact ⟨rfl, rfl, rfl⟩
  | x :: l, k + 1, c, h => by
    simp at h
    obtain ⟨h1, h2, h3⟩ := cls_at h
    have e : ∀ j, (cc x ++ cls l)[3 + j]? = (cls l)[j]? := fun j => by
      rw [List.getElem?_append_right (by simp [cc])]
      congr 1
      simp [cc]
    rw [cls_cons, show (k + 1) * 3 = 3 + k * 3 by omega, show 3 + k * 3 + 1 = 3 + (k * 3 + 1) by omega, show 3 + k * 3 + 2 = 3 + (k * 3 + 2) by omega, e, e, e]
    exact ⟨h1, h2, h3⟩
theorem Reads.col {w : World} {B n : Nat} {A : Option Addr} {l : List (Int × Bool × Int)} (h : Reads w B 3 A n (cls l)) {k : Nat} {c : Int × Bool × Int} (hv : l[k]? = some c) :
    ∃ b o, A = some ⟨b, o, none⟩ ∧ b < B ∧ w.cell? ⟨b, o + k * 3, none⟩ = some (.int .i64 c.1) ∧ w.cell? ⟨b, o + k * 3 + 1, none⟩ = some (.bool c.2.1) ∧ w.cell? ⟨b, o + k * 3 + 2, none⟩ = some (.int .i64 c.2.2) := by
  have hk : k < l.length := (List.getElem?_eq_some_iff.1 hv).1
  have hn : 0 < n := by have := h.1; rw [cls_length] at this; omega
  obtain ⟨⟨b, o, sp⟩, rfl, hb, hc⟩ := h.2 hn
  obtain ⟨h1, h2, h3⟩ := cls_at hv
  have c1 := hc _ _ h1
  have c2 := hc _ _ h2
  have c3 := hc _ _ h3
  have hl : 0 < (cls l).length := by rw [cls_length]; omega
  obtain rfl : sp = none := by simpa [Addr.add] using World.cell?_spot (hc 0 _ (List.getElem?_eq_getElem hl))
  rw [plain_add] at c1 c2 c3
  exact ⟨b, o, rfl, hb, c1, by rw [← c2, Nat.add_assoc], by rw [← c3, Nat.add_assoc]⟩
def IsCols (w : World) (a : Option Addr) (len cap : Nat) (l : List (Int × Bool × Int)) : Prop :=
  l.length = len ∧ len ≤ cap ∧ cap ≤ maxLen ∧ Reads w w.heap.size 3 a len (cls l) ∧ ∀ c ∈ l, In64 c.1 ∧ In64 c.2.2
theorem cols_of {H : Type} {enc : TypeId × Value → H} {W : World} {a : Option Addr} {len cap : Nat} {d : DataW H} {p : List MemPlace} (h : DataW.Trod enc Tryz.prog W 0 (fun _ => true) true 22 (.slice a len cap) d p) :
    ∃ l, IsCols W a len cap l := by
  obtain ⟨fuel, hf⟩ := h
  rcases open_slice_fields Tryz.underlying22 Tryz.underlying53 (by kernel_rfl) (by kernel_rfl) hf with ⟨hcs, _⟩ | ⟨x, l, c, mm, D, Pl, hcs, _, hl, hcm, hmm, _, hi⟩
  · simp [Value.cells] at hcs
    obtain ⟨rfl, rfl, rfl⟩ := hcs
    exact ⟨[], rfl, Nat.le_refl _, Nat.zero_le _, Reads.none_, by simp⟩
  · simp [Value.cells] at hcs
    obtain ⟨rfl, rfl, rfl⟩ := hcs
    have hall : ∀ j, ∃ y : Int × Bool × Int, j < len → (In64 y.1 ∧ In64 y.2.2) ∧ ∀ i v, (cc y)[i]? = some v → W.cell? (x.add (j * 3 + i)) = some v := by
      intro j
      by_cases hj : j < len
      · obtain ⟨ys, nn, _, _, _, hfld⟩ := hi j (by rw [hmm]; simp; omega)
        obtain ⟨v0, y0, c0, _, t0⟩ := hfld 0 _ rfl
        obtain ⟨v1, y1, c1, _, t1⟩ := hfld 1 _ rfl
        obtain ⟨v2, y2, c2, _, t2⟩ := hfld 2 _ rfl
        obtain ⟨k, e0, _, wk⟩ := DataW.trod_int Tryz.underlying3 t0
        obtain ⟨bb, e1, _⟩ := DataW.trod_bool Tryz.underlying4 t1
        obtain ⟨s, e2, _, ws⟩ := DataW.trod_int Tryz.underlying3 t2
        injection e0 with e0
        injection e1 with e1
        injection e2 with e2
        subst e0 e1 e2
        have hk : In64 k := by have := i64_of wk; unfold In64; omega
        have hs : In64 s := by have := i64_of ws; unfold In64; omega
        refine ⟨⟨k, bb, s⟩, fun _ => ⟨⟨hk, hs⟩, fun i v hv => ?_⟩⟩
        unfold cc at hv
        rcases i with _ | _ | _ | i
        all_goals simp at hv
        all_goals subst hv
        · exact c0
        · exact c1
        · exact c2
      · exact ⟨(0, false, 0), fun h => absurd h hj⟩
    obtain ⟨f, hfn⟩ := Classical.axiomOfChoice hall
    have hget : ∀ j y, ((List.range len).map f)[j]? = some y → j < len ∧ y = f j := by
      intro j y hy
      have hj : j < len := by
        have := (List.getElem?_eq_some_iff.1 hy).1
        simpa using this
      rw [List.getElem?_map, List.getElem?_range hj] at hy
      injection hy with hy
      exact ⟨hj, hy.symm⟩
    refine ⟨(List.range len).map f, by simp, hl, hcm, ⟨by rw [cls_length]; simp, fun hn => ?_⟩, fun v hv => ?_⟩
    · refine ⟨x, rfl, ?_, fun j u hu => ?_⟩
      · have := World.block_lt_of_cell? W _ ((hfn 0 hn).2 0 _ rfl)
        rwa [block_of_add] at this
      · have hj : j < len * 3 := by
          have := (List.getElem?_eq_some_iff.1 hu).1
          rw [cls_length] at this
          simpa using this
        have hy : ((List.range len).map f)[j / 3]? = some (f (j / 3)) := by rw [List.getElem?_map, List.getElem?_range (by omega)]; rfl
        obtain ⟨h1, h2, h3⟩ := cls_at hy
        have hc := (hfn (j / 3) (by omega)).2
        obtain ⟨q, hq⟩ : ∃ q, j / 3 = q := ⟨_, rfl⟩
        rw [hq] at h1 h2 h3 hc
        have hr : j = q * 3 ∨ j = q * 3 + 1 ∨ j = q * 3 + 2 := by omega
        rcases hr with rfl | rfl | rfl
        · rw [h1] at hu; exact hc 0 _ (by rw [← hu]; rfl)
        · rw [h2] at hu; exact hc 1 _ (by rw [← hu]; rfl)
        · rw [h3] at hu; exact hc 2 _ (by rw [← hu]; rfl)
    · obtain ⟨j, hj, rfl⟩ := List.mem_map.1 hv
      exact (hfn j (List.mem_range.1 hj)).1
end Go.Proofs.YtpgdlmnhomnblaaGreatDoor
namespace Go.Proofs.YtpgdlmnhomnblaaGreatDoor
open Go.RowKit
set_option linter.unusedVariables false
set_option linter.unusedSimpArgs false
set_option maxRecDepth 100000
def vA (v : Int × Int × Tx) : Value := .agg (vc v).toArray
theorem refRight_any (v : Int × Int × Tx) (kd : Int) (w : World) : Calls Tryz.prog 52 #[vA v, .int .i64 kd] w fun e w' => e = .returned (.bool (rgt kd v)) ∧ Below w.heap.size w w' := by
  obtain ⟨r, hr⟩ : ∃ r, rgt kd v = r := ⟨_, rfl⟩
  obtain ⟨v0, v1, z⟩ := v
  rw [hr]
  unfold rgt at hr
  have hv : vA (v0, v1, z) = .agg #[.int .i64 v0, .int .i64 v1, .string ⟨z.toArray⟩] := rfl
  rw [hv]
  clear hv
  go_enter Tryz.func52, Tryz.ntmps52
  have hB : Below w.heap.size w (w.alloc (.cells #[.int .i64 v0, .int .i64 v1, .string ⟨z.toArray⟩] 51)) := (Below.refl _ _).alloc (Nat.le_refl _) _
  have qz : z = [] ∧ z.isEmpty = true ∨ z ≠ [] ∧ z.isEmpty = false := by cases z <;> simp
  by_cases h0 : v0 = 0
  · subst h0
    by_cases h1 : v1 = 0
    · subst h1
      rcases qz with ⟨hz, q⟩ | ⟨hz, q⟩
      · obtain rfl : r = true := by rw [← hr]; simp [hz]
        clear hr hz
        go_wp2_with fail
        go_ret
        exact ⟨rfl, hB⟩
      · obtain rfl : r = false := by rw [← hr]; simp [hz]
        clear hr hz
        go_wp2_with fail
        go_ret
        exact ⟨rfl, hB⟩
    · obtain rfl : r = false := by rw [← hr]; simp [h1]
      clear hr qz
      go_wp2_with fail
      go_ret
      exact ⟨rfl, hB⟩
  · by_cases hk : v0 = kd
    · subst hk
      by_cases h1 : v0 = 1
      · subst h1
        rcases qz with ⟨hz, q⟩ | ⟨hz, q⟩
        · obtain rfl : r = true := by rw [← hr]; simp [hz]
          clear hr hz
          go_wp2_with fail
          go_ret
          exact ⟨rfl, hB⟩
        · obtain rfl : r = false := by rw [← hr]; simp [hz]
          clear hr hz
          go_wp2_with fail
          go_ret
          exact ⟨rfl, hB⟩
      · by_cases h2 : v0 = 2
        · subst h2
          by_cases h3 : v1 = 0
          · subst h3
            obtain rfl : r = true := by rw [← hr]; simp
            clear hr qz
            go_wp2_with fail
            go_ret
            exact ⟨rfl, hB⟩
          · have q : (v1 == 0) = false := by simp [h3]
            obtain rfl : r = false := by rw [← hr]; simp [h3]
            clear hr qz
            go_wp2_with fail
            go_ret
            exact ⟨rfl, hB⟩
        · obtain rfl : r = false := by rw [← hr]; simp [h0, h1, h2]
          clear hr qz
          go_wp2_with fail
          go_ret
          exact ⟨rfl, hB⟩
    · obtain rfl : r = false := by rw [← hr]; simp [h0, hk]
      clear hr qz
      go_wp2_with fail
      go_ret
      exact ⟨rfl, hB⟩
end Go.Proofs.YtpgdlmnhomnblaaGreatDoor
namespace Go.Proofs.YtpgdlmnhomnblaaGreatDoor
open Go.RowKit
set_option linter.unusedVariables false
set_option linter.unusedSimpArgs false
set_option maxRecDepth 100000
theorem refOf_any (way kd : Int) (w : World) : Calls Tryz.prog 51 #[.int .i64 way, .int .i64 kd] w fun e w' => e = .returned (.bool (ofW way kd)) ∧ w = w' := by
  obtain ⟨r, hr⟩ : ∃ r, ofW way kd = r := ⟨_, rfl⟩
  rw [hr]
  unfold ofW at hr
  go_enter Tryz.func51, Tryz.ntmps51
  by_cases h1 : kd = 1
  · subst h1
    by_cases h2 : 0 ≤ way
    · by_cases h3 : way ≤ 4
      · obtain rfl : r = true := by rw [← hr]; simp; omega
        clear hr
        go_wp2_with fail
        go_ret
        exact ⟨rfl, rfl⟩
      · obtain rfl : r = false := by rw [← hr]; simp; omega
        clear hr
        go_wp2_with fail
        go_ret
        exact ⟨rfl, rfl⟩
    · obtain rfl : r = false := by rw [← hr]; simp; omega
      clear hr
      go_wp2_with fail
      go_ret
      exact ⟨rfl, rfl⟩
  · by_cases h2 : kd = 2
    · subst h2
      by_cases h3 : way = 5
      · subst h3
        obtain rfl : r = true := by rw [← hr]; simp
        clear hr
        go_wp2_with fail
        go_ret
        exact ⟨rfl, rfl⟩
      · have q : (way == 5) = false := by simp [h3]
        obtain rfl : r = false := by rw [← hr]; simp; omega
        clear hr
        go_wp2_with fail
        go_ret
        exact ⟨rfl, rfl⟩
    · obtain rfl : r = false := by rw [← hr]; simp; omega
      clear hr
      go_wp2_with fail
      go_ret
      exact ⟨rfl, rfl⟩
end Go.Proofs.YtpgdlmnhomnblaaGreatDoor
