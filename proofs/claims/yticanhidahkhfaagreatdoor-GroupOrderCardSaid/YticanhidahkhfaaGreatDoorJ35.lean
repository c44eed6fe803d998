import Derived.Test.YticanhidahkhfaaGreatDoorJ34
import Derived.Test.YticanhidahkhfaaGreatDoorJ8
import Derived.Deep.Slices
import Derived.Test.YticanhidahkhfaaGreatDoorJ6
namespace Go.Proofs.YticanhidahkhfaaGreatDoor
open Go.RowKit
set_option linter.unusedVariables false
set_option linter.unusedSimpArgs false
set_option maxRecDepth 100000
def le3 (t u : Tr3) : Prop := (t.1 = true → u.1 = true) ∧ (t.2.1 = true → u.2.1 = true) ∧ (t.2.2 = true → u.2.2 = true)
theorem le3.refl (t : Tr3) : le3 t t := ⟨id, id, id⟩
theorem le3_none (t : Tr3) : le3 (false, false, false) t := by unfold le3; simp
def leV (a b : Vl) : Prop := cmpV a b ≤ 0
theorem leV.trans {a b c : Vl} (h : leV a b) (k : leV b c) : leV a c := cmp_trans h k
theorem le_iff (a b : Vl) : cmpV a b ≤ 0 ↔ leV a b := Iff.rfl
theorem ge_iff (a b : Vl) : 0 ≤ cmpV a b ↔ leV b a := by unfold leV; rw [cmp_turn a b]; omega
theorem lt_iff (a b : Vl) : cmpV a b < 0 ↔ ¬ leV b a := by unfold leV; rw [cmp_turn a b]; omega
theorem gt_iff (a b : Vl) : 0 < cmpV a b ↔ ¬ leV a b := by unfold leV; omega
theorem eq_iff (a b : Vl) : cmpV a b = 0 ↔ leV a b ∧ leV b a := by unfold leV; rw [cmp_turn a b]; omega
structure ZSub (k : Int) (y : Zn) (rows : Int) (z : Zn) : Prop where
  nulls : y.1 ≤ z.1
  some : y.2.1 = true → z.2.1 = true ∧ leV z.2.2.1 y.2.2.1 ∧ leV y.2.2.2 z.2.2.2 ∧ leV y.2.2.1 y.2.2.2
  left : y.1 < k → z.1 < rows
open Classical in
theorem oneZ_mono (op : Int) (vals : List Vl) {y z : Zn} (h1 : leV z.2.2.1 y.2.2.1) (h2 : leV y.2.2.2 z.2.2.2) (h3 : leV y.2.2.1 y.2.2.2) :
    ((oneZ op vals y).1 = true → (oneZ op vals z).1 = true) ∧ ((oneZ op vals y).2 = true → (oneZ op vals z).2 = true) := by
  obtain ⟨yn, ys, ya, yb⟩ := y
  obtain ⟨zn, zs, za, zb⟩ := z
  simp only at h1 h2 h3
  have hlo : ∀ v, leV ya v → leV za v := fun v h => h1.trans h
  have hhi : ∀ v, leV v yb → leV v zb := fun v h => h.trans h2
  have klo : ∀ v, leV v za → leV v ya := fun v h => h.trans h1
  have khi : ∀ v, leV zb v → leV yb v := fun v h => h2.trans h
  have kmix : ∀ v, leV zb v → leV ya v := fun v h => h3.trans (khi v h)
  have kmix2 : ∀ v, leV v za → leV v yb := fun v h => (klo v h).trans h3
  unfold oneZ
  dsimp only
  generalize vals.getD 0 (0, 0, []) = a
  generalize vals.getD 1 (0, 0, []) = b
  have same : (decide (leV ya a) && decide (leV a yb)) = true → (decide (leV za a) && decide (leV a zb)) = true := by
    simp only [Bool.and_eq_true, decide_eq_true_eq]
    exact fun h => ⟨hlo _ h.1, hhi _ h.2⟩
  have other : ∀ v, ((leV ya v ∧ leV v ya) ∧ leV yb v ∧ leV v yb → False) → ((leV za v ∧ leV v za) ∧ leV zb v ∧ leV v zb) → False := fun v h k =>
    h ⟨⟨kmix _ k.2.1, klo _ k.1.2⟩, khi _ k.2.1, kmix2 _ k.1.2⟩
  have other' : (!decide (leV ya a ∧ leV a ya) || !decide (leV yb a ∧ leV a yb)) = true → (!decide (leV za a ∧ leV a za) || !decide (leV zb a ∧ leV a zb)) = true := by
    have := other a
    simp only [Bool.or_eq_true, Bool.not_eq_true', decide_eq_false_iff_not]
    intro h
    refine Decidable.byContradiction fun hn => ?_
    have hn' := not_or.1 hn
    exact this (fun k => h.elim (fun q => q k.1) (fun q => q k.2)) ⟨Classical.not_not.1 hn'.1, Classical.not_not.1 hn'.2⟩
  by_cases o1 : op = 1
  · simp only [if_pos o1, le_iff, ge_iff, lt_iff, gt_iff, eq_iff]; exact ⟨same, other'⟩
  by_cases o2 : op = 2
  · simp only [if_neg o1, if_pos o2, le_iff, ge_iff, lt_iff, gt_iff, eq_iff]; exact ⟨other', same⟩
  by_cases o3 : op = 3
  · simp only [if_neg o1, if_neg o2, if_pos o3, le_iff, ge_iff, lt_iff, gt_iff, eq_iff, decide_eq_true_eq]; exact ⟨fun h k => h (klo _ k), hhi _⟩
  by_cases o4 : op = 4
  · simp only [if_neg o1, if_neg o2, if_neg o3, if_pos o4, le_iff, ge_iff, lt_iff, gt_iff, eq_iff, decide_eq_true_eq]; exact ⟨hlo _, fun h k => h (khi _ k)⟩
  by_cases o5 : op = 5
  · simp only [if_neg o1, if_neg o2, if_neg o3, if_neg o4, if_pos o5, le_iff, ge_iff, lt_iff, gt_iff, eq_iff, decide_eq_true_eq]; exact ⟨fun h k => h (khi _ k), hlo _⟩
  by_cases o6 : op = 6
  · simp only [if_neg o1, if_neg o2, if_neg o3, if_neg o4, if_neg o5, if_pos o6, le_iff, ge_iff, lt_iff, gt_iff, eq_iff, decide_eq_true_eq]; exact ⟨hhi _, fun h k => h (klo _ k)⟩
  by_cases o7 : op = 7
  · simp only [if_neg o1, if_neg o2, if_neg o3, if_neg o4, if_neg o5, if_neg o6, if_pos o7, le_iff, ge_iff, lt_iff, gt_iff, eq_iff, List.any_eq_true, List.all_eq_true, Bool.and_eq_true, Bool.not_eq_true', Bool.and_eq_false_iff, decide_eq_true_eq, decide_eq_false_iff_not]
    refine ⟨fun ⟨v, hv, h⟩ => ⟨v, hv, hlo _ h.1, hhi _ h.2⟩, fun h v hv => ?_⟩
    have := h v hv
    refine Decidable.byContradiction fun hn => ?_
    have hn' := not_or.1 hn
    have k1 := Classical.not_not.1 hn'.1
    have k2 := Classical.not_not.1 hn'.2
    exact other v (fun k => this.elim (fun q => q ⟨k.1.2, k.1.1⟩) (fun q => q ⟨k.2.2, k.2.1⟩)) ⟨⟨k1.2, k1.1⟩, k2.2, k2.1⟩
  · simp only [if_neg o1, if_neg o2, if_neg o3, if_neg o4, if_neg o5, if_neg o6, if_neg o7, le_iff, ge_iff, lt_iff, gt_iff, eq_iff, Bool.and_eq_true, Bool.or_eq_true, decide_eq_true_eq]
    exact ⟨fun h => ⟨⟨h.1.1, hhi _ h.1.2⟩, hlo _ h.2⟩, fun h => h.elim (fun q => Or.inl fun k => q (klo _ k)) (fun q => Or.inr fun k => q (khi _ k))⟩
theorem at3_mono {t u : Tr3} (h : le3 t u) : ∀ k, at3 t k = true → at3 u k = true
  | 0 => h.1
  | 1 => h.2.1
  | _ + 2 => h.2.2
theorem put3_mono {t u : Tr3} (h : le3 t u) {is js : Bool} (hi : is = true → js = true) (k : Nat) : le3 (put3 t is k) (put3 u js k) := by
  have key : ∀ (a b d : Bool), (a = true → b = true) → (a || (is && d)) = true → (b || (js && d)) = true := fun a b d hab hh => by
    simp only [Bool.or_eq_true, Bool.and_eq_true] at hh ⊢
    exact hh.elim (fun q => Or.inl (hab q)) (fun q => Or.inr ⟨hi q.1, q.2⟩)
  exact ⟨key _ _ _ h.1, key _ _ _ h.2.1, key _ _ _ h.2.2⟩
theorem jnB_mono (op : Int) {o o' x x' : Tr3} (ho : le3 o o') (hx : le3 x x') (a : Nat) {t t' : Tr3} (ht : le3 t t') : ∀ b, le3 (jnB op o x a t b) (jnB op o' x' a t' b)
  | 0 => ht
  | b + 1 => put3_mono (jnB_mono op ho hx a ht b) (by
      simp only [Bool.and_eq_true]
      exact fun h => ⟨at3_mono ho a h.1, at3_mono hx b h.2⟩) _
theorem jnA_mono (op : Int) {o o' x x' : Tr3} (ho : le3 o o') (hx : le3 x x') : ∀ a, le3 (jnA op o x a) (jnA op o' x' a)
  | 0 => le3.refl _
  | a + 1 => jnB_mono op ho hx a (jnA_mono op ho hx a) 3
theorem jn3_mono (op : Int) {o o' x x' : Tr3} (ho : le3 o o') (hx : le3 x x') : le3 (jn3 op o x) (jn3 op o' x') := jnA_mono op ho hx 3
def LeL : List Tr3 → List Tr3 → Prop
  | [], [] => True
  | t :: l, u :: m => le3 t u ∧ LeL l m
  | _, _ => False
theorem fold_mono (op : Int) : ∀ (l m : List Tr3) {o o' : Tr3}, LeL l m → le3 o o' → le3 (l.foldl (jn3 op) o) (m.foldl (jn3 op) o')
  | [], [], _, _, _, ho => ho
  | t :: l, u :: m, _, _, h, ho => fold_mono op l m h.2 (jn3_mono op ho h.1)
  | [], _ :: _, _, _, h, _ => h.elim
  | _ :: _, [], _, _, h, _ => h.elim
structure ZsSub (k : Int) (ys : List Zn) (rows : Int) (zs : List Zn) : Prop where
  len : ys.length = zs.length
  pos : 1 ≤ k
  pos' : 1 ≤ rows
  each : ∀ c, c < zs.length → ZSub k (ys.getD c zNone) rows (zs.getD c zNone)
mutual
theorem mayP_mono {k rows : Int} {ys zs : List Zn} (h : ZsSub k ys rows zs) : ∀ p, le3 (mayP k ys p) (mayP rows zs p)
  | .mk op col vals parts => by
    have ih := mayL_mono h parts
    have h1 := h.pos
    have h2 := h.pos'
    rw [mayP, mayP, if_neg (show ¬ k < 1 by omega), if_neg (show ¬ rows < 1 by omega), h.len]
    split
    · exact le3.refl _
    rename_i hf
    split
    · exact le3.refl _
    rename_i h0
    have hcol : 1 ≤ op ∧ op ≤ 9 → ZSub k (ys.getD col.toNat zNone) rows (zs.getD col.toNat zNone) := fun ho => by
      refine h.each _ ?_
      have := not_or.1 hf
      have h3 : ¬ (col < 0 ∨ (zs.length : Int) ≤ col) := fun q => this.2 ⟨ho, q⟩
      omega
    dsimp only
    split
    · rename_i h9
      have hz := hcol (by omega)
      have q1 := hz.left
      have q2 := hz.nulls
      refine ⟨?_, id, ?_⟩
      · simp only [decide_eq_true_eq]; exact q1
      · simp only [decide_eq_true_eq]; omega
    split
    · rename_i h9 ho
      have hz := hcol ho
      have q2 := hz.nulls
      refine ⟨?_, ?_, ?_⟩
      · dsimp only
        split
        · rename_i hs
          obtain ⟨k0, k1, k2, k3⟩ := hz.some hs
          rw [if_pos k0]
          exact (oneZ_mono op vals k1 k2 k3).2
        · intro q; cases q
      · simp only [decide_eq_true_eq]; omega
      · dsimp only
        split
        · rename_i hs
          obtain ⟨k0, k1, k2, k3⟩ := hz.some hs
          rw [if_pos k0]
          exact (oneZ_mono op vals k1 k2 k3).1
        · intro q; cases q
    · generalize hl : mayL k ys parts = l at ih ⊢
      generalize hm : mayL rows zs parts = m at ih ⊢
      have hd : le3 (l.headD (false, false, false)) (m.headD (false, false, false)) := by
        cases l <;> cases m
        · exact le3.refl _
        · exact ih.elim
        · exact ih.elim
        · exact ih.1
      split
      · exact ⟨hd.2.2, hd.2.1, hd.1⟩
      · refine fold_mono op _ _ ?_ hd
        cases l <;> cases m
        · trivial
        · exact ih.elim
        · exact ih.elim
        · exact ih.2
theorem mayL_mono {k rows : Int} {ys zs : List Zn} (h : ZsSub k ys rows zs) : ∀ l, LeL (mayL k ys l) (mayL rows zs l)
  | [] => by rw [mayL, mayL]; trivial
  | p :: l => by rw [mayL, mayL]; exact ⟨mayP_mono h p, mayL_mono h l⟩
end
end Go.Proofs.YticanhidahkhfaaGreatDoor
namespace Go.Proofs.YticanhidahkhfaaGreatDoor
open Go.RowKit
set_option linter.unusedVariables false
set_option linter.unusedSimpArgs false
set_option maxRecDepth 100000
def addZ (z : Zn) (v : Vl) : Zn :=
  if v.1 = 0 then (z.1 + 1, z.2)
  else if z.2.1 = false then (z.1, true, v, v)
  else if cmpV v z.2.2.1 < 0 then (z.1, true, v, z.2.2.2)
  else if 0 < cmpV v z.2.2.2 then (z.1, true, z.2.2.1, v)
  else z
def zoV (l : List Vl) : Zn := l.foldl addZ zNone
theorem leV.refl (a : Vl) : leV a a := by have := cmp_turn a a; unfold leV; omega
theorem leV.total (a b : Vl) : leV a b ∨ leV b a := by
  by_cases h : leV a b
  · exact .inl h
  · exact .inr (by unfold leV at h ⊢; rw [cmp_turn a b]; omega)
structure OfZ (l : List Vl) (z : Zn) : Prop where
  nulls : z.1 = ((l.filter fun v => decide (v.1 = 0)).length : Int)
  none_ : z.2.1 = false → z.2.2 = ((0, 0, []), (0, 0, [])) ∧ ∀ v ∈ l, v.1 = 0
  some_ : z.2.1 = true → (z.2.2.1 ∈ l ∧ z.2.2.1.1 ≠ 0) ∧ (z.2.2.2 ∈ l ∧ z.2.2.2.1 ≠ 0) ∧ ∀ v ∈ l, v.1 ≠ 0 → leV z.2.2.1 v ∧ leV v z.2.2.2
theorem OfZ.start : OfZ [] zNone := ⟨rfl, fun _ => ⟨rfl, fun v h => by cases h⟩, fun h => by cases h⟩
theorem OfZ.add {l : List Vl} {z : Zn} (h : OfZ l z) (v : Vl) : OfZ (l ++ [v]) (addZ z v) := by
  obtain ⟨n, s, a, b⟩ := z
  have h1 := h.nulls
  have h2 := h.none_
  have h3 := h.some_
  simp only at h1 h2 h3
  unfold addZ
  by_cases h0 : v.1 = 0
  · rw [if_pos h0]
    refine ⟨?_, fun hs => ?_, fun hs => ?_⟩
    · simp only [List.filter_append, List.length_append, h1]
      rw [List.filter_cons, if_pos (by simpa using h0)]
      simp
    · refine ⟨(h2 hs).1, fun u hu => ?_⟩
      rcases List.mem_append.1 hu with hu | hu
      · exact (h2 hs).2 u hu
      · rw [List.mem_singleton.1 hu]; exact h0
    · obtain ⟨k1, k2, k3⟩ := h3 hs
      refine ⟨⟨List.mem_append_left _ k1.1, k1.2⟩, ⟨List.mem_append_left _ k2.1, k2.2⟩, fun u hu hn => ?_⟩
      rcases List.mem_append.1 hu with hu | hu
      · exact k3 u hu hn
      · rw [List.mem_singleton.1 hu] at hn; exact absurd h0 hn
  rw [if_neg h0]
  have hnull : n = (((l ++ [v]).filter fun v => decide (v.1 = 0)).length : Int) := by
    simp only [List.filter_append, List.length_append, h1]
    rw [List.filter_cons, if_neg (by simpa using h0)]
    simp
  have hv : v ∈ l ++ [v] := List.mem_append_right _ (List.mem_singleton.2 rfl)
  by_cases hs : s = false
  · rw [if_pos hs]
    refine ⟨hnull, fun k => (by cases k), fun _ => ⟨⟨hv, h0⟩, ⟨hv, h0⟩, fun u hu hn => ?_⟩⟩
    rcases List.mem_append.1 hu with hu | hu
    · exact absurd ((h2 hs).2 u hu) hn
    · rw [List.mem_singleton.1 hu]; exact ⟨leV.refl v, leV.refl v⟩
  rw [if_neg hs]
  have hs' : s = true := by cases s <;> simp_all
  obtain ⟨⟨ma, na⟩, ⟨mb, nb⟩, k3⟩ := h3 hs'
  have hab : leV a b := (k3 b mb nb).1
  simp only
  by_cases c1 : cmpV v a < 0
  · rw [if_pos c1]
    have va : leV v a := by unfold leV; omega
    refine ⟨hnull, fun k => (by cases k), fun _ => ⟨⟨hv, h0⟩, ⟨List.mem_append_left _ mb, nb⟩, fun u hu hn => ?_⟩⟩
    rcases List.mem_append.1 hu with hu | hu
    · exact ⟨va.trans (k3 u hu hn).1, (k3 u hu hn).2⟩
    · rw [List.mem_singleton.1 hu]; exact ⟨leV.refl v, va.trans hab⟩
  rw [if_neg c1]
  have av : leV a v := Classical.not_not.1 fun k => c1 ((lt_iff v a).2 k)
  by_cases c2 : 0 < cmpV v b
  · rw [if_pos c2]
    have bv : leV b v := (leV.total b v).resolve_right fun k => by unfold leV at k; omega
    refine ⟨hnull, fun k => (by cases k), fun _ => ⟨⟨List.mem_append_left _ ma, na⟩, ⟨hv, h0⟩, fun u hu hn => ?_⟩⟩
    rcases List.mem_append.1 hu with hu | hu
    · exact ⟨(k3 u hu hn).1, (k3 u hu hn).2.trans bv⟩
    · rw [List.mem_singleton.1 hu]; exact ⟨av, leV.refl v⟩
  rw [if_neg c2]
  have vb : leV v b := by unfold leV; omega
  refine ⟨hnull, fun k => absurd k hs, fun _ => ⟨⟨List.mem_append_left _ ma, na⟩, ⟨List.mem_append_left _ mb, nb⟩, fun u hu hn => ?_⟩⟩
  rcases List.mem_append.1 hu with hu | hu
  · exact k3 u hu hn
  · rw [List.mem_singleton.1 hu]; exact ⟨av, vb⟩
theorem OfZ.fold : ∀ (m l : List Vl) {z : Zn}, OfZ l z → OfZ (l ++ m) (m.foldl addZ z)
  | [], l, _, h => by simpa using h
  | v :: m, l, _, h => by
    have := OfZ.fold m (l ++ [v]) (h.add v)
    simpa using this
theorem zoV_of (l : List Vl) : OfZ l (zoV l) := by have := OfZ.fold l [] OfZ.start; rwa [List.nil_append] at this
theorem OfZ.any {l : List Vl} {z : Zn} (h : OfZ l z) : z.2.1 = true ↔ ∃ v ∈ l, v.1 ≠ 0 := by
  constructor
  · intro hs; exact ⟨_, (h.some_ hs).1.1, (h.some_ hs).1.2⟩
  · rintro ⟨v, hv, hn⟩
    cases hs : z.2.1 with
    | true => rfl
    | false => exact absurd ((h.none_ hs).2 v hv) hn
theorem filter_lt {l : List Vl} : ((l.filter fun v => decide (v.1 = 0)).length < l.length) ↔ ∃ v ∈ l, v.1 ≠ 0 := by
  induction l with
  | nil => simp
  | cons v l ih =>
    rw [List.filter_cons]
    have hle := List.length_filter_le (fun v : Vl => decide (v.1 = 0)) l
    by_cases h : v.1 = 0
    · rw [if_pos (by simpa using h)]
      simp only [List.length_cons, List.mem_cons]
      rw [Nat.add_lt_add_iff_right, ih]
      constructor
      · rintro ⟨u, hu, hn⟩; exact ⟨u, .inr hu, hn⟩
      · rintro ⟨u, hu | hu, hn⟩
        · subst hu; exact absurd h hn
        · exact ⟨u, hu, hn⟩
    · rw [if_neg (by simpa using h)]
      simp only [List.length_cons, List.mem_cons]
      exact ⟨fun _ => ⟨v, .inl rfl, h⟩, fun _ => by omega⟩
theorem OfZ.less {l : List Vl} {z : Zn} (h : OfZ l z) : z.1 < (l.length : Int) ↔ z.2.1 = true := by
  rw [h.any, ← filter_lt, h.nulls]
  omega
theorem OfZ.range {l : List Vl} {z : Zn} (h : OfZ l z) : 0 ≤ z.1 ∧ z.1 ≤ (l.length : Int) := by
  have := List.length_filter_le (fun v : Vl => decide (v.1 = 0)) l
  rw [h.nulls]
  omega
theorem OfZ.sub {l m : List Vl} {y z : Zn} (hy : OfZ l y) (hz : OfZ (l ++ m) z) : ZSub l.length y (l ++ m).length z := by
  refine ⟨?_, fun hs => ?_, fun hl => ?_⟩
  · rw [hy.nulls, hz.nulls, List.filter_append, List.length_append]; omega
  · obtain ⟨⟨a1, a2⟩, ⟨b1, b2⟩, k⟩ := hy.some_ hs
    have hzs : z.2.1 = true := hz.any.2 ⟨_, List.mem_append_left _ a1, a2⟩
    obtain ⟨_, _, k'⟩ := hz.some_ hzs
    exact ⟨hzs, (k' _ (List.mem_append_left _ a1) a2).1, (k' _ (List.mem_append_left _ b1) b2).2, (k _ b1 b2).1⟩
  · have hs := hy.less.1 hl
    obtain ⟨⟨a1, a2⟩, _⟩ := hy.some_ hs
    exact hz.less.2 (hz.any.2 ⟨_, List.mem_append_left _ a1, a2⟩)
def fitZ (kind : Int) (v : Vl) : Prop := v.1 = 0 ∨ (v.1 = kind ∧ rgt kind v = true ∧ v.2.2.length ≤ 65536)
theorem OfZ.sound {l : List Vl} {z : Zn} (h : OfZ l z) {kind : Int} (hk : kind = 1 ∨ kind = 2) (hf : ∀ v ∈ l, fitZ kind v) : sndZ z l.length kind = true := by
  have hr := h.range
  have hl := h.less
  unfold sndZ
  have hd : z.2.1 = decide (z.1 < (l.length : Int)) := by
    cases hs : z.2.1 with
    | true => exact (decide_eq_true (hl.2 hs)).symm
    | false => exact (decide_eq_false fun k => by rw [hl.1 k] at hs; cases hs).symm
  rw [if_neg (by rintro (k | k | k); · omega
                 · omega
                 · exact k hd)]
  by_cases hs : z.2.1 = false
  · rw [if_pos hs]
    have := (h.none_ hs).1
    rw [this]
    simp
  · rw [if_neg hs]
    have hs' : z.2.1 = true := by simpa using hs
    obtain ⟨⟨a1, a2⟩, ⟨b1, b2⟩, k⟩ := h.some_ hs'
    have fa := (hf _ a1).resolve_left a2
    have fb := (hf _ b1).resolve_left b2
    exact decide_eq_true ⟨hk, fa.1, fb.1, fa.2.1, fb.2.1, fa.2.2, fb.2.2, (k _ b1 b2).1⟩
theorem OfZ.least {l : List Vl} {z : Zn} (h : OfZ l z) {kind : Int} (hf : ∀ v ∈ l, fitZ kind v) (hs : z.2.1 = true) : z.2.2.1.1 = kind ∧ rgt kind z.2.2.1 = true ∧ z.2.2.1.2.2.length ≤ 65536 := by
  obtain ⟨⟨a1, a2⟩, _, _⟩ := h.some_ hs
  exact (hf _ a1).resolve_left a2
end Go.Proofs.YticanhidahkhfaaGreatDoor
namespace Go.Proofs.YticanhidahkhfaaGreatDoor
open Go.RowKit
set_option linter.unusedVariables false
set_option linter.unusedSimpArgs false
set_option maxRecDepth 100000
abbrev Cl := Int × Bool × Int
def scE (s : List Cl) : Int := if s.length = 0 ∨ 64 < s.length then 12 else if ∃ c ∈ s, c.1 ≠ 1 ∧ c.1 ≠ 2 then 11 else if ∃ c ∈ s, c.2.2 ≠ -1 ∧ ofW c.2.2 c.1 = false then 1 else 0
def colE (c : Cl) (v : Vl) : Int := if rgt c.1 v = false ∨ v.1 = 0 ∧ c.2.1 = false then 11 else if 65536 < v.2.2.length then 12 else 0
def colsE : List Cl → List Vl → Int
  | c :: s, v :: r => if colE c v ≠ 0 then colE c v else colsE s r
  | _, _ => 0
def rwE (s : List Cl) (row : List Vl) : Int := if row.length ≠ s.length then 1 else colsE s row
def vB (v : Vl) : List Nat := (v.1 % 256).toNat :: (if v.1 = 1 then vb (zg v.2.1) else if v.1 = 2 then blbT v.2.2 else [])
def cB (c : Cl) : List Nat := [(c.1 % 256).toNat, if c.2.1 = true then 1 else 0, ((c.2.2 + 1) % 256).toNat]
def scB (s : List Cl) : List Nat := s.length % 256 :: s.flatMap cB
def rowB (r : List Vl) : List Nat := r.flatMap vB
def rwB (rows : List (List Vl)) : List Nat := vb rows.length ++ rows.flatMap rowB
theorem rowB_cons (v : Vl) (r : List Vl) : rowB (v :: r) = vB v ++ rowB r := by simp [rowB]
theorem rowB_append (a b : List Vl) : rowB (a ++ b) = rowB a ++ rowB b := by simp [rowB]
end Go.Proofs.YticanhidahkhfaaGreatDoor
namespace Go.Proofs.YticanhidahkhfaaGreatDoor
open Go.RowKit
set_option linter.unusedVariables false
set_option linter.unusedSimpArgs false
set_option maxRecDepth 100000
def colV (rows : List (List Vl)) (c : Nat) : List Vl := rows.map fun r => r.getD c (0, 0, [])
theorem colV_length (rows : List (List Vl)) (c : Nat) : (colV rows c).length = rows.length := by simp [colV]
theorem colV_take (rows : List (List Vl)) (c k : Nat) : (colV rows c).take k = colV (rows.take k) c := by simp [colV, List.map_take]
def zonesV (rows : List (List Vl)) (m : Nat) : List Zn := (List.range m).map fun c => zoV (colV rows c)
theorem zonesV_length (rows : List (List Vl)) (m : Nat) : (zonesV rows m).length = m := by simp [zonesV]
theorem zonesV_succ (rows : List (List Vl)) (m : Nat) : zonesV rows (m + 1) = zonesV rows m ++ [zoV (colV rows m)] := by simp [zonesV, List.range_succ]
theorem zonesV_getD {rows : List (List Vl)} {m c : Nat} (h : c < m) : (zonesV rows m).getD c zNone = zoV (colV rows c) := by
  rw [List.getD_eq_getElem?_getD, zonesV, List.getElem?_map, List.getElem?_range h]
  rfl
theorem fit_of_col {c : Cl} {v : Vl} (h : colE c v = 0) : fitZ c.1 v := by
  unfold colE at h
  split at h
  · cases h
  rename_i h1
  split at h
  · cases h
  rename_i h2
  have h3 : rgt c.1 v = true := by
    cases hr : rgt c.1 v with
    | true => rfl
    | false => exact absurd (.inl hr) h1
  by_cases h0 : v.1 = 0
  · exact .inl h0
  · refine .inr ⟨?_, h3, by omega⟩
    unfold rgt at h3
    rw [if_neg h0] at h3
    exact (of_decide_eq_true h3).1
theorem colsE_each : ∀ {s : List Cl} {r : List Vl}, colsE s r = 0 → ∀ {k : Nat} {c : Cl} {v : Vl}, s[k]? = some c → r[k]? = some v → colE c v = 0
  | [], _, _, _, _, _, h, _ => by simp at h
  | _ :: _, [], _, _, _, _, _, h => by simp at h
  | c :: s, v :: r, h, k, c', v', hc, hv => by
    unfold colsE at h
    split at h
    · rename_i hn; exact absurd h hn
    rename_i hn
    have h0 : colE c v = 0 := Classical.not_not.1 hn
    cases k with
    | zero =>
      simp only [List.getElem?_cons_zero, Option.some.injEq] at hc hv
      rw [← hc, ← hv]; exact h0
    | succ k =>
      simp only [List.getElem?_cons_succ] at hc hv
      exact colsE_each h hc hv
theorem fit_of_row {s : List Cl} {r : List Vl} (h : rwE s r = 0) {k : Nat} {c : Cl} (hc : s[k]? = some c) : ∃ v, r[k]? = some v ∧ fitZ c.1 v := by
  unfold rwE at h
  split at h
  · cases h
  rename_i hl
  have hk := (List.getElem?_eq_some_iff.1 hc).1
  have hl' : r.length = s.length := Classical.not_not.1 hl
  refine ⟨r[k], List.getElem?_eq_getElem (by omega), fit_of_col (colsE_each h hc (List.getElem?_eq_getElem (by omega)))⟩
theorem fit_col {s : List Cl} {rows : List (List Vl)} (h : ∀ r ∈ rows, rwE s r = 0) {k : Nat} {c : Cl} (hc : s[k]? = some c) : ∀ v ∈ colV rows k, fitZ c.1 v := by
  intro v hv
  obtain ⟨r, hr, rfl⟩ := List.mem_map.1 hv
  obtain ⟨u, hu, hf⟩ := fit_of_row (h r hr) hc
  rw [List.getD_eq_getElem?_getD, hu]
  exact hf
theorem kind_of_schema {s : List Cl} (h : scE s = 0) {c : Cl} (hc : c ∈ s) : c.1 = 1 ∨ c.1 = 2 := by
  unfold scE at h
  split at h
  · cases h
  split at h
  · cases h
  rename_i h1
  refine Classical.byContradiction fun hn => h1 ⟨c, hc, ?_⟩
  omega
theorem zs_sub {rows : List (List Vl)} {k : Nat} (m : Nat) (h1 : 1 ≤ k) (h2 : k ≤ rows.length) : ZsSub k (zonesV (rows.take k) m) rows.length (zonesV rows m) := by
  refine ⟨by rw [zonesV_length, zonesV_length], by omega, by omega, fun c hc => ?_⟩
  rw [zonesV_length] at hc
  rw [zonesV_getD hc, zonesV_getD hc, ← colV_take]
  have hy := zoV_of ((colV rows c).take k)
  have hz := zoV_of (colV rows c)
  have := OfZ.sub (l := (colV rows c).take k) (m := (colV rows c).drop k) hy (by rw [List.take_append_drop]; exact hz)
  rw [List.take_append_drop, List.length_take, colV_length, Nat.min_eq_left h2] at this
  exact this
theorem refutes_sub {rows : List (List Vl)} {k : Nat} (m : Nat) (h1 : 1 ≤ k) (h2 : k ≤ rows.length) (p : Pd) (h : (mayP rows.length (zonesV rows m) p).2.2 = false) : (mayP k (zonesV (rows.take k) m) p).2.2 = false := by
  cases hc : (mayP k (zonesV (rows.take k) m) p).2.2 with
  | false => rfl
  | true => rw [(mayP_mono (zs_sub m h1 h2) p).2.2 hc] at h; cases h
theorem refutes_none (zs : List Zn) (p : Pd) : (mayP 0 zs p).2.2 = false := by
  cases p with
  | mk op col vals parts => rw [mayP, if_pos (by omega)]
end Go.Proofs.YticanhidahkhfaaGreatDoor
namespace Go.Proofs.YticanhidahkhfaaGreatDoor
set_option linter.unusedVariables false
set_option linter.unusedSimpArgs false
def rowsE (s : List Cl) : List (List Vl) → Int
  | [] => 0
  | r :: l => if rwE s r = 0 then rowsE s l else rwE s r
def newE (s : List Cl) (rows : List (List Vl)) : Int :=
  if scE s ≠ 0 then scE s else if rows.length < 1 ∨ 65536 < rows.length then 12 else rowsE s rows
theorem rowsE_all {s : List Cl} : ∀ {l : List (List Vl)}, rowsE s l = 0 → ∀ r ∈ l, rwE s r = 0
  | [], _, r, h => by cases h
  | q :: l, h, r, hr => by
    unfold rowsE at h
    by_cases h0 : rwE s q = 0
    · rw [if_pos h0] at h
      rcases List.mem_cons.1 hr with rfl | hr
      · exact h0
      · exact rowsE_all h r hr
    · rw [if_neg h0] at h; exact absurd h h0
theorem rowsE_first {s : List Cl} : ∀ {l : List (List Vl)} {k : Nat} {r : List Vl}, (∀ q ∈ l.take k, rwE s q = 0) → l[k]? = some r → rwE s r ≠ 0 → rowsE s l = rwE s r
  | [], k, r, _, h, _ => by simp at h
  | q :: l, 0, r, _, h, hr => by simp at h; subst h; unfold rowsE; rw [if_neg hr]
  | q :: l, k + 1, r, hk, h, hr => by
    unfold rowsE
    rw [if_pos (hk q (by simp))]
    exact rowsE_first (fun x hx => hk x (by rw [List.take_succ_cons]; exact List.mem_cons_of_mem _ hx)) (by simpa using h) hr
theorem rowsE_zero {s : List Cl} : ∀ {l : List (List Vl)}, (∀ q ∈ l, rwE s q = 0) → rowsE s l = 0
  | [], _ => rfl
  | q :: l, h => by unfold rowsE; rw [if_pos (h q (by simp))]; exact rowsE_zero (fun x hx => h x (List.mem_cons_of_mem _ hx))
theorem colV_at {rows : List (List Vl)} {k c : Nat} {r : List Vl} {v : Vl} (h : rows[k]? = some r) (hv : r[c]? = some v) : (colV rows c)[k]? = some v := by
  simp [colV, h, List.getD_eq_getElem?_getD, hv]
end Go.Proofs.YticanhidahkhfaaGreatDoor
namespace Go.Proofs.YticanhidahkhfaaGreatDoor
open Go.ChangeShapes Go.WideShapes Go.RowKit
set_option linter.unusedVariables false
set_option linter.unusedSimpArgs false
set_option maxRecDepth 100000
def cc (c : Int × Bool × Int) : List Value := [.int .i64 c.1, .bool c.2.1, .int .i64 c.2.2]
def cls (l : List (Int × Bool × Int)) : List Value := l.flatMap cc
theorem cls_nil : cls [] = [] := rfl
theorem cls_append (a b : List (Int × Bool × Int)) : cls (a ++ b) = cls a ++ cls b := by simp [cls]
theorem cls_one (c : Int × Bool × Int) : cls [c] = cc c := by simp [cls]
theorem cls_cons (c : Int × Bool × Int) (l : List (Int × Bool × Int)) : cls (c :: l) = cc c ++ cls l := by simp [cls]
theorem cls_length : ∀ l : List (Int × Bool × Int), (cls l).length = l.length * 3
  | [] => rfl
  | c :: l => by rw [cls_cons, List.length_append, cls_length l]; simp [cc]; omega
theorem cc_cell (c : Int × Bool × Int) : ∀ u ∈ cc c, u.oneCell' = true := by
  intro u hu
  simp [cc] at hu
  rcases hu with rfl | rfl | rfl <;> rfl
theorem cls_at : ∀ {l : List (Int × Bool × Int)} {k : Nat} {c : Int × Bool × Int}, l[k]? = some c → (cls l)[k * 3]? = some (.int .i64 c.1) ∧ (cls l)[k * 3 + 1]? = some (.bool c.2.1) ∧ (cls l)[k * 3 + 2]? = some (.int .i64 c.2.2)
  | [], k, c, h => by simp at h
  | x :: l, 0, c, h => by
    simp at h
    subst h
    rw [cls_cons]
    exact ⟨rfl, rfl, rfl⟩
  | x :: l, k + 1, c, h => by
    simp at h
    obtain ⟨h1, h2, h3⟩ := cls_at h
    have e : ∀ j, (cc x ++ cls l)[3 + j]? = (cls l)[j]? := fun j => by
      rw [List.getElem?_append_right (by simp [cc])]
      congr 1
      simp [cc]
    rw [cls_cons, show (k + 1) * 3 = 3 + k * 3 by omega, show 3 + k * 3 + 1 = 3 + (k * 3 + 1) by omega, show 3 + k * 3 + 2 = 3 + (k * 3 + 2) by omega, e, e, e]
    exact ⟨h1, h2, h3⟩
theorem Reads.col {w : World} {B n : Nat} {A : Option Addr} {l : List (Int × Bool × Int)} (h : Reads w B 3 A n (cls l)) {k : Nat} {c : Int × Bool × Int} (hv : l[k]? = some c) :
    ∃ b o, A = some ⟨b, o, none⟩ ∧ b < B ∧ w.cell? ⟨b, o + k * 3, none⟩ = some (.int .i64 c.1) ∧ w.cell? ⟨b, o + k * 3 + 1, none⟩ = some (.bool c.2.1) ∧ w.cell? ⟨b, o + k * 3 + 2, none⟩ = some (.int .i64 c.2.2) := by
  have hk : k < l.length := (List.getElem?_eq_some_iff.1 hv).1
  have hn : 0 < n := by have := h.1; rw [cls_length] at this; omega
  obtain ⟨⟨b, o, sp⟩, rfl, hb, hc⟩ := h.2 hn
  obtain ⟨h1, h2, h3⟩ := cls_at hv
  have c1 := hc _ _ h1
  have c2 := hc _ _ h2
  have c3 := hc _ _ h3
  have hl : 0 < (cls l).length := by rw [cls_length]; omega
  obtain rfl : sp = none := by simpa [Addr.add] using World.cell?_spot (hc 0 _ (List.getElem?_eq_getElem hl))
  rw [plain_add] at c1 c2 c3
  exact ⟨b, o, rfl, hb, c1, by rw [← c2, Nat.add_assoc], by rw [← c3, Nat.add_assoc]⟩
def IsCols (w : World) (a : Option Addr) (len cap : Nat) (l : List (Int × Bool × Int)) : Prop :=
  l.length = len ∧ len ≤ cap ∧ cap ≤ maxLen ∧ Reads w w.heap.size 3 a len (cls l) ∧ ∀ c ∈ l, In64 c.1 ∧ In64 c.2.2
theorem cols_of {H : Type} {enc : TypeId × Value → H} {W : World} {a : Option Addr} {len cap : Nat} {d : DataW H} {p : List MemPlace} (h : DataW.Trod enc Tryz.prog W 0 (fun _ => true) true 22 (.slice a len cap) d p) :
    ∃ l, IsCols W a len cap l := by
  obtain ⟨fuel, hf⟩ := h
  rcases open_slice_fields Tryz.underlying22 Tryz.underlying83 (by kernel_rfl) (by kernel_rfl) hf with ⟨hcs, _⟩ | ⟨x, l, c, mm, D, Pl, hcs, _, hl, hcm, hmm, _, hi⟩
  · simp [Value.cells] at hcs
    obtain ⟨rfl, rfl, rfl⟩ := hcs
    exact ⟨[], rfl, Nat.le_refl _, Nat.zero_le _, Reads.none_, by simp⟩
  · simp [Value.cells] at hcs
    obtain ⟨rfl, rfl, rfl⟩ := hcs
    have hall : ∀ j, ∃ y : Int × Bool × Int, j < len → (In64 y.1 ∧ In64 y.2.2) ∧ ∀ i v, (cc y)[i]? = some v → W.cell? (x.add (j * 3 + i)) = some v := by
      intro j
      by_cases hj : j < len
      · obtain ⟨ys, nn, _, _, _, hfld⟩ := hi j (by rw [hmm]; simp; omega)
        obtain ⟨v0, y0, c0, _, t0⟩ := hfld 0 _ rfl
        obtain ⟨v1, y1, c1, _, t1⟩ := hfld 1 _ rfl
        obtain ⟨v2, y2, c2, _, t2⟩ := hfld 2 _ rfl
        obtain ⟨k, e0, _, wk⟩ := DataW.trod_int Tryz.underlying3 t0
        obtain ⟨bb, e1, _⟩ := DataW.trod_bool Tryz.underlying4 t1
        obtain ⟨s, e2, _, ws⟩ := DataW.trod_int Tryz.underlying3 t2
        injection e0 with e0
        injection e1 with e1
        injection e2 with e2
        subst e0 e1 e2
        have hk : In64 k := by have := i64_of wk; unfold In64; omega
        have hs : In64 s := by have := i64_of ws; unfold In64; omega
        refine ⟨⟨k, bb, s⟩, fun _ => ⟨⟨hk, hs⟩, fun i v hv => ?_⟩⟩
        unfold cc at hv
        rcases i with _ | _ | _ | i
        all_goals simp at hv
        all_goals subst hv
        · exact c0
        · exact c1
        · exact c2
      · exact ⟨(0, false, 0), fun h => absurd h hj⟩
    obtain ⟨f, hfn⟩ := Classical.axiomOfChoice hall
    have hget : ∀ j y, ((List.range len).map f)[j]? = some y → j < len ∧ y = f j := by
      intro j y hy
      have hj : j < len := by
        have := (List.getElem?_eq_some_iff.1 hy).1
        simpa using this
      rw [List.getElem?_map, List.getElem?_range hj] at hy
      injection hy with hy
      exact ⟨hj, hy.symm⟩
    refine ⟨(List.range len).map f, by simp, hl, hcm, ⟨by rw [cls_length]; simp, fun hn => ?_⟩, fun v hv => ?_⟩
    · refine ⟨x, rfl, ?_, fun j u hu => ?_⟩
      · have := World.block_lt_of_cell? W _ ((hfn 0 hn).2 0 _ rfl)
        rwa [block_of_add] at this
      · have hj : j < len * 3 := by
          have := (List.getElem?_eq_some_iff.1 hu).1
          rw [cls_length] at this
          simpa using this
        have hy : ((List.range len).map f)[j / 3]? = some (f (j / 3)) := by rw [List.getElem?_map, List.getElem?_range (by omega)]; rfl
        obtain ⟨h1, h2, h3⟩ := cls_at hy
        have hc := (hfn (j / 3) (by omega)).2
        obtain ⟨q, hq⟩ : ∃ q, j / 3 = q := ⟨_, rfl⟩
        rw [hq] at h1 h2 h3 hc
        have hr : j = q * 3 ∨ j = q * 3 + 1 ∨ j = q * 3 + 2 := by omega
        rcases hr with rfl | rfl | rfl
        · rw [h1] at hu; exact hc 0 _ (by rw [← hu]; rfl)
        · rw [h2] at hu; exact hc 1 _ (by rw [← hu]; rfl)
        · rw [h3] at hu; exact hc 2 _ (by rw [← hu]; rfl)
    · obtain ⟨j, hj, rfl⟩ := List.mem_map.1 hv
      exact (hfn j (List.mem_range.1 hj)).1
end Go.Proofs.YticanhidahkhfaaGreatDoor
