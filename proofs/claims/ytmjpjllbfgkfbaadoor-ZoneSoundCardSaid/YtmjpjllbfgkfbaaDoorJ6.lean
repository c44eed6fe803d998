/- Texts joined: ZnOfP ZnSndP CkRefRight CkRefOf VlRefSc TwoRowsS ZnSmall PdArg. -/
import Derived.Test.YtmjpjllbfgkfbaaDoorJ5
import Derived.Test.YtmjpjllbfgkfbaaDoorJ3
import Derived.Test.YtmjpjllbfgkfbaaDoorJ2
import Derived.Deep.QuietTactic
import Derived.BigQuiet
import Derived.BigGuard
import Derived.Test.YtmjpjllbfgkfbaaDoorJ1
import Derived.Lib.SmallJoins
/- The zone of values on plain data: what it says of them, of fewer of them, and that it is sound. No program; no condition. -/
namespace Go.Proofs.YtmjpjllbfgkfbaaDoor
open Go.RowKit
set_option linter.unusedVariables false
set_option linter.unusedSimpArgs false
set_option maxRecDepth 100000

/-- The zone with one more value. -/
def addZ (z : Zn) (v : Vl) : Zn :=
  if v.1 = 0 then (z.1 + 1, z.2)
  else if z.2.1 = false then (z.1, true, v, v)
  else if cmpV v z.2.2.1 < 0 then (z.1, true, v, z.2.2.2)
  else if 0 < cmpV v z.2.2.2 then (z.1, true, z.2.2.1, v)
  else z
/-- The zone of values. -/
def zoV (l : List Vl) : Zn := l.foldl addZ zNone
theorem leV.refl (a : Vl) : leV a a := by have := cmp_turn a a; unfold leV; omega
theorem leV.total (a b : Vl) : leV a b ∨ leV b a := by
  by_cases h : leV a b
  · exact .inl h
  · exact .inr (by unfold leV at h ⊢; rw [cmp_turn a b]; omega)
/-- What the zone of values says of them. -/
structure OfZ (l : List Vl) (z : Zn) : Prop where
  nulls : z.1 = ((l.filter fun v => decide (v.1 = 0)).length : Int)
  none_ : z.2.1 = false → z.2.2 = ((0, 0, []), (0, 0, [])) ∧ ∀ v ∈ l, v.1 = 0
  some_ : z.2.1 = true → (z.2.2.1 ∈ l ∧ z.2.2.1.1 ≠ 0) ∧ (z.2.2.2 ∈ l ∧ z.2.2.2.1 ≠ 0) ∧ ∀ v ∈ l, v.1 ≠ 0 → leV z.2.2.1 v ∧ leV v z.2.2.2
theorem OfZ.start : OfZ [] zNone := ⟨rfl, fun _ => ⟨rfl, fun v h => by cases h⟩, fun h => by cases h⟩
theorem OfZ.add {l : List Vl} {z : Zn} (h : OfZ l z) (v : Vl) : OfZ (l ++ [v]) (addZ z v) := by
  obtain ⟨n, s, a, b⟩ := z
  have h1 := h.nulls
  have h2 := h.none_
  have h3 := h.some_
  simp only at h1 h2 h3
  unfold addZ
  by_cases h0 : v.1 = 0
  · rw [if_pos h0]
    refine ⟨?_, fun hs => ?_, fun hs => ?_⟩
    · simp only [List.filter_append, List.length_append, h1]
      rw [List.filter_cons, if_pos (by simpa using h0)]
      simp
    · refine ⟨(h2 hs).1, fun u hu => ?_⟩
      rcases List.mem_append.1 hu with hu | hu
      · exact (h2 hs).2 u hu
      · rw [List.mem_singleton.1 hu]; exact h0
    · obtain ⟨k1, k2, k3⟩ := h3 hs
      refine ⟨⟨List.mem_append_left _ k1.1, k1.2⟩, ⟨List.mem_append_left _ k2.1, k2.2⟩, fun u hu hn => ?_⟩
      rcases List.mem_append.1 hu with hu | hu
      · exact k3 u hu hn
      · rw [List.mem_singleton.1 hu] at hn; exact absurd h0 hn
  rw [if_neg h0]
  have hnull : n = (((l ++ [v]).filter fun v => decide (v.1 = 0)).length : Int) := by
    simp only [List.filter_append, List.length_append, h1]
    rw [List.filter_cons, if_neg (by simpa using h0)]
    simp
  have hv : v ∈ l ++ [v] := List.mem_append_right _ (List.mem_singleton.2 rfl)
  by_cases hs : s = false
  · rw [if_pos hs]
    refine ⟨hnull, fun k => (by cases k), fun _ => ⟨⟨hv, h0⟩, ⟨hv, h0⟩, fun u hu hn => ?_⟩⟩
    rcases List.mem_append.1 hu with hu | hu
    · exact absurd ((h2 hs).2 u hu) hn
    · rw [List.mem_singleton.1 hu]; exact ⟨leV.refl v, leV.refl v⟩
  rw [if_neg hs]
  have hs' : s = true := by cases s <;> simp_all
  obtain ⟨⟨ma, na⟩, ⟨mb, nb⟩, k3⟩ := h3 hs'
  have hab : leV a b := (k3 b mb nb).1
  simp only
  by_cases c1 : cmpV v a < 0
  · rw [if_pos c1]
    have va : leV v a := by unfold leV; omega
    refine ⟨hnull, fun k => (by cases k), fun _ => ⟨⟨hv, h0⟩, ⟨List.mem_append_left _ mb, nb⟩, fun u hu hn => ?_⟩⟩
    rcases List.mem_append.1 hu with hu | hu
    · exact ⟨va.trans (k3 u hu hn).1, (k3 u hu hn).2⟩
    · rw [List.mem_singleton.1 hu]; exact ⟨leV.refl v, va.trans hab⟩
  rw [if_neg c1]
  have av : leV a v := Classical.not_not.1 fun k => c1 ((lt_iff v a).2 k)
  by_cases c2 : 0 < cmpV v b
  · rw [if_pos c2]
    have bv : leV b v := (leV.total b v).resolve_right fun k => by unfold leV at k; omega
    refine ⟨hnull, fun k => (by cases k), fun _ => ⟨⟨List.mem_append_left _ ma, na⟩, ⟨hv, h0⟩, fun u hu hn => ?_⟩⟩
    rcases List.mem_append.1 hu with hu | hu
    · exact ⟨(k3 u hu hn).1, (k3 u hu hn).2.trans bv⟩
    · rw [List.mem_singleton.1 hu]; exact ⟨av, leV.refl v⟩
  rw [if_neg c2]
  have vb : leV v b := by unfold leV; omega
  refine ⟨hnull, fun k => absurd k hs, fun _ => ⟨⟨List.mem_append_left _ ma, na⟩, ⟨List.mem_append_left _ mb, nb⟩, fun u hu hn => ?_⟩⟩
  rcases List.mem_append.1 hu with hu | hu
  · exact k3 u hu hn
  · rw [List.mem_singleton.1 hu]; exact ⟨av, vb⟩
theorem OfZ.fold : ∀ (m l : List Vl) {z : Zn}, OfZ l z → OfZ (l ++ m) (m.foldl addZ z)
  | [], l, _, h => by simpa using h
  | v :: m, l, _, h => by
    have := OfZ.fold m (l ++ [v]) (h.add v)
    simpa using this
theorem zoV_of (l : List Vl) : OfZ l (zoV l) := by have := OfZ.fold l [] OfZ.start; rwa [List.nil_append] at this
theorem OfZ.any {l : List Vl} {z : Zn} (h : OfZ l z) : z.2.1 = true ↔ ∃ v ∈ l, v.1 ≠ 0 := by
  constructor
  · intro hs; exact ⟨_, (h.some_ hs).1.1, (h.some_ hs).1.2⟩
  · rintro ⟨v, hv, hn⟩
    cases hs : z.2.1 with
    | true => rfl
    | false => exact absurd ((h.none_ hs).2 v hv) hn
theorem filter_lt {l : List Vl} : ((l.filter fun v => decide (v.1 = 0)).length < l.length) ↔ ∃ v ∈ l, v.1 ≠ 0 := by
  induction l with
  | nil => simp
  | cons v l ih =>
    rw [List.filter_cons]
    have hle := List.length_filter_le (fun v : Vl => decide (v.1 = 0)) l
    by_cases h : v.1 = 0
    · rw [if_pos (by simpa using h)]
      simp only [List.length_cons, List.mem_cons]
      rw [Nat.add_lt_add_iff_right, ih]
      constructor
      · rintro ⟨u, hu, hn⟩; exact ⟨u, .inr hu, hn⟩
      · rintro ⟨u, hu | hu, hn⟩
        · subst hu; exact absurd h hn
        · exact ⟨u, hu, hn⟩
    · rw [if_neg (by simpa using h)]
      simp only [List.length_cons, List.mem_cons]
      exact ⟨fun _ => ⟨v, .inl rfl, h⟩, fun _ => by omega⟩
theorem OfZ.less {l : List Vl} {z : Zn} (h : OfZ l z) : z.1 < (l.length : Int) ↔ z.2.1 = true := by
  rw [h.any, ← filter_lt, h.nulls]
  omega
theorem OfZ.range {l : List Vl} {z : Zn} (h : OfZ l z) : 0 ≤ z.1 ∧ z.1 ≤ (l.length : Int) := by
  have := List.length_filter_le (fun v : Vl => decide (v.1 = 0)) l
  rw [h.nulls]
  omega
/-- The zone of the first values lies in that of all. -/
theorem OfZ.sub {l m : List Vl} {y z : Zn} (hy : OfZ l y) (hz : OfZ (l ++ m) z) : ZSub l.length y (l ++ m).length z := by
  refine ⟨?_, fun hs => ?_, fun hl => ?_⟩
  · rw [hy.nulls, hz.nulls, List.filter_append, List.length_append]; omega
  · obtain ⟨⟨a1, a2⟩, ⟨b1, b2⟩, k⟩ := hy.some_ hs
    have hzs : z.2.1 = true := hz.any.2 ⟨_, List.mem_append_left _ a1, a2⟩
    obtain ⟨_, _, k'⟩ := hz.some_ hzs
    exact ⟨hzs, (k' _ (List.mem_append_left _ a1) a2).1, (k' _ (List.mem_append_left _ b1) b2).2, (k _ b1 b2).1⟩
  · have hs := hy.less.1 hl
    obtain ⟨⟨a1, a2⟩, _⟩ := hy.some_ hs
    exact hz.less.2 (hz.any.2 ⟨_, List.mem_append_left _ a1, a2⟩)
/-- May the value stand in a column of that kind? -/
def fitZ (kind : Int) (v : Vl) : Prop := v.1 = 0 ∨ (v.1 = kind ∧ rgt kind v = true ∧ v.2.2.length ≤ 65536)
theorem OfZ.sound {l : List Vl} {z : Zn} (h : OfZ l z) {kind : Int} (hk : kind = 1 ∨ kind = 2) (hf : ∀ v ∈ l, fitZ kind v) : sndZ z l.length kind = true := by
  have hr := h.range
  have hl := h.less
  unfold sndZ
  have hd : z.2.1 = decide (z.1 < (l.length : Int)) := by
    cases hs : z.2.1 with
    | true => exact (decide_eq_true (hl.2 hs)).symm
    | false => exact (decide_eq_false fun k => by rw [hl.1 k] at hs; cases hs).symm
  rw [if_neg (by rintro (k | k | k); · omega
                 · omega
                 · exact k hd)]
  by_cases hs : z.2.1 = false
  · rw [if_pos hs]
    have := (h.none_ hs).1
    rw [this]
    simp
  · rw [if_neg hs]
    have hs' : z.2.1 = true := by simpa using hs
    obtain ⟨⟨a1, a2⟩, ⟨b1, b2⟩, k⟩ := h.some_ hs'
    have fa := (hf _ a1).resolve_left a2
    have fb := (hf _ b1).resolve_left b2
    exact decide_eq_true ⟨hk, fa.1, fb.1, fa.2.1, fb.2.1, fa.2.2, fb.2.2, (k _ b1 b2).1⟩
/-- The least value may stand in the column. -/
theorem OfZ.least {l : List Vl} {z : Zn} (h : OfZ l z) {kind : Int} (hf : ∀ v ∈ l, fitZ kind v) (hs : z.2.1 = true) : z.2.2.1.1 = kind ∧ rgt kind z.2.2.1 = true ∧ z.2.2.1.2.2.length ≤ 65536 := by
  obtain ⟨⟨a1, a2⟩, _, _⟩ := h.some_ hs
  exact (hf _ a1).resolve_left a2
end Go.Proofs.YtmjpjllbfgkfbaaDoor

/- Zones of rows' columns on plain data: of rows that are right; of fewer of them. No program; no condition. -/
namespace Go.Proofs.YtmjpjllbfgkfbaaDoor
open Go.RowKit
set_option linter.unusedVariables false
set_option linter.unusedSimpArgs false
set_option maxRecDepth 100000

/-- A column of rows. -/
def colV (rows : List (List Vl)) (c : Nat) : List Vl := rows.map fun r => r.getD c (0, 0, [])
theorem colV_length (rows : List (List Vl)) (c : Nat) : (colV rows c).length = rows.length := by simp [colV]
theorem colV_take (rows : List (List Vl)) (c k : Nat) : (colV rows c).take k = colV (rows.take k) c := by simp [colV, List.map_take]
/-- The zones of so many columns. -/
def zonesV (rows : List (List Vl)) (m : Nat) : List Zn := (List.range m).map fun c => zoV (colV rows c)
theorem zonesV_length (rows : List (List Vl)) (m : Nat) : (zonesV rows m).length = m := by simp [zonesV]
theorem zonesV_succ (rows : List (List Vl)) (m : Nat) : zonesV rows (m + 1) = zonesV rows m ++ [zoV (colV rows m)] := by simp [zonesV, List.range_succ]
theorem zonesV_getD {rows : List (List Vl)} {m c : Nat} (h : c < m) : (zonesV rows m).getD c zNone = zoV (colV rows c) := by
  rw [List.getD_eq_getElem?_getD, zonesV, List.getElem?_map, List.getElem?_range h]
  rfl
theorem fit_of_col {c : Cl} {v : Vl} (h : colE c v = 0) : fitZ c.1 v := by
  unfold colE at h
  split at h
  · cases h
  rename_i h1
  split at h
  · cases h
  rename_i h2
  have h3 : rgt c.1 v = true := by
    cases hr : rgt c.1 v with
    | true => rfl
    | false => exact absurd (.inl hr) h1
  by_cases h0 : v.1 = 0
  · exact .inl h0
  · refine .inr ⟨?_, h3, by omega⟩
    unfold rgt at h3
    rw [if_neg h0] at h3
    exact (of_decide_eq_true h3).1
theorem colsE_each : ∀ {s : List Cl} {r : List Vl}, colsE s r = 0 → ∀ {k : Nat} {c : Cl} {v : Vl}, s[k]? = some c → r[k]? = some v → colE c v = 0
  | [], _, _, _, _, _, h, _ => by simp at h
  | _ :: _, [], _, _, _, _, _, h => by simp at h
  | c :: s, v :: r, h, k, c', v', hc, hv => by
    unfold colsE at h
    split at h
    · rename_i hn; exact absurd h hn
    rename_i hn
    have h0 : colE c v = 0 := Classical.not_not.1 hn
    cases k with
    | zero =>
      simp only [List.getElem?_cons_zero, Option.some.injEq] at hc hv
      rw [← hc, ← hv]; exact h0
    | succ k =>
      simp only [List.getElem?_cons_succ] at hc hv
      exact colsE_each h hc hv
/-- A row that is right has a value in each column that may stand in it. -/
theorem fit_of_row {s : List Cl} {r : List Vl} (h : rwE s r = 0) {k : Nat} {c : Cl} (hc : s[k]? = some c) : ∃ v, r[k]? = some v ∧ fitZ c.1 v := by
  unfold rwE at h
  split at h
  · cases h
  rename_i hl
  have hk := (List.getElem?_eq_some_iff.1 hc).1
  have hl' : r.length = s.length := Classical.not_not.1 hl
  refine ⟨r[k], List.getElem?_eq_getElem (by omega), fit_of_col (colsE_each h hc (List.getElem?_eq_getElem (by omega)))⟩
theorem fit_col {s : List Cl} {rows : List (List Vl)} (h : ∀ r ∈ rows, rwE s r = 0) {k : Nat} {c : Cl} (hc : s[k]? = some c) : ∀ v ∈ colV rows k, fitZ c.1 v := by
  intro v hv
  obtain ⟨r, hr, rfl⟩ := List.mem_map.1 hv
  obtain ⟨u, hu, hf⟩ := fit_of_row (h r hr) hc
  rw [List.getD_eq_getElem?_getD, hu]
  exact hf
/-- A schema that is right has columns of kinds 1 and 2. -/
theorem kind_of_schema {s : List Cl} (h : scE s = 0) {c : Cl} (hc : c ∈ s) : c.1 = 1 ∨ c.1 = 2 := by
  unfold scE at h
  split at h
  · cases h
  split at h
  · cases h
  rename_i h1
  refine Classical.byContradiction fun hn => h1 ⟨c, hc, ?_⟩
  omega
/-- The zones of the first rows lie in those of all. -/
theorem zs_sub {rows : List (List Vl)} {k : Nat} (m : Nat) (h1 : 1 ≤ k) (h2 : k ≤ rows.length) : ZsSub k (zonesV (rows.take k) m) rows.length (zonesV rows m) := by
  refine ⟨by rw [zonesV_length, zonesV_length], by omega, by omega, fun c hc => ?_⟩
  rw [zonesV_length] at hc
  rw [zonesV_getD hc, zonesV_getD hc, ← colV_take]
  have hy := zoV_of ((colV rows c).take k)
  have hz := zoV_of (colV rows c)
  have := OfZ.sub (l := (colV rows c).take k) (m := (colV rows c).drop k) hy (by rw [List.take_append_drop]; exact hz)
  rw [List.take_append_drop, List.length_take, colV_length, Nat.min_eq_left h2] at this
  exact this
/-- What refutes rows refutes the first of them. -/
theorem refutes_sub {rows : List (List Vl)} {k : Nat} (m : Nat) (h1 : 1 ≤ k) (h2 : k ≤ rows.length) (p : Pd) (h : (mayP rows.length (zonesV rows m) p).2.2 = false) : (mayP k (zonesV (rows.take k) m) p).2.2 = false := by
  cases hc : (mayP k (zonesV (rows.take k) m) p).2.2 with
  | false => rfl
  | true => rw [(mayP_mono (zs_sub m h1 h2) p).2.2 hc] at h; cases h
theorem refutes_none (zs : List Zn) (p : Pd) : (mayP 0 zs p).2.2 = false := by
  cases p with
  | mk op col vals parts => rw [mayP, if_pos (by omega)]
end Go.Proofs.YtmjpjllbfgkfbaaDoor

/- Contract of the document's: may a value stand in a column. Nothing that was there changes. -/
namespace Go.Proofs.YtmjpjllbfgkfbaaDoor
open Go.RowKit
set_option linter.unusedVariables false
set_option linter.unusedSimpArgs false
set_option maxRecDepth 100000

/-- A value handed over. -/
def vA (v : Int × Int × Tx) : Value := .agg (vc v).toArray
theorem refRight_any (v : Int × Int × Tx) (kd : Int) (w : World) : Calls Tryd.prog 12 #[vA v, .int .i64 kd] w fun e w' => e = .returned (.bool (rgt kd v)) ∧ Below w.heap.size w w' := by
  obtain ⟨r, hr⟩ : ∃ r, rgt kd v = r := ⟨_, rfl⟩
  obtain ⟨v0, v1, z⟩ := v
  rw [hr]
  unfold rgt at hr
  have hv : vA (v0, v1, z) = .agg #[.int .i64 v0, .int .i64 v1, .string ⟨z.toArray⟩] := rfl
  rw [hv]
  clear hv
  go_enter Tryd.func12, Tryd.ntmps12
  have hB : Below w.heap.size w (w.alloc (.cells #[.int .i64 v0, .int .i64 v1, .string ⟨z.toArray⟩] 37)) := (Below.refl _ _).alloc (Nat.le_refl _) _
  have qz : z = [] ∧ z.isEmpty = true ∨ z ≠ [] ∧ z.isEmpty = false := by cases z <;> simp
  by_cases h0 : v0 = 0
  · subst h0
    by_cases h1 : v1 = 0
    · subst h1
      rcases qz with ⟨hz, q⟩ | ⟨hz, q⟩
      · obtain rfl : r = true := by rw [← hr]; simp [hz]
        clear hr hz
        go_wp2_with fail
        go_ret
        exact ⟨rfl, hB⟩
      · obtain rfl : r = false := by rw [← hr]; simp [hz]
        clear hr hz
        go_wp2_with fail
        go_ret
        exact ⟨rfl, hB⟩
    · obtain rfl : r = false := by rw [← hr]; simp [h1]
      clear hr qz
      go_wp2_with fail
      go_ret
      exact ⟨rfl, hB⟩
  · by_cases hk : v0 = kd
    · subst hk
      by_cases h1 : v0 = 1
      · subst h1
        rcases qz with ⟨hz, q⟩ | ⟨hz, q⟩
        · obtain rfl : r = true := by rw [← hr]; simp [hz]
          clear hr hz
          go_wp2_with fail
          go_ret
          exact ⟨rfl, hB⟩
        · obtain rfl : r = false := by rw [← hr]; simp [hz]
          clear hr hz
          go_wp2_with fail
          go_ret
          exact ⟨rfl, hB⟩
      · by_cases h2 : v0 = 2
        · subst h2
          by_cases h3 : v1 = 0
          · subst h3
            obtain rfl : r = true := by rw [← hr]; simp
            clear hr qz
            go_wp2_with fail
            go_ret
            exact ⟨rfl, hB⟩
          · have q : (v1 == 0) = false := by simp [h3]
            obtain rfl : r = false := by rw [← hr]; simp [h3]
            clear hr qz
            go_wp2_with fail
            go_ret
            exact ⟨rfl, hB⟩
        · obtain rfl : r = false := by rw [← hr]; simp [h0, h1, h2]
          clear hr qz
          go_wp2_with fail
          go_ret
          exact ⟨rfl, hB⟩
    · obtain rfl : r = false := by rw [← hr]; simp [h0, hk]
      clear hr qz
      go_wp2_with fail
      go_ret
      exact ⟨rfl, hB⟩
end Go.Proofs.YtmjpjllbfgkfbaaDoor

/- Contract of the document's side of a chunk: is a way one of a kind. Nothing that was there changes. -/
namespace Go.Proofs.YtmjpjllbfgkfbaaDoor
open Go.RowKit
set_option linter.unusedVariables false
set_option linter.unusedSimpArgs false
set_option maxRecDepth 100000

theorem refOf_any (way kd : Int) (w : World) : Calls Tryd.prog 15 #[.int .i64 way, .int .i64 kd] w fun e w' => e = .returned (.bool (ofW way kd)) ∧ w = w' := by
  obtain ⟨r, hr⟩ : ∃ r, ofW way kd = r := ⟨_, rfl⟩
  rw [hr]
  unfold ofW at hr
  go_enter Tryd.func15, Tryd.ntmps15
  by_cases h1 : kd = 1
  · subst h1
    by_cases h2 : 0 ≤ way
    · by_cases h3 : way ≤ 4
      · obtain rfl : r = true := by rw [← hr]; simp; omega
        clear hr
        go_wp2_with fail
        go_ret
        exact ⟨rfl, rfl⟩
      · obtain rfl : r = false := by rw [← hr]; simp; omega
        clear hr
        go_wp2_with fail
        go_ret
        exact ⟨rfl, rfl⟩
    · obtain rfl : r = false := by rw [← hr]; simp; omega
      clear hr
      go_wp2_with fail
      go_ret
      exact ⟨rfl, rfl⟩
  · by_cases h2 : kd = 2
    · subst h2
      by_cases h3 : way = 5
      · subst h3
        obtain rfl : r = true := by rw [← hr]; simp
        clear hr
        go_wp2_with fail
        go_ret
        exact ⟨rfl, rfl⟩
      · have q : (way == 5) = false := by simp [h3]
        obtain rfl : r = false := by rw [← hr]; simp; omega
        clear hr
        go_wp2_with fail
        go_ret
        exact ⟨rfl, rfl⟩
    · obtain rfl : r = false := by rw [← hr]; simp; omega
      clear hr
      go_wp2_with fail
      go_ret
      exact ⟨rfl, rfl⟩
end Go.Proofs.YtmjpjllbfgkfbaaDoor

/- Contracts of the document's Schema and Row: what is wrong with a schema, with a row. Nothing that was there changes. -/
namespace Go.Proofs.YtmjpjllbfgkfbaaDoor
open Go.RowKit
set_option linter.unusedVariables false
set_option linter.unusedSimpArgs false
set_option maxRecDepth 100000

theorem scE_cases (s : List Cl) : (s.length = 0 ∨ 64 < s.length → scE s = 12) ∧ (¬ (s.length = 0 ∨ 64 < s.length) → ((∃ c ∈ s, c.1 ≠ 1 ∧ c.1 ≠ 2) → scE s = 11) ∧ ((∀ c ∈ s, c.1 = 1 ∨ c.1 = 2) → ((∃ c ∈ s, c.2.2 ≠ -1 ∧ ofW c.2.2 c.1 = false) → scE s = 1) ∧ ((∀ c ∈ s, c.2.2 = -1 ∨ ofW c.2.2 c.1 = true) → scE s = 0))) := by
  refine ⟨fun h => by unfold scE; rw [if_pos h], fun h => ⟨fun h1 => by unfold scE; rw [if_neg h, if_pos h1], fun h1 => ?_⟩⟩
  have h1' : ¬ ∃ c ∈ s, c.1 ≠ 1 ∧ c.1 ≠ 2 := by
    rintro ⟨c, hc, e1, e2⟩
    rcases h1 c hc with e | e
    · exact e1 e
    · exact e2 e
  refine ⟨fun h2 => by unfold scE; rw [if_neg h, if_neg h1', if_pos h2], fun h2 => ?_⟩
  unfold scE
  rw [if_neg h, if_neg h1', if_neg]
  rintro ⟨c, hc, e1, e2⟩
  rcases h2 c hc with e | e
  · exact e1 e
  · rw [e] at e2; cases e2
set_option maxHeartbeats 1000000 in
theorem refSchema_any (A : Option Addr) (n c : Nat) (s : List Cl) (w : World) (hr : Reads w w.heap.size 3 A n (cls s)) (hn : n ≤ 140737488355328) :
    Calls Tryd.prog 5 #[.slice A n c] w fun e w' => e = .returned (.int .i64 (scE s)) ∧ Drawn w w' := by
  have e1 : s.length = n := by have := hr.1; rw [cls_length] at this; omega
  obtain ⟨q1, q2⟩ := scE_cases s
  obtain ⟨r, hr0⟩ : ∃ r, scE s = r := ⟨_, rfl⟩
  rw [hr0] at q1 q2 ⊢
  rw [e1] at q1 q2
  by_cases hb : n = 0 ∨ 64 < n
  · have hx := q1 hb
    subst hx
    rcases hb with rfl | hb
    · clear q1 q2 hr0 e1
      go_enter Tryd.func5, Tryd.ntmps5
      go_wp2_with fail
      go_ret
      exact ⟨rfl, Drawn.refl w⟩
    · have n0 : ¬ n = 0 := by omega
      have q : ((n : Int) == 0) = false := by simp; omega
      clear q1 q2 hr0 e1
      go_enter Tryd.func5, Tryd.ntmps5
      go_wp2_with fail
      go_ret
      exact ⟨rfl, Drawn.refl w⟩
  · obtain ⟨q3, q4⟩ := q2 hb
    have q : ((n : Int) == 0) = false := by simp; omega
    have d : decide ((64 : Int) < (n : Int)) = false := by simp; omega
    have hn64 : n ≤ 64 := by omega
    have HE : Hid (s.length = n) := Lib.hid e1
    have Q3 := Lib.hid q3
    have Q4 := Lib.hid q4
    clear e1 hr0 q1 q2 q3 q4 hb
    go_enter Tryd.func5, Tryd.ntmps5
    go_wp2_with fail
    go_loop [3] (fun i => ∃ k : Nat, k ≤ n ∧ i = .int .i64 (k : Int) ∧ Hid (∀ c ∈ s.take k, c.1 = 1 ∨ c.1 = 2)) (fun i => n - (intOf i).toNat)
    case atStart => exact ⟨0, Nat.zero_le _, rfl, Lib.hid (by simp)⟩
    case round =>
      obtain ⟨k, hk, rfl, HA⟩ := hrel
      by_cases hlt : k < n
      · obtain ⟨⟨kd, nu, wy⟩, hz⟩ : ∃ v, s[k]? = some v := ⟨_, List.getElem?_eq_getElem (by rw [HE.out]; omega)⟩
        obtain ⟨b, o, rfl, hb, x0, x1, x2⟩ := hr.col hz
        by_cases hkd : kd = 1 ∨ kd = 2
        · have HA2 : Hid (∀ c ∈ s.take (k + 1), c.1 = 1 ∨ c.1 = 2) := Lib.hid (by
            rw [take_snoc hz]
            intro c hc
            rcases List.mem_append.1 hc with hc | hc
            · exact HA.out c hc
            · rw [List.mem_singleton] at hc; subst hc; exact hkd)
          clear hz
          rcases hkd with rfl | rfl
          · go_wp2_with fail
            go_round
            case rel => exact ⟨k + 1, by omega, by go_num, HA2⟩
            case measure => simp [intOf]; omega
          · go_wp2_with fail
            go_round
            case rel => exact ⟨k + 1, by omega, by go_num, HA2⟩
            case measure => simp [intOf]; omega
        · have HR : Hid (r = 11) := Lib.hid (Q3.out ⟨_, List.mem_of_getElem? hz, by omega, by omega⟩)
          have q1 : (kd != 1) = true := by simp; omega
          have q2 : (kd != 2) = true := by simp; omega
          clear hz hkd
          go_wp2_with fail
          go_ret
          exact ⟨by rw [HR.out]; rfl, by first | exact Drawn.refl w | exact Drawn.one w _ | exact (Drawn.one w _).more _⟩
      · obtain rfl : k = n := by omega
        have HQ := Lib.hid (Q4.out (by have := HA.out; rwa [List.take_of_length_le (by rw [HE.out]; exact Nat.le_refl _)] at this))
        go_wp2_with fail
        clear hk hlt HA
        go_loopw [4] (fun i wr => ∃ j : Nat, j ≤ k ∧ i = .int .i64 (j : Int) ∧ Hid (∀ c ∈ s.take j, c.2.2 = -1 ∨ ofW c.2.2 c.1 = true) ∧ ∃ q, wr = w.drewN q) (fun i _ => k - (intOf i).toNat)
        case atStart => exact ⟨0, Nat.zero_le _, rfl, Lib.hid (by simp), 0, rfl⟩
        case round =>
          obtain ⟨j, hj, rfl, HJ, q0, rfl⟩ := hrel
          by_cases hlt : j < k
          · obtain ⟨⟨kd, nu, wy⟩, hz⟩ : ∃ v, s[j]? = some v := ⟨_, List.getElem?_eq_getElem (by rw [HE.out]; omega)⟩
            obtain ⟨b, o, rfl, hb, x0, x1, x2⟩ := hr.col hz
            have step : (wy = -1 ∨ ofW wy kd = true) → Hid (∀ c ∈ s.take (j + 1), c.2.2 = -1 ∨ ofW c.2.2 c.1 = true) := fun hh => Lib.hid (by
              rw [take_snoc hz]
              intro c hc
              rcases List.mem_append.1 hc with hc | hc
              · exact HJ.out c hc
              · rw [List.mem_singleton] at hc; subst hc; exact hh)
            have stop : wy ≠ -1 → ofW wy kd = false → r = 1 := fun h1 h2 => HQ.out.1 ⟨_, List.mem_of_getElem? hz, h1, h2⟩
            have HC := Lib.hid fun W => refOf_any wy kd W
            obtain ⟨g, hg⟩ : ∃ g, ofW wy kd = g := ⟨_, rfl⟩
            rw [hg] at HC step stop
            clear hz hg
            by_cases hw : wy = -1
            · have HS := step (.inl hw)
              subst hw
              clear step stop
              go_wp2_with fail
              go_quiet (fail)
              go_wp2_with fail
              exact ⟨⟨j + 1, by omega, by go_num, HS, _, rfl⟩, by simp [intOf]; omega⟩
            · have q1 : (wy != -1) = true := by simp [hw]
              cases g with
              | true =>
                have HS := step (.inr rfl)
                clear step stop
                go_wp2_with fail
                go_quiet ((go_at_call 15; first | exact quiet_same (HC.out _) | exact quiet_same0 (HC.out _)))
                go_wp2_with fail
                exact ⟨⟨j + 1, by omega, by go_num, HS, _, rfl⟩, by simp [intOf]; omega⟩
              | false =>
                have HR := Lib.hid (stop hw rfl)
                clear step stop
                go_wp2_with fail
                go_quiet ((go_at_call 15; first | exact quiet_same (HC.out _) | exact quiet_same0 (HC.out _)))
                go_wp2_with fail
                go_ret
                exact ⟨by rw [HR.out]; rfl, by first | exact Drawn.refl w | exact Drawn.one w _ | exact (Drawn.one w _).more _⟩
          · obtain rfl : j = k := by omega
            have HR := Lib.hid (HQ.out.2 (by have := HJ.out; rwa [List.take_of_length_le (by rw [HE.out]; exact Nat.le_refl _)] at this))
            go_wp2_with fail
            go_ret
            exact ⟨by rw [HR.out]; rfl, by first | exact Drawn.refl w | exact Drawn.one w _ | exact (Drawn.one w _).more _⟩
end Go.Proofs.YtmjpjllbfgkfbaaDoor

/- Two rows of the call's own, of elements of any size, each of which grows while the other stands. No program. -/
namespace Go.Proofs.YtmjpjllbfgkfbaaDoor
open Go.RowKit
set_option linter.unusedVariables false
set_option linter.unusedSimpArgs false

/-- Two rows from block 'B' on, in blocks of their own. -/
def TwoS (w : World) (B : Nat) (t : TypeId) (s : Nat) (va vb : Value) (n m : Nat) (xs ys : List Value) : Prop :=
  w.ownsRow B t s va n xs ∧ w.ownsRow B t s vb m ys ∧ (vb.ownBlock = none ∨ vb.ownBlock ≠ va.ownBlock)
theorem TwoS.nil (w : World) (B : Nat) (t : TypeId) (s : Nat) : TwoS w B t s (.slice none 0 0) (.slice none 0 0) 0 0 [] [] := ⟨own_nil _ _ _ _, own_nil _ _ _ _, .inl rfl⟩
theorem TwoS.swap {w : World} {B : Nat} {t : TypeId} {s : Nat} {va vb : Value} {n m : Nat} {xs ys : List Value} (h : TwoS w B t s va vb n m xs ys) : TwoS w B t s vb va m n ys xs := by
  obtain ⟨h1, h2, h3⟩ := h
  refine ⟨h2, h1, ?_⟩
  cases ha : va.ownBlock with
  | none => exact .inl rfl
  | some q =>
    refine .inr fun e => ?_
    rcases h3 with h3 | h3
    · rw [h3] at e; cases e
    · exact h3 (by rw [ha]; exact e.symm)
/-- The first one has grown. -/
theorem TwoS.grown {w w' : World} {B : Nat} {t : TypeId} {s : Nat} {va vb va' : Value} {n m n' : Nat} {xs ys xs' : List Value} {o : Obj} (h : TwoS w B t s va vb n m xs ys)
    (hown : w'.ownsRow B t s va' n' xs') (hg : (w.alloc o).grownBy w' va.ownBlock) (hat : va'.ownBlock = va.ownBlock ∨ va'.ownBlock = some (w.alloc o).heap.size) : TwoS w' B t s va' vb n' m xs' ys := by
  obtain ⟨h1, h2, h3⟩ := h
  refine ⟨hown, (h2.alloc o).kept hg h3, ?_⟩
  rcases hat with hat | hat
  · rw [hat]; exact h3
  · cases hb : vb.ownBlock with
    | none => exact .inl rfl
    | some q =>
      refine .inr fun e => ?_
      rw [hat] at e
      injection e with e
      have := (h2.lt q hb).2
      simp at e
      omega
/-- Others' memory is made. -/
theorem TwoS.below {w w' : World} {B : Nat} {t : TypeId} {s : Nat} {va vb : Value} {n m : Nat} {xs ys : List Value} (h : TwoS w B t s va vb n m xs ys) (hb : Below w.heap.size w w') : TwoS w' B t s va vb n m xs ys :=
  ⟨own_below h.1 hb, own_below h.2.1 hb, h.2.2⟩
end Go.Proofs.YtmjpjllbfgkfbaaDoor

/- A predicate that is small has so many values and parts as are looked at. No program; no condition. -/
namespace Go.Proofs.YtmjpjllbfgkfbaaDoor
set_option linter.unusedVariables false
set_option linter.unusedSimpArgs false

section
variable {α : Type} (M : Int) (g : α → Int)
theorem fold_stuck : ∀ (l : List α) (n : Int), ¬ n ≤ M → l.foldl (fun n q => if n ≤ M then n + g q else n) n = n
  | [], n, _ => rfl
  | q :: l, n, h => by rw [List.foldl_cons, if_neg h]; exact fold_stuck l n h
theorem fold_up : ∀ (l : List α) (n : Int), (∀ q ∈ l, 0 ≤ g q) → n ≤ l.foldl (fun n q => if n ≤ M then n + g q else n) n
  | [], n, _ => Int.le_refl _
  | q :: l, n, h => by
    rw [List.foldl_cons]
    by_cases hn : n ≤ M
    · rw [if_pos hn]
      have h1 := fold_up l (n + g q) (fun r hr => h r (List.mem_cons_of_mem _ hr))
      have h2 := h q List.mem_cons_self
      omega
    · rw [if_neg hn]
      exact fold_up l n (fun r hr => h r (List.mem_cons_of_mem _ hr))
theorem fold_le : ∀ (l : List α) (n : Int), (∀ q ∈ l, 1 ≤ g q) → l.foldl (fun n q => if n ≤ M then n + g q else n) n ≤ M → n + (l.length : Int) ≤ l.foldl (fun n q => if n ≤ M then n + g q else n) n ∧ ∀ q ∈ l, n + g q ≤ l.foldl (fun n q => if n ≤ M then n + g q else n) n
  | [], n, _, _ => ⟨by simp, by simp⟩
  | q :: l, n, h, hM => by
    rw [List.foldl_cons] at hM ⊢
    by_cases hn : n ≤ M
    · rw [if_pos hn] at hM ⊢
      have h2 := h q List.mem_cons_self
      have h0 : ∀ r ∈ l, 1 ≤ g r := fun r hr => h r (List.mem_cons_of_mem _ hr)
      obtain ⟨i1, i2⟩ := fold_le l (n + g q) h0 hM
      have h3 := fold_up M g l (n + g q) (fun r hr => by have := h0 r hr; omega)
      refine ⟨by rw [List.length_cons]; omega, fun r hr => ?_⟩
      rcases List.mem_cons.1 hr with rfl | hr
      · exact h3
      · have := i2 r hr; omega
    · rw [if_neg hn, fold_stuck M g l n hn] at hM
      exact absurd hM hn
end
theorem szP_fold (M : Int) (d : Nat) (p : Pd) : szP M (d + 1) p = p.parts.foldl (fun n q => if n ≤ M then n + szP M d q else n) (p.vals.foldl (fun n v => if n ≤ M then n + (1 + (v.2.2.length : Int)) else n) 1) := by
  rw [szP]
  simp only [Int.add_assoc]
theorem szP_pos {M : Int} (hM : 0 ≤ M) : ∀ (d : Nat) (p : Pd), 1 ≤ szP M d p
  | 0, p => by rw [szP]; omega
  | d + 1, p => by
    rw [szP_fold]
    have h1 := fold_up M (fun v : Vl => 1 + (v.2.2.length : Int)) p.vals 1 (fun v _ => by omega)
    have h2 := fold_up M (szP M d) p.parts (p.vals.foldl (fun n v => if n ≤ M then n + (1 + (v.2.2.length : Int)) else n) 1) (fun q _ => by have := szP_pos hM d q; omega)
    exact Int.le_trans h1 h2
theorem small_szP {M : Int} (hM : 0 ≤ M) (hM2 : M ≤ 65536) : ∀ (d : Nat) (p : Pd), szP M d p ≤ M → ∀ k, Small k p
  | _, p, _, 0 => trivial
  | 0, p, h, k + 1 => by rw [szP] at h; omega
  | d + 1, p, h, k + 1 => by
    rw [szP_fold] at h
    have hp : ∀ q ∈ p.parts, 1 ≤ szP M d q := fun q _ => szP_pos hM d q
    obtain ⟨i1, i2⟩ := fold_le M (szP M d) p.parts _ hp h
    have h3 := fold_up M (szP M d) p.parts (p.vals.foldl (fun n v => if n ≤ M then n + (1 + (v.2.2.length : Int)) else n) 1) (fun q hq => by have := hp q hq; omega)
    have h1 := fold_up M (fun v : Vl => 1 + (v.2.2.length : Int)) p.vals 1 (fun v _ => by omega)
    obtain ⟨j1, _⟩ := fold_le M (fun v : Vl => 1 + (v.2.2.length : Int)) p.vals 1 (fun v _ => by omega) (Int.le_trans h3 h)
    refine ⟨by omega, by omega, fun q hq => small_szP hM hM2 d q ?_ k⟩
    have := i2 q hq
    omega
end Go.Proofs.YtmjpjllbfgkfbaaDoor

/- A predicate that came in by value, opened. No condition. -/
namespace Go.Proofs.YtmjpjllbfgkfbaaDoor
open Go.ChangeShapes Go.WideShapes Go.RowKit
set_option linter.unusedVariables false
set_option linter.unusedSimpArgs false
set_option maxRecDepth 100000

theorem pdArg_of {H : Type} {enc : TypeId × Value → H} {W : World} {r : Reach} {base : Nat} {v : Value} {d : DataW H} {p : List MemPlace} (hv : Value.okWide Tryd.prog W r base 26 v) (h : DataW.Trod enc Tryd.prog W 0 (fun _ => true) true 26 v d p) :
    ∃ (c0 c1 c2 c3 : Value) (f : Nat) (pd : Pd), v = .agg #[c0, c1, c2, c3] ∧ IsP f W (fun _ => False) [c0, c1, c2, c3] pd ∧ (∀ k, WfP k pd) ∧ ∀ M, (∀ n ∈ d.weights Tryd.prog 26, n ≤ M) → ∀ k, LenP M k pd := by
  obtain ⟨cs, rfl, hsz⟩ := okWide_struct Tryd.underlying26 hv
  obtain ⟨fuel, hf⟩ := h
  obtain ⟨f, pd, hI, hw, hl⟩ := pd_of fuel hf
  have h4 := hI.four.1
  obtain ⟨l⟩ := cs
  have hcs : (Value.cells (.agg ⟨l⟩)).toList = l := by simp [Value.cells]
  rw [hcs] at h4 hI
  match l, h4, hI with
  | [c0, c1, c2, c3], _, hI => exact ⟨c0, c1, c2, c3, f, pd, rfl, hI, hw, hl⟩
end Go.Proofs.YtmjpjllbfgkfbaaDoor
