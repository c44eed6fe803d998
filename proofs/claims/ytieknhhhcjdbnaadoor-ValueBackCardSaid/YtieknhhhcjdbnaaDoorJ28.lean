/- Texts joined: VlSeq VMake. -/
import Derived.Test.YtieknhhhcjdbnaaDoorJ18
import Derived.Test.YtieknhhhcjdbnaaDoorJ21
/- Values and rows that are taken one after another: which stands at a place. No condition. -/
namespace Go.Proofs.YtieknhhhcjdbnaaDoor
open Go.RowKit
set_option linter.unusedVariables false
set_option linter.unusedSimpArgs false
set_option maxRecDepth 100000

theorem vsS_take (b : List Nat) (at_ : Nat) (x : Option (Int × Nat)) (k : Nat) : ∀ j, (vsS b at_ x (k + j)).1.take k = (vsS b at_ x k).1
  | 0 => List.take_of_length_le (by rw [vsS_length]; exact Nat.le_refl _)
  | j + 1 => by
    rw [← Nat.add_assoc, vsS]
    simp only
    rw [List.take_append_of_le_length (by rw [vsS_length]; omega)]
    exact vsS_take b at_ x k j
theorem vsS_get (b : List Nat) (at_ : Nat) (x : Option (Int × Nat)) {k n : Nat} (h : k < n) : (vsS b at_ x n).1[k]? = some (tkV b (vsS b at_ x k).2.1 (vsS b at_ x k).2.2).1 := by
  have h1 := vsS_take b at_ x (k + 1) (n - (k + 1))
  rw [show k + 1 + (n - (k + 1)) = n by omega] at h1
  have h2 : ((vsS b at_ x n).1.take (k + 1))[k]? = (vsS b at_ x n).1[k]? := by rw [List.getElem?_take, if_pos (by omega)]
  rw [← h2, h1, vsS]
  simp only
  rw [List.getElem?_append_right (by rw [vsS_length]; exact Nat.le_refl _), vsS_length, Nat.sub_self]
  rfl
theorem tkS_len {b : List Nat} (hb : ∀ v ∈ b, v < 256) (at_ : Nat) (x : Option (Int × Nat)) : (tkS b at_ x).1.length ≤ 255 := by
  have h1 := fix_small b at_ x hb
  unfold tkS
  simp only
  split
  · rw [csS_length]; omega
  · exact Nat.zero_le _
theorem rsS_wide (b : List Nat) (s : List Cl) (at_ : Nat) (x : Option (Int × Nat)) : ∀ k, ∀ r ∈ (rsS b s at_ x k).1, r.length = s.length
  | 0, r, h => by cases h
  | k + 1, r, h => by
    rw [rsS] at h
    simp only at h
    rcases List.mem_append.1 h with h | h
    · exact rsS_wide b s at_ x k r h
    · rw [List.mem_singleton] at h; subst h; exact vsS_length _ _ _ _
theorem tkR_wide (b : List Nat) (s : List Cl) (at_ : Nat) (x : Option (Int × Nat)) : (∀ r ∈ (tkR b s at_ x).1, r.length = s.length) ∧ (tkR b s at_ x).1.length ≤ 65536 := by
  obtain ⟨u, hu⟩ : ∃ u, varS b at_ x = u := ⟨_, rfl⟩
  have hT : tkR b s at_ x = if (if 65536 < u.1 then failS u.2.1 u.2.2 12 else u.2.2) = none then
      (if (rsS b s u.2.1 (if 65536 < u.1 then failS u.2.1 u.2.2 12 else u.2.2) u.1).2.2 = none then (rsS b s u.2.1 (if 65536 < u.1 then failS u.2.1 u.2.2 12 else u.2.2) u.1).1 else [], (rsS b s u.2.1 (if 65536 < u.1 then failS u.2.1 u.2.2 12 else u.2.2) u.1).2.1, (rsS b s u.2.1 (if 65536 < u.1 then failS u.2.1 u.2.2 12 else u.2.2) u.1).2.2)
    else ([], u.2.1, (if 65536 < u.1 then failS u.2.1 u.2.2 12 else u.2.2)) := by subst hu; rfl
  obtain ⟨e, he⟩ : ∃ e, (if 65536 < u.1 then failS u.2.1 u.2.2 12 else u.2.2) = e := ⟨_, rfl⟩
  rw [he] at hT
  by_cases hn : e = none
  · rw [if_pos hn] at hT
    rw [hT]
    simp only
    by_cases hp : (rsS b s u.2.1 e u.1).2.2 = none
    · rw [if_pos hp]
      refine ⟨rsS_wide _ _ _ _ _, ?_⟩
      rw [rsS_length]
      by_cases hb : 65536 < u.1
      · rw [if_pos hb, hn] at he
        cases hx : u.2.2 with
        | some y => rw [hx] at he; cases he
        | none => rw [hx, show failS u.2.1 none 12 = some ((12 : Int), u.2.1) from rfl] at he; cases he
      · omega
    · rw [if_neg hp]; exact ⟨(fun r h => by cases h), Nat.zero_le _⟩
  · rw [hT, if_neg hn]; exact ⟨(fun r h => by cases h), Nat.zero_le _⟩
end Go.Proofs.YtieknhhhcjdbnaaDoor

/- Rows of a column's values: one that is made; one that is filled in order; one that is the call's own. No condition. -/
namespace Go.Proofs.YtieknhhhcjdbnaaDoor
open Go.RowKit
set_option linter.unusedVariables false
set_option linter.unusedSimpArgs false
set_option maxRecDepth 100000

theorem info_val : (Tryd.prog.info? 31).map (fun i => (i.zero, i.size, i.bytes)) = some (some (.agg #[.int .i64 0, .int .i64 0, .string ⟨#[]⟩]), 3, 32) := by kernel_rfl
theorem made_vs (n : Nat) : madeCells #[.int .i64 0, .int .i64 0, .string ⟨#[]⟩] (n * 3) = (vs (List.replicate n (0, 0, []))).toArray := by
  apply Array.ext'
  apply List.ext_getElem?
  intro j
  have hl : (vs (List.replicate n ((0 : Int), (0 : Int), ([] : Tx)))).length = n * 3 := by rw [vs_length, List.length_replicate]
  by_cases hj : j < n * 3
  · have hy : (List.replicate n ((0 : Int), (0 : Int), ([] : Tx)))[j / 3]? = some (0, 0, []) := by rw [List.getElem?_replicate, if_pos (by omega)]
    obtain ⟨h1, h2, h3⟩ := vs_at hy
    have hr : j % 3 = 0 ∧ j = j / 3 * 3 ∨ j % 3 = 1 ∧ j = j / 3 * 3 + 1 ∨ j % 3 = 2 ∧ j = j / 3 * 3 + 2 := by omega
    rcases hr with ⟨e, e'⟩ | ⟨e, e'⟩ | ⟨e, e'⟩
    · rw [← e'] at h1; rw [List.toList_toArray, h1]; simp [madeCells, hj, e]
    · rw [← e'] at h2; rw [List.toList_toArray, h2]; simp [madeCells, hj, e]
    · rw [← e'] at h3; rw [List.toList_toArray, h3]; simp [madeCells, hj, e]
  · rw [List.getElem?_eq_none (by simp [madeCells]; omega), List.getElem?_eq_none (by rw [List.toList_toArray]; omega)]
theorem run_make_vals (n : Nat) (hn : n ≤ 8796093022208) (w : World) :
    (Instr.makeSlice 47 (.int .i64 (n : Int)) (.int .i64 (n : Int))).run Tryd.prog w = .ok (.slice (some ⟨w.heap.size, 0, none⟩) n n) (w.alloc (.cells (vs (List.replicate n (0, 0, []))).toArray 31)) := by
  obtain ⟨i, hi, hz0, hz1, hz2⟩ := info_parts info_val
  have hr := run_make (P := Tryd.prog) w 47 31 i _ Tryd.underlying47 hi hz0 .i64 .i64 n n (by omega) (by omega) (by rw [hz2]; omega) (by omega)
  rw [hz1] at hr
  simp only [Int.toNat_natCast, Value.cells] at hr
  rw [made_vs] at hr
  exact hr
/-- A row of values of which 'k' are filled. -/
def fillV (o : List (Int × Int × Tx)) (k : Nat) : Array Value := (vs (o.take k ++ List.replicate (o.length - k) (0, 0, []))).toArray
theorem fillV_zero (o : List (Int × Int × Tx)) (n : Nat) (h : o.length = n) : fillV o 0 = (vs (List.replicate n (0, 0, []))).toArray := by unfold fillV; simp [h]
theorem fillV_all (o : List (Int × Int × Tx)) (n : Nat) (h : o.length = n) : fillV o n = (vs o).toArray := by
  unfold fillV
  rw [List.take_of_length_le (by omega), h, Nat.sub_self]; simp
theorem vs_set : ∀ (l : List (Int × Int × Tx)) (k : Nat) (v : Int × Int × Tx), (((vs l).set (k * 3) (.int .i64 v.1)).set (k * 3 + 1) (.int .i64 v.2.1)).set (k * 3 + 2) (.string ⟨v.2.2.toArray⟩) = vs (l.set k v)
  | [], k, v => by simp [vs]
  | x :: l, 0, v => by simp [vs_cons, vc]
  | x :: l, k + 1, v => by
    have ih := vs_set l k v
    rw [List.set_cons_succ, vs_cons, vs_cons, ← ih, show (k + 1) * 3 = k * 3 + 3 by omega]
    simp [vc]
theorem fillV_next (o : List (Int × Int × Tx)) (k : Nat) (v : Int × Int × Tx) (h : o[k]? = some v) :
    (((fillV o k).setIfInBounds (k * 3) (.int .i64 v.1)).setIfInBounds (k * 3 + 1) (.int .i64 v.2.1)).setIfInBounds (k * 3 + 2) (.string ⟨v.2.2.toArray⟩) = fillV o (k + 1) := by
  have hk : k < o.length := (List.getElem?_eq_some_iff.1 h).1
  unfold fillV
  rw [List.setIfInBounds_toArray, List.setIfInBounds_toArray, List.setIfInBounds_toArray, vs_set]
  congr 2
  apply List.ext_getElem?
  intro i
  rw [List.getElem?_set]
  by_cases hi : k = i
  · subst hi
    rw [if_pos rfl, if_pos (by simp; omega), List.getElem?_append_left (by simp; omega), List.getElem?_take, if_pos (by omega), h]
  · rw [if_neg hi]
    by_cases h2 : i < k
    · rw [List.getElem?_append_left (by simp; omega), List.getElem?_append_left (by simp; omega), List.getElem?_take, List.getElem?_take, if_pos h2, if_pos (by omega)]
    · rw [List.getElem?_append_right (by simp; omega), List.getElem?_append_right (by simp; omega), List.getElem?_replicate, List.getElem?_replicate]
      simp only [List.length_take]
      by_cases h3 : i < o.length
      · rw [if_pos (by omega), if_pos (by omega)]
      · rw [if_neg (by omega), if_neg (by omega)]
/-- The three cells at a place of such a row are stored. -/
theorem Blk.val {w : World} {h k : Nat} {t : TypeId} {o : List (Int × Int × Tx)} {v : Int × Int × Tx} (hb : Blk w h t (fillV o k)) (hv : o[k]? = some v) :
    Blk (((w.setCell ⟨h, k * 3, none⟩ (.int .i64 v.1)).setCell ⟨h, k * 3 + 1, none⟩ (.int .i64 v.2.1)).setCell ⟨h, k * 3 + 2, none⟩ (.string ⟨v.2.2.toArray⟩)) h t (fillV o (k + 1)) := by
  have := ((hb.set_ (k * 3) (.int .i64 v.1)).set_ (k * 3 + 1) (.int .i64 v.2.1)).set_ (k * 3 + 2) (.string ⟨v.2.2.toArray⟩)
  rwa [fillV_next o k v hv] at this
/-- What stands at a place that isn't filled yet. -/
theorem fillV_old (o : List (Int × Int × Tx)) (k j : Nat) (h : k ≤ j) (hj : j < o.length) : (fillV o k)[j * 3]? = some (.int .i64 0) ∧ (fillV o k)[j * 3 + 1]? = some (.int .i64 0) ∧ (fillV o k)[j * 3 + 2]? = some (.string ⟨#[]⟩) := by
  have hy : (o.take k ++ List.replicate (o.length - k) ((0 : Int), (0 : Int), ([] : Tx)))[j]? = some (0, 0, []) := by
    rw [List.getElem?_append_right (by rw [List.length_take]; omega), List.getElem?_replicate, if_pos (by rw [List.length_take]; omega)]
  obtain ⟨h1, h2, h3⟩ := vs_at hy
  unfold fillV
  rw [List.getElem?_toArray, List.getElem?_toArray, List.getElem?_toArray]
  exact ⟨h1, h2, h3⟩
/-- A place that stays nothing. -/
theorem fillV_skip (o : List (Int × Int × Tx)) (k : Nat) (h : o[k]? = some (0, 0, [])) : fillV o (k + 1) = fillV o k := by
  have hk : k < o.length := (List.getElem?_eq_some_iff.1 h).1
  unfold fillV
  congr 2
  apply List.ext_getElem?
  intro i
  by_cases h2 : i < k
  · rw [List.getElem?_append_left (by simp; omega), List.getElem?_append_left (by simp; omega), List.getElem?_take, List.getElem?_take, if_pos h2, if_pos (by omega)]
  · by_cases hi : i = k
    · subst hi
      rw [List.getElem?_append_left (by simp; omega), List.getElem?_take, if_pos (by omega), h, List.getElem?_append_right (by simp; omega), List.getElem?_replicate, if_pos (by simp; omega)]
    · rw [List.getElem?_append_right (by simp; omega), List.getElem?_append_right (by simp; omega), List.getElem?_replicate, List.getElem?_replicate]
      simp only [List.length_take]
      by_cases h3 : i < o.length
      · rw [if_pos (by omega), if_pos (by omega)]
      · rw [if_neg (by omega), if_neg (by omega)]
theorem own_whole3 {w : World} {B h n : Nat} {t : TypeId} {o : List (Int × Int × Tx)} (hb : Blk w h t (vs o).toArray) (hB : B ≤ h) (hn : o.length = n) (hm : n ≤ maxLen) :
    w.ownsRow B t 3 (.slice (some ⟨h, 0, none⟩) n n) n (vs o) := by
  have hl := vs_length o
  exact ⟨by omega, .inr ⟨h, n, (vs o).toArray, rfl, hB, hb, Nat.le_refl _, hm, by simp; omega, by simp; rw [List.take_of_length_le (by omega)]⟩⟩
end Go.Proofs.YtieknhhhcjdbnaaDoor
