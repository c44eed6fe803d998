/- Texts joined: PlGet RnSnoc RnRead RdFail. -/
import Derived.Test.YthlfplljbbnaoaaGreatDoorJ24
import Derived.Test.YthlfplljbbnaoaaGreatDoorJ13
import Derived.Test.YthlfplljbbnaoaaGreatDoorJ14
import Derived.Test.YthlfplljbbnaoaaGreatDoorJ6
import Derived.Test.YthlfplljbbnaoaaGreatDoorJ2
/- Contract of package plain's Get: the numbers in new memory, or the error's number. -/
namespace Go.Proofs.YthlfplljbbnaoaaGreatDoor
open Go.RowKit
set_option linter.unusedVariables false
set_option linter.unusedSimpArgs false
set_option maxRecDepth 100000

theorem getE_bad {b : List Nat} {k : Int} (h : k < 0 ∨ 65536 < k) : getE b k = 1 ∧ getS b k = [] := by
  have hE : getE b k = 1 := by unfold getE; rw [if_pos h]
  exact ⟨hE, by unfold getS; rw [if_neg (by omega)]⟩
theorem plGet_no (A : Option Addr) (n c : Nat) (b : List Nat) (k : Int) (w : World) (h : k < 0 ∨ 65536 < k) :
    Calls Tryz.prog 43 #[.slice A n c, .int .i64 k] w (NewLE w (getS b k) (getE b k)) := by
  obtain ⟨h1, h2⟩ := getE_bad (b := b) h
  rw [h1, h2]
  clear h1 h2
  by_cases hk : k < 0
  · clear h
    go_enter Tryz.func43, Tryz.ntmps43
    go_wp2_with fail
    go_ret2
    exact ⟨.slice none 0 0, rfl, own_nil _ _ _ _, Below.refl _ _⟩
  · have d1 : decide (k < 0) = false := by simp; omega
    have h2 : 65536 < k := by omega
    clear h
    go_enter Tryz.func43, Tryz.ntmps43
    go_wp2_with fail
    go_ret2
    exact ⟨.slice none 0 0, rfl, own_nil _ _ _ _, Below.refl _ _⟩
theorem var_k {w : World} {g : Nat} {b : List Nat} {k : Nat} (h : RdS w g b (vst b k).1 (vst b k).2) :
    Calls Tryz.prog 90 #[.pointer (some ⟨g, 0, none⟩)] w fun e w' => e = .returned (.int .u64 (vv b k : Int)) ∧ RdS w' g b (vst b (k + 1)).1 (vst b (k + 1)).2 ∧ w.grownBy w' (some g) := var_is h
set_option maxHeartbeats 2000000 in
theorem plGet_ok (A : Option Addr) (n c N : Nat) (b : List Nat) (w : World) (hr : Reads w w.heap.size 1 A n (bs b)) (hb : ∀ x ∈ b, x < 256) (hn : n ≤ 140737488355328) (hN : N ≤ 65536) (hmet : Met w) :
    Calls Tryz.prog 43 #[.slice A n c, .int .i64 (N : Int)] w (NewLE w (getS b (N : Int)) (getE b (N : Int))) := by
  have d1 : decide ((N : Int) < 0) = false := by simp
  have d2 : decide ((65536 : Int) < (N : Int)) = false := by simp; omega
  have hX := getL_length b N
  have hXz : (zs (getL b N)).length = N := by rw [zs_length, hX]
  have hmk := fun W => run_make_i64 N N (Nat.le_refl _) (by omega) W
  rw [← fillW_zero (zs (getL b N)) (.int .i64 0) N hXz] at hmk
  have HE : Hid (getE b (N : Int) = (endS b (vst b N).1 (vst b N).2).1) := by
    unfold getE
    rw [if_neg (by omega), Int.toNat_natCast]
    try exact Lib.hid rfl
  have HX := Lib.hid hXz
  have HB := Lib.hid hb
  clear hX hXz hb
  go_enter Tryz.func43, Tryz.ntmps43
  go_wp2_with fail
  refine (newReader_any A n c b w hr hn HB.out).mono ?_
  rintro e w1 ⟨g, A1, c1, rfl, hg, hR1, hb1⟩
  have hS1 := rd_new hR1
  have hg1 := hS1.lt
  clear hR1
  go_wp2_with fail
  clear hmk
  have hS2 := hS1.alloc (.cells (fillW (zs (getL b N)) (.int .i64 0) 0) 2)
  have hF2 := Blk.new w1 2 (fillW (zs (getL b N)) (.int .i64 0) 0)
  have hb2 : Below w.heap.size w (w1.alloc (.cells (fillW (zs (getL b N)) (.int .i64 0) 0) 2)) := hb1.alloc hb1.size _
  have hh := hb1.size
  obtain ⟨h, hhd⟩ : ∃ h, h = w1.heap.size := ⟨_, rfl⟩
  rw [← hhd] at hF2 hg1 hh ⊢
  clear hS1 hb1
  go_loopw [22] (fun s22 wr => ∃ k : Nat, k ≤ N ∧ s22 = .int .i64 (k : Int) ∧ RdS wr g b (vst b k).1 (vst b k).2 ∧ Blk wr h 2 (fillW (zs (getL b N)) (.int .i64 0) k) ∧ Below w.heap.size w wr) (fun i _ => N - (intOf i).toNat)
  case atStart => exact ⟨0, by omega, rfl, hS2, hF2, hb2⟩
  case round =>
    clear hS2 hF2 hb2 hhd
    obtain ⟨k, hk, rfl, hS, hF, hb⟩ := hrel
    by_cases hlt : k < N
    · have hv := vv_lt HB.out k
      go_wp2_with fail
      refine (var_k hS).mono ?_
      rintro e w3 ⟨rfl, hS3, hg3⟩
      have hF3 := hF.grown hg3 (by simp; omega)
      have hb3 : Below w.heap.size w w3 := hb.grown hg3 hb.size (fun j hj => by injection hj with hj; omega)
      clear hS hF hb
      go_wp2_with fail
      refine (zag_any (vv b k) w3 hv).mono ?_
      rintro e w' ⟨rfl, rfl⟩
      have hc := hF3.cell k
      rw [fillW_old _ _ k (by rw [HX.out]; omega)] at hc
      have hf := hF3.frozen k
      go_wp2_with fail
      go_round
      case rel =>
        refine ⟨k + 1, by omega, by go_num, hS3.store hF3 hg1 (by decide) k _, ?_, hb3.setCell (by show w.heap.size ≤ h; omega) _⟩
        have := hF3.set_ k (.int .i64 (zagI (vv b k : Int)))
        rwa [fillW_next _ _ k _ (by unfold zs; rw [List.getElem?_map, getL_at b N k hlt]; rfl)] at this
      case measure => simp [intOf]; omega
    · obtain rfl : k = N := by omega
      go_wp2_with fail
      refine (end_is (hmet.next hb) hS).mono ?_
      rintro e w3 ⟨he, hb3⟩
      have hF3 := hF.below hb3 hF.lt
      have hB3 := hb.trans (hb3.mono hb.size)
      obtain ⟨r, hr0⟩ : ∃ r, r = (endS b (vst b k).1 (vst b k).2).1 := ⟨_, rfl⟩
      obtain ⟨o, ho⟩ : ∃ o : Int, o = ((endS b (vst b k).1 (vst b k).2).2 : Int) := ⟨_, rfl⟩
      have he' : e = .returned (.tuple #[.int .i64 r, .int .i64 o]) := by rw [hr0, ho]; exact he
      subst he'
      clear he ho hb hb3 hF hS
      rw [← hr0] at HE
      have HR := Lib.hid hr0
      clear hr0
      have hS0 : Hid (getS b (k : Int) = if r = 0 then getL b k else []) := by
        unfold getS
        rw [HE.out, Int.toNat_natCast]
        try exact Lib.hid rfl
      by_cases h0 : r = 0
      · subst h0
        go_wp2_with fail
        go_ret2
        rw [fillW_all _ _ k HX.out] at hF3
        rw [hS0.out, HE.out, if_pos trivial]
        refine ⟨_, rfl, ?_, hB3⟩
        have := own_whole (B := w.heap.size) hF3 (by omega) HX.out (by unfold maxLen; omega)
        rw [getL_length]
        exact this
      · have q1 : (r == 0) = false := by simp [h0]
        have q2 : (r != 0) = true := by simp [h0]
        have H0 := Lib.hid h0
        clear h0
        go_wp2_with fail
        go_ret2
        rw [hS0.out, HE.out, if_neg H0.out]
        exact ⟨.slice none 0 0, rfl, own_nil _ _ _ _, hB3⟩
theorem plGet_any (A : Option Addr) (n c : Nat) (k : Int) (b : List Nat) (w : World) (hr : Reads w w.heap.size 1 A n (bs b)) (hb : ∀ x ∈ b, x < 256) (hn : n ≤ 140737488355328) (hmet : Met w) :
    Calls Tryz.prog 43 #[.slice A n c, .int .i64 k] w (NewLE w (getS b k) (getE b k)) := by
  by_cases h : k < 0 ∨ 65536 < k
  · exact plGet_no A n c b k w h
  · obtain ⟨N, rfl⟩ : ∃ N : Nat, k = (N : Int) := ⟨k.toNat, by omega⟩
    exact plGet_ok A n c N b w hr hb hn (by omega) hmet
end Go.Proofs.YthlfplljbbnaoaaGreatDoor

/- Plain facts on runs: one number more behind. No program, no condition. -/
namespace Go.Proofs.YthlfplljbbnaoaaGreatDoor
open Go.RowKit
set_option linter.unusedVariables false
set_option linter.unusedSimpArgs false
set_option maxRecDepth 100000

theorem good_snoc : ∀ (r : List (Int × Nat)) (x : Int) (m : Nat), Good (r ++ [(x, m)]) ↔ Good r ∧ 0 < m ∧ (r.getLast?.map Prod.fst ≠ some x)
  | [], x, m => by
    show (0 < m ∧ _ ∧ True) ↔ _
    simp [Good]
  | [(y, n)], x, m => by
    show (0 < n ∧ _ ∧ 0 < m ∧ _ ∧ True) ↔ _
    simp [Good]
    intro _
    constructor
    · rintro ⟨h2, h3⟩; exact ⟨h3, fun e => h2 e.symm⟩
    · rintro ⟨h2, h3⟩; exact ⟨fun e => h3 e.symm, h2⟩
  | (y, n) :: q :: r, x, m => by
    have ih := good_snoc (q :: r) x m
    rw [List.getLast?_cons_cons]
    show (0 < n ∧ ((((q :: r) ++ [(x, m)]).head?.map Prod.fst) ≠ some y) ∧ Good ((q :: r) ++ [(x, m)])) ↔ _
    rw [ih]
    rw [show ((q :: r) ++ [(x, m)]).head? = (q :: r).head? from rfl]
    show _ ↔ (0 < n ∧ _ ∧ Good (q :: r)) ∧ _
    constructor
    · rintro ⟨h1, h2, h3, h4, h5⟩; exact ⟨⟨h1, h2, h3⟩, h4, h5⟩
    · rintro ⟨⟨h1, h2, h3⟩, h4, h5⟩; exact ⟨h1, h2, h3, h4, h5⟩
theorem expd_one (x : Int) (m : Nat) : expd [(x, m)] = List.replicate m x := by simp [expd]
/-- The last run goes on. -/
theorem runs_more {l : List Int} {r : List (Int × Nat)} {x : Int} {m : Nat} (h : runs l = r ++ [(x, m)]) : runs (l ++ [x]) = r ++ [(x, m + 1)] := by
  have hg := good_runs l
  rw [h, good_snoc] at hg
  have hl := expd_runs l
  rw [h, expd_append, expd_one] at hl
  have he : l ++ [x] = expd (r ++ [(x, m + 1)]) := by
    rw [expd_append, expd_one, List.replicate_succ', ← List.append_assoc, hl]
  rw [he]
  exact runs_expd _ ((good_snoc _ _ _).2 ⟨hg.1, by omega, hg.2.2⟩)
/-- A new run begins. -/
theorem runs_new {l : List Int} {x : Int} (h : (runs l).getLast?.map Prod.fst ≠ some x) : runs (l ++ [x]) = runs l ++ [(x, 1)] := by
  have he : l ++ [x] = expd (runs l ++ [(x, 1)]) := by
    rw [expd_append, expd_one, expd_runs]; rfl
  rw [he]
  exact runs_expd _ ((good_snoc _ _ _).2 ⟨good_runs l, by omega, h⟩)
/-- Runs as the cells of a row. -/
def rv (r : List (Int × Nat)) : List Value := r.flatMap fun p => [Value.int .i64 p.1, Value.int .i64 (p.2 : Int)]
theorem rv_append (r s : List (Int × Nat)) : rv (r ++ s) = rv r ++ rv s := by simp [rv]
theorem rv_length : ∀ r : List (Int × Nat), (rv r).length = r.length * 2
  | [] => rfl
  | p :: r => by
    have := rv_length r
    show ([_, _] ++ rv r).length = _
    rw [List.length_append, this, List.length_cons]
    simp
    omega
theorem rv_one (r : List (Int × Nat)) : ∀ u ∈ rv r, u.oneCell' = true := by
  intro u hu
  obtain ⟨p, _, hu⟩ := List.mem_flatMap.1 hu
  simp at hu
  rcases hu with rfl | rfl <;> rfl
theorem rv_at : ∀ {r : List (Int × Nat)} {k : Nat} {x : Int} {m : Nat}, r[k]? = some (x, m) → (rv r)[k * 2]? = some (.int .i64 x) ∧ (rv r)[k * 2 + 1]? = some (.int .i64 (m : Int))
  | p :: r, 0, x, m, h => by
    simp at h
    subst h
    exact ⟨rfl, rfl⟩
  | p :: r, k + 1, x, m, h => by
    have ih := rv_at (r := r) (k := k) (by simpa using h)
    rw [show (k + 1) * 2 = k * 2 + 2 by omega]
    exact ⟨by simpa [rv] using ih.1, by simpa [rv] using ih.2⟩
theorem rv_last (r : List (Int × Nat)) (x : Int) (m m' : Nat) : (rv (r ++ [(x, m)])).set (r.length * 2 + 1) (.int .i64 (m' : Int)) = rv (r ++ [(x, m')]) := by
  rw [rv_append, rv_append, List.set_append_right _ _ (by rw [rv_length]; omega), rv_length]
  congr 1
  rw [show r.length * 2 + 1 - r.length * 2 = 1 by omega]
  rfl
end Go.Proofs.YthlfplljbbnaoaaGreatDoor

/- Plain facts on reading the form of runs: how often and the number, two by two; where it ends, and why. -/
namespace Go.Proofs.YthlfplljbbnaoaaGreatDoor
open Go.RowKit
set_option linter.unusedVariables false
set_option linter.unusedSimpArgs false
set_option maxRecDepth 100000

/-- How often, less 1, and the number, of the run with that index. -/
def how (b : List Nat) (k : Nat) : Nat := vv b (2 * k)
def num (b : List Nat) (k : Nat) : Int := zagI (vv b (2 * k + 1) : Int)
/-- The first so many runs that are read, and how many numbers they have. -/
def rr (b : List Nat) (k : Nat) : List (Int × Nat) := (List.range k).map fun j => (num b j, how b j + 1)
def tot (b : List Nat) (k : Nat) : Nat := (expd (rr b k)).length
/-- The number of the run ahead. -/
def ahdN (b : List Nat) (k : Nat) : Int := if k = 0 then 0 else num b (k - 1)
theorem rr_succ (b : List Nat) (k : Nat) : rr b (k + 1) = rr b k ++ [(num b k, how b k + 1)] := by simp [rr, List.range_succ]
theorem rr_length (b : List Nat) (k : Nat) : (rr b k).length = k := by simp [rr]
theorem tot_zero (b : List Nat) : tot b 0 = 0 := rfl
theorem tot_succ (b : List Nat) (k : Nat) : tot b (k + 1) = tot b k + (how b k + 1) := by
  unfold tot
  rw [rr_succ, expd_append, expd_one, List.length_append, List.length_replicate]
theorem tot_ge (b : List Nat) (k : Nat) : k ≤ tot b k := by
  induction k with
  | zero => exact Nat.zero_le _
  | succ k ih => rw [tot_succ]; omega
theorem ahdN_succ (b : List Nat) (k : Nat) : ahdN b (k + 1) = num b k := by unfold ahdN; rw [if_neg (by omega)]; rfl
/-- What is wrong with the run with that index: 0: nothing. -/
def rBad (b : List Nat) (N k : Nat) : Int :=
  match (vst b (2 * k + 2)).2 with
  | some y => y.1
  | none => if N - tot b k ≤ how b k then 5 else if 0 < k ∧ num b k = ahdN b k then 4 else 0
/-- Is there a run with that index, and is it right? -/
def rGo (b : List Nat) (N k : Nat) : Prop := tot b k < N ∧ rBad b N k = 0
instance (b : List Nat) (N k : Nat) : Decidable (rGo b N k) := by unfold rGo; exact inferInstance
def rStop (b : List Nat) (N : Nat) : Nat → Nat → Nat
  | 0, k => k
  | f + 1, k => if rGo b N k then rStop b N f (k + 1) else k
theorem rStop_spec (b : List Nat) (N : Nat) : ∀ f k, k ≤ rStop b N f k ∧ (∀ j, k ≤ j → j < rStop b N f k → rGo b N j) ∧ (N ≤ f + k → ¬ rGo b N (rStop b N f k))
  | 0, k => ⟨Nat.le_refl _, fun j h1 h2 => by have : j < k := h2; omega, fun h => by
      intro hg
      have h1 : tot b k < N := hg.1
      have := tot_ge b k
      omega⟩
  | f + 1, k => by
    obtain ⟨h1, h2, h3⟩ := rStop_spec b N f (k + 1)
    unfold rStop
    by_cases hg : rGo b N k
    · rw [if_pos hg]
      refine ⟨by omega, fun j h4 h5 => ?_, fun h => h3 (by omega)⟩
      rcases Nat.lt_or_ge k j with h6 | h6
      · exact h2 j (by omega) h5
      · obtain rfl : j = k := by omega
        exact hg
    · rw [if_neg hg]
      exact ⟨Nat.le_refl _, fun j h4 h5 => by omega, fun _ => hg⟩
/-- How many runs are right, one behind the other. -/
def rK (b : List Nat) (N : Nat) : Nat := rStop b N N 0
theorem rK_go {b : List Nat} {N j : Nat} (h : j < rK b N) : rGo b N j := (rStop_spec b N N 0).2.1 j (Nat.zero_le _) h
theorem rK_end (b : List Nat) (N : Nat) : ¬ rGo b N (rK b N) := (rStop_spec b N N 0).2.2 (by omega)
theorem rK_lt {b : List Nat} {N k : Nat} (hk : k ≤ rK b N) (h : rGo b N k) : k < rK b N := by
  rcases Nat.lt_or_ge k (rK b N) with h1 | h1
  · exact h1
  · obtain rfl : k = rK b N := by omega
    exact absurd h (rK_end b N)
theorem go_is {b : List Nat} {N k : Nat} (h : rGo b N k) : tot b k < N ∧ (vst b (2 * k + 2)).2 = none ∧ how b k < N - tot b k ∧ ¬ (0 < k ∧ num b k = ahdN b k) := by
  obtain ⟨h1, h2⟩ := h
  refine ⟨h1, ?_⟩
  unfold rBad at h2
  cases hx : (vst b (2 * k + 2)).2 with
  | some y =>
    rw [hx] at h2
    exact absurd h2 (vst_ok b _ y hx)
  | none =>
    rw [hx] at h2
    simp only at h2
    by_cases h3 : N - tot b k ≤ how b k
    · rw [if_pos h3] at h2; cases h2
    · rw [if_neg h3] at h2
      by_cases h4 : 0 < k ∧ num b k = ahdN b k
      · rw [if_pos h4] at h2; cases h2
      · exact ⟨rfl, by omega, h4⟩
theorem go_of {b : List Nat} {N k : Nat} (h1 : tot b k < N) (h2 : (vst b (2 * k + 2)).2 = none) (h3 : ¬ N - tot b k ≤ how b k) (h4 : ¬ (0 < k ∧ num b k = ahdN b k)) : rGo b N k := by
  refine ⟨h1, ?_⟩
  unfold rBad
  rw [h2]
  simp only
  rw [if_neg h3, if_neg h4]
/-- As long as runs are right the reader has no error, and they aren't beyond the count. -/
theorem rK_none {b : List Nat} {N : Nat} : ∀ k, k ≤ rK b N → (vst b (2 * k)).2 = none ∧ tot b k ≤ N
  | 0, _ => ⟨rfl, Nat.zero_le _⟩
  | k + 1, h => by
    have hg := go_is (rK_go (b := b) (N := N) (j := k) (by omega))
    refine ⟨hg.2.1, ?_⟩
    rw [tot_succ]
    omega
theorem rr_good {b : List Nat} {N : Nat} : ∀ k, k ≤ rK b N → Good (rr b k) ∧ (0 < k → (rr b k).getLast?.map Prod.fst = some (ahdN b k))
  | 0, _ => ⟨trivial, fun h => absurd h (by omega)⟩
  | k + 1, h => by
    obtain ⟨h1, h2⟩ := rr_good (b := b) (N := N) k (by omega)
    have hg := go_is (rK_go (b := b) (N := N) (j := k) (by omega))
    rw [rr_succ]
    refine ⟨(good_snoc _ _ _).2 ⟨h1, by omega, ?_⟩, fun _ => by rw [ahdN_succ]; simp⟩
    rcases Nat.eq_zero_or_pos k with rfl | h3
    · simp [rr]
    · rw [h2 h3]
      intro e
      injection e with e
      exact hg.2.2.2 ⟨h3, e.symm⟩
/-- The error's number of reading, and the numbers. -/
def rEnd (b : List Nat) (N : Nat) : Int := if tot b (rK b N) < N then rBad b N (rK b N) else (endS b (vst b (2 * rK b N)).1 none).1
def rE (b : List Nat) (k : Int) : Int := if k < 0 ∨ 65536 < k then 1 else rEnd b k.toNat
def rS (b : List Nat) (k : Int) : List Int := if rE b k = 0 then expd (rr b (rK b k.toNat)) else []
theorem rBad_end {b : List Nat} {N : Nat} (h : tot b (rK b N) < N) : rBad b N (rK b N) ≠ 0 := fun e => rK_end b N ⟨h, e⟩
/-- It goes well just if all numbers are there and no byte is left. -/
theorem rEnd_ok {b : List Nat} {N : Nat} (h : rEnd b N = 0) : tot b (rK b N) = N ∧ ¬ (vst b (2 * rK b N)).1 < b.length := by
  unfold rEnd at h
  have h1 := (rK_none (b := b) (N := N) _ (Nat.le_refl _)).2
  by_cases h2 : tot b (rK b N) < N
  · rw [if_pos h2] at h
    exact absurd h (rBad_end h2)
  · rw [if_neg h2, endS_none] at h
    refine ⟨by omega, fun h3 => ?_⟩
    rw [if_pos h3] at h
    cases h
theorem num_in {b : List Nat} (hb : ∀ x ∈ b, x < 256) (k : Nat) : In64 (num b k) := zagI_in (vv_lt hb _)
theorem expd_mem {r : List (Int × Nat)} {z : Int} (h : z ∈ expd r) : ∃ p ∈ r, p.1 = z := by
  obtain ⟨p, hp, hz⟩ := List.mem_flatMap.1 h
  exact ⟨p, hp, (List.eq_of_mem_replicate hz).symm⟩
theorem expd_in {b : List Nat} (hb : ∀ x ∈ b, x < 256) (k : Nat) : ∀ z ∈ expd (rr b k), In64 z := by
  intro z hz
  obtain ⟨p, hp, rfl⟩ := expd_mem hz
  unfold rr at hp
  obtain ⟨j, _, rfl⟩ := List.mem_map.1 hp
  exact num_in hb j
theorem ilv_rr (b : List Nat) : ∀ k, ilv (rr b k) = getL b (2 * k)
  | 0 => rfl
  | k + 1 => by
    rw [rr_succ, ilv_append, ilv_rr b k, show 2 * (k + 1) = 2 * k + 1 + 1 by omega, getL_succ, getL_succ]
    show _ ++ [zagI ((how b k + 1 - 1 : Nat) : Int), num b k] = _
    rw [List.append_assoc]
    rfl
/-- What is read is put as it was. -/
theorem rn_put_get (b : List Nat) (hb : ∀ x ∈ b, x < 256) (k : Int) (h : rE b k = 0) :
    0 ≤ k ∧ k ≤ 65536 ∧ rf (runs (rS b k)) = b ∧ ((rS b k).length : Int) = k ∧ ∀ z ∈ rS b k, In64 z := by
  have hk : ¬ (k < 0 ∨ 65536 < k) := by
    intro e
    unfold rE at h
    rw [if_pos e] at h
    cases h
  have hS : rS b k = expd (rr b (rK b k.toNat)) := by unfold rS; rw [if_pos h]
  unfold rE at h
  rw [if_neg hk] at h
  obtain ⟨h1, h2⟩ := rEnd_ok h
  obtain ⟨h3, h4⟩ := rK_none (b := b) (N := k.toNat) _ (Nat.le_refl _)
  obtain ⟨h5, h6⟩ := put_prefix b hb _ h3
  rw [hS]
  refine ⟨by omega, by omega, ?_, ?_, expd_in hb _⟩
  · rw [runs_expd _ (rr_good _ (Nat.le_refl _)).1]
    unfold rf
    rw [ilv_rr, h6, List.take_of_length_le (by omega)]
  · have : (expd (rr b (rK b k.toNat))).length = k.toNat := h1
    omega
end Go.Proofs.YthlfplljbbnaoaaGreatDoor

/- Contract of the Reader's Fail. -/
namespace Go.Proofs.YthlfplljbbnaoaaGreatDoor
open Go.RowKit
set_option linter.unusedVariables false
set_option linter.unusedSimpArgs false
set_option maxRecDepth 100000

theorem fail_nil (k : Int) (w : World) : Calls Tryz.prog 32 #[.pointer none, .int .i64 k] w fun e w' => e = .returned (.tuple #[]) ∧ w = w' := by
  go_enter Tryz.func32, Tryz.ntmps32
  go_wp2_with (go_at_call 70; refine (stopped_nil _).mono ?_; rintro e w1 ⟨rfl, rfl⟩)
  go_end0
  exact ⟨rfl, rfl⟩
theorem fail_is {w : World} {g : Nat} {l : List Nat} {at_ : Nat} {x : Option (Int × Nat)} (k : Int) (h : RdS w g l at_ x) :
    Calls Tryz.prog 32 #[.pointer (some ⟨g, 0, none⟩), .int .i64 k] w fun e w' => e = .returned (.tuple #[]) ∧ RdTo w g l at_ (failS at_ x k) w' := by
  cases x with
  | some x =>
    go_enter Tryz.func32, Tryz.ntmps32
    go_wp2_with (go_at_call 70; refine (stopped_err h).mono ?_; rintro e w1 ⟨rfl, rfl⟩)
    go_end0
    exact ⟨rfl, RdTo.same h (Drawn.refl w)⟩
  | none =>
    by_cases hk : k = 0
    · subst hk
      go_enter Tryz.func32, Tryz.ntmps32
      go_wp2_with (go_at_call 70; refine (stopped_is h).mono ?_; rintro e w1 ⟨rfl, rfl⟩)
      go_end0
      exact ⟨rfl, RdTo.same h (Drawn.refl w)⟩
    · have hk1 : (k == 0) = false := by simp [hk]
      have hk2 : (k != 0) = true := by simp [hk]
      have hF : failS at_ none k = some (k, at_) := by unfold failS; simp [hk]
      have HF := Lib.hid hF
      clear hF
      go_enter Tryz.func32, Tryz.ntmps32
      go_wp2_with (first
        | (go_at_call 70; refine (stopped_is h).mono ?_; rintro e w1 ⟨rfl, rfl⟩)
        | (go_at_call 71; refine (stop_is k h).mono ?_; rintro e w2 ⟨rfl, hto⟩))
      go_end0
      rw [HF.out]
      exact ⟨rfl, hto⟩
end Go.Proofs.YthlfplljbbnaoaaGreatDoor
