/- Contract of package sha's wordsOf: a block's 64 words, by value. -/
import Derived.Test.YtfpbijnlmlaloaaDoorShaRot
import Derived.Test.YtfpbijnlmlaloaaDoorWhole
import Derived.StillTailTactics
import Derived.IntWalk
namespace Go.Proofs.YtfpbijnlmlaloaaDoor
open Go.RowKit
set_option linter.unusedVariables false
set_option linter.unusedSimpArgs false
set_option maxRecDepth 100000

/-- A block's word. -/
def wAt (l : List Nat) (t : Nat) : Nat := (wsN l 64).getD t 0
theorem wsN_pre (l : List Nat) (n : Nat) : ∀ k, wsN l n <+: wsN l (n + k) := by
  intro k
  induction k with
  | zero => exact List.prefix_refl _
  | succ k ih => exact ih.trans (List.prefix_append _ _)
theorem wsN_getD (l : List Nat) (t i : Nat) (hi : i < t) (ht : t ≤ 64) : (wsN l t).getD i 0 = wAt l i := by
  obtain ⟨k, hk⟩ : ∃ k, 64 = t + k := ⟨64 - t, by omega⟩
  unfold wAt
  obtain ⟨r, hr⟩ := wsN_pre l t k
  rw [show (64 : Nat) = t + k by omega, ← hr, List.getD_eq_getElem?_getD, List.getD_eq_getElem?_getD, List.getElem?_append_left (by rw [wsN_length]; exact hi)]
theorem wAt_next (l : List Nat) (t : Nat) (ht : t < 64) : wAt l t = nextW l t (wsN l t) := by
  rw [← wsN_getD l (t + 1) t (by omega) (by omega)]
  show (wsN l t ++ [nextW l t (wsN l t)]).getD t 0 = _
  rw [List.getD_eq_getElem?_getD, List.getElem?_append_right (by rw [wsN_length]; omega), wsN_length, Nat.sub_self]
  rfl
theorem wAt_own (l : List Nat) (t : Nat) (ht : t < 16) : wAt l t = wd4 (l.drop (4 * t)) 0 := by
  rw [wAt_next l t (by omega)]
  unfold nextW
  rw [if_pos ht]
  unfold wd4
  simp [List.getD_eq_getElem?_getD, List.getElem?_drop]
theorem wAt_made (l : List Nat) (t : Nat) (h : 16 ≤ t) (ht : t < 64) : wAt l t = ad (ad (ad (wAt l (t - 16)) (sg0 (wAt l (t - 15)))) (wAt l (t - 7))) (sg1 (wAt l (t - 2))) := by
  rw [wAt_next l t ht]
  unfold nextW
  rw [if_neg (by omega), wsN_getD l t (t - 16) (by omega) (by omega), wsN_getD l t (t - 15) (by omega) (by omega), wsN_getD l t (t - 7) (by omega) (by omega), wsN_getD l t (t - 2) (by omega) (by omega)]
theorem wAt_lt {l : List Nat} (h : ∀ x ∈ l, x < 256) (t : Nat) : wAt l t < 4294967296 := getD_lt (wsN_lt h 64) (by decide) t
attribute [irreducible] wAt
/-- The words when 't' are made. -/
def wV (l : List Nat) (t : Nat) : Array Value := Array.ofFn (n := 64) fun i => Value.int .u32 ((if i.val < t then wAt l i.val else 0 : Nat) : Int)
theorem wV_size (l : List Nat) (t : Nat) : (wV l t).size = 64 := by simp [wV]
theorem wV_zero (l : List Nat) : wV l 0 = Array.replicate 64 (.int .u32 0) := by
  apply Array.ext
  · simp [wV]
  · intro i h1 h2
    simp [wV]
theorem wV_one (l : List Nat) (t : Nat) : (wV l t).all (·.oneCell') = true := by
  rw [Array.all_eq_true]
  intro i h
  simp [wV]
  rfl
theorem wV_next (l : List Nat) (t : Nat) (h : t < 64) : (wV l t).setIfInBounds t (.int .u32 ((wAt l t : Nat) : Int)) = wV l (t + 1) := by
  apply Array.ext
  · simp [wV]
  · intro i h1 h2
    rw [Array.getElem_setIfInBounds (by rw [wV_size]; simpa [wV] using h2)]
    by_cases hi : t = i
    · subst hi
      simp [wV]
    · rw [if_neg hi]
      have e : (i < t) = (i < t + 1) := propext (by omega)
      simp [wV, e]
theorem wV_at (l : List Nat) (t i : Nat) (h : i < t) (ht : t ≤ 64) : (wV l t)[i]? = some (.int .u32 ((wAt l i : Nat) : Int)) := by
  rw [Array.getElem?_eq_getElem (by rw [wV_size]; omega)]
  simp [wV, h]
theorem wV_old (l : List Nat) (t : Nat) (h : t < 64) : (wV l t)[t]? = some (.int .u32 0) := by
  rw [Array.getElem?_eq_getElem (by rw [wV_size]; exact h)]
  simp [wV]
attribute [irreducible] wV
theorem sg0_bits (x : Nat) (hx : x < 4294967296) : ∃ m : Nat, bits .xor .u32 (rot x 7 : Int) (rot x 18 : Int) = (m : Int) ∧ bits .xor .u32 (m : Int) ((x : Int) / 8) = (sg0 x : Int) := by
  refine ⟨rot x 7 ^^^ rot x 18, u32_xor_nat _ _ (rot_lt _ hx) (rot_lt _ hx), ?_⟩
  rw [show (x : Int) / 8 = ((x / 8 : Nat) : Int) by rw [Int.natCast_ediv]; rfl, u32_xor_nat _ _ (xor_lt (rot_lt _ hx) (rot_lt _ hx)) (by omega)]
  rfl
theorem sg1_bits (x : Nat) (hx : x < 4294967296) : ∃ m : Nat, bits .xor .u32 (rot x 17 : Int) (rot x 19 : Int) = (m : Int) ∧ bits .xor .u32 (m : Int) ((x : Int) / 1024) = (sg1 x : Int) := by
  refine ⟨rot x 17 ^^^ rot x 19, u32_xor_nat _ _ (rot_lt _ hx) (rot_lt _ hx), ?_⟩
  rw [show (x : Int) / 1024 = ((x / 1024 : Nat) : Int) by rw [Int.natCast_ediv]; rfl, u32_xor_nat _ _ (xor_lt (rot_lt _ hx) (rot_lt _ hx)) (by omega)]
  rfl
theorem wrap_ad (a b : Nat) : IntKind.u32.wrap ((a : Int) + (b : Int)) = (ad a b : Int) := by
  unfold ad
  rw [Int.natCast_emod, Int.natCast_add]
  rfl
theorem info_words : (Tryd.prog.info? 73).map (fun i => (i.zero, i.size)) = some (some (.agg (Array.replicate 64 (.int .u32 0))), 64) := by kernel_rfl

set_option maxHeartbeats 1000000 in
theorem words_any (A : Option Addr) (c : Nat) (l : List Nat) (w : World) (hr : Reads w w.heap.size 1 A 64 (bs l)) (hl : ∀ b ∈ l, b < 256) (hc : 64 ≤ c) :
    Calls Tryd.prog 49 #[.slice A 64 c] w fun e w' => e = .returned (.agg (wV l 64)) ∧ Below w.heap.size w w' := by
  have hz := (zero_of_info info_words).1
  have hsz := Lib.hid (zero_of_info info_words).2
  have HL := Lib.hid hl; clear hl
  go_enter Tryd.func49, Tryd.ntmps49
  go_wp2_with fail
  rw [← wV_zero l]
  have hB0 := Blk.new w 73 (wV l 0)
  have hb0 : Below w.heap.size w (w.alloc (.cells (wV l 0) 73)) := (Below.refl _ _).alloc (Nat.le_refl _) _
  obtain ⟨w1, hw1⟩ : ∃ w1 : World, w1 = w.alloc (.cells (wV l 0) 73) := ⟨_, rfl⟩
  rw [← hw1] at hB0 hb0 ⊢
  clear hw1 hz
  have HB := Lib.hid hB0; clear hB0
  go_loopg [11] 16 (fun g s11 wr => ∃ t : Nat, t + g = 16 ∧ s11 = .int .i64 (t : Int) ∧ Hid (Blk wr w.heap.size 73 (wV l t)) ∧ Below w.heap.size w wr)
  case atStart => exact ⟨0, by omega, rfl, HB, hb0⟩
  case round =>
    obtain ⟨t, htg, rfl, hB, hb⟩ := hrel
    cases gk with
    | zero =>
      obtain rfl : t = 16 := by omega
      clear htg
      go_wp2_with fail
      go_loopg [5, 6, 7, 8, 9] 48 (fun g s5 s6 s7 s8 s9 wr => ∃ t : Nat, t + g = 64 ∧ 16 ≤ t ∧ s5 = .int .i64 (t : Int) ∧ Hid (Blk wr w.heap.size 73 (wV l t)) ∧ Below w.heap.size w wr)
      case atStart => exact ⟨16, by omega, by omega, rfl, hB, hb⟩
      case round =>
        obtain ⟨t, htg, ht16, rfl, hB, hb⟩ := hrel
        cases gk with
        | zero =>
          obtain rfl : t = 64 := by omega
          clear htg
          have hB0 := hB.out
          have hts := wV_size l 64
          have hb2 := Below.row hb (Nat.le_refl _) (wV l 64)
          have HB0 := Lib.hid hB0
          clear hB0
          go_wp2_with (first
            | refine wpList_load_row (by rfl) (.tmp 2) (by rfl) (by rfl) HB0.out Tryd.underlying73 (by rw [wV_size]; exact hsz.out) ?_
            | refine wpList_store_row (by rfl) (.tmp 2) (.tmp 66) (by rfl) (by rfl) (by rfl) HB0.out (by rw [wV_size]; exact hsz.out) (by rfl) (wV_one _ _) ?_)
          exact bodyPost_ret (v := .agg (wV l 64)) (results_cell_row rfl _ _ _ _ _ _ _ (by rfl) (HB0.out.row (wV l 64)) Tryd.underlying73 rfl (by rw [wV_size]; exact hsz.out)) rfl ⟨rfl, hb2⟩
        | succ g =>
          have ht : t < 64 := by omega
          have ht2 : (t : Int) < 64 := by omega
          obtain ⟨i15, h15⟩ : ∃ i : Nat, i = t - 15 := ⟨_, rfl⟩
          obtain ⟨i2, h2⟩ : ∃ i : Nat, i = t - 2 := ⟨_, rfl⟩
          obtain ⟨i16, h16⟩ : ∃ i : Nat, i = t - 16 := ⟨_, rfl⟩
          obtain ⟨i7, h7⟩ : ∃ i : Nat, i = t - 7 := ⟨_, rfl⟩
          have e15 : (t : Int) - 15 = (i15 : Int) := by omega
          have e2 : (t : Int) - 2 = (i2 : Int) := by omega
          have e16 : (t : Int) - 16 = (i16 : Int) := by omega
          have e7 : (t : Int) - 7 = (i7 : Int) := by omega
          have l15 : (i15 : Int) < 64 := by omega
          have l2 : (i2 : Int) < 64 := by omega
          have l16 : (i16 : Int) < 64 := by omega
          have l7 : (i7 : Int) < 64 := by omega
          have hcell : ∀ i, i < t → wr.cell? ⟨w.heap.size, i, none⟩ = some (.int .u32 (wAt l i : Int)) := fun i hi => by rw [hB.out.cell]; exact wV_at l t i hi (by omega)
          have c15 := hcell i15 (by omega)
          have c2 := hcell i2 (by omega)
          have C16 := Lib.hid (wV_at l t i16 (by omega) (by omega))
          have C7 := Lib.hid (wV_at l t i7 (by omega) (by omega))
          have CT := Lib.hid (wV_old l t ht)
          have hmade := wAt_made l t ht16 ht
          rw [← h15, ← h2, ← h16, ← h7] at hmade
          have b15 := wAt_lt HL.out i15
          have b2 := wAt_lt HL.out i2
          generalize wAt l i15 = x at c15 hmade b15
          generalize wAt l i2 = y at c2 hmade b2
          generalize wAt l i16 = z at C16 hmade
          generalize wAt l i7 = v at C7 hmade
          obtain ⟨m0, hm0, hm0'⟩ := sg0_bits x b15
          obtain ⟨m1, hm1, hm1'⟩ := sg1_bits y b2
          have hw1 := wrap_ad z (sg0 x)
          have hw2 := wrap_ad (ad z (sg0 x)) v
          have hw3 := wrap_ad (ad (ad z (sg0 x)) v) (sg1 y)
          rw [← hmade] at hw3
          have HM := Lib.hid hmade
          clear hmade hcell h15 h2 h16 h7
          go_wp2_with fail
          go_quiet (fail)
          go_wp2_with fail
          refine (turned_7 x _ b15).mono ?_
          rintro e w' ⟨rfl, rfl⟩
          go_wp2_with fail
          refine (turned_18 x _ b15).mono ?_
          rintro e w' ⟨rfl, rfl⟩
          go_wp2_with fail
          refine (turned_17 y _ b2).mono ?_
          rintro e w' ⟨rfl, rfl⟩
          go_wp2_with fail
          refine (turned_19 y _ b2).mono ?_
          rintro e w' ⟨rfl, rfl⟩
          go_wp2_with fail
          obtain ⟨wq, hwq⟩ : ∃ wq : World, wq = wr.drewN nq := ⟨_, rfl⟩
          have hBq : Blk wq w.heap.size 73 (wV l t) := by rw [hwq]; exact hB.out.drewN nq
          have hbq : Below w.heap.size w wq := by rw [hwq]; exact (Drawn.one wr nq).below hb
          rw [← hwq]
          clear hwq c15 c2
          have c16 := hBq.cell i16
          have c7 := hBq.cell i7
          have ct := hBq.cell t
          rw [C16.out] at c16
          rw [C7.out] at c7
          rw [CT.out] at ct
          have hfz := hBq.frozen t
          have HBQ := Lib.hid hBq; clear hBq
          have ww1 : IntKind.i64.wrap (i16 : Int) = (i16 : Int) := IntWalk.i64_in _ (by omega)
          have ww2 : IntKind.i64.wrap (i7 : Int) = (i7 : Int) := IntWalk.i64_in _ (by omega)
          refine wp_region_still_tail 15 (by kernel_rfl) (by kernel_rfl) ?_
          simp only [List.take_succ_cons, List.take_zero, List.drop_succ_cons, List.drop_zero]
          change wpStill _ _ wq.drew _ _ _
          repeat still_step
          refine wpStill_nil ?_
          go_wp2_with fail
          go_roundg g
          case measure => omega
          case rel =>
            refine ⟨t + 1, by omega, by omega, by go_num, Lib.hid ?_, ?_⟩
            · have := HBQ.out.drew.set_ t (.int .u32 ((wAt l t : Nat) : Int))
              rwa [wV_next l t ht] at this
            · exact ((Drawn.one wq 1).below hbq).setCell (Nat.le_refl _) _
    | succ g =>
      have ht : t < 16 := by omega
      have ht2 : (t : Int) < 16 := by omega
      obtain ⟨q, hq⟩ : ∃ q : Nat, q = 4 * t := ⟨_, rfl⟩
      have hqi : (t : Int) * 4 = (q : Int) := by omega
      have hq60 : q ≤ 60 := by omega
      have hcq : ¬ c = q := by omega
      have hcut := ((hr.below hb).cut (k := q) (by omega) hc).more hb.size
      rw [if_neg hcq] at hcut
      have hcut2 : Reads wr wr.heap.size 1 (A.map (·.add q)) (64 - q) (bs (l.drop q)) := by simpa [bs_drop] using hcut
      have hcall := word_any _ _ (c - q) _ wr hcut2 (fun b h => HL.out b (List.mem_of_mem_drop h)) (by omega)
      rw [hq, ← wAt_own l t ht, ← hq] at hcall
      have HC := Lib.hid hcall; clear hcut hcut2 hcall
      have HQ := Lib.hid hq; clear hq
      go_wp2_with fail
      refine HC.out.mono ?_
      rintro e w2 ⟨rfl, q2, rfl⟩
      have hBd := hB.out.drewN q2
      have hcell := hBd.cell t
      rw [wV_old l t (by omega)] at hcell
      have hfz := hBd.frozen t
      clear hBd
      go_wp2_with fail
      go_roundg g
      case measure => omega
      case rel =>
        refine ⟨t + 1, by omega, by go_num, Lib.hid ?_, ?_⟩
        · have := (hB.out.drewN q2).set_ t (.int .u32 ((wAt l t : Nat) : Int))
          rwa [wV_next l t (by omega)] at this
        · exact ((Drawn.one wr q2).below hb).setCell (by simp) _
end Go.Proofs.YtfpbijnlmlaloaaDoor
