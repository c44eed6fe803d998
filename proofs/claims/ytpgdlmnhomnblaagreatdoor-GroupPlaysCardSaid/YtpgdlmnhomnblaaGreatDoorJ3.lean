import Derived.Test.YtpgdlmnhomnblaaGreatDoorJ2
import Derived.StillTailTactics
import Derived.IntWalk
import Derived.Test.YtpgdlmnhomnblaaGreatDoorRows
import Derived.Test.YtpgdlmnhomnblaaGreatDoorJ1
import Derived.WalkKit
import Derived.ProofKit
import Derived.OpenShut
import Derived.Deep.DeepHandedRow
import Derived.Lib.LaidTab
import Derived.WideKeyArr2
import Derived.LaidLaws
import Derived.Deep.Slices
import Derived.Deep.Fields
import Derived.ChangeSame
namespace Go.Proofs.YtpgdlmnhomnblaaGreatDoor
open Go.RowKit
set_option linter.unusedVariables false
set_option linter.unusedSimpArgs false
set_option maxRecDepth 100000
def wAt (l : List Nat) (t : Nat) : Nat := (wsN l 64).getD t 0
theorem wsN_pre (l : List Nat) (n : Nat) : ∀ k, wsN l n <+: wsN l (n + k) := by
  intro k
  induction k with
  | zero => exact List.prefix_refl _
  | succ k ih => exact ih.trans (List.prefix_append _ _)
theorem wsN_getD (l : List Nat) (t i : Nat) (hi : i < t) (ht : t ≤ 64) : (wsN l t).getD i 0 = wAt l i := by
  obtain ⟨k, hk⟩ : ∃ k, 64 = t + k := ⟨64 - t, by omega⟩
  unfold wAt
  obtain ⟨r, hr⟩ := wsN_pre l t k
  rw [show (64 : Nat) = t + k by omega, ← hr, List.getD_eq_getElem?_getD, List.getD_eq_getElem?_getD, List.getElem?_append_left (by rw [wsN_length]; exact hi)]
theorem wAt_next (l : List Nat) (t : Nat) (ht : t < 64) : wAt l t = nextW l t (wsN l t) := by
  rw [← wsN_getD l (t + 1) t (by omega) (by omega)]
  show (wsN l t ++ [nextW l t (wsN l t)]).getD t 0 = _
  rw [List.getD_eq_getElem?_getD, List.getElem?_append_right (by rw [wsN_length]; omega), wsN_length, Nat.sub_self]
  rfl
theorem wAt_own (l : List Nat) (t : Nat) (ht : t < 16) : wAt l t = wd4 (l.drop (4 * t)) 0 := by
  rw [wAt_next l t (by omega)]
  unfold nextW
  rw [if_pos ht]
  unfold wd4
  simp [List.getD_eq_getElem?_getD, List.getElem?_drop]
theorem wAt_made (l : List Nat) (t : Nat) (h : 16 ≤ t) (ht : t < 64) : wAt l t = ad (ad (ad (wAt l (t - 16)) (sg0 (wAt l (t - 15)))) (wAt l (t - 7))) (sg1 (wAt l (t - 2))) := by
  rw [wAt_next l t ht]
  unfold nextW
  rw [if_neg (by omega), wsN_getD l t (t - 16) (by omega) (by omega), wsN_getD l t (t - 15) (by omega) (by omega), wsN_getD l t (t - 7) (by omega) (by omega), wsN_getD l t (t - 2) (by omega) (by omega)]
theorem wAt_lt {l : List Nat} (h : ∀ x ∈ l, x < 256) (t : Nat) : wAt l t < 4294967296 := getD_lt (wsN_lt h 64) (by decide) t
attribute [irreducible] wAt
def wV (l : List Nat) (t : Nat) : Array Value := Array.ofFn (n := 64) fun i => Value.int .u32 ((if i.val < t then wAt l i.val else 0 : Nat) : Int)
theorem wV_size (l : List Nat) (t : Nat) : (wV l t).size = 64 := by simp [wV]
theorem wV_zero (l : List Nat) : wV l 0 = Array.replicate 64 (.int .u32 0) := by
  apply Array.ext
  · simp [wV]
  · intro i h1 h2
    simp [wV]
theorem wV_one (l : List Nat) (t : Nat) : (wV l t).all (·.oneCell') = true := by
  rw [Array.all_eq_true]
  intro i h
  simp [wV]
  rfl
theorem wV_next (l : List Nat) (t : Nat) (h : t < 64) : (wV l t).setIfInBounds t (.int .u32 ((wAt l t : Nat) : Int)) = wV l (t + 1) := by
  apply Array.ext
  · simp [wV]
  · intro i h1 h2
    rw [Array.getElem_setIfInBounds (by rw [wV_size]; simpa [wV] using h2)]
    by_cases hi : t = i
    · subst hi
      simp [wV]
    · rw [if_neg hi]
      have e : (i < t) = (i < t + 1) := propext (by omega)
      simp [wV, e]
theorem wV_at (l : List Nat) (t i : Nat) (h : i < t) (ht : t ≤ 64) : (wV l t)[i]? = some (.int .u32 ((wAt l i : Nat) : Int)) := by
  rw [Array.getElem?_eq_getElem (by rw [wV_size]; omega)]
  simp [wV, h]
theorem wV_old (l : List Nat) (t : Nat) (h : t < 64) : (wV l t)[t]? = some (.int .u32 0) := by
  rw [Array.getElem?_eq_getElem (by rw [wV_size]; exact h)]
  simp [wV]
attribute [irreducible] wV
theorem sg0_bits (x : Nat) (hx : x < 4294967296) : ∃ m : Nat, bits .xor .u32 (rot x 7 : Int) (rot x 18 : Int) = (m : Int) ∧ bits .xor .u32 (m : Int) ((x : Int) / 8) = (sg0 x : Int) := by
  refine ⟨rot x 7 ^^^ rot x 18, u32_xor_nat _ _ (rot_lt _ hx) (rot_lt _ hx), ?_⟩
  rw [show (x : Int) / 8 = ((x / 8 : Nat) : Int) by rw [Int.natCast_ediv]; rfl, u32_xor_nat _ _ (xor_lt (rot_lt _ hx) (rot_lt _ hx)) (by omega)]
  rfl
theorem sg1_bits (x : Nat) (hx : x < 4294967296) : ∃ m : Nat, bits .xor .u32 (rot x 17 : Int) (rot x 19 : Int) = (m : Int) ∧ bits .xor .u32 (m : Int) ((x : Int) / 1024) = (sg1 x : Int) := by
  refine ⟨rot x 17 ^^^ rot x 19, u32_xor_nat _ _ (rot_lt _ hx) (rot_lt _ hx), ?_⟩
  rw [show (x : Int) / 1024 = ((x / 1024 : Nat) : Int) by rw [Int.natCast_ediv]; rfl, u32_xor_nat _ _ (xor_lt (rot_lt _ hx) (rot_lt _ hx)) (by omega)]
  rfl
theorem wrap_ad (a b : Nat) : IntKind.u32.wrap ((a : Int) + (b : Int)) = (ad a b : Int) := by
  unfold ad
  rw [Int.natCast_emod, Int.natCast_add]
  rfl
theorem info_words : (Tryz.prog.info? 189).map (fun i => (i.zero, i.size)) = some (some (.agg (Array.replicate 64 (.int .u32 0))), 64) := by kernel_rfl
set_option maxHeartbeats 1000000 in
theorem words_any (A : Option Addr) (c : Nat) (l : List Nat) (w : World) (hr : Reads w w.heap.size 1 A 64 (bs l)) (hl : ∀ b ∈ l, b < 256) (hc : 64 ≤ c) :
    Calls Tryz.prog 150 #[.slice A 64 c] w fun e w' => e = .returned (.agg (wV l 64)) ∧ Below w.heap.size w w' := by
  have hz := (zero_of_info info_words).1
  have hsz := Lib.hid (zero_of_info info_words).2
  have HL := Lib.hid hl; clear hl
  go_enter Tryz.func150, Tryz.ntmps150
  go_wp2_with fail
  rw [← wV_zero l]
  have hB0 := Blk.new w 189 (wV l 0)
  have hb0 : Below w.heap.size w (w.alloc (.cells (wV l 0) 189)) := (Below.refl _ _).alloc (Nat.le_refl _) _
  obtain ⟨w1, hw1⟩ : ∃ w1 : World, w1 = w.alloc (.cells (wV l 0) 189) := ⟨_, rfl⟩
  rw [← hw1] at hB0 hb0 ⊢
  clear hw1 hz
  have HB := Lib.hid hB0; clear hB0
  go_loopg [11] 16 (fun g s11 wr => ∃ t : Nat, t + g = 16 ∧ s11 = .int .i64 (t : Int) ∧ Hid (Blk wr w.heap.size 189 (wV l t)) ∧ Below w.heap.size w wr)
  case atStart => exact ⟨0, by omega, rfl, HB, hb0⟩
  case round =>
    obtain ⟨t, htg, rfl, hB, hb⟩ := hrel
    cases gk with
    | zero =>
      obtain rfl : t = 16 := by omega
      clear htg
      go_wp2_with fail
      go_loopg [5, 6, 7, 8, 9] 48 (fun g s5 s6 s7 s8 s9 wr => ∃ t : Nat, t + g = 64 ∧ 16 ≤ t ∧ s5 = .int .i64 (t : Int) ∧ Hid (Blk wr w.heap.size 189 (wV l t)) ∧ Below w.heap.size w wr)
      case atStart => exact ⟨16, by omega, by omega, rfl, hB, hb⟩
      case round =>
        obtain ⟨t, htg, ht16, rfl, hB, hb⟩ := hrel
        cases gk with
        | zero =>
          obtain rfl : t = 64 := by omega
          clear htg
          have hB0 := hB.out
          have hts := wV_size l 64
          have hb2 := Below.row hb (Nat.le_refl _) (wV l 64)
          have HB0 := Lib.hid hB0
          clear hB0
          go_wp2_with (first
            | refine wpList_load_row (by rfl) (.tmp 2) (by rfl) (by rfl) HB0.out Tryz.underlying189 (by rw [wV_size]; exact hsz.out) ?_
            | refine wpList_store_row (by rfl) (.tmp 2) (.tmp 66) (by rfl) (by rfl) (by rfl) HB0.out (by rw [wV_size]; exact hsz.out) (by rfl) (wV_one _ _) ?_)
          exact bodyPost_ret (v := .agg (wV l 64)) (results_cell_row rfl _ _ _ _ _ _ _ (by rfl) (HB0.out.row (wV l 64)) Tryz.underlying189 rfl (by rw [wV_size]; exact hsz.out)) rfl ⟨rfl, hb2⟩
        | succ g =>
          have ht : t < 64 := by omega
          have ht2 : (t : Int) < 64 := by omega
          obtain ⟨i15, h15⟩ : ∃ i : Nat, i = t - 15 := ⟨_, rfl⟩
          obtain ⟨i2, h2⟩ : ∃ i : Nat, i = t - 2 := ⟨_, rfl⟩
          obtain ⟨i16, h16⟩ : ∃ i : Nat, i = t - 16 := ⟨_, rfl⟩
          obtain ⟨i7, h7⟩ : ∃ i : Nat, i = t - 7 := ⟨_, rfl⟩
          have e15 : (t : Int) - 15 = (i15 : Int) := by omega
          have e2 : (t : Int) - 2 = (i2 : Int) := by omega
          have e16 : (t : Int) - 16 = (i16 : Int) := by omega
          have e7 : (t : Int) - 7 = (i7 : Int) := by omega
          have l15 : (i15 : Int) < 64 := by omega
          have l2 : (i2 : Int) < 64 := by omega
          have l16 : (i16 : Int) < 64 := by omega
          have l7 : (i7 : Int) < 64 := by omega
          have hcell : ∀ i, i < t → wr.cell? ⟨w.heap.size, i, none⟩ = some (.int .u32 (wAt l i : Int)) := fun i hi => by rw [hB.out.cell]; exact wV_at l t i hi (by omega)
          have c15 := hcell i15 (by omega)
          have c2 := hcell i2 (by omega)
          have C16 := Lib.hid (wV_at l t i16 (by omega) (by omega))
          have C7 := Lib.hid (wV_at l t i7 (by omega) (by omega))
          have CT := Lib.hid (wV_old l t ht)
          have hmade := wAt_made l t ht16 ht
          rw [← h15, ← h2, ← h16, ← h7] at hmade
          have b15 := wAt_lt HL.out i15
          have b2 := wAt_lt HL.out i2
          generalize wAt l i15 = x at c15 hmade b15
          generalize wAt l i2 = y at c2 hmade b2
          generalize wAt l i16 = z at C16 hmade
          generalize wAt l i7 = v at C7 hmade
          obtain ⟨m0, hm0, hm0'⟩ := sg0_bits x b15
          obtain ⟨m1, hm1, hm1'⟩ := sg1_bits y b2
          have hw1 := wrap_ad z (sg0 x)
          have hw2 := wrap_ad (ad z (sg0 x)) v
          have hw3 := wrap_ad (ad (ad z (sg0 x)) v) (sg1 y)
          rw [← hmade] at hw3
          have HM := Lib.hid hmade
          clear hmade hcell h15 h2 h16 h7
          go_wp2_with fail
          go_quiet (fail)
          go_wp2_with fail
          refine (turned_7 x _ b15).mono ?_
          rintro e w' ⟨rfl, rfl⟩
          go_wp2_with fail
          refine (turned_18 x _ b15).mono ?_
          rintro e w' ⟨rfl, rfl⟩
          go_wp2_with fail
          refine (turned_17 y _ b2).mono ?_
          rintro e w' ⟨rfl, rfl⟩
          go_wp2_with fail
          refine (turned_19 y _ b2).mono ?_
          rintro e w' ⟨rfl, rfl⟩
          go_wp2_with fail
          obtain ⟨wq, hwq⟩ : ∃ wq : World, wq = wr.drewN nq := ⟨_, rfl⟩
          have hBq : Blk wq w.heap.size 189 (wV l t) := by rw [hwq]; exact hB.out.drewN nq
          have hbq : Below w.heap.size w wq := by rw [hwq]; exact (Drawn.one wr nq).below hb
          rw [← hwq]
          clear hwq c15 c2
          have c16 := hBq.cell i16
          have c7 := hBq.cell i7
          have ct := hBq.cell t
          rw [C16.out] at c16
          rw [C7.out] at c7
          rw [CT.out] at ct
          have hfz := hBq.frozen t
          have HBQ := Lib.hid hBq; clear hBq
          have ww1 : IntKind.i64.wrap (i16 : Int) = (i16 : Int) := IntWalk.i64_in _ (by omega)
          have ww2 : IntKind.i64.wrap (i7 : Int) = (i7 : Int) := IntWalk.i64_in _ (by omega)
          refine wp_region_still_tail 15 (by kernel_rfl) (by kernel_rfl) ?_
          simp only [List.take_succ_cons, List.take_zero, List.drop_succ_cons, List.drop_zero]
          change wpStill _ _ wq.drew _ _ _
          repeat still_step
          refine wpStill_nil ?_
          go_wp2_with fail
          go_roundg g
          case measure => omega
          case rel =>
            refine ⟨t + 1, by omega, by omega, by go_num, Lib.hid ?_, ?_⟩
            · have := HBQ.out.drew.set_ t (.int .u32 ((wAt l t : Nat) : Int))
              rwa [wV_next l t ht] at this
            · exact ((Drawn.one wq 1).below hbq).setCell (Nat.le_refl _) _
    | succ g =>
      have ht : t < 16 := by omega
      have ht2 : (t : Int) < 16 := by omega
      obtain ⟨q, hq⟩ : ∃ q : Nat, q = 4 * t := ⟨_, rfl⟩
      have hqi : (t : Int) * 4 = (q : Int) := by omega
      have hq60 : q ≤ 60 := by omega
      have hcq : ¬ c = q := by omega
      have hcut := ((hr.below hb).cut (k := q) (by omega) hc).more hb.size
      rw [if_neg hcq] at hcut
      have hcut2 : Reads wr wr.heap.size 1 (A.map (·.add q)) (64 - q) (bs (l.drop q)) := by simpa [bs_drop] using hcut
      have hcall := word_any _ _ (c - q) _ wr hcut2 (fun b h => HL.out b (List.mem_of_mem_drop h)) (by omega)
      rw [hq, ← wAt_own l t ht, ← hq] at hcall
      have HC := Lib.hid hcall; clear hcut hcut2 hcall
      have HQ := Lib.hid hq; clear hq
      go_wp2_with fail
      refine HC.out.mono ?_
      rintro e w2 ⟨rfl, q2, rfl⟩
      have hBd := hB.out.drewN q2
      have hcell := hBd.cell t
      rw [wV_old l t (by omega)] at hcell
      have hfz := hBd.frozen t
      clear hBd
      go_wp2_with fail
      go_roundg g
      case measure => omega
      case rel =>
        refine ⟨t + 1, by omega, by go_num, Lib.hid ?_, ?_⟩
        · have := (hB.out.drewN q2).set_ t (.int .u32 ((wAt l t : Nat) : Int))
          rwa [wV_next l t (by omega)] at this
        · exact ((Drawn.one wr q2).below hb).setCell (by simp) _
end Go.Proofs.YtpgdlmnhomnblaaGreatDoor
namespace Go.Proofs.YtpgdlmnhomnblaaGreatDoor
open Go.RowKit
set_option linter.unusedVariables false
set_option linter.unusedSimpArgs false
set_option maxRecDepth 100000
def ShTab (w : World) : Prop := ∀ i, i < 64 → w.cell? ⟨0, i, none⟩ = some (.int .u32 (tabK.getD i 0 : Int))
theorem ShTab.lt {w : World} (h : ShTab w) : 0 < w.heap.size := World.block_lt_of_cell? w ⟨0, 0, none⟩ (h 0 (by omega))
theorem ShTab.below {w w' : World} {B : Nat} (h : ShTab w) (hb : Below B w w') (hB : 0 < B) : ShTab w' := fun i hi => (hb.cell (p := ⟨0, i, none⟩) hB).trans (h i hi)
theorem ShTab.next {w w' : World} (h : ShTab w) (hb : Below w.heap.size w w') : ShTab w' := h.below hb h.lt
theorem ShTab.grown {w w' : World} {g : Nat} (h : ShTab w) (hg : w.grownBy w' (some g)) (hne : 0 ≠ g) : ShTab w' := fun i hi => hg.cell (h i hi) (by simpa using hne)
theorem ShTab.drewN {w : World} (h : ShTab w) (q : Nat) : ShTab (w.drewN q) := h
def workL (lv : List Nat) (o : Value) (n : Nat) : Array Value := (lv.map (fun x : Nat => Value.int .u32 (x : Int)) ++ [o, .int .u64 (n : Int)]).toArray
theorem workL_at {lv : List Nat} {o : Value} {n i x : Nat} (h : lv[i]? = some x) : (workL lv o n)[i]? = some (.int .u32 (x : Int)) := by
  have hi := (List.getElem?_eq_some_iff.1 h).1
  unfold workL
  rw [List.getElem?_toArray, List.getElem?_append_left (by simpa using hi), List.getElem?_map, h]
  rfl
theorem workL_open {lv : List Nat} {o : Value} {n : Nat} (h : lv.length = 8) : (workL lv o n)[8]? = some o := by
  unfold workL
  rw [List.getElem?_toArray, List.getElem?_append_right (by simp [h]), List.length_map, h]
  rfl
theorem workL_size {lv : List Nat} {o : Value} {n : Nat} (h : lv.length = 8) : (workL lv o n)[9]? = some (.int .u64 (n : Int)) := by
  unfold workL
  rw [List.getElem?_toArray, List.getElem?_append_right (by simp [h]), List.length_map, h]
  rfl
theorem workL_set {lv : List Nat} {o : Value} {n i : Nat} (x : Nat) (h : i < lv.length) : (workL lv o n).setIfInBounds i (.int .u32 (x : Int)) = workL (lv.set i x) o n := by
  unfold workL
  rw [List.setIfInBounds_toArray, List.set_append_left _ _ (by simpa using h), List.map_set]
theorem workL_setOpen {lv : List Nat} {o : Value} {n : Nat} (o' : Value) (h : lv.length = 8) : (workL lv o n).setIfInBounds 8 o' = workL lv o' n := by
  unfold workL
  rw [List.setIfInBounds_toArray, List.set_append_right _ _ (by simp [h]), List.length_map, h]
  rfl
theorem workL_setSize {lv : List Nat} {o : Value} {n : Nat} (n' : Nat) (h : lv.length = 8) : (workL lv o n).setIfInBounds 9 (.int .u64 (n' : Int)) = workL lv o n' := by
  unfold workL
  rw [List.setIfInBounds_toArray, List.set_append_right _ _ (by simp [h]), List.length_map, h]
  rfl
theorem list_length (s : S8) : s.list.length = 8 := rfl
def mixL (s r : S8) (i : Nat) : List Nat := (add8 s r).list.take i ++ s.list.drop i
theorem mixL_zero (s r : S8) : mixL s r 0 = s.list := rfl
theorem mixL_all (s r : S8) : mixL s r 8 = (add8 s r).list := rfl
attribute [irreducible] workL
theorem bg1_bits (x : Nat) (hx : x < 4294967296) : ∃ m : Nat, bits .xor .u32 (rot x 6 : Int) (rot x 11 : Int) = (m : Int) ∧ bits .xor .u32 (m : Int) (rot x 25 : Int) = (bg1 x : Int) :=
  ⟨rot x 6 ^^^ rot x 11, u32_xor_nat _ _ (rot_lt _ hx) (rot_lt _ hx), u32_xor_nat _ _ (xor_lt (rot_lt _ hx) (rot_lt _ hx)) (rot_lt _ hx)⟩
theorem bg0_bits (x : Nat) (hx : x < 4294967296) : ∃ m : Nat, bits .xor .u32 (rot x 2 : Int) (rot x 13 : Int) = (m : Int) ∧ bits .xor .u32 (m : Int) (rot x 22 : Int) = (bg0 x : Int) :=
  ⟨rot x 2 ^^^ rot x 13, u32_xor_nat _ _ (rot_lt _ hx) (rot_lt _ hx), u32_xor_nat _ _ (xor_lt (rot_lt _ hx) (rot_lt _ hx)) (rot_lt _ hx)⟩
theorem notS_u32 (s : Nat) (hs : s < 4294967296) : bits .xor .u32 IntKind.u32.max (s : Int) = ((4294967295 - s : Nat) : Int) := by
  have h : IntKind.u32.max = ((4294967295 : Nat) : Int) := rfl
  rw [h, u32_xor_nat 4294967295 s (by omega) hs]
  have h1 := congrArg BitVec.toNat (BitVec.xor_allOnes (x := BitVec.ofNat 32 s))
  rw [BitVec.toNat_xor, BitVec.toNat_not, BitVec.toNat_allOnes, BitVec.toNat_ofNat, Nat.mod_eq_of_lt (by omega)] at h1
  rw [Nat.xor_comm]
  exact congrArg Int.ofNat h1
theorem ch_bits (e f g : Nat) (he : e < 4294967296) (hf : f < 4294967296) (hg : g < 4294967296) : ∃ m n p : Nat, bits .and .u32 (e : Int) (f : Int) = (m : Int) ∧ bits .xor .u32 IntKind.u32.max (e : Int) = (n : Int) ∧ (4294967295 : Int) - (e : Int) = (n : Int) ∧ bits .and .u32 (n : Int) (g : Int) = (p : Int) ∧ bits .or .u32 (m : Int) (p : Int) = (ch e f g : Int) :=
  ⟨e &&& f, 4294967295 - e, (4294967295 - e) &&& g, u32_and_nat _ _ he hf, notS_u32 e he, by omega, u32_and_nat _ _ (by omega) hg, u32_or_nat _ _ (and_lt he) (and_lt (by omega))⟩
theorem maj_bits (a b c : Nat) (ha : a < 4294967296) (hb : b < 4294967296) (hc : c < 4294967296) : ∃ m n p q : Nat, bits .and .u32 (a : Int) (b : Int) = (m : Int) ∧ bits .and .u32 (a : Int) (c : Int) = (n : Int) ∧ bits .or .u32 (m : Int) (n : Int) = (p : Int) ∧ bits .and .u32 (b : Int) (c : Int) = (q : Int) ∧ bits .or .u32 (p : Int) (q : Int) = (maj a b c : Int) :=
  ⟨a &&& b, a &&& c, a &&& b ||| a &&& c, b &&& c, u32_and_nat _ _ ha hb, u32_and_nat _ _ ha hc, u32_or_nat _ _ (and_lt ha) (and_lt ha), u32_and_nat _ _ hb hc, u32_or_nat _ _ (or_lt (and_lt ha) (and_lt ha)) (and_lt hb)⟩
theorem quiet_wd0 {P : Program} {f : FuncId} {args : Array Value} {w : World} {n x : Nat} (h : Calls P f args (w.drewN n) (Wd (w.drewN n) x)) : Calls P f args (w.drewN n) fun e w'' => e = .returned (.int .u32 (x : Int)) ∧ ∃ m, w'' = w.drewN m :=
  h.mono fun _ _ ⟨he, hm⟩ => ⟨he, n, hm.symm⟩
theorem quiet_wd {P : Program} {f : FuncId} {args : Array Value} {w : World} {a n x : Nat} (h : Calls P f args (w.drewN (a + n)) (Wd (w.drewN (a + n)) x)) : Calls P f args (w.drewN (a + n)) fun e w'' => e = .returned (.int .u32 (x : Int)) ∧ ∃ m, w'' = w.drewN (a + m) :=
  h.mono fun _ _ ⟨he, hm⟩ => ⟨he, n, hm.symm⟩
end Go.Proofs.YtpgdlmnhomnblaaGreatDoor
namespace Go.Proofs.YtpgdlmnhomnblaaGreatDoor
open Go.ChangeShapes Go.WideShapes Go.ChangeAt Go.RowKit Go.WideMaps
set_option linter.unusedVariables false
set_option linter.unusedSimpArgs false
set_option maxRecDepth 100000
theorem gTab : Tryz.prog.globalNamed "estreat/sha.table" = some 0 := by kernel_rfl
theorem gTabType : (Tryz.prog.globals[0]?).map (·.type) = some 189 := by kernel_rfl
theorem cellsTab : Tryz.prog.cellsOf 189 = 64 := by kernel_rfl
theorem cellsWord : Tryz.prog.cellsOf 129 = 1 := by kernel_rfl
theorem tab_of_laid {W : World} (h : laidMetH Tryz.prog [("estreat/sha.table", Rows.laid_estreat_sha_table)] W) : ShTab W := by
  have ht : Lib.TabIs Tryz.prog W "estreat/sha.table" .u32 (tabK.map fun x : Nat => (x : Int)) := Lib.tabIs_of_head (rest := []) gTab gTabType Tryz.underlying189 Tryz.underlying129 cellsWord cellsTab h
  intro i hi
  have := ht.cell gTab i (by rw [List.length_map, tabK_length]; exact hi)
  rw [this]
  congr 2
  rw [List.getD_eq_getElem?_getD, List.getD_eq_getElem?_getD, List.getElem?_map, List.getElem?_eq_getElem (by rw [tabK_length]; exact hi)]
  rfl
noncomputable def laidWorldT (os : Os) : World :=
  { World.holding Tryz.prog os ⟨#[], #[], []⟩ with heap := (World.holding Tryz.prog os ⟨#[], #[], []⟩).heap.modify 0 fun
      | .cells _ t frozen => .cells #[.int .u32 1116352408, .int .u32 1899447441, .int .u32 3049323471, .int .u32 3921009573, .int .u32 961987163, .int .u32 1508970993, .int .u32 2453635748, .int .u32 2870763221, .int .u32 3624381080, .int .u32 310598401, .int .u32 607225278, .int .u32 1426881987, .int .u32 1925078388, .int .u32 2162078206, .int .u32 2614888103, .int .u32 3248222580, .int .u32 3835390401, .int .u32 4022224774, .int .u32 264347078, .int .u32 604807628, .int .u32 770255983, .int .u32 1249150122, .int .u32 1555081692, .int .u32 1996064986, .int .u32 2554220882, .int .u32 2821834349, .int .u32 2952996808, .int .u32 3210313671, .int .u32 3336571891, .int .u32 3584528711, .int .u32 113926993, .int .u32 338241895, .int .u32 666307205, .int .u32 773529912, .int .u32 1294757372, .int .u32 1396182291, .int .u32 1695183700, .int .u32 1986661051, .int .u32 2177026350, .int .u32 2456956037, .int .u32 2730485921, .int .u32 2820302411, .int .u32 3259730800, .int .u32 3345764771, .int .u32 3516065817, .int .u32 3600352804, .int .u32 4094571909, .int .u32 275423344, .int .u32 430227734, .int .u32 506948616, .int .u32 659060556, .int .u32 883997877, .int .u32 958139571, .int .u32 1322822218, .int .u32 1537002063, .int .u32 1747873779, .int .u32 1955562222, .int .u32 2024104815, .int .u32 2227730452, .int .u32 2361852424, .int .u32 2428436474, .int .u32 2756734187, .int .u32 3204031479, .int .u32 3329325298] t frozen
      | o => o }
end Go.Proofs.YtpgdlmnhomnblaaGreatDoor
namespace Go.Proofs.YtpgdlmnhomnblaaGreatDoor
open Go.ChangeShapes Go.WideShapes Go.RowKit
set_option maxRecDepth 100000
def laidETab : List (String × DataW Unit) := [("errors.errorType", Rows.laid_errors_errorType), ("estreat/sha.table", Rows.laid_estreat_sha_table)]
theorem tabs_of_laid {W : World} (h : laidMetH Tryz.prog laidETab W) : Met W ∧ ShTab W := by
  have h' : laidMet Tryz.prog [("estreat/sha.table", Rows.laid_estreat_sha_table)] W ∧ handlesMet Tryz.prog laidErr W := h
  exact ⟨met_of_laid ⟨laidMet_nil _ _, h'.2⟩, tab_of_laid h'.1⟩
noncomputable def laidWorldET (os : Os) : World :=
  { laidWorldT os with heap := (laidWorldT os).heap.modify 1 fun
      | .cells _ t frozen => .cells #[.iface 272 (.agg #[.pointer (some ⟨2, 196, none⟩)])] t frozen
      | o => o }
theorem laidWorldET_met (os : Os) (args : Array Value) : laidMetH Tryz.prog laidETab ((laidWorldET os).forCall (fun _ _ => 0) ⟨#[], args, []⟩).memory :=
  laidMetH_of_parts (laidMet_of_run' 8 (by kernel_rfl) (by kernel_rfl)) (by kernel_rfl)
end Go.Proofs.YtpgdlmnhomnblaaGreatDoor
namespace Go.Proofs.YtpgdlmnhomnblaaGreatDoor
open Go.ChangeShapes Go.WideShapes Go.Deep Go.RowKit
section
variable {H : Type} {enc : TypeId × Value → H} {P : Program} {w : World} {base : Nat} {spare : Nat → Bool} {held : Bool}
theorem open_slice_fields {t e : TypeId} {fs : Array Field} {fuel : Nat} {cs : List Value} {x : DataW H × List MemPlace} (ht : P.underlying t = some (.slice e)) (he : P.underlying e = some (.struct fs))
    (hone : oneCellFields P fs = true) (hC : P.cellsOf e = fs.size) (h : DataW.trod enc P w base spare held fuel t cs = some x) :
    (cs = [.slice none 0 0] ∧ x = (.nil, [])) ∨
    ∃ (a : Addr) (len cap m : Nat) (D : Nat → DataW H) (Pl : Nat → List MemPlace), cs = [.slice (some a) len cap] ∧ base ≤ a.block ∧ len ≤ cap ∧ cap ≤ maxLen ∧ m = (if spare a.block then cap else len) ∧
      x = (.slice ((List.range len).map D) ((List.range (m - len)).map fun j => D (len + j)), MemPlace.row a (m * fs.size) ++ (List.range m).flatMap Pl) ∧
      ∀ i, i < m → ∃ (ys : List (DataW H × List MemPlace)) (n : Nat), D i = .agg (ys.map (·.1)) ∧ Pl i = ys.flatMap (·.2) ∧ ys.length = fs.size ∧
        ∀ (j : Nat) (f : Field), fs[j]? = some f → ∃ (v : Value) (y : DataW H × List MemPlace), w.cell? (a.add (i * fs.size + j)) = some v ∧ ys[j]? = some y ∧ DataW.trod enc P w base spare held n f.type [v] = some y := by
  rcases open_slice ht h with h0 | ⟨a, len, cap, m, n, D, Pl, hcs, hb, hl, hm, hmm, hx, hi⟩
  · exact .inl h0
  · refine .inr ⟨a, len, cap, m, D, Pl, hcs, hb, hl, hm, hmm, by rw [hC] at hx; exact hx, fun i him => ?_⟩
    obtain ⟨cs', hc, ht'⟩ := hi i him
    rw [hC] at hc
    obtain ⟨ys, n', hn', hy, hlen, hyl, hf⟩ := DataW.trod_struct he ht'
    obtain ⟨_, hcl, hat⟩ := World.cells?_some hc
    simp only [Prod.mk.injEq] at hy
    refine ⟨ys, n', hy.1, hy.2, hyl, fun j f hj => ?_⟩
    obtain ⟨ho, hk⟩ := hone_of hone j f hj
    have hjl : j < fs.size := (Array.getElem?_eq_some_iff.1 hj).1
    have hcell := hat j hjl
    have hv : cs'[j]? = some (cs'[j]'(by omega)) := List.getElem?_eq_getElem (by omega)
    have h1 := hf j f hj
    rw [ho, hk] at h1
    have hone' : (cs'.drop j).take 1 = [cs'[j]'(by omega)] := by
      rw [List.drop_eq_getElem_cons (by omega)]
      rfl
    rw [hone'] at h1
    have hys : ys[j]? = some (ys[j]'(by omega)) := List.getElem?_eq_getElem (by omega)
    refine ⟨_, _, ?_, hys, h1.trans hys⟩
    rw [← Go.Deep.add_add, hcell, hv]
end
end Go.Proofs.YtpgdlmnhomnblaaGreatDoor
namespace Go.Proofs.YtpgdlmnhomnblaaGreatDoor
open Go.RowKit
set_option linter.unusedVariables false
set_option linter.unusedSimpArgs false
set_option maxRecDepth 100000
def zigI (n : Int) : Int := if 0 ≤ n then 2 * n else -2 * n - 1
def zagI (v : Int) : Int := if v % 2 = 0 then v / 2 else -(v / 2) - 1
theorem zig_zag (v : Int) (h : 0 ≤ v) : zigI (zagI v) = v := by unfold zagI zigI; split <;> split <;> omega
theorem zigI_range (n : Int) (h1 : -9223372036854775808 ≤ n) (h2 : n ≤ 9223372036854775807) : 0 ≤ zigI n ∧ zigI n < 18446744073709551616 := by unfold zigI; split <;> omega
theorem zagI_range (v : Int) (h1 : 0 ≤ v) (h2 : v < 18446744073709551616) : -9223372036854775808 ≤ zagI v ∧ zagI v ≤ 9223372036854775807 := by unfold zagI; split <;> omega
theorem xor_ones (x : Nat) (h : x < 18446744073709551616) : x ^^^ 18446744073709551615 = 18446744073709551615 - x := by
  have h1 : (BitVec.ofNat 64 x ^^^ BitVec.allOnes 64).toNat = (~~~ (BitVec.ofNat 64 x)).toNat := by rw [BitVec.xor_allOnes]
  rw [BitVec.toNat_xor, BitVec.toNat_not, BitVec.toNat_ofNat, BitVec.toNat_allOnes] at h1
  have e : x % 2 ^ 64 = x := Nat.mod_eq_of_lt (by omega)
  rw [e] at h1
  exact h1
theorem zig_low (n : Int) (h0 : 0 ≤ n) (h2 : n ≤ 9223372036854775807) : bits .xor .u64 (n * 2) (n / 9223372036854775808) = zigI n := by
  obtain ⟨m, rfl⟩ := Int.eq_ofNat_of_zero_le h0
  rw [show ((m : Int) / 9223372036854775808) = ((0 : Nat) : Int) by omega, show ((m : Int) * 2) = ((m * 2 : Nat) : Int) by omega, u64_xor_nat _ _ (by omega) (by omega), Nat.xor_zero]
  unfold zigI
  rw [if_pos h0]; omega
theorem zig_high (n : Int) (h0 : ¬ 0 ≤ n) (h1 : -9223372036854775808 ≤ n) :
    bits .xor .u64 (IntKind.u64.wrap (IntKind.u64.wrap n * 2)) (IntKind.u64.wrap (n / 9223372036854775808)) = zigI n := by
  obtain ⟨m, hm⟩ := Int.eq_ofNat_of_zero_le (show 0 ≤ 2 * n + 18446744073709551616 by omega)
  rw [show IntKind.u64.wrap (n / 9223372036854775808) = ((18446744073709551615 : Nat) : Int) by rw [IntKind.wrap_u64]; omega, show IntKind.u64.wrap (IntKind.u64.wrap n * 2) = (m : Int) by rw [IntKind.wrap_u64, IntKind.wrap_u64]; omega,
    u64_xor_nat _ _ (by omega) (by omega), xor_ones _ (by omega)]
  unfold zigI
  rw [if_neg h0]; omega
end Go.Proofs.YtpgdlmnhomnblaaGreatDoor
