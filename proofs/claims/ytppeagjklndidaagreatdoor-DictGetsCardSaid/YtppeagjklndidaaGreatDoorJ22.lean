/- Texts joined: Same DcAwake BoolRow Miss. -/
import Derived.Test.YtppeagjklndidaaGreatDoorJ2
import Derived.Test.YtppeagjklndidaaGreatDoorJ21
import Derived.Test.YtppeagjklndidaaGreatDoorWords
/- Contracts of the statements' own small functions: Same tells whether two slices hold the same bytes; it changes nothing. -/
namespace Go.Proofs.YtppeagjklndidaaGreatDoor
open Go.RowKit
set_option linter.unusedVariables false
set_option linter.unusedSimpArgs false
set_option maxRecDepth 100000

def sameB (l m : List Nat) : Bool := decide (l = m)
theorem sameB_true {l m : List Nat} (h : l = m) : sameB l m = true := by unfold sameB; simp [h]
theorem sameB_false {l m : List Nat} (h : l ≠ m) : sameB l m = false := by unfold sameB; simp [h]

set_option maxHeartbeats 400000 in
theorem same_any (A A' : Option Addr) (n c m c' : Nat) (l1 l2 : List Nat) (w : World) (h1 : Reads w w.heap.size 1 A n (bs l1)) (h2 : Reads w w.heap.size 1 A' m (bs l2)) (hn : n ≤ 140737488355328) :
    Calls Tryz.prog 14 #[.slice A n c, .slice A' m c'] w fun e w' => e = .returned (.bool (sameB l1 l2)) ∧ Drawn w w' := by
  have e1 : l1.length = n := by have := h1.1; rw [bs_length] at this; omega
  have e2 : l2.length = m := by have := h2.1; rw [bs_length] at this; omega
  by_cases hnm : n = m
  · subst hnm
    have E1 := Lib.hid e1; have E2 := Lib.hid e2; clear e1 e2
    go_enter Tryz.func14, Tryz.ntmps14
    go_wp2_with fail
    go_loopw [5] (fun i wr => ∃ k : Nat, k ≤ n ∧ i = .int .i64 (k : Int) ∧ Hid (l1.take k = l2.take k) ∧ ∃ q, wr = w.drewN q) (fun i _ => n - (intOf i).toNat)
    case atStart => exact ⟨0, Nat.zero_le _, rfl, Lib.hid (by simp), 0, rfl⟩
    case round =>
      obtain ⟨k, hk, rfl, hpre, q, rfl⟩ := hrel
      by_cases hlt : k < n
      · obtain ⟨ad, u, rfl, _, hu, hc⟩ := h1.at_ hlt
        obtain ⟨ad', u', rfl, _, hu', hc'⟩ := h2.at_ hlt
        obtain ⟨b, hb, rfl⟩ := bs_at hu
        obtain ⟨b', hb', rfl⟩ := bs_at hu'
        have HB := Lib.hid hb; have HB' := Lib.hid hb'
        clear hb hb' hu hu'
        by_cases hbb : b = b'
        · subst hbb
          go_wp2_with fail
          go_quiet (fail)
          go_wp2_with fail
          have hpre' := hpre.out
          refine ⟨⟨k + 1, by omega, by go_num, Lib.hid ?_, _, rfl⟩, by simp [intOf]; omega⟩
          rw [List.take_add_one, List.take_add_one, hpre', HB.out, HB'.out]
        · have hne : ((b : Int) != (b' : Int)) = true := by simp; omega
          have hne' : ((b : Int) == (b' : Int)) = false := by simp; omega
          go_wp2_with fail
          go_quiet (fail)
          go_wp2_with fail
          go_ret
          refine ⟨ret_of (congrArg Value.bool (sameB_false ?_).symm), (Drawn.one w q).more _⟩
          intro h
          have := HB.out
          rw [h, HB'.out] at this
          injection this with this
          omega
      · go_wp2_with fail
        go_ret
        obtain rfl : k = n := by omega
        have e1 := E1.out; have e2 := E2.out; have hpre' := hpre.out
        refine ⟨ret_of (congrArg Value.bool (sameB_true ?_).symm), _, rfl⟩
        rwa [List.take_of_length_le (by omega), List.take_of_length_le (by omega)] at hpre'
  · have hne : ((n : Int) != (m : Int)) = true := by simp; omega
    have hne' : ((n : Int) == (m : Int)) = false := by simp; omega
    have E1 := Lib.hid e1; have E2 := Lib.hid e2; clear e1 e2
    go_enter Tryz.func14, Tryz.ntmps14
    go_wp2_with fail
    go_ret
    have e1 := E1.out; have e2 := E2.out
    refine ⟨ret_of (congrArg Value.bool (sameB_false ?_).symm), Drawn.refl w⟩
    rintro rfl
    omega

theorem same_true (A A' : Option Addr) (n c m c' : Nat) (l : List Nat) (w : World) (h1 : Reads w w.heap.size 1 A n (bs l)) (h2 : Reads w w.heap.size 1 A' m (bs l)) (hn : n ≤ 140737488355328) :
    Calls Tryz.prog 14 #[.slice A n c, .slice A' m c'] w fun e w' => e = .returned (.bool true) ∧ Drawn w w' :=
  (same_any A A' n c m c' l l w h1 h2 hn).mono fun e w' ⟨he, hw⟩ => ⟨by rw [he, sameB_true rfl], hw⟩
end Go.Proofs.YtppeagjklndidaaGreatDoor

/- Contract of layer 11's awake: the document's example holds. -/
namespace Go.Proofs.YtppeagjklndidaaGreatDoor
open Go.RowKit
set_option linter.unusedVariables false
set_option linter.unusedSimpArgs false
set_option maxRecDepth 100000

theorem dc_ex : dc [7, 5, 7] = [2, 10, 1, 1, 5] := by decide +kernel
theorem ex_in : ∀ z ∈ ([7, 5, 7] : List Int), In64 z := by
  intro z hz
  simp at hz
  unfold In64
  omega
theorem awake_any (w : World) : Calls Tryz.prog 5 #[] w fun e w' => e = .returned (.bool true) ∧ Below w.heap.size w w' := by
  go_enter Tryz.func5, Tryz.ntmps5
  go_wp2_with fail
  refine (dcPut_any (some ⟨w.heap.size, 0, none⟩) 3 3 [7, 5, 7] _ (reads_blk (Blk.new w 2 #[.int .i64 7, .int .i64 5, .int .i64 7]) _ 3 _ (by simp) rfl rfl) ex_in (by omega)).mono ?_
  rw [dc_ex]
  rintro e w1 ⟨v, rfl, hown, hb⟩
  obtain ⟨A, c, rfl, _, _, hr⟩ := own_slice hown
  have hb1 : Below w.heap.size w w1 := ((Below.refl _ _).alloc (Nat.le_refl _) _).trans (hb.mono (by simp))
  clear hown hb
  go_wp2_with fail
  refine (same_true A _ 5 c 5 5 [2, 10, 1, 1, 5] _ ((hr.alloc (Nat.le_refl _) _).more (by simp)) (reads_blk (Blk.new w1 5 #[.int .u8 2, .int .u8 10, .int .u8 1, .int .u8 1, .int .u8 5]) _ 5 _ (by simp) rfl rfl) (by omega)).mono ?_
  rintro e w2 ⟨rfl, hd⟩
  go_wp2_with fail
  go_ret
  exact ⟨rfl, hd.below (hb1.alloc hb1.size _)⟩
end Go.Proofs.YtppeagjklndidaaGreatDoor

/- Truths in memory: those of a function on the first so many numbers, as values. No condition. -/
namespace Go.Proofs.YtppeagjklndidaaGreatDoor
open Go.RowKit
set_option linter.unusedVariables false
set_option linter.unusedSimpArgs false
set_option maxRecDepth 100000

def bl (f : Nat → Bool) (n : Nat) : List Value := (List.range n).map fun j => Value.bool (f j)
theorem bl_length (f : Nat → Bool) (n : Nat) : (bl f n).length = n := by simp [bl]
theorem bl_snoc (f : Nat → Bool) (n : Nat) : bl f (n + 1) = bl f n ++ [Value.bool (f n)] := by simp [bl, List.range_succ]
theorem bl_at (f : Nat → Bool) {n j : Nat} (h : j < n) : (bl f n)[j]? = some (Value.bool (f j)) := by simp [bl, h]
theorem bl_congr {f g : Nat → Bool} {n : Nat} (h : ∀ k, k < n → f k = g k) : bl f n = bl g n := by
  unfold bl
  apply List.map_congr_left
  intro k hk
  rw [h k (by simpa using hk)]
theorem bl_take (f : Nat → Bool) {n m : Nat} (h : m ≤ n) : (bl f n).take m = bl f m := by
  unfold bl
  rw [← List.map_take, List.take_range, Nat.min_eq_left h]
theorem bl_set (f : Nat → Bool) {n k : Nat} (h : k < n) : (bl f n).set k (.bool true) = bl (fun j => decide (j = k) || f j) n := by
  apply List.ext_getElem?
  intro j
  rw [List.getElem?_set]
  by_cases hj : j < n
  · rw [bl_at _ hj, bl_at _ hj, bl_length]
    by_cases e : k = j
    · subst e; simp [h]
    · have : ¬ j = k := fun h => e h.symm
      simp [e, this]
  · rw [List.getElem?_eq_none (by rw [bl_length]; omega), List.getElem?_eq_none (by rw [bl_length]; omega)]
    by_cases e : k = j
    · omega
    · simp [e]
theorem one_bool (b : Bool) : ∀ u ∈ [Value.bool b], u.oneCell' = true := by intro u hu; simp at hu; rw [hu]; rfl
theorem info_bool : (Tryz.prog.info? 4).map (fun i => (i.zero, i.size, i.bytes)) = some (some (.bool false), 1, 1) := by kernel_rfl
/-- The cell at a place. -/
theorem bl_cell {w : World} {B n : Nat} {A : Option Addr} {f : Nat → Bool} (h : Reads w B 1 A n (bl f n)) {k : Nat} (hk : k < n) : ∃ ad, A = some ad ∧ ad.block < B ∧ w.cell? (ad.add k) = some (.bool (f k)) := by
  obtain ⟨ad, u, rfl, hb, hu, hc⟩ := h.at_ hk
  rw [bl_at f hk] at hu
  obtain rfl := Option.some.inj hu
  exact ⟨ad, rfl, hb, hc⟩
end Go.Proofs.YtppeagjklndidaaGreatDoor

/- Plain facts: the first place at which something doesn't hold, or -1. No program. -/
namespace Go.Proofs.YtppeagjklndidaaGreatDoor
open Go.RowKit
set_option linter.unusedVariables false
set_option linter.unusedSimpArgs false

/-- The first place below 'n' at which it doesn't hold, or -1. -/
def missI (f : Nat → Bool) (n : Nat) : Int := match (List.range n).find? (fun j => !f j) with | some j => (j : Int) | none => -1
theorem miss_all {f : Nat → Bool} {n : Nat} : (0 ≤ missI f n) ↔ (List.range n).all f = false := by
  unfold missI
  cases h : (List.range n).find? (fun j => !f j) with
  | none =>
    have h1 := List.find?_eq_none.1 h
    simp only
    constructor
    · intro h2; omega
    · intro h2
      have h3 : (List.range n).all f = true := List.all_eq_true.2 fun x hx => by have := h1 x hx; simpa using this
      rw [h3] at h2; cases h2
  | some j =>
    have h1 := List.find?_some h
    have h2 := List.mem_of_find?_eq_some h
    simp only
    constructor
    · intro _
      refine Bool.eq_false_iff.2 fun h3 => ?_
      have := List.all_eq_true.1 h3 j h2
      rw [this] at h1; cases h1
    · intro _; omega
theorem find_step {f : Nat → Bool} {n : Nat} {k : Nat} (hk : k ≤ n) (h : ∀ j, j < k → f j = true) : (k < n → f k = false → missI f n = (k : Int)) ∧ (k = n → missI f n = -1) := by
  constructor
  · intro hlt hf
    unfold missI
    have e : List.range n = List.range k ++ (List.range (n - k)).map (k + ·) := by
      rw [← List.range_add]; congr 1; omega
    have e1 : (List.range k).find? (fun j => !f j) = none := List.find?_eq_none.2 fun x hx => by
      have := h x (by simpa using hx)
      simp [this]
    have e2 : ((List.range (n - k)).map (k + ·)).find? (fun j => !f j) = some k := by
      obtain ⟨m, hm⟩ : ∃ m, n - k = m + 1 := ⟨n - k - 1, by omega⟩
      rw [hm, List.range_succ_eq_map, List.map_cons, List.find?_cons_of_pos (by simp [hf])]
      rfl
    rw [e, List.find?_append, e1, e2]
    rfl
  · intro he
    subst he
    unfold missI
    rw [List.find?_eq_none.2 fun x hx => by have := h x (by simpa using hx); simp [this]]
end Go.Proofs.YtppeagjklndidaaGreatDoor
