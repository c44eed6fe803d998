/- Texts joined: DlRead Take. -/
import Derived.Test.YthlfplljbbnaoaaGreatDoorJ24
import Derived.Test.YthlfplljbbnaoaaGreatDoorJ6
import Derived.Test.YthlfplljbbnaoaaGreatDoorJ28
import Derived.Deep.RegionWith
import Derived.StillTailTactics
import Derived.Test.YthlfplljbbnaoaaGreatDoorJ2
/- Plain facts on reading the form of steps: the reader behind each part, the numbers, the first error. -/
namespace Go.Proofs.YthlfplljbbnaoaaGreatDoor
open Go.RowKit
set_option linter.unusedVariables false
set_option linter.unusedSimpArgs false
set_option maxRecDepth 100000

theorem unpackS_lt (t : List Nat) (n w : Int) : (∀ a ∈ unpackS t n w, a < 18446744073709551616) ∧ (unpackS t n w).length ≤ 65536 := by
  unfold unpackS
  by_cases h : unpackE t n w = 0
  · obtain ⟨h1, h2, h3, h4, _, _⟩ := unpackE_0 h
    rw [if_pos h]
    refine ⟨fun a ha => Nat.lt_of_lt_of_le (dg_lt _ _ _ a ha) (Nat.pow_le_pow_right (j := 64) (by omega) (by omega)), ?_⟩
    rw [dg_length]; omega
  · rw [if_neg h]; simp
/-- What readBehind takes, and the reader's place and error behind it: the steps behind the first number. -/
def rbS (b : List Nat) (at_ : Nat) (x : Option (Int × Nat)) (n : Int) : List Nat × Nat × Option (Int × Nat) :=
  let f := fixS b at_ x 1
  let x2 := if 64 < f.1 then failS f.2.1 f.2.2 5 else f.2.2
  let t := takeS b f.2.1 x2 ((b.length : Int) - f.2.1)
  let x4 := failS t.2.1 t.2.2 (unpackE t.1 n f.1)
  (unpackS t.1 n f.1, t.2.1, if wd (unpackS t.1 n f.1) = f.1 then x4 else failS t.2.1 x4 4)
theorem rb_lt (b : List Nat) (at_ : Nat) (x : Option (Int × Nat)) (n : Int) : (∀ a ∈ (rbS b at_ x n).1, a < 18446744073709551616) ∧ (rbS b at_ x n).1.length ≤ 65536 := unpackS_lt _ _ _
theorem rb_some (b : List Nat) (at_ : Nat) (y : Int × Nat) (n : Int) : (rbS b at_ (some y) n).2 = (at_, some y) := by
  unfold rbS fixS takeS failS
  simp
theorem rb_short (b : List Nat) (at_ : Nat) (n : Int) (h : at_ = b.length) : (rbS b at_ none n).2 = (at_, some (2, at_)) := by
  subst h
  unfold rbS fixS takeS failS
  simp
theorem fix_byte (b : List Nat) (at_ v : Nat) (h : b[at_]? = some v) : fixS b at_ none 1 = (v, at_ + 1, none) := by
  obtain ⟨hl, rfl⟩ := List.getElem?_eq_some_iff.1 h
  unfold fixS
  simp only
  rw [if_neg (by omega), if_neg (by omega)]
  have e : (b.drop at_).take (1 : Int).toNat = [b[at_]] := by
    rw [List.drop_eq_getElem_cons hl]; rfl
  rw [e]
  rfl
theorem fix_small (b : List Nat) (at_ : Nat) (x : Option (Int × Nat)) (hb : ∀ v ∈ b, v < 256) : (fixS b at_ x 1).1 < 256 := by
  cases x with
  | some y => show (0 : Nat) < 256; omega
  | none =>
    cases h : b[at_]? with
    | none =>
      have := List.getElem?_eq_none_iff.1 h
      unfold fixS
      simp only
      rw [if_neg (by omega), if_pos (by omega)]
      show (0 : Nat) < 256
      omega
    | some v => rw [fix_byte b at_ v h]; exact hb v (List.mem_of_getElem? h)
theorem rb_byte (b : List Nat) (at_ v : Nat) (n : Int) (h : b[at_]? = some v) :
    rbS b at_ none n =
      let x2 := if 64 < v then some ((5 : Int), at_ + 1) else none
      let t := takeS b (at_ + 1) x2 ((b.length : Int) - (at_ + 1 : Nat))
      let x4 := failS t.2.1 t.2.2 (unpackE t.1 n v)
      (unpackS t.1 n v, t.2.1, if wd (unpackS t.1 n v) = v then x4 else failS t.2.1 x4 4) := by
  unfold rbS
  rw [fix_byte b at_ v h]
  rfl
theorem rb_wide (b : List Nat) (at_ v : Nat) (n : Int) (h : b[at_]? = some v) (hv : 64 < v) : (rbS b at_ none n).2 = (at_ + 1, some (5, at_ + 1)) := by
  rw [rb_byte b at_ v n h, if_pos hv]
  unfold takeS failS
  simp
theorem take_rest (b : List Nat) (at_ : Nat) (h : at_ ≤ b.length) : takeS b at_ none ((b.length : Int) - (at_ : Nat)) = (b.drop at_, b.length, none) := by
  unfold takeS
  simp only
  rw [if_neg (by omega), if_neg (by omega), List.take_of_length_le (by rw [List.length_drop]; omega)]
  congr 2
  omega
theorem rb_rest (b : List Nat) (at_ v : Nat) (n : Int) (h : b[at_]? = some v) (hv : ¬ 64 < v) :
    rbS b at_ none n = (unpackS (b.drop (at_ + 1)) n v, b.length, if wd (unpackS (b.drop (at_ + 1)) n v) = v then failS b.length none (unpackE (b.drop (at_ + 1)) n v) else failS b.length (failS b.length none (unpackE (b.drop (at_ + 1)) n v)) 4) := by
  have hl := (List.getElem?_eq_some_iff.1 h).1
  rw [rb_byte b at_ v n h, if_neg hv]
  simp only
  rw [take_rest b (at_ + 1) (by omega)]
/-- Behind the first number: the first error, the steps. -/
def rbE (b : List Nat) (at_ : Nat) (n : Int) : Int :=
  match b[at_]? with
  | none => 2
  | some v => if 64 < v then 5 else if unpackE (b.drop (at_ + 1)) n v = 0 then (if wd (unpackS (b.drop (at_ + 1)) n v) = v then 0 else 4) else (unpackE (b.drop (at_ + 1)) n v : Int)
theorem rb_end (b : List Nat) (at_ : Nat) (n : Int) (hat : at_ ≤ b.length) : (endS b (rbS b at_ none n).2.1 (rbS b at_ none n).2.2).1 = rbE b at_ n := by
  unfold rbE
  cases h : b[at_]? with
  | none =>
    have hl : at_ = b.length := by have := List.getElem?_eq_none_iff.1 h; omega
    rw [rb_short b at_ n hl, endS_some _ _ _ (by simp)]
  | some v =>
    simp only
    by_cases hv : 64 < v
    · rw [rb_wide b at_ v n h hv, endS_some _ _ _ (by simp), if_pos hv]
    · rw [rb_rest b at_ v n h hv, if_neg hv]
      simp only
      by_cases hE : unpackE (b.drop (at_ + 1)) n v = 0
      · rw [hE, if_pos rfl]
        by_cases hw : wd (unpackS (b.drop (at_ + 1)) n v) = v
        · rw [if_pos hw, if_pos hw]
          simp only [failS]
          rw [if_pos (by simp), endS_none, if_neg (by omega)]
        · rw [if_neg hw, if_neg hw]
          simp only [failS]
          rw [if_pos (by simp)]
          simp only
          rw [if_neg (by omega), endS_some _ _ _ (by simp)]
      · have hE' : ((unpackE (b.drop (at_ + 1)) n v : Nat) : Int) ≠ 0 := by omega
        rw [if_neg hE]
        have hf : failS b.length none (unpackE (b.drop (at_ + 1)) n v : Int) = some ((unpackE (b.drop (at_ + 1)) n v : Int), b.length) := by
          simp only [failS]; rw [if_neg hE']
        rw [hf]
        have hf2 : failS b.length (some ((unpackE (b.drop (at_ + 1)) n v : Int), b.length)) 4 = some ((unpackE (b.drop (at_ + 1)) n v : Int), b.length) := rfl
        rw [hf2]
        split <;> exact endS_some _ _ _ hE'
theorem rb_take (b : List Nat) (at_ : Nat) (n : Int) (h : rbE b at_ n = 0) : ∃ v, b[at_]? = some v ∧ v ≤ 64 ∧ unpackE (b.drop (at_ + 1)) n v = 0 ∧ wd (unpackS (b.drop (at_ + 1)) n v) = v ∧ (rbS b at_ none n).1 = unpackS (b.drop (at_ + 1)) n v := by
  unfold rbE at h
  cases hb : b[at_]? with
  | none => rw [hb] at h; simp at h
  | some v =>
    rw [hb] at h
    simp only at h
    by_cases hv : 64 < v
    · rw [if_pos hv] at h; omega
    · rw [if_neg hv] at h
      by_cases hE : unpackE (b.drop (at_ + 1)) n v = 0
      · rw [if_pos hE] at h
        by_cases hw : wd (unpackS (b.drop (at_ + 1)) n v) = v
        · exact ⟨v, rfl, by omega, hE, hw, by rw [rb_rest b at_ v n hb hv]⟩
        · rw [if_neg hw] at h; omega
      · rw [if_neg hE] at h; omega
/-- The reader behind all that is read. -/
def dst (b : List Nat) (k : Nat) : Nat × Option (Int × Nat) :=
  if k = 0 then (0, none) else if k = 1 then vst b 1 else (rbS b (vst b 1).1 (vst b 1).2 ((k : Int) - 1)).2
/-- The steps that are read. -/
def dL (b : List Nat) (k : Nat) : List Int :=
  if k = 0 then [] else zagI (vv b 0 : Int) :: (if k = 1 then [] else (rbS b (vst b 1).1 (vst b 1).2 ((k : Int) - 1)).1.map fun v : Nat => zagI (v : Int))
/-- The error's number of reading; the numbers. -/
def dE (b : List Nat) (k : Int) : Int := if k < 0 ∨ 65536 < k then 1 else (endS b (dst b k.toNat).1 (dst b k.toNat).2).1
def dG (b : List Nat) (k : Int) : List Int := if dE b k = 0 then sms 0 (dL b k.toNat) else []
theorem dE_bad {b : List Nat} {k : Int} (h : k < 0 ∨ 65536 < k) : dE b k = 1 ∧ dG b k = [] := by
  have hE : dE b k = 1 := by unfold dE; rw [if_pos h]
  exact ⟨hE, by unfold dG; rw [if_neg (by omega)]⟩
theorem dE_zero (b : List Nat) : dE b 0 = if 0 < b.length then 3 else 0 := by
  unfold dE dst
  rw [if_neg (by omega), show (0 : Int).toNat = 0 from rfl, if_pos rfl, endS_none]
theorem dE_err (b : List Nat) (k : Nat) (y : Int × Nat) (hk : 1 ≤ k ∧ k ≤ 65536) (h : (vst b 1).2 = some y) : dE b (k : Int) = y.1 := by
  have hy := vst_ok b 1 y h
  unfold dE dst
  rw [if_neg (by omega), Int.toNat_natCast, if_neg (by omega)]
  by_cases h1 : k = 1
  · rw [if_pos h1, h, endS_some _ _ _ hy]
  · rw [if_neg h1, h, rb_some, endS_some _ _ _ hy]
theorem dE_one (b : List Nat) (h : (vst b 1).2 = none) : dE b 1 = if (vst b 1).1 < b.length then 3 else 0 := by
  unfold dE dst
  rw [if_neg (by omega), show (1 : Int).toNat = 1 from rfl, if_neg (by omega), if_pos rfl, h, endS_none]
theorem vst_place (b : List Nat) (hb : ∀ x ∈ b, x < 256) (h : (vst b 1).2 = none) : (vst b 1).1 ≤ b.length := (put_prefix b hb 1 h).1
theorem dE_more (b : List Nat) (hb : ∀ x ∈ b, x < 256) (k : Nat) (hk : 2 ≤ k ∧ k ≤ 65536) (h : (vst b 1).2 = none) : dE b (k : Int) = rbE b (vst b 1).1 ((k : Int) - 1) := by
  unfold dE dst
  rw [if_neg (by omega), Int.toNat_natCast, if_neg (by omega), if_neg (by omega), h, rb_end _ _ _ (vst_place b hb h)]
theorem dL_in {b : List Nat} (hb : ∀ x ∈ b, x < 256) (k : Nat) : ∀ z ∈ dL b k, In64 z := by
  intro z hz
  unfold dL at hz
  split at hz
  · simp at hz
  · rcases List.mem_cons.1 hz with rfl | hz
    · exact zagI_in (vv_lt hb 0)
    · split at hz
      · simp at hz
      · obtain ⟨v, hv, rfl⟩ := List.mem_map.1 hz
        exact zagI_in ((rb_lt _ _ _ _).1 v hv)
theorem dL_length (b : List Nat) (k : Nat) : (dL b k).length ≤ 65537 := by
  unfold dL
  split
  · simp
  · rw [List.length_cons]
    split
    · simp
    · rw [List.length_map]; have := (rb_lt b (vst b 1).1 (vst b 1).2 ((k : Int) - 1)).2; omega
theorem dG_length (b : List Nat) (k : Int) : (dG b k).length ≤ 65537 := by
  unfold dG
  split
  · rw [sms_length]; exact dL_length _ _
  · simp
end Go.Proofs.YthlfplljbbnaoaaGreatDoor

/- Contracts of the Reader's Take and Fix, with every error that they tell. -/
namespace Go.Proofs.YthlfplljbbnaoaaGreatDoor
open Go.RowKit
set_option linter.unusedVariables false
set_option linter.unusedSimpArgs false
set_option maxRecDepth 100000

theorem take_nil (n : Int) (w : World) : Calls Tryz.prog 75 #[.pointer none, .int .i64 n] w fun e w' => e = .returned (.slice none 0 0) ∧ w = w' := by
  go_enter Tryz.func75, Tryz.ntmps75
  go_wp2_with (go_at_call 70; refine (stopped_nil _).mono ?_; rintro e w1 ⟨rfl, rfl⟩)
  go_ret
  exact ⟨rfl, rfl⟩
theorem fix_nil (n : Int) (w : World) : Calls Tryz.prog 28 #[.pointer none, .int .i64 n] w fun e w' => e = .returned (.int .u64 0) ∧ w = w' := by
  go_enter Tryz.func28, Tryz.ntmps28
  go_wp2_with (go_at_call 70; refine (stopped_nil _).mono ?_; rintro e w1 ⟨rfl, rfl⟩)
  go_ret
  exact ⟨rfl, rfl⟩

theorem take_ok {w : World} {g : Nat} {A : Option Addr} {n c at_ : Nat} {l : List Nat} (size : Nat) (hR : Rd w g A n c at_ .nilIface l) (hroom : at_ + size ≤ n) :
    Calls Tryz.prog 75 #[.pointer (some ⟨g, 0, none⟩), .int .i64 (size : Int)] w
      fun e w' => Bytes ((l.drop at_).take size) e w' ∧ RdTo w g l (at_ + size) none w' := by
  have hc0 := hR.blk.cell 0
  have hc := hR.blk.cell 1
  simp only [List.getElem?_toArray, List.getElem?_cons_succ, List.getElem?_cons_zero] at hc hc0
  have hz := hR.size
  have hp := hR.place
  have hcap := hR.cap
  have hf := hR.blk.frozen 1
  have hlt := hR.blk.lt
  have hcut : Reads w g 1 (if c = at_ then A else Option.map (fun x => x.add at_) A) size (bs ((l.drop at_).take size)) := by
    have := (hR.reads.cut hp hcap).fore (k := size) (by omega)
    simpa [bs_drop, bs_take] using this
  have hbd : (at_ : Int) + (size : Int) ≤ (c : Int) := by omega
  have f2 : IntKind.i64.wrap ((at_ : Int) + (size : Int)) = (at_ : Int) + (size : Int) := IntWalk.i64_in _ (by omega)
  have f4 : ((at_ : Int) + (size : Int)).toNat = at_ + size := by omega
  have f5 : 0 ≤ (at_ : Int) + (size : Int) := by omega
  by_cases hca : c = at_
  case' pos => subst hca; simp only [if_true] at hcut
  case' neg => simp only [if_neg hca] at hcut
  all_goals
    go_enter Tryz.func75, Tryz.ntmps75
    go_wp2_with (first
      | (go_at_call 70; refine (stopped_ok hR).mono ?_; rintro e w1 ⟨rfl, rfl⟩)
      | (go_at_call 72; refine (left_any hR).mono ?_; rintro e w1 ⟨rfl, q, rfl⟩))
    refine wp_region_still_tail 15 (by kernel_rfl) (by kernel_rfl) ?_
    simp only [List.take_succ_cons, List.take_zero, List.drop_succ_cons, List.drop_zero]
    change wpStill _ _ (w.drewN q).drew _ _ _
    repeat still_step
    refine wpStill_nil ?_
    change wpList _ _ _ _ _ (w.drewN q).drew
    go_wp2_with (go_at_call 69; refine (clone_any _ size _ _ _ ((hcut.more (Nat.le_of_lt hlt)).drewN (q + 1)) (bs_one _) (by omega)).mono ?_; rintro e w2 ⟨v2, rfl, hown2, hb2⟩
                 obtain ⟨A2, c2, rfl, _, _, hr2⟩ := own_slice hown2
                 have hbw : Below w.heap.size w w2 := ((Drawn.one w (q + 1)).below (Below.refl w.heap.size w)).trans hb2
                 have hbl2 := hR.blk.below hbw hlt
                 have hcc := hbl2.cell 1
                 have hcf := hbl2.frozen 1
                 simp only [List.getElem?_toArray, List.getElem?_cons_succ, List.getElem?_cons_zero] at hcc)
    go_ret
    obtain ⟨hto1, hto2⟩ := RdS.goes hR (x := none) rfl size hroom hbw
    exact ⟨⟨A2, size, c2, rfl, own_far hown2 (show g < (w.drewN (q + 1)).heap.size from hlt) _⟩, hto1, hto2⟩

theorem take_is {w : World} {g : Nat} {l : List Nat} {at_ : Nat} {x : Option (Int × Nat)} (n : Int) (h : RdS w g l at_ x) :
    Calls Tryz.prog 75 #[.pointer (some ⟨g, 0, none⟩), .int .i64 n] w
      fun e w' => Bytes (takeS l at_ x n).1 e w' ∧ RdTo w g l (takeS l at_ x n).2.1 (takeS l at_ x n).2.2 w' := by
  cases x with
  | some x =>
    go_enter Tryz.func75, Tryz.ntmps75
    go_wp2_with (go_at_call 70; refine (stopped_err h).mono ?_; rintro e w1 ⟨rfl, rfl⟩)
    go_ret
    exact ⟨⟨none, 0, 0, rfl, Reads.none_⟩, RdTo.same h (Drawn.refl w)⟩
  | none =>
    have hp := h.place
    by_cases h0 : n < 0
    · have hS : takeS l at_ none n = ([], at_, some (1, at_)) := by unfold takeS; simp [h0]
      rw [hS]
      clear hS
      go_enter Tryz.func75, Tryz.ntmps75
      go_wp2_with (first
        | (go_at_call 70; refine (stopped_is h).mono ?_; rintro e w1 ⟨rfl, rfl⟩)
        | (go_at_call 71; refine (stop_is 1 h).mono ?_; rintro e w2 ⟨rfl, hto⟩))
      go_ret
      exact ⟨⟨none, 0, 0, rfl, Reads.none_⟩, hto⟩
    · by_cases h1 : (l.length : Int) - at_ < n
      · have hS : takeS l at_ none n = ([], at_, some (2, at_)) := by unfold takeS; simp [h0, h1]
        rw [hS]
        clear hS
        go_enter Tryz.func75, Tryz.ntmps75
        go_wp2_with (first
          | (go_at_call 70; refine (stopped_is h).mono ?_; rintro e w1 ⟨rfl, rfl⟩)
          | (go_at_call 72; refine (left_is h).mono ?_; rintro e w1 ⟨rfl, hd⟩; have h2 := h.next (hd.below (Below.refl _ _)))
          | (go_at_call 71; refine (stop_is 2 h2).mono ?_; rintro e w2 ⟨rfl, hto⟩))
        go_ret
        exact ⟨⟨none, 0, 0, rfl, Reads.none_⟩, hto.1, only_trans (only_below (World.grownBy.refl w _) (hd.below (Below.refl _ _))) hto.2⟩
      · obtain ⟨k, rfl⟩ := Int.eq_ofNat_of_zero_le (show 0 ≤ n by omega)
        have hS : takeS l at_ none (k : Int) = ((l.drop at_).take k, at_ + k, none) := by unfold takeS; simp [h1]
        rw [hS]
        obtain ⟨A, m, c, err, hR, rfl⟩ := h
        exact take_ok k hR (by have := hR.length; omega)
end Go.Proofs.YthlfplljbbnaoaaGreatDoor
