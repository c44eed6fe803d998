import Derived.Test.YticanhidahkhfaaGreatDoorJ3
import Derived.Test.YticanhidahkhfaaGreatDoorJ5
import Derived.Test.YticanhidahkhfaaGreatDoorJ20
import Derived.Test.YticanhidahkhfaaGreatDoorJ2
import Derived.Test.YticanhidahkhfaaGreatDoorJ1
import Derived.Test.YticanhidahkhfaaGreatDoorJ12
import Derived.Test.YticanhidahkhfaaGreatDoorJ6
namespace Go.Proofs.YticanhidahkhfaaGreatDoor
open Go.RowKit
set_option linter.unusedVariables false
set_option linter.unusedSimpArgs false
set_option maxRecDepth 100000
def endS (l : List Nat) (at_ : Nat) (x : Option (Int × Nat)) : Int × Nat := if (errS x).1 = 0 ∧ at_ < l.length then (3, at_) else errS x
set_option maxHeartbeats 400000 in
theorem end_is {w : World} {g : Nat} {l : List Nat} {at_ : Nat} {x : Option (Int × Nat)} (hm : Met w) (h : RdS w g l at_ x) :
    Calls Tryz.prog 23 #[.pointer (some ⟨g, 0, none⟩)] w fun e w' => Tells (endS l at_ x).1 ((endS l at_ x).2 : Int) e ∧ Below w.heap.size w w' := by
  have hp := h.place
  rcases hx : errS x with ⟨k, on⟩
  have hE := err_is hm h
  rw [hx] at hE
  have HE := Lib.hid hE
  clear hE
  unfold endS
  rw [hx]
  have Hx := Lib.hid hx
  clear hx
  by_cases hk : k = 0
  · subst hk
    by_cases hlt : at_ < l.length
    · rw [if_pos ⟨rfl, hlt⟩]
      go_enter Tryz.func23, Tryz.ntmps23
      go_wp2_with fail
      refine HE.out.mono ?_
      rintro e w1 ⟨rfl, hb1⟩
      have h1 := h.next hb1
      go_wp2_with fail
      refine (left_is h1).mono ?_
      rintro e w2 ⟨rfl, hd2⟩
      have hb2 := hd2.below hb1
      have h2 := h1.next (hd2.below (Below.refl _ _))
      obtain ⟨A, n, c, err, hR, _⟩ := h2
      have hc := hR.blk.cell 1
      simp only [List.getElem?_toArray, List.getElem?_cons_succ, List.getElem?_cons_zero] at hc
      go_wp2_with fail
      go_quiet (fail)
      go_wp2_with fail
      go_ret2
      exact ⟨rfl, (Drawn.one w2 _).below hb2⟩
    · rw [if_neg (fun h => hlt h.2)]
      go_enter Tryz.func23, Tryz.ntmps23
      go_wp2_with fail
      refine HE.out.mono ?_
      rintro e w1 ⟨rfl, hb1⟩
      have h1 := h.next hb1
      go_wp2_with fail
      refine (left_is h1).mono ?_
      rintro e w2 ⟨rfl, hd2⟩
      have hb2 := hd2.below hb1
      go_wp2_with fail
      go_ret2
      exact ⟨rfl, hb2⟩
  · have hk1 : (k == 0) = false := by simp [hk]
    rw [if_neg (fun h => hk h.1)]
    go_enter Tryz.func23, Tryz.ntmps23
    go_wp2_with fail
    refine HE.out.mono ?_
    rintro e w1 ⟨rfl, hb1⟩
    go_wp2_with fail
    go_ret2
    exact ⟨rfl, hb1⟩
end Go.Proofs.YticanhidahkhfaaGreatDoor
namespace Go.Proofs.YticanhidahkhfaaGreatDoor
open Go.RowKit
set_option linter.unusedVariables false
set_option linter.unusedSimpArgs false
set_option maxRecDepth 100000
def vst (l : List Nat) : Nat → Nat × Option (Int × Nat)
  | 0 => (0, none)
  | k + 1 => (varS l (vst l k).1 (vst l k).2).2
def vv (l : List Nat) (k : Nat) : Nat := (varS l (vst l k).1 (vst l k).2).1
def getL (l : List Nat) (n : Nat) : List Int := (List.range n).map fun k => zagI (vv l k : Int)
def getE (l : List Nat) (k : Int) : Int := if k < 0 ∨ 65536 < k then 1 else (endS l (vst l k.toNat).1 (vst l k.toNat).2).1
def getS (l : List Nat) (k : Int) : List Int := if getE l k = 0 then getL l k.toNat else []
theorem getL_length (l : List Nat) (n : Nat) : (getL l n).length = n := by simp [getL]
theorem getL_succ (l : List Nat) (n : Nat) : getL l (n + 1) = getL l n ++ [zagI (vv l n : Int)] := by simp [getL, List.range_succ]
theorem getL_at (l : List Nat) (n k : Nat) (h : k < n) : (getL l n)[k]? = some (zagI (vv l k : Int)) := by simp [getL, h]
theorem getL_take (l : List Nat) (n k : Nat) (h : k ≤ n) : (getL l n).take k = getL l k := by
  induction n with
  | zero => obtain rfl : k = 0 := by omega
            simp [getL]
  | succ n ih =>
    rcases Nat.lt_or_ge k (n + 1) with h1 | h1
    · rw [getL_succ, List.take_append_of_le_length (by rw [getL_length]; omega), ih (by omega)]
    · obtain rfl : k = n + 1 := by omega
      rw [List.take_of_length_le (by rw [getL_length]; omega)]
theorem vst_some {l : List Nat} {k : Nat} {y : Int × Nat} (h : (vst l k).2 = some y) : vst l (k + 1) = vst l k := by
  show (varS l (vst l k).1 (vst l k).2).2 = _
  rw [h]
  show ((vst l k).1, some y) = _
  rw [← h]
theorem vst_stop {l : List Nat} {k : Nat} {y : Int × Nat} (h : (vst l k).2 = some y) : ∀ j, vst l (k + j) = vst l k
  | 0 => rfl
  | j + 1 => by
    have := vst_stop h j
    rw [← Nat.add_assoc, vst_some (y := y) (by rw [this]; exact h), this]
theorem vst_ok (l : List Nat) (k : Nat) : ∀ y, (vst l k).2 = some y → y.1 ≠ 0 := by
  induction k with
  | zero => intro y h; cases h
  | succ k ih =>
    intro y h
    cases hx : (vst l k).2 with
    | some z => rw [vst_some hx] at h; exact ih y h
    | none =>
      change (varS l (vst l k).1 (vst l k).2).2.2 = some y at h
      rw [hx] at h
      unfold varS at h
      simp only at h
      split at h
      · cases h
      · rename_i h1
        injection h with h
        subst h
        show ((lookF 0 0 (l.drop (vst l k).1)).2.2 : Int) ≠ 0
        omega
theorem endS_some (l : List Nat) (at_ : Nat) (y : Int × Nat) (h : y.1 ≠ 0) : (endS l at_ (some y)).1 = y.1 := by
  unfold endS errS
  rw [if_neg (by simp [h])]
  rfl
theorem endS_none (l : List Nat) (at_ : Nat) : (endS l at_ none).1 = if at_ < l.length then 3 else 0 := by
  unfold endS errS
  by_cases h : at_ < l.length
  · rw [if_pos ⟨rfl, h⟩, if_pos h]
  · rw [if_neg (fun e => h e.2), if_neg h]; rfl
theorem vst_step {l : List Nat} {k v m : Nat} (h : (vst l k).2 = none) (hl : lookF 0 0 (l.drop (vst l k).1) = (v, m, 0)) : vst l (k + 1) = ((vst l k).1 + m, none) ∧ vv l k = v := by
  have e : varS l (vst l k).1 (vst l k).2 = (v, (vst l k).1 + m, none) := by
    rw [h]
    unfold varS
    simp only [hl, if_true]
  exact ⟨by show (varS l (vst l k).1 (vst l k).2).2 = _; rw [e], by unfold vv; rw [e]⟩
theorem vst_none {l : List Nat} {k : Nat} (h : (vst l (k + 1)).2 = none) : (vst l k).2 = none ∧ ∃ v m, lookF 0 0 (l.drop (vst l k).1) = (v, m, 0) := by
  cases hx : (vst l k).2 with
  | some y => rw [vst_some hx, hx] at h; cases h
  | none =>
    refine ⟨rfl, ?_⟩
    change (varS l (vst l k).1 (vst l k).2).2.2 = none at h
    rw [hx] at h
    unfold varS at h
    simp only at h
    split at h
    · rename_i h1
      exact ⟨(lookF 0 0 (l.drop (vst l k).1)).1, (lookF 0 0 (l.drop (vst l k).1)).2.1, Prod.ext rfl (Prod.ext rfl h1)⟩
    · cases h
theorem vv_lt {l : List Nat} (hb : ∀ b ∈ l, b < 256) (k : Nat) : vv l k < 18446744073709551616 := by
  unfold vv
  cases hx : (vst l k).2 with
  | some y => show 0 < _; omega
  | none =>
    unfold varS
    simp only
    split
    · rename_i h1
      rcases hl : lookF 0 0 (l.drop (vst l k).1) with ⟨v, m, e⟩
      rw [hl] at h1
      simp only at h1
      subst h1
      exact (look_is (fun b h => hb b (List.mem_of_mem_drop h)) hl).2
    · show 0 < _; omega
theorem getS_length (b : List Nat) (k : Int) : (getS b k).length ≤ 65536 := by
  unfold getS
  split
  · rename_i h
    rw [getL_length]
    unfold getE at h
    by_cases hk : k < 0 ∨ 65536 < k
    · rw [if_pos hk] at h; omega
    · omega
  · simp
theorem vst_put (zl : List Int) (rest : List Nat) (hz : ∀ z ∈ zl, In64 z) : ∀ k, k ≤ zl.length → vst (pl zl ++ rest) k = ((pl (zl.take k)).length, none) ∧ getL (pl zl ++ rest) k = zl.take k := by
  intro k
  induction k with
  | zero => intro _; exact ⟨by simp [vst, pl], by simp [getL]⟩
  | succ k ih =>
    intro hk
    obtain ⟨e1, e2⟩ := ih (by omega)
    have hat : zl[k]? = some zl[k] := List.getElem?_eq_getElem (by omega)
    have hin := hz _ (List.getElem_mem (show k < zl.length by omega))
    have hsplit : pl zl = pl (zl.take k) ++ (vb (zg zl[k]) ++ pl (zl.drop (k + 1))) := by
      rw [← List.append_assoc, ← pl_step hat, ← pl_append, List.take_append_drop]
    have hd : (pl zl ++ rest).drop (pl (zl.take k)).length = vb (zg zl[k]) ++ (pl (zl.drop (k + 1)) ++ rest) := by
      rw [hsplit, List.append_assoc, List.drop_append_of_le_length (Nat.le_refl _), List.drop_length, List.nil_append, List.append_assoc]
    have hl := look_vb (zg zl[k]) (zg_int hin).2 (pl (zl.drop (k + 1)) ++ rest)
    rw [← hd] at hl
    have hs := vst_step (l := pl zl ++ rest) (k := k) (by rw [e1]) (by rw [e1]; exact hl)
    refine ⟨?_, ?_⟩
    · rw [hs.1, e1, pl_step hat, List.length_append]
    · rw [getL_succ, e2, hs.2, zagI_zg hin, take_snoc hat]
theorem get_put (zl : List Int) (hz : ∀ z ∈ zl, In64 z) (hn : zl.length ≤ 65536) : getE (pl zl) (zl.length : Int) = 0 ∧ getS (pl zl) (zl.length : Int) = zl := by
  obtain ⟨e1, e2⟩ := vst_put zl [] hz zl.length (Nat.le_refl _)
  rw [List.append_nil, List.take_length] at e1 e2
  have hE : getE (pl zl) (zl.length : Int) = 0 := by
    unfold getE
    rw [if_neg (by omega), Int.toNat_natCast, e1]
    simp only
    rw [endS_none, if_neg (by omega)]
  exact ⟨hE, by unfold getS; rw [if_pos hE, Int.toNat_natCast, e2]⟩
theorem get_long (zl : List Int) (x : Nat) (hz : ∀ z ∈ zl, In64 z) (hn : zl.length ≤ 65536) : getE (pl zl ++ [x]) (zl.length : Int) = 3 ∧ getS (pl zl ++ [x]) (zl.length : Int) = [] := by
  obtain ⟨e1, e2⟩ := vst_put zl [x] hz zl.length (Nat.le_refl _)
  rw [List.take_length] at e1 e2
  have hE : getE (pl zl ++ [x]) (zl.length : Int) = 3 := by
    unfold getE
    rw [if_neg (by omega), Int.toNat_natCast, e1]
    simp only
    rw [endS_none, if_pos (by rw [List.length_append, List.length_singleton]; omega)]
  exact ⟨hE, by unfold getS; rw [if_neg (by omega)]⟩
theorem get_short (zl : List Int) (hz : ∀ z ∈ zl, In64 z) (hn : zl.length ≤ 65536) (h0 : 0 < (pl zl).length) : getE ((pl zl).take ((pl zl).length - 1)) (zl.length : Int) = 2 ∧ getS ((pl zl).take ((pl zl).length - 1)) (zl.length : Int) = [] := by
  have h1 : 0 < zl.length := by
    rcases Nat.eq_zero_or_pos zl.length with h | h
    · rw [List.eq_nil_of_length_eq_zero h] at h0; simp [pl] at h0
    · exact h
  obtain ⟨m, hm⟩ : ∃ m, zl.length = m + 1 := ⟨zl.length - 1, by omega⟩
  have hat : zl[m]? = some zl[m] := List.getElem?_eq_getElem (by omega)
  have hin := hz _ (List.getElem_mem (show m < zl.length by omega))
  have hvl := vb_length (zg zl[m])
  have hsplit : pl zl = pl (zl.take m) ++ vb (zg zl[m]) := by rw [← pl_step hat, List.take_of_length_le (by omega)]
  have hcut : (pl zl).take ((pl zl).length - 1) = pl (zl.take m) ++ (vb (zg zl[m])).take ((vb (zg zl[m])).length - 1) := by
    rw [hsplit, List.take_append, List.length_append]
    congr 1
    · rw [List.take_of_length_le (by omega)]
    · congr 1; omega
  have hml : (zl.take m).length = m := by rw [List.length_take]; omega
  obtain ⟨e1, _⟩ := vst_put (zl.take m) ((vb (zg zl[m])).take ((vb (zg zl[m])).length - 1)) (fun z h => hz z (List.mem_of_mem_take h)) m (by omega)
  rw [List.take_take, Nat.min_self, ← hcut] at e1
  have hd : ((pl zl).take ((pl zl).length - 1)).drop (pl (zl.take m)).length = (vb (zg zl[m])).take ((vb (zg zl[m])).length - 1) := by
    rw [hcut, List.drop_append_of_le_length (Nat.le_refl _), List.drop_length, List.nil_append]
  have hlk := short_vb (zg zl[m]) ((vb (zg zl[m])).length - 1) (by omega)
  have e2 : (vst ((pl zl).take ((pl zl).length - 1)) (m + 1)).2 = some (2, (pl (zl.take m)).length) := by
    show (varS _ _ _).2.2 = _
    rw [e1]
    unfold varS
    simp only [hd, hlk]
    rfl
  have hE : getE ((pl zl).take ((pl zl).length - 1)) (zl.length : Int) = 2 := by
    unfold getE
    rw [if_neg (by omega), Int.toNat_natCast, hm, e2, endS_some _ _ _ (by simp)]
  exact ⟨hE, by unfold getS; rw [if_neg (by omega)]⟩
theorem put_prefix (b : List Nat) (hb : ∀ x ∈ b, x < 256) (k : Nat) : (vst b k).2 = none → (vst b k).1 ≤ b.length ∧ pl (getL b k) = b.take (vst b k).1 := by
  induction k with
  | zero => intro _; exact ⟨Nat.zero_le _, by simp [getL, pl, vst]⟩
  | succ k ih =>
    intro h
    obtain ⟨h0, v, m, hl⟩ := vst_none h
    obtain ⟨e1, e2⟩ := ih h0
    obtain ⟨e3, e4⟩ := vst_step h0 hl
    have hlk := look_is (fun x hx => hb x (List.mem_of_mem_drop hx)) hl
    have hlen := look_len (b.drop (vst b k).1) 0 0 (by rw [hl])
    rw [hl, List.length_drop] at hlen
    simp only at hlen
    rw [e3]
    simp only
    refine ⟨by omega, ?_⟩
    rw [getL_succ, pl_append, pl_one, zg_zagI, e4, e2, ← hlk.1, ← List.take_add]
theorem put_get (b : List Nat) (hb : ∀ x ∈ b, x < 256) (k : Int) (h : getE b k = 0) : 0 ≤ k ∧ k ≤ 65536 ∧ pl (getS b k) = b ∧ (getS b k).length = k.toNat ∧ ∀ z ∈ getS b k, In64 z := by
  have hS : getS b k = getL b k.toNat := by unfold getS; rw [if_pos h]
  unfold getE at h
  by_cases hk : k < 0 ∨ 65536 < k
  · rw [if_pos hk] at h; omega
  · rw [if_neg hk] at h
    rw [hS]
    refine ⟨by omega, by omega, ?_, getL_length _ _, ?_⟩
    · cases hx : (vst b k.toNat).2 with
      | some y => rw [hx, endS_some _ _ _ (vst_ok b _ y hx)] at h; exact absurd h (vst_ok b _ y hx)
      | none =>
        rw [hx, endS_none] at h
        obtain ⟨e1, e2⟩ := put_prefix b hb _ hx
        rw [e2]
        by_cases hlt : (vst b k.toNat).1 < b.length
        · rw [if_pos hlt] at h; omega
        · exact List.take_of_length_le (by omega)
    · intro z hz
      obtain ⟨j, _, rfl⟩ := List.mem_map.1 hz
      exact zagI_in (vv_lt hb j)
end Go.Proofs.YticanhidahkhfaaGreatDoor
namespace Go.Proofs.YticanhidahkhfaaGreatDoor
open Go.RowKit
set_option linter.unusedVariables false
set_option linter.unusedSimpArgs false
set_option maxRecDepth 100000
theorem RdS.store {w : World} {g h : Nat} {l : List Nat} {at_ : Nat} {x : Option (Int × Nat)} (hS : RdS w g l at_ x) {t : TypeId} {cs : Array Value} (hb : Blk w h t cs) (hg : g < h) (ht : t ≠ 133) (i : Nat) (u : Value) :
    RdS (w.setCell ⟨h, i, none⟩ u) g l at_ x := by
  obtain ⟨A, n, c, err, hR, hE⟩ := hS
  exact ⟨A, n, c, err, ⟨hR.blk.far (p := ⟨h, i, none⟩) (by show g ≠ h; omega) u, hR.reads.setCell (p := ⟨h, i, none⟩) (by show g ≤ h; omega) u, hR.cap, hR.place, hR.size, hR.byte⟩,
    hE.next fun f t' cs' hf ht' => hf.far (p := ⟨h, i, none⟩) (hf.type_ne hb (by rw [ht']; exact fun e => ht e.symm)) u⟩
theorem RdS.alloc {w : World} {g : Nat} {l : List Nat} {at_ : Nat} {x : Option (Int × Nat)} (hS : RdS w g l at_ x) (o : Obj) : RdS (w.alloc o) g l at_ x :=
  hS.next ((Below.refl _ _).alloc (Nat.le_refl _) _)
end Go.Proofs.YticanhidahkhfaaGreatDoor
namespace Go.Proofs.YticanhidahkhfaaGreatDoor
open Go.RowKit
set_option linter.unusedVariables false
set_option linter.unusedSimpArgs false
set_option maxRecDepth 100000
theorem zag_any (v : Nat) (w : World) (hv : v < 18446744073709551616) : Calls Tryz.prog 182 #[.int .u64 (v : Int)] w fun e w' => e = .returned (.int .i64 (zagI v)) ∧ w = w' := by
  have HZ := Lib.hid (zag_is v hv)
  go_enter Tryz.func182, Tryz.ntmps182
  go_wp2_with fail
  go_ret
  exact ⟨ret_of (congrArg (Value.int .i64) HZ.out), rfl⟩
end Go.Proofs.YticanhidahkhfaaGreatDoor
namespace Go.Proofs.YticanhidahkhfaaGreatDoor
open Go.RowKit
set_option linter.unusedVariables false
set_option linter.unusedSimpArgs false
set_option maxRecDepth 100000
theorem getE_bad {b : List Nat} {k : Int} (h : k < 0 ∨ 65536 < k) : getE b k = 1 ∧ getS b k = [] := by
  have hE : getE b k = 1 := by unfold getE; rw [if_pos h]
  exact ⟨hE, by unfold getS; rw [if_neg (by omega)]⟩
theorem plGet_no (A : Option Addr) (n c : Nat) (b : List Nat) (k : Int) (w : World) (h : k < 0 ∨ 65536 < k) :
    Calls Tryz.prog 152 #[.slice A n c, .int .i64 k] w (NewLE w (getS b k) (getE b k)) := by
  obtain ⟨h1, h2⟩ := getE_bad (b := b) h
  rw [h1, h2]
  clear h1 h2
  by_cases hk : k < 0
  · clear h
    go_enter Tryz.func152, Tryz.ntmps152
    go_wp2_with fail
    go_ret2
    exact ⟨.slice none 0 0, rfl, own_nil _ _ _ _, Below.refl _ _⟩
  · have d1 : decide (k < 0) = false := by simp; omega
    have h2 : 65536 < k := by omega
    clear h
    go_enter Tryz.func152, Tryz.ntmps152
    go_wp2_with fail
    go_ret2
    exact ⟨.slice none 0 0, rfl, own_nil _ _ _ _, Below.refl _ _⟩
theorem var_k {w : World} {g : Nat} {b : List Nat} {k : Nat} (h : RdS w g b (vst b k).1 (vst b k).2) :
    Calls Tryz.prog 62 #[.pointer (some ⟨g, 0, none⟩)] w fun e w' => e = .returned (.int .u64 (vv b k : Int)) ∧ RdS w' g b (vst b (k + 1)).1 (vst b (k + 1)).2 ∧ w.grownBy w' (some g) := var_is h
set_option maxHeartbeats 2000000 in
theorem plGet_ok (A : Option Addr) (n c N : Nat) (b : List Nat) (w : World) (hr : Reads w w.heap.size 1 A n (bs b)) (hb : ∀ x ∈ b, x < 256) (hn : n ≤ 140737488355328) (hN : N ≤ 65536) (hmet : Met w) :
    Calls Tryz.prog 152 #[.slice A n c, .int .i64 (N : Int)] w (NewLE w (getS b (N : Int)) (getE b (N : Int))) := by
  have d1 : decide ((N : Int) < 0) = false := by simp
  have d2 : decide ((65536 : Int) < (N : Int)) = false := by simp; omega
  have hX := getL_length b N
  have hXz : (zs (getL b N)).length = N := by rw [zs_length, hX]
  have hmk := fun W => run_make_i64 N N (Nat.le_refl _) (by omega) W
  rw [← fillW_zero (zs (getL b N)) (.int .i64 0) N hXz] at hmk
  have HE : Hid (getE b (N : Int) = (endS b (vst b N).1 (vst b N).2).1) := by
    unfold getE
    rw [if_neg (by omega), Int.toNat_natCast]
    try exact Lib.hid rfl
  have HX := Lib.hid hXz
  have HB := Lib.hid hb
  clear hX hXz hb
  go_enter Tryz.func152, Tryz.ntmps152
  go_wp2_with fail
  refine (newReader_any A n c b w hr hn HB.out).mono ?_
  rintro e w1 ⟨g, A1, c1, rfl, hg, hR1, hb1⟩
  have hS1 := rd_new hR1
  have hg1 := hS1.lt
  clear hR1
  go_wp2_with fail
  clear hmk
  have hS2 := hS1.alloc (.cells (fillW (zs (getL b N)) (.int .i64 0) 0) 2)
  have hF2 := Blk.new w1 2 (fillW (zs (getL b N)) (.int .i64 0) 0)
  have hb2 : Below w.heap.size w (w1.alloc (.cells (fillW (zs (getL b N)) (.int .i64 0) 0) 2)) := hb1.alloc hb1.size _
  have hh := hb1.size
  obtain ⟨h, hhd⟩ : ∃ h, h = w1.heap.size := ⟨_, rfl⟩
  rw [← hhd] at hF2 hg1 hh ⊢
  clear hS1 hb1
  go_loopw [22] (fun s22 wr => ∃ k : Nat, k ≤ N ∧ s22 = .int .i64 (k : Int) ∧ RdS wr g b (vst b k).1 (vst b k).2 ∧ Blk wr h 2 (fillW (zs (getL b N)) (.int .i64 0) k) ∧ Below w.heap.size w wr) (fun i _ => N - (intOf i).toNat)
  case atStart => exact ⟨0, by omega, rfl, hS2, hF2, hb2⟩
  case round =>
    clear hS2 hF2 hb2 hhd
    obtain ⟨k, hk, rfl, hS, hF, hb⟩ := hrel
    by_cases hlt : k < N
    · have hv := vv_lt HB.out k
      go_wp2_with fail
      refine (var_k hS).mono ?_
      rintro e w3 ⟨rfl, hS3, hg3⟩
      have hF3 := hF.grown hg3 (by simp; omega)
      have hb3 : Below w.heap.size w w3 := hb.grown hg3 hb.size (fun j hj => by injection hj with hj; omega)
      clear hS hF hb
      go_wp2_with fail
      refine (zag_any (vv b k) w3 hv).mono ?_
      rintro e w' ⟨rfl, rfl⟩
      have hc := hF3.cell k
      rw [fillW_old _ _ k (by rw [HX.out]; omega)] at hc
      have hf := hF3.frozen k
      go_wp2_with fail
      go_round
      case rel =>
        refine ⟨k + 1, by omega, by go_num, hS3.store hF3 hg1 (by decide) k _, ?_, hb3.setCell (by show w.heap.size ≤ h; omega) _⟩
        have := hF3.set_ k (.int .i64 (zagI (vv b k : Int)))
        rwa [fillW_next _ _ k _ (by unfold zs; rw [List.getElem?_map, getL_at b N k hlt]; rfl)] at this
      case measure => simp [intOf]; omega
    · obtain rfl : k = N := by omega
      go_wp2_with fail
      refine (end_is (hmet.next hb) hS).mono ?_
      rintro e w3 ⟨he, hb3⟩
      have hF3 := hF.below hb3 hF.lt
      have hB3 := hb.trans (hb3.mono hb.size)
      obtain ⟨r, hr0⟩ : ∃ r, r = (endS b (vst b k).1 (vst b k).2).1 := ⟨_, rfl⟩
      obtain ⟨o, ho⟩ : ∃ o : Int, o = ((endS b (vst b k).1 (vst b k).2).2 : Int) := ⟨_, rfl⟩
      have he' : e = .returned (.tuple #[.int .i64 r, .int .i64 o]) := by rw [hr0, ho]; exact he
      subst he'
      clear he ho hb hb3 hF hS
      rw [← hr0] at HE
      have HR := Lib.hid hr0
      clear hr0
      have hS0 : Hid (getS b (k : Int) = if r = 0 then getL b k else []) := by
        unfold getS
        rw [HE.out, Int.toNat_natCast]
        try exact Lib.hid rfl
      by_cases h0 : r = 0
      · subst h0
        go_wp2_with fail
        go_ret2
        rw [fillW_all _ _ k HX.out] at hF3
        rw [hS0.out, HE.out, if_pos trivial]
        refine ⟨_, rfl, ?_, hB3⟩
        have := own_whole (B := w.heap.size) hF3 (by omega) HX.out (by unfold maxLen; omega)
        rw [getL_length]
        exact this
      · have q1 : (r == 0) = false := by simp [h0]
        have q2 : (r != 0) = true := by simp [h0]
        have H0 := Lib.hid h0
        clear h0
        go_wp2_with fail
        go_ret2
        rw [hS0.out, HE.out, if_neg H0.out]
        exact ⟨.slice none 0 0, rfl, own_nil _ _ _ _, hB3⟩
theorem plGet_any (A : Option Addr) (n c : Nat) (k : Int) (b : List Nat) (w : World) (hr : Reads w w.heap.size 1 A n (bs b)) (hb : ∀ x ∈ b, x < 256) (hn : n ≤ 140737488355328) (hmet : Met w) :
    Calls Tryz.prog 152 #[.slice A n c, .int .i64 k] w (NewLE w (getS b k) (getE b k)) := by
  by_cases h : k < 0 ∨ 65536 < k
  · exact plGet_no A n c b k w h
  · obtain ⟨N, rfl⟩ : ∃ N : Nat, k = (N : Int) := ⟨k.toNat, by omega⟩
    exact plGet_ok A n c N b w hr hb hn (by omega) hmet
end Go.Proofs.YticanhidahkhfaaGreatDoor
namespace Go.Proofs.YticanhidahkhfaaGreatDoor
open Go.RowKit
set_option linter.unusedVariables false
set_option linter.unusedSimpArgs false
set_option maxRecDepth 100000
theorem good_snoc : ∀ (r : List (Int × Nat)) (x : Int) (m : Nat), Good (r ++ [(x, m)]) ↔ Good r ∧ 0 < m ∧ (r.getLast?.map Prod.fst ≠ some x)
  | [], x, m => by
    show (0 < m ∧ _ ∧ True) ↔ _
    simp [Good]
  | [(y, n)], x, m => by
    show (0 < n ∧ _ ∧ 0 < m ∧ _ ∧ True) ↔ _
    simp [Good]
    intro _
    constructor
    · rintro ⟨h2, h3⟩; exact ⟨h3, fun e => h2 e.symm⟩
    · rintro ⟨h2, h3⟩; exact ⟨fun e => h3 e.symm, h2⟩
  | (y, n) :: q :: r, x, m => by
    have ih := good_snoc (q :: r) x m
    rw [List.getLast?_cons_cons]
    show (0 < n ∧ ((((q :: r) ++ [(x, m)]).head?.map Prod.fst) ≠ some y) ∧ Good ((q :: r) ++ [(x, m)])) ↔ _
    rw [ih]
    rw [show ((q :: r) ++ [(x, m)]).head? = (q :: r).head? from rfl]
    show _ ↔ (0 < n ∧ _ ∧ Good (q :: r)) ∧ _
    constructor
    · rintro ⟨h1, h2, h3, h4, h5⟩; exact ⟨⟨h1, h2, h3⟩, h4, h5⟩
    · rintro ⟨⟨h1, h2, h3⟩, h4, h5⟩; exact ⟨h1, h2, h3, h4, h5⟩
theorem expd_one (x : Int) (m : Nat) : expd [(x, m)] = List.replicate m x := by simp [expd]
theorem runs_more {l : List Int} {r : List (Int × Nat)} {x : Int} {m : Nat} (h : runs l = r ++ [(x, m)]) : runs (l ++ [x]) = r ++ [(x, m + 1)] := by
  have hg := good_runs l
  rw [h, good_snoc] at hg
  have hl := expd_runs l
  rw [h, expd_append, expd_one] at hl
  have he : l ++ [x] = expd (r ++ [(x, m + 1)]) := by
    rw [expd_append, expd_one, List.replicate_succ', ← List.append_assoc, hl]
  rw [he]
  exact runs_expd _ ((good_snoc _ _ _).2 ⟨hg.1, by omega, hg.2.2⟩)
theorem runs_new {l : List Int} {x : Int} (h : (runs l).getLast?.map Prod.fst ≠ some x) : runs (l ++ [x]) = runs l ++ [(x, 1)] := by
  have he : l ++ [x] = expd (runs l ++ [(x, 1)]) := by
    rw [expd_append, expd_one, expd_runs]; rfl
  rw [he]
  exact runs_expd _ ((good_snoc _ _ _).2 ⟨good_runs l, by omega, h⟩)
def rv (r : List (Int × Nat)) : List Value := r.flatMap fun p => [Value.int .i64 p.1, Value.int .i64 (p.2 : Int)]
theorem rv_append (r s : List (Int × Nat)) : rv (r ++ s) = rv r ++ rv s := by simp [rv]
theorem rv_length : ∀ r : List (Int × Nat), (rv r).length = r.length * 2
  | [] => rfl
  | p :: r => by
    have := rv_length r
    show ([_, _] ++ rv r).length = _
    rw [List.length_append, this, List.length_cons]
    simp
    omega
theorem rv_one (r : List (Int × Nat)) : ∀ u ∈ rv r, u.oneCell' = true := by
  intro u hu
  obtain ⟨p, _, hu⟩ := List.mem_flatMap.1 hu
  simp at hu
  rcases hu with rfl | rfl <;> rfl
theorem rv_at : ∀ {r : List (Int × Nat)} {k : Nat} {x : Int} {m : Nat}, r[k]? = some (x, m) → (rv r)[k * 2]? = some (.int .i64 x) ∧ (rv r)[k * 2 + 1]? = some (.int .i64 (m : Int))
  | p :: r, 0, x, m, h => by
    simp at h
    subst h
    exact ⟨rfl, rfl⟩
  | p :: r, k + 1, x, m, h => by
    have ih := rv_at (r := r) (k := k) (by simpa using h)
    rw [show (k + 1) * 2 = k * 2 + 2 by omega]
    exact ⟨by simpa [rv] using ih.1, by simpa [rv] using ih.2⟩
theorem rv_last (r : List (Int × Nat)) (x : Int) (m m' : Nat) : (rv (r ++ [(x, m)])).set (r.length * 2 + 1) (.int .i64 (m' : Int)) = rv (r ++ [(x, m')]) := by
  rw [rv_append, rv_append, List.set_append_right _ _ (by rw [rv_length]; omega), rv_length]
  congr 1
  rw [show r.length * 2 + 1 - r.length * 2 = 1 by omega]
  rfl
end Go.Proofs.YticanhidahkhfaaGreatDoor
namespace Go.Proofs.YticanhidahkhfaaGreatDoor
open Go.RowKit
set_option linter.unusedVariables false
set_option linter.unusedSimpArgs false
set_option maxRecDepth 100000
def how (b : List Nat) (k : Nat) : Nat := vv b (2 * k)
def num (b : List Nat) (k : Nat) : Int := zagI (vv b (2 * k + 1) : Int)
def rr (b : List Nat) (k : Nat) : List (Int × Nat) := (List.range k).map fun j => (num b j, how b j + 1)
def tot (b : List Nat) (k : Nat) : Nat := (expd (rr b k)).length
def ahdN (b : List Nat) (k : Nat) : Int := if k = 0 then 0 else num b (k - 1)
theorem rr_succ (b : List Nat) (k : Nat) : rr b (k + 1) = rr b k ++ [(num b k, how b k + 1)] := by simp [rr, List.range_succ]
theorem rr_length (b : List Nat) (k : Nat) : (rr b k).length = k := by simp [rr]
theorem tot_zero (b : List Nat) : tot b 0 = 0 := rfl
theorem tot_succ (b : List Nat) (k : Nat) : tot b (k + 1) = tot b k + (how b k + 1) := by
  unfold tot
  rw [rr_succ, expd_append, expd_one, List.length_append, List.length_replicate]
theorem tot_ge (b : List Nat) (k : Nat) : k ≤ tot b k := by
  induction k with
  | zero => exact Nat.zero_le _
  | succ k ih => rw [tot_succ]; omega
theorem ahdN_succ (b : List Nat) (k : Nat) : ahdN b (k + 1) = num b k := by unfold ahdN; rw [if_neg (by omega)]; rfl
def rBad (b : List Nat) (N k : Nat) : Int :=
  match (vst b (2 * k + 2)).2 with
  | some y => y.1
  | none => if N - tot b k ≤ how b k then 5 else if 0 < k ∧ num b k = ahdN b k then 4 else 0
def rGo (b : List Nat) (N k : Nat) : Prop := tot b k < N ∧ rBad b N k = 0
instance (b : List Nat) (N k : Nat) : Decidable (rGo b N k) := by unfold rGo; exact inferInstance
def rStop (b : List Nat) (N : Nat) : Nat → Nat → Nat
  | 0, k => k
  | f + 1, k => if rGo b N k then rStop b N f (k + 1) else k
theorem rStop_spec (b : List Nat) (N : Nat) : ∀ f k, k ≤ rStop b N f k ∧ (∀ j, k ≤ j → j < rStop b N f k → rGo b N j) ∧ (N ≤ f + k → ¬ rGo b N (rStop b N f k))
  | 0, k => ⟨Nat.le_refl _, fun j h1 h2 => by have : j < k := h2; omega, fun h => by
      intro hg
      have h1 : tot b k < N := hg.1
      have := tot_ge b k
      omega⟩
  | f + 1, k => by
    obtain ⟨h1, h2, h3⟩ := rStop_spec b N f (k + 1)
    unfold rStop
    by_cases hg : rGo b N k
    · rw [if_pos hg]
      refine ⟨by omega, fun j h4 h5 => ?_, fun h => h3 (by omega)⟩
      rcases Nat.lt_or_ge k j with h6 | h6
      · exact h2 j (by omega) h5
      · obtain rfl : j = k := by omega
        exact hg
    · rw [if_neg hg]
      exact ⟨Nat.le_refl _, fun j h4 h5 => by omega, fun _ => hg⟩
def rK (b : List Nat) (N : Nat) : Nat := rStop b N N 0
theorem rK_go {b : List Nat} {N j : Nat} (h : j < rK b N) : rGo b N j := (rStop_spec b N N 0).2.1 j (Nat.zero_le _) h
theorem rK_end (b : List Nat) (N : Nat) : ¬ rGo b N (rK b N) := (rStop_spec b N N 0).2.2 (by omega)
theorem rK_lt {b : List Nat} {N k : Nat} (hk : k ≤ rK b N) (h : rGo b N k) : k < rK b N := by
  rcases Nat.lt_or_ge k (rK b N) with h1 | h1
  · exact h1
  · obtain rfl : k = rK b N := by omega
    exact absurd h (rK_end b N)
theorem go_is {b : List Nat} {N k : Nat} (h : rGo b N k) : tot b k < N ∧ (vst b (2 * k + 2)).2 = none ∧ how b k < N - tot b k ∧ ¬ (0 < k ∧ num b k = ahdN b k) := by
  obtain ⟨h1, h2⟩ := h
  refine ⟨h1, ?_⟩
  unfold rBad at h2
  cases hx : (vst b (2 * k + 2)).2 with
  | some y =>
    rw [hx] at h2
    exact absurd h2 (vst_ok b _ y hx)
  | none =>
    rw [hx] at h2
    simp only at h2
    by_cases h3 : N - tot b k ≤ how b k
    · rw [if_pos h3] at h2; cases h2
    · rw [if_neg h3] at h2
      by_cases h4 : 0 < k ∧ num b k = ahdN b k
      · rw [if_pos h4] at h2; cases h2
      · exact ⟨rfl, by omega, h4⟩
theorem go_of {b : List Nat} {N k : Nat} (h1 : tot b k < N) (h2 : (vst b (2 * k + 2)).2 = none) (h3 : ¬ N - tot b k ≤ how b k) (h4 : ¬ (0 < k ∧ num b k = ahdN b k)) : rGo b N k := by
  refine ⟨h1, ?_⟩
  unfold rBad
  rw [h2]
  simp only
  rw [if_neg h3, if_neg h4]
theorem rK_none {b : List Nat} {N : Nat} : ∀ k, k ≤ rK b N → (vst b (2 * k)).2 = none ∧ tot b k ≤ N
  | 0, _ => ⟨rfl, Nat.zero_le _⟩
  | k + 1, h => by
    have hg := go_is (rK_go (b := b) (N := N) (j := k) (by omega))
    refine ⟨hg.2.1, ?_⟩
    rw [tot_succ]
    omega
theorem rr_good {b : List Nat} {N : Nat} : ∀ k, k ≤ rK b N → Good (rr b k) ∧ (0 < k → (rr b k).getLast?.map Prod.fst = some (ahdN b k))
  | 0, _ => ⟨trivial, fun h => absurd h (by omega)⟩
  | k + 1, h => by
    obtain ⟨h1, h2⟩ := rr_good (b := b) (N := N) k (by omega)
    have hg := go_is (rK_go (b := b) (N := N) (j := k) (by omega))
    rw [rr_succ]
    refine ⟨(good_snoc _ _ _).2 ⟨h1, by omega, ?_⟩, fun _ => by rw [ahdN_succ]; simp⟩
    rcases Nat.eq_zero_or_pos k with rfl | h3
    · simp [rr]
    · rw [h2 h3]
      intro e
      injection e with e
      exact hg.2.2.2 ⟨h3, e.symm⟩
def rEnd (b : List Nat) (N : Nat) : Int := if tot b (rK b N) < N then rBad b N (rK b N) else (endS b (vst b (2 * rK b N)).1 none).1
def rE (b : List Nat) (k : Int) : Int := if k < 0 ∨ 65536 < k then 1 else rEnd b k.toNat
def rS (b : List Nat) (k : Int) : List Int := if rE b k = 0 then expd (rr b (rK b k.toNat)) else []
theorem rBad_end {b : List Nat} {N : Nat} (h : tot b (rK b N) < N) : rBad b N (rK b N) ≠ 0 := fun e => rK_end b N ⟨h, e⟩
theorem rEnd_ok {b : List Nat} {N : Nat} (h : rEnd b N = 0) : tot b (rK b N) = N ∧ ¬ (vst b (2 * rK b N)).1 < b.length := by
  unfold rEnd at h
  have h1 := (rK_none (b := b) (N := N) _ (Nat.le_refl _)).2
  by_cases h2 : tot b (rK b N) < N
  · rw [if_pos h2] at h
    exact absurd h (rBad_end h2)
  · rw [if_neg h2, endS_none] at h
    refine ⟨by omega, fun h3 => ?_⟩
    rw [if_pos h3] at h
    cases h
theorem num_in {b : List Nat} (hb : ∀ x ∈ b, x < 256) (k : Nat) : In64 (num b k) := zagI_in (vv_lt hb _)
theorem expd_mem {r : List (Int × Nat)} {z : Int} (h : z ∈ expd r) : ∃ p ∈ r, p.1 = z := by
  obtain ⟨p, hp, hz⟩ := List.mem_flatMap.1 h
  exact ⟨p, hp, (List.eq_of_mem_replicate hz).symm⟩
theorem expd_in {b : List Nat} (hb : ∀ x ∈ b, x < 256) (k : Nat) : ∀ z ∈ expd (rr b k), In64 z := by
  intro z hz
  obtain ⟨p, hp, rfl⟩ := expd_mem hz
  unfold rr at hp
  obtain ⟨j, _, rfl⟩ := List.mem_map.1 hp
  exact num_in hb j
theorem ilv_rr (b : List Nat) : ∀ k, ilv (rr b k) = getL b (2 * k)
  | 0 => rfl
  | k + 1 => by
    rw [rr_succ, ilv_append, ilv_rr b k, show 2 * (k + 1) = 2 * k + 1 + 1 by omega, getL_succ, getL_succ]
    show _ ++ [zagI ((how b k + 1 - 1 : Nat) : Int), num b k] = _
    rw [List.append_assoc]
    rfl
theorem rn_put_get (b : List Nat) (hb : ∀ x ∈ b, x < 256) (k : Int) (h : rE b k = 0) :
    0 ≤ k ∧ k ≤ 65536 ∧ rf (runs (rS b k)) = b ∧ ((rS b k).length : Int) = k ∧ ∀ z ∈ rS b k, In64 z := by
  have hk : ¬ (k < 0 ∨ 65536 < k) := by
    intro e
    unfold rE at h
    rw [if_pos e] at h
    cases h
  have hS : rS b k = expd (rr b (rK b k.toNat)) := by unfold rS; rw [if_pos h]
  unfold rE at h
  rw [if_neg hk] at h
  obtain ⟨h1, h2⟩ := rEnd_ok h
  obtain ⟨h3, h4⟩ := rK_none (b := b) (N := k.toNat) _ (Nat.le_refl _)
  obtain ⟨h5, h6⟩ := put_prefix b hb _ h3
  rw [hS]
  refine ⟨by omega, by omega, ?_, ?_, expd_in hb _⟩
  · rw [runs_expd _ (rr_good _ (Nat.le_refl _)).1]
    unfold rf
    rw [ilv_rr, h6, List.take_of_length_le (by omega)]
  · have : (expd (rr b (rK b k.toNat))).length = k.toNat := h1
    omega
end Go.Proofs.YticanhidahkhfaaGreatDoor
