/- Contracts of package delta's Steps, Sums and zigs: new numbers. -/
import Derived.Test.YteadmjgkmjeanaaDoorJ12
import Derived.Test.YteadmjgkmjeanaaDoorJ13
namespace Go.Proofs.YteadmjgkmjeanaaDoor
open Go.RowKit
set_option linter.unusedVariables false
set_option linter.unusedSimpArgs false
set_option maxRecDepth 100000

/-- What a function answers that hands out new numbers with a sign. -/
def NewZ (w : World) (l : List Int) (e : Ending) (w' : World) : Prop := ∃ v, e = .returned v ∧ w'.ownsRow w.heap.size 2 1 v l.length (zs l) ∧ Below w.heap.size w w'
theorem NewZ.opened {w w' : World} {l : List Int} {e : Ending} (h : NewZ w l e w') : ∃ A c, e = .returned (.slice A l.length c) ∧ l.length ≤ c ∧ c ≤ maxLen ∧ Reads w' w'.heap.size 1 A l.length (zs l) ∧ Below w.heap.size w w' := by
  obtain ⟨v, rfl, hown, hb⟩ := h
  obtain ⟨A, c, rfl, hc, hm, hr⟩ := own_slice hown
  exact ⟨A, c, rfl, hc, hm, hr, hb⟩
theorem zs_some {l : List Int} {k : Nat} {z : Int} (h : l[k]? = some z) : (zs l)[k]? = some (.int .i64 z) := by unfold zs; rw [List.getElem?_map, h]; rfl
set_option maxHeartbeats 1000000 in
theorem steps_any (A : Option Addr) (n c : Nat) (l : List Int) (w : World) (hr : Reads w w.heap.size 1 A n (zs l)) (hn : n ≤ 17592186044416) :
    Calls Tryd.prog 11 #[.slice A n c] w (NewZ w (stp 0 l)) := by
  have e1 : l.length = n := by have := hr.1; rw [zs_length] at this; omega
  have hXz : (zs (stp 0 l)).length = n := by rw [zs_length, stp_length, e1]
  have hmk := fun W => run_make_i64 n n (Nat.le_refl _) (by omega) W
  rw [← fillW_zero (zs (stp 0 l)) (.int .i64 0) n hXz] at hmk
  have HX := Lib.hid hXz; have E1 := Lib.hid e1
  clear hXz e1
  have hF0 := Blk.new w 2 (fillW (zs (stp 0 l)) (.int .i64 0) 0)
  have hb0 : Below w.heap.size w (w.alloc (.cells (fillW (zs (stp 0 l)) (.int .i64 0) 0) 2)) := (Below.refl _ _).alloc (Nat.le_refl _) _
  go_enter Tryd.func11, Tryd.ntmps11
  go_wp2_with fail
  clear hmk
  go_loopw [4, 12] (fun s4 s12 wr => ∃ k : Nat, k ≤ n ∧ s12 = .int .i64 (k : Int) ∧ s4 = .int .i64 (ahd 0 l k) ∧ Blk wr w.heap.size 2 (fillW (zs (stp 0 l)) (.int .i64 0) k) ∧ Below w.heap.size w wr) (fun _ i _ => n - (intOf i).toNat)
  case atStart => exact ⟨0, by omega, rfl, rfl, hF0, hb0⟩
  case round =>
    clear hF0 hb0
    obtain ⟨k, hk, rfl, rfl, hF, hb⟩ := hrel
    by_cases hlt : k < n
    · obtain ⟨ad, u, rfl, _, hu, hc0⟩ := (hr.below hb).at_ hlt
      obtain ⟨z, hz, rfl⟩ := zs_at hu
      have hc := hF.cell k
      rw [fillW_old _ _ k (by rw [HX.out]; omega)] at hc
      have hf := hF.frozen k
      have HZ := Lib.hid hz
      clear hu hz
      generalize ha : ahd 0 l k = a
      have HA := Lib.hid ha
      clear ha
      go_wp2_with fail
      go_round
      case rel =>
        refine ⟨k + 1, by omega, by go_num, by rw [ahd_succ HZ.out], ?_, hb.setCell (Nat.le_refl _) _⟩
        have h1 := hF.set_ k (.int .i64 (wrap64 (z - a)))
        rw [fillW_next _ _ k _ (zs_some (by rw [← HA.out]; exact stp_at l 0 k z HZ.out))] at h1
        exact h1
      case measure => simp [intOf]; omega
    · obtain rfl : k = n := by omega
      go_wp2_with fail
      go_ret
      rw [fillW_all _ _ k HX.out] at hF
      have := own_whole (B := w.heap.size) hF (Nat.le_refl _) HX.out (by unfold maxLen; omega)
      refine ⟨_, rfl, ?_, hb⟩
      rw [stp_length, E1.out]
      exact this
set_option maxHeartbeats 1000000 in
theorem sums_any (A : Option Addr) (n c : Nat) (l : List Int) (w : World) (hr : Reads w w.heap.size 1 A n (zs l)) (hn : n ≤ 17592186044416) :
    Calls Tryd.prog 10 #[.slice A n c] w (NewZ w (sms 0 l)) := by
  have e1 : l.length = n := by have := hr.1; rw [zs_length] at this; omega
  have hXz : (zs (sms 0 l)).length = n := by rw [zs_length, sms_length, e1]
  have hmk := fun W => run_make_i64 n n (Nat.le_refl _) (by omega) W
  rw [← fillW_zero (zs (sms 0 l)) (.int .i64 0) n hXz] at hmk
  have HX := Lib.hid hXz; have E1 := Lib.hid e1
  clear hXz e1
  have hF0 := Blk.new w 2 (fillW (zs (sms 0 l)) (.int .i64 0) 0)
  have hb0 : Below w.heap.size w (w.alloc (.cells (fillW (zs (sms 0 l)) (.int .i64 0) 0) 2)) := (Below.refl _ _).alloc (Nat.le_refl _) _
  go_enter Tryd.func10, Tryd.ntmps10
  go_wp2_with fail
  clear hmk
  go_loopw [4, 12] (fun s4 s12 wr => ∃ k : Nat, k ≤ n ∧ s12 = .int .i64 (k : Int) ∧ s4 = .int .i64 (smA 0 l k) ∧ Blk wr w.heap.size 2 (fillW (zs (sms 0 l)) (.int .i64 0) k) ∧ Below w.heap.size w wr) (fun _ i _ => n - (intOf i).toNat)
  case atStart => exact ⟨0, by omega, rfl, rfl, hF0, hb0⟩
  case round =>
    clear hF0 hb0
    obtain ⟨k, hk, rfl, rfl, hF, hb⟩ := hrel
    by_cases hlt : k < n
    · obtain ⟨ad, u, rfl, _, hu, hc0⟩ := (hr.below hb).at_ hlt
      obtain ⟨z, hz, rfl⟩ := zs_at hu
      have hc := hF.cell k
      rw [fillW_old _ _ k (by rw [HX.out]; omega)] at hc
      have hf := hF.frozen k
      have HZ := Lib.hid hz
      clear hu hz
      generalize ha : smA 0 l k = a
      have HA := Lib.hid ha
      clear ha
      go_wp2_with fail
      go_round
      case rel =>
        have hs := smA_succ (p := 0) HZ.out
        rw [HA.out] at hs
        refine ⟨k + 1, by omega, by go_num, by rw [hs], ?_, hb.setCell (Nat.le_refl _) _⟩
        have h1 := hF.set_ k (.int .i64 (wrap64 (a + z)))
        rw [fillW_next _ _ k _ (zs_some (by rw [← hs]; exact sms_at l 0 k z HZ.out))] at h1
        exact h1
      case measure => simp [intOf]; omega
    · obtain rfl : k = n := by omega
      go_wp2_with fail
      go_ret
      rw [fillW_all _ _ k HX.out] at hF
      have := own_whole (B := w.heap.size) hF (Nat.le_refl _) HX.out (by unfold maxLen; omega)
      refine ⟨_, rfl, ?_, hb⟩
      rw [sms_length, E1.out]
      exact this
theorem us_some {l : List Int} {k : Nat} {z : Int} (h : l[k]? = some z) : (us (l.map zg))[k]? = some (.int .u64 (zg z : Int)) := by unfold us; rw [List.getElem?_map, List.getElem?_map, h]; rfl
set_option maxHeartbeats 1000000 in
theorem zigs_any (A : Option Addr) (n c : Nat) (l : List Int) (w : World) (hr : Reads w w.heap.size 1 A n (zs l)) (hl : ∀ z ∈ l, In64 z) (hn : n ≤ 17592186044416) :
    Calls Tryd.prog 24 #[.slice A n c] w (New64 w (us (l.map zg)) n) := by
  have e1 : l.length = n := by have := hr.1; rw [zs_length] at this; omega
  have hXz : (us (l.map zg)).length = n := by rw [us_length, List.length_map, e1]
  have hmk := fun W => run_make_u64 n n (Nat.le_refl _) (by omega) W
  rw [← fillW_zero (us (l.map zg)) (.int .u64 0) n hXz] at hmk
  have HX := Lib.hid hXz; have HL := Lib.hid hl
  clear hXz e1 hl
  have hF0 := Blk.new w 40 (fillW (us (l.map zg)) (.int .u64 0) 0)
  have hb0 : Below w.heap.size w (w.alloc (.cells (fillW (us (l.map zg)) (.int .u64 0) 0) 40)) := (Below.refl _ _).alloc (Nat.le_refl _) _
  go_enter Tryd.func24, Tryd.ntmps24
  go_wp2_with fail
  clear hmk
  go_loopw [11] (fun s11 wr => ∃ k : Nat, k ≤ n ∧ s11 = .int .i64 (k : Int) ∧ Blk wr w.heap.size 40 (fillW (us (l.map zg)) (.int .u64 0) k) ∧ Below w.heap.size w wr) (fun i _ => n - (intOf i).toNat)
  case atStart => exact ⟨0, by omega, rfl, hF0, hb0⟩
  case round =>
    clear hF0 hb0
    obtain ⟨k, hk, rfl, hF, hb⟩ := hrel
    by_cases hlt : k < n
    · obtain ⟨ad, u, rfl, _, hu, hc0⟩ := (hr.below hb).at_ hlt
      obtain ⟨z, hz, rfl⟩ := zs_at hu
      have hz64 := HL.out z (List.mem_of_getElem? hz)
      have hc := hF.cell k
      rw [fillW_old _ _ k (by rw [HX.out]; omega)] at hc
      have hf := hF.frozen k
      have HZ := Lib.hid hz
      clear hu hz
      go_wp2_with fail
      refine (zigN_any z wr hz64).mono ?_
      rintro e w' ⟨rfl, rfl⟩
      go_wp2_with fail
      go_round
      case rel =>
        refine ⟨k + 1, by omega, by go_num, ?_, hb.setCell (Nat.le_refl _) _⟩
        have h1 := hF.set_ k (.int .u64 (zg z : Int))
        rw [fillW_next _ _ k _ (us_some HZ.out)] at h1
        exact h1
      case measure => simp [intOf]; omega
    · obtain rfl : k = n := by omega
      go_wp2_with fail
      go_ret
      rw [fillW_all _ _ k HX.out] at hF
      exact ⟨_, rfl, own_whole (B := w.heap.size) hF (Nat.le_refl _) HX.out (by unfold maxLen; omega), hb⟩
end Go.Proofs.YteadmjgkmjeanaaDoor
