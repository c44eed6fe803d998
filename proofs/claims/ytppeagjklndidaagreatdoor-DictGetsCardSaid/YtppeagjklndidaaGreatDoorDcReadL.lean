/- Contract of package dict's readList: the list that it reads, and the reader behind it. -/
import Derived.BigQuiet
import Derived.Deep.QuietTactic
import Derived.Test.YtppeagjklndidaaGreatDoorDcRead2
import Derived.Test.YtppeagjklndidaaGreatDoorJ30
import Derived.Test.YtppeagjklndidaaGreatDoorJ35
import Derived.Test.YtppeagjklndidaaGreatDoorJ33
import Derived.Test.YtppeagjklndidaaGreatDoorJ13
import Derived.Test.YtppeagjklndidaaGreatDoorJ20
namespace Go.Proofs.YtppeagjklndidaaGreatDoor
open Go.RowKit
set_option linter.unusedVariables false
set_option linter.unusedSimpArgs false
set_option maxRecDepth 100000

theorem run_make_i64u (n : Nat) (hc : n ≤ 17592186044416) (w : World) :
    (Instr.makeSlice 24 (.int .u64 (n : Int)) (.int .u64 (n : Int))).run Tryz.prog w = .ok (.slice (some ⟨w.heap.size, 0, none⟩) n n) (w.alloc (.cells (madeCells #[.int .i64 0] n) 2)) := by
  obtain ⟨i, hi, hz0, hz1, hz2⟩ := info_parts info_i64
  have hr := run_make (P := Tryz.prog) w 24 2 i _ Tryz.underlying24 hi hz0 .u64 .u64 n n (by omega) (by omega) (by rw [hz2]; omega) (by omega)
  rw [hz1] at hr
  simpa [Value.cells] using hr
theorem var_first {w : World} {g : Nat} {b : List Nat} (h : RdS w g b 0 none) :
    Calls Tryz.prog 35 #[.pointer (some ⟨g, 0, none⟩)] w fun e w' => e = .returned (.int .u64 (vv b 0 : Int)) ∧ RdTo w g b (vst b 1).1 (vst b 1).2 w' := var_is h
theorem fillW_done (xs : List Value) (z : Value) {k j : Nat} (h : j < k) (hk : k ≤ xs.length) : (fillW xs z k)[j]? = xs[j]? := by
  unfold fillW
  rw [List.getElem?_toArray, List.getElem?_append_left (by rw [List.length_take]; omega), List.getElem?_take, if_pos h]
theorem ldS_first {b : List Nat} {v a : Nat} {x : Option (Int × Nat)} (h : varS b (ldS b 0).1.1 (ldS b 0).1.2 = (v, a, x)) : ldS b 1 = ((a, x), zagI (v : Int)) := by
  conv => lhs; unfold ldS
  simp only
  rw [if_pos trivial, h]
theorem ldS_more {b : List Nat} {k v a : Nat} {x : Option (Int × Nat)} (hk : k ≠ 0) (h : varS b (ldS b k).1.1 (ldS b k).1.2 = (v, a, x)) :
    ldS b (k + 1) = (if wrap64 ((ldS b k).2 + v + 1) ≤ (ldS b k).2 then (a, failS a x 4) else (a, x), wrap64 ((ldS b k).2 + v + 1)) := by
  conv => lhs; unfold ldS
  simp only
  rw [if_neg hk, h]
theorem step_eq (p : Int) (v : Nat) : wrap64 (wrap64 (p + wrap64 (v : Int)) + 1) = wrap64 (p + v + 1) := by
  rw [wr64, wr64, wr64, wr64]; omega
/-- The list is read so far, and the reader stands behind it. -/
def LdAt (w wr : World) (g h : Nat) (b : List Nat) (c k : Nat) : Prop :=
  Blk wr h 2 (fillW (zs (ldL b c)) (.int .i64 0) k) ∧ RdS wr g b (ldS b k).1.1 (ldS b k).1.2 ∧ w.grownBy wr (some g)
set_option maxHeartbeats 1000000 in
theorem readL_any {w : World} {g : Nat} {b : List Nat} (n : Nat) (h : RdS w g b 0 none) (hn : n ≤ 65536) :
    Calls Tryz.prog 16 #[.pointer (some ⟨g, 0, none⟩), .int .i64 (n : Int)] w
      fun e w' => ∃ v, e = .returned v ∧ w'.ownsRow w.heap.size 2 1 v (rdl b n).2.length (zs (rdl b n).2) ∧ RdTo w g b (rdl b n).1.1 (rdl b n).1.2 w' := by
  have hby := h.byte
  have hgw := h.lt
  have hv0 := vv_lt hby 0
  have hnw : IntKind.u64.wrap (n : Int) = (n : Int) := IntWalk.u64_in _ (by omega)
  have hvi := var_first h
  obtain ⟨c, hc⟩ : ∃ c, c = vv b 0 := ⟨_, rfl⟩
  unfold rdl
  rw [← hc] at hvi hv0 ⊢
  by_cases hcn : n < c
  · have HV := Lib.hid hvi
    clear hvi hc
    rw [if_pos hcn]
    go_enter Tryz.func16, Tryz.ntmps16
    go_wp2_with fail
    refine HV.out.mono ?_
    rintro e w1 ⟨rfl, hS1, hG1⟩
    go_wp2_with fail
    refine (fail_is 5 hS1).mono ?_
    rintro e w2 ⟨rfl, hS2, hG2⟩
    go_wp2_with fail
    go_ret
    exact ⟨_, rfl, own_nil _ _ _ _, hS2, only_trans hG1 hG2⟩
  · have HV := Lib.hid hvi
    rw [if_neg hcn]
    have hXz : (zs (ldL b c)).length = c := by rw [zs_length, ldL_length]
    have hmk := fun W => run_make_i64u c (by omega) W
    rw [← fillW_zero (zs (ldL b c)) (.int .i64 0) c hXz] at hmk
    have HX := Lib.hid hXz
    have HBY := Lib.hid hby
    clear hvi hc hXz hby
    go_enter Tryz.func16, Tryz.ntmps16
    go_wp2_with fail
    refine HV.out.mono ?_
    rintro e w1 ⟨rfl, hS1, hG1⟩
    have hz1 := hG1.size
    have hF0 := Blk.new w1 2 (fillW (zs (ldL b c)) (.int .i64 0) 0)
    obtain ⟨w2, hw2⟩ : ∃ w2, w2 = w1.alloc (.cells (fillW (zs (ldL b c)) (.int .i64 0) 0) 2) := ⟨_, rfl⟩
    obtain ⟨G, hG⟩ : ∃ G, G = w1.heap.size := ⟨_, rfl⟩
    have hat : LdAt w w2 g G b c 0 := by
      rw [hw2, hG]
      exact ⟨hF0, hS1.alloc _, only_alloc hG1 _⟩
    have hwG : w.heap.size ≤ G := by rw [hG]; exact hz1
    have hGg : g < G := by omega
    go_wp2_with fail
    rw [← hw2, ← hG]
    clear hmk hS1 hG1 hF0 hw2 hz1 hG
    go_loopw [21] (fun s21 wr => ∃ k : Nat, k ≤ c ∧ s21 = .int .i64 (k : Int) ∧ LdAt w wr g G b c k) (fun i _ => c - (intOf i).toNat)
    case atStart => exact ⟨0, Nat.zero_le _, rfl, hat⟩
    case round =>
      clear hat
      obtain ⟨k, hk, rfl, hF, hS, hGr⟩ := hrel
      by_cases hlt : k < c
      · have hvar := var_is hS
        have hvl := varS_lt HBY.out (ldS b k).1.1 (ldS b k).1.2
        rcases hvS : varS b (ldS b k).1.1 (ldS b k).1.2 with ⟨v, a2, x2⟩
        rw [hvS] at hvar hvl
        simp only at hvar hvl
        have HVR := Lib.hid hvar
        have HAT := Lib.hid (zs_get (ldL_at b c k hlt))
        have hxl : k < (zs (ldL b c)).length := by rw [HX.out]; exact hlt
        have HXL := Lib.hid hxl
        have hGne : (some G : Option Nat) ≠ some g := fun e => by injection e with e; omega
        have HNE := Lib.hid hGne
        clear hvar hS hxl hGne
        by_cases hk0 : k = 0
        · subst hk0
          have HS1 := Lib.hid (ldS_first hvS)
          have q0 : (((0 : Nat) : Int) == 0) = true := rfl
          clear hvS
          go_wp2_with fail
          refine HVR.out.mono ?_
          rintro e w3 ⟨rfl, hS3, hG3⟩
          have hF3 := hF.grown hG3 HNE.out
          have hG03 := only_trans hGr hG3
          have hc0 := hF3.cell 0
          rw [fillW_old _ _ 0 HXL.out] at hc0
          have hf0 := hF3.frozen 0
          clear hF hG3 hGr
          go_wp2_with fail
          refine (zag_any v w3 hvl).mono ?_
          rintro e w' ⟨rfl, rfl⟩
          go_wp2_with fail
          go_round
          case rel =>
            refine ⟨1, by omega, by go_num, ?_, ?_, only_setCell hG03 (.inr hwG) _⟩
            · have h1 := hF3.set_ 0 (.int .i64 (zagI (v : Int)))
              rw [fillW_next _ _ 0 _ (by rw [HAT.out, HS1.out])] at h1
              exact h1
            · rw [HS1.out]
              exact hS3.store hF3 hGg (by decide) 0 _
          case measure => simp [intOf]; omega
        · obtain ⟨j, hj⟩ : ∃ j, k = j + 1 := ⟨k - 1, by omega⟩
          have HS1 := Lib.hid (ldS_more hk0 hvS)
          have HLJ := Lib.hid (zs_get (ldL_at b c j (by omega)))
          rw [← hj] at HLJ
          have q0 : ((k : Int) == 0) = false := by simp; omega
          have hk1 : (k : Int) - 1 = (j : Int) := by omega
          have hk2 : IntKind.i64.wrap (j : Int) = (j : Int) := IntWalk.i64_in _ (by omega)
          have hjc : j < c := by omega
          have hjk : ¬ j = k := by omega
          have hkj : ¬ k = j := by omega
          have hjk2 : j < k := by omega
          obtain ⟨p, hp⟩ : ∃ p, p = (ldS b k).2 := ⟨_, rfl⟩
          rw [← hp] at HS1 HLJ
          have HST := Lib.hid (step_eq p v)
          clear hvS hj hp hk0
          go_wp2_with fail
          refine HVR.out.mono ?_
          rintro e w3 ⟨rfl, hS3, hG3⟩
          have hF3 := hF.grown hG3 HNE.out
          have hG03 := only_trans hGr hG3
          have hck := hF3.cell k
          rw [fillW_old _ _ k HXL.out] at hck
          have hfk := hF3.frozen k
          have hcj := hF3.cell j
          rw [fillW_done _ _ hjk2 (by rw [HX.out]; omega), HLJ.out] at hcj
          clear hF hG3 hGr hjk2
          go_wp2_with fail
          rw [HST.out]
          obtain ⟨z, hz⟩ : ∃ z, z = wrap64 (p + v + 1) := ⟨_, rfl⟩
          rw [← hz] at HS1 ⊢
          have hF4 := hF3.set_ k (.int .i64 z)
          rw [fillW_next _ _ k _ (by rw [HAT.out, HS1.out])] at hF4
          have hS4 := hS3.store hF3 hGg (by decide) k (.int .i64 z)
          have hG04 := only_setCell hG03 (p := ⟨G, k, none⟩) (.inr hwG) (.int .i64 z)
          obtain ⟨w4, hw4⟩ : ∃ w4, w4 = w3.setCell ⟨G, k, none⟩ (.int .i64 z) := ⟨_, rfl⟩
          rw [← hw4] at hF4 hS4 hG04 ⊢
          have hck4 := hF4.cell k
          rw [fillW_done _ _ (Nat.lt_succ_self k) (by rw [HX.out]; omega), HAT.out, HS1.out] at hck4
          have hcj4 := hF4.cell j
          rw [fillW_done _ _ (by omega) (by rw [HX.out]; omega), HLJ.out] at hcj4
          simp only at hck4
          have HS2 := HS1
          clear hF3 hS3 hG03 hw4 hck hfk hcj hz HST
          by_cases hzp : z ≤ p
          · rw [if_pos hzp] at HS2
            go_quiet (fail)
            go_wp2_with fail
            refine (fail_is 4 (hS4.next ((Drawn.one _ _).below (Below.refl _ _)))).mono ?_
            rintro e w5 ⟨rfl, hS5, hG5⟩
            have hF5 := (hF4.drewN _).grown hG5 HNE.out
            have hG05 := only_trans (only_drewN hG04 _) hG5
            go_wp2_with fail
            go_round
            case rel => exact ⟨k + 1, by omega, by go_num, hF5, by rw [HS2.out]; exact hS5, hG05⟩
            case measure => simp [intOf]; omega
          · rw [if_neg hzp] at HS2
            go_quiet (fail)
            go_wp2_with fail
            go_round
            case rel => exact ⟨k + 1, by omega, by go_num, hF4.drewN _, by rw [HS2.out]; exact hS4.next ((Drawn.one _ _).below (Below.refl _ _)), only_drewN hG04 _⟩
            case measure => simp [intOf]; omega
      · obtain rfl : k = c := by omega
        rw [fillW_all _ _ k HX.out] at hF
        have hown := own_whole (B := w.heap.size) hF hwG HX.out (by unfold maxLen; omega)
        go_wp2_with fail
        go_ret
        rw [ldL_length]
        exact ⟨_, rfl, hown, hS, hGr⟩
end Go.Proofs.YtppeagjklndidaaGreatDoor
