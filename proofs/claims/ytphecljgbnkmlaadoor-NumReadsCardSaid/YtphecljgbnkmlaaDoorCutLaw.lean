/- The walk of the statement NumCut: for every number and every cut it answers true, and nothing that was there changes. -/
import Derived.Test.YtphecljgbnkmlaaDoorAwake
import Derived.Test.YtphecljgbnkmlaaDoorTake
import Derived.Test.YtphecljgbnkmlaaDoorVar
import Derived.Test.YtphecljgbnkmlaaDoorErr
import Derived.Test.YtphecljgbnkmlaaDoorNilBlob
namespace Go.Proofs.YtphecljgbnkmlaaDoor
open Go.RowKit
set_option linter.unusedVariables false
set_option maxRecDepth 100000

theorem New.opened {w w' : World} {xs : List Value} {n : Nat} {e : Ending} (h : New w xs n e w') : ∃ A c, e = .returned (.slice A n c) ∧ n ≤ c ∧ Reads w' w'.heap.size 1 A n xs ∧ Below w.heap.size w w' := by
  obtain ⟨v, rfl, hown, hb⟩ := h
  obtain ⟨A, c, rfl, hc, _, hr⟩ := own_slice hown
  exact ⟨A, c, rfl, hc, hr, hb⟩
theorem short_pre (f : Nat) : ∀ v i acc j, i + f ≤ 9 → j < (vbF f v).length → lookF i acc ((vbF f v).take j) = (0, 0, 2) := by
  induction f with
  | zero => intro v i acc j hi hj; simp [vbF] at hj; subst hj; simp [lookF]
  | succ f ih =>
    intro v i acc j hi hj
    rw [vbF_step] at hj ⊢
    by_cases h : v < 128
    · rw [if_pos h] at hj; simp at hj; subst hj; simp [lookF]
    · rw [if_neg h] at hj ⊢
      cases j with
      | zero => simp [lookF]
      | succ j =>
        simp only [List.length_cons] at hj
        rw [List.take_succ_cons]
        unfold lookF
        rw [if_neg (by omega), if_neg (by omega)]
        exact ih _ _ _ _ (by omega) (by omega)
theorem short_vb (v j : Nat) (hj : j < (vb v).length) : lookF 0 0 ((vb v).take j) = (0, 0, 2) := short_pre 9 v 0 0 j (by omega) hj
theorem rd_new {w : World} {g : Nat} {A : Option Addr} {n c : Nat} {l : List Nat} (h : Rd w g A n c 0 .nilIface l) : RdS w g l 0 none := ⟨A, n, c, _, h, rfl⟩

set_option maxHeartbeats 1000000 in
theorem numCut_any (v : Nat) (cut : Int) (w : World) (hv : v < 18446744073709551616) (h1 : -9223372036854775808 ≤ cut) (h2 : cut ≤ 9223372036854775807) (hm : Met w) :
    Calls Tryd.prog 5 #[.int .u64 (v : Int), .int .i64 cut] w fun e w' => e = .returned (.bool true) ∧ Below w.heap.size w w' := by
  have hL := vb_length v
  have hb0 : Below w.heap.size w (w.alloc (.cells #[.int .u8 7] 5)) := (Below.refl _ _).alloc (Nat.le_refl _) _
  have hr0 : Reads (w.alloc (.cells #[.int .u8 7] 5)) (w.alloc (.cells #[.int .u8 7] 5)).heap.size 1 (some ⟨w.heap.size, 0, none⟩) 1 (bs [7]) :=
    (Reads.new w _ _).more (by simp)
  have hmx : max ((vb v).length : Int) 1 = ((vb v).length : Int) := by omega
  go_enter Tryd.func5, Tryd.ntmps5
  go_wp2_with fail
  refine (putVar_any (some ⟨w.heap.size, 0, none⟩) 1 1 v (bs [7]) _ hv hr0 (bs_one _) (by omega)).mono ?_
  intro e1 w1 hN1
  obtain ⟨A1, c1, rfl, hc1, hr1, hb1⟩ := hN1.opened
  clear hN1
  have hb01 : Below w.heap.size w w1 := hb0.trans (hb1.mono (by simp))
  go_wp2_with fail
  rw [show (1 + ((vb v).length : Int) - 1) = ((vb v).length : Int) by omega]
  refine (pick_any cut (vb v).length w1 h1 h2 hL.1 (by omega)).mono ?_
  rintro e2 _ ⟨p, hp, rfl, rfl⟩
  have hcut : Reads w1 w1.heap.size 1 A1 (1 + p) (bs (7 :: (vb v).take p)) := by
    have := hr1.fore (k := 1 + p) (by omega)
    rwa [← bs_append, bs_take, Nat.mul_one, List.singleton_append, Nat.add_comm 1 p, List.take_succ_cons, Nat.add_comm p 1] at this
  have h256 : ∀ b ∈ 7 :: (vb v).take p, b < 256 := by
    intro b hb
    rcases List.mem_cons.1 hb with rfl | hb
    · omega
    · exact vb_byte v hv b (List.mem_of_mem_take hb)
  have hlk := short_vb v p hp
  have hlen : (7 :: (vb v).take p).length = 1 + p := by simp; omega
  have htk : takeS (7 :: (vb v).take p) 0 none 1 = ([7], 1, none) := by
    unfold takeS
    rw [hlen]
    simp only [show ¬ (1 : Int) < 0 by omega, if_false]
    rw [if_neg (by omega)]
    rfl
  have hvs : varS (7 :: (vb v).take p) 1 none = (0, 1, some (2, 1)) := by
    unfold varS
    simp only [List.drop_succ_cons, List.drop_zero, hlk]
    rfl
  have HTK := Lib.hid htk; have HVS := Lib.hid hvs
  clear hlk hlen htk hvs hmx
  go_wp2_with fail
  refine (newReader_any A1 (1 + p) _ (7 :: (vb v).take p) w1 hcut (by omega) h256).mono ?_
  rintro e3 w3 ⟨g, A3, c3, rfl, hg3, hR3, hb3⟩
  have hS3 := rd_new hR3
  have hb03 := hb01.trans (hb3.mono hb01.size)
  go_wp2_with fail
  refine (take_is 1 hS3).mono ?_
  rw [HTK.out]
  rintro e4 w4 ⟨⟨A4, n4, c4, rfl, hr4⟩, hS4, hg4⟩
  obtain rfl : n4 = 1 := by have := hr4.1; simp [bs] at this; omega
  have hgw : w.heap.size ≤ g := by have := hb01.size; omega
  have hb04 : Below w.heap.size w w4 := hb03.grown hg4 hb03.size (fun k hk => by injection hk with hk; omega)
  go_wp2_with fail
  refine (var_is hS4).mono ?_
  rw [HVS.out]
  rintro e5 w5 ⟨rfl, hS5, hg5⟩
  have hb05 : Below w.heap.size w w5 := hb04.grown hg5 hb04.size (fun k hk => by injection hk with hk; omega)
  have hm5 := hm.next hb05
  go_wp2_with fail
  refine (err_is hm5 hS5).mono ?_
  rintro e6 w6 ⟨he6, hb6⟩
  have he6' : e6 = .returned (.tuple #[.int .i64 2, .int .i64 1]) := he6
  subst he6'
  have hb06 := hb05.trans (hb6.mono hb05.size)
  clear he6
  go_wp2_with fail
  refine (err_nil w6).mono ?_
  rintro e7 w7 ⟨he7, hb7⟩
  have he7' : e7 = .returned (.tuple #[.int .i64 1, .int .i64 0]) := he7
  subst he7'
  have hb07 := hb06.trans (hb7.mono hb06.size)
  clear he7
  go_wp2_with fail
  refine (fail_nil 4 w7).mono ?_
  rintro e8 _ ⟨rfl, rfl⟩
  go_wp2_with fail
  refine (var_nil w7).mono ?_
  rintro e9 _ ⟨rfl, rfl⟩
  go_wp2_with fail
  refine (fix_nil 3 w7).mono ?_
  rintro e10 _ ⟨rfl, rfl⟩
  go_wp2_with fail
  refine (take_nil 1 w7).mono ?_
  rintro e11 _ ⟨rfl, rfl⟩
  go_wp2_with fail
  refine (blob_nil 1 w7).mono ?_
  rintro e12 _ ⟨rfl, rfl⟩
  go_wp2_with fail
  refine (at_nil w7).mono ?_
  rintro e13 _ ⟨rfl, rfl⟩
  go_wp2_with fail
  refine (left_nil w7).mono ?_
  rintro e14 _ ⟨rfl, rfl⟩
  go_wp2_with fail
  refine (awake_any w7).mono ?_
  rintro e15 w15 ⟨rfl, hb15⟩
  go_wp2_with fail
  go_ret
  exact ⟨rfl, hb07.trans (hb15.mono hb07.size)⟩
end Go.Proofs.YtphecljgbnkmlaaDoor
