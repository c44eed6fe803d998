/- Contracts of package value's bit and PutSchema: a schema's form, in new memory. -/
import Derived.Deep.RegionLaw
import Derived.Test.YtieknhhhcjdbnaaDoorVlScF
import Derived.Test.YtieknhhhcjdbnaaDoorVlWrap
import Derived.Test.YtieknhhhcjdbnaaDoorOwnNew
import Derived.Test.YtieknhhhcjdbnaaDoorJ2
import Derived.Test.YtieknhhhcjdbnaaDoorJ22
namespace Go.Proofs.YtieknhhhcjdbnaaDoor
open Go.RowKit
set_option linter.unusedVariables false
set_option linter.unusedSimpArgs false
set_option maxRecDepth 100000

theorem bit_f (w : World) : Calls Tryd.prog 47 #[.bool false] w fun e w' => e = .returned (.int .u8 0) ∧ w = w' := by
  go_enter Tryd.func47, Tryd.ntmps47
  go_wp2_with fail
  go_ret
  exact ⟨rfl, rfl⟩
theorem bit_t (w : World) : Calls Tryd.prog 47 #[.bool true] w fun e w' => e = .returned (.int .u8 1) ∧ w = w' := by
  go_enter Tryd.func47, Tryd.ntmps47
  go_wp2_with fail
  go_ret
  exact ⟨rfl, rfl⟩
set_option maxHeartbeats 2000000 in
theorem putS_any (A : Option Addr) (n c : Nat) (s : List Cl) (w : World) (hr : Reads w w.heap.size 3 A n (cls s)) (hn : n ≤ 65536) :
    Calls Tryd.prog 20 #[.slice A n c] w (New w (bs (scB s)) (scB s).length) := by
  obtain ⟨i0, hi0, hz0, hz1, hz2⟩ := info_parts info_u8
  have e1 : s.length = n := by have := hr.1; rw [cls_length] at this; omega
  have hw8 : IntKind.u8.wrap (n : Int) = ((n % 256 : Nat) : Int) := by rw [u8_mod]; congr 1
  have hown0 := own_new w #[.int .u8 ((n % 256 : Nat) : Int)] 1 5 (bs (scF n [])) (by unfold maxLen; omega) rfl (by simp [bs, scF])
  have HO := Lib.hid hown0
  have HB2 : Hid (Below w.heap.size w (w.alloc (.cells #[.int .u8 ((n % 256 : Nat) : Int)] 5))) := Lib.hid ((Below.refl _ _).alloc (Nat.le_refl _) _)
  rw [scF_all, e1]
  have HE := Lib.hid e1
  obtain ⟨m, hm⟩ : ∃ m, n % 256 = m := ⟨_, rfl⟩
  rw [hm] at hw8 HO HB2
  clear hown0 e1 hm
  go_enter Tryd.func20, Tryd.ntmps20
  go_wp2_with fail
  go_loopw [3, 4, 11] (fun b _ i wr => ∃ k : Nat, k ≤ n ∧ i = .int .i64 (k : Int) ∧ wr.ownsRow w.heap.size 5 1 b (3 * k + 1) (bs (scF n (s.take k))) ∧ Below w.heap.size w wr) (fun _ _ i _ => n - (intOf i).toNat)
  case atStart => exact ⟨0, Nat.zero_le _, rfl, HO.out, HB2.out⟩
  case round =>
    clear HO HB2
    obtain ⟨k, hk, rfl, hown, hb⟩ := hrel
    by_cases hlt : k < n
    · obtain ⟨⟨kd, nu, wy⟩, hz⟩ : ∃ v, s[k]? = some v := ⟨_, List.getElem?_eq_getElem (by rw [HE.out]; omega)⟩
      obtain ⟨b, o, rfl, hb0, y0, y1, y2⟩ := (hr.below hb).col hz
      have hsz := hb.size
      have HS : Hid (scF n (s.take (k + 1)) = scF n (s.take k) ++ cB (kd, nu, wy)) := Lib.hid (by rw [take_snoc hz, scF_snoc])
      clear hz
      have k8 := u8_mod kd
      have w8 : IntKind.u8.wrap (IntKind.i64.wrap (wy + 1)) = ((((wy + 1) % 256).toNat : Nat) : Int) := by
        rw [u8_mod, i64_mod]
      obtain ⟨a, ha⟩ : ∃ a, (kd % 256).toNat = a := ⟨_, rfl⟩
      obtain ⟨d, hd⟩ : ∃ d, ((wy + 1) % 256).toNat = d := ⟨_, rfl⟩
      have hcB : cB (kd, nu, wy) = [a, if nu = true then 1 else 0, d] := by unfold cB; rw [← ha, ← hd]
      rw [ha] at k8
      rw [hd] at w8
      rw [hcB] at HS
      clear ha hd hcB
      cases nu with
      | false =>
        have HRD : Hid (Reads (wr.alloc (.cells #[.int .u8 (a : Int), .int .u8 0, .int .u8 (d : Int)] 5)) (wr.heap.size + 1) 1 (some ⟨wr.heap.size, 0, none⟩) 3 (bs [a, 0, d])) := Lib.hid (reads_blk (Blk.new wr _ _) _ _ _ (by omega) rfl rfl)
        go_wp2_with fail
        go_region_law (first
          | (refine step_append_any _ rfl (.tmp 14) (.tmp 34) _ rfl w.heap.size 5 i0 _ 1 1 Tryd.underlying22 hi0 hz0 hz1 hz2 rfl (by omega) u3 (3 * k + 1) (bs (scF n (s.take k))) (by simp [Act.eval, Act.put])
              ((show wr.drew.ownsRow _ _ _ _ _ _ from hown).alloc _) (wr.heap.size + 1) (some ⟨wr.heap.size, 0, none⟩) 3 3 (bs [a, 0, d]) (by simp [Act.eval, Act.put]) (by exact HRD.out.drew) (bs_one _) (by unfold maxLen; omega) (by omega) (by simp; omega) ?_
             intro v4 w4 hown4 hg4 hat4)
          | (go_simp; go_at_call 47; refine (bit_f _).mono ?_
             rintro e2 w2' ⟨rfl, rfl⟩
             show _))
        all_goals
          go_wp2_with fail
          go_round
          case rel =>
            refine ⟨k + 1, by omega, by go_num, ?_, below_app hb hown hsz (show (wr.alloc _).grownBy w4 _ from ⟨hg4.os, hg4.tape, hg4.output, hg4.size, hg4.block⟩)⟩
            rw [HS.out, bs_append]
            exact hown4
          case measure => simp [intOf]; omega
      | true =>
        have HRD : Hid (Reads (wr.alloc (.cells #[.int .u8 (a : Int), .int .u8 1, .int .u8 (d : Int)] 5)) (wr.heap.size + 1) 1 (some ⟨wr.heap.size, 0, none⟩) 3 (bs [a, 1, d])) := Lib.hid (reads_blk (Blk.new wr _ _) _ _ _ (by omega) rfl rfl)
        go_wp2_with fail
        go_region_law (first
          | (refine step_append_any _ rfl (.tmp 14) (.tmp 34) _ rfl w.heap.size 5 i0 _ 1 1 Tryd.underlying22 hi0 hz0 hz1 hz2 rfl (by omega) u3 (3 * k + 1) (bs (scF n (s.take k))) (by simp [Act.eval, Act.put])
              ((show wr.drew.ownsRow _ _ _ _ _ _ from hown).alloc _) (wr.heap.size + 1) (some ⟨wr.heap.size, 0, none⟩) 3 3 (bs [a, 1, d]) (by simp [Act.eval, Act.put]) (by exact HRD.out.drew) (bs_one _) (by unfold maxLen; omega) (by omega) (by simp; omega) ?_
             intro v4 w4 hown4 hg4 hat4)
          | (go_simp; go_at_call 47; refine (bit_t _).mono ?_
             rintro e2 w2' ⟨rfl, rfl⟩
             show _))
        all_goals
          go_wp2_with fail
          go_round
          case rel =>
            refine ⟨k + 1, by omega, by go_num, ?_, below_app hb hown hsz (show (wr.alloc _).grownBy w4 _ from ⟨hg4.os, hg4.tape, hg4.output, hg4.size, hg4.block⟩)⟩
            rw [HS.out, bs_append]
            exact hown4
          case measure => simp [intOf]; omega
    · obtain rfl : k = n := by omega
      go_wp2_with fail
      go_ret
      rw [List.take_of_length_le (by rw [HE.out]; exact Nat.le_refl _)] at hown
      exact ⟨_, rfl, by rw [scF_length, HE.out]; exact hown, hb⟩
end Go.Proofs.YtieknhhhcjdbnaaDoor
