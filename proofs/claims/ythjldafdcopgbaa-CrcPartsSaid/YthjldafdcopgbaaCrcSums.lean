/- The walks of the statements CrcSums and CrcParts. -/
import Derived.Test.YthjldafdcopgbaaAwake03
import Derived.Test.YthjldafdcopgbaaPick
import Derived.Deep.RegionWith
namespace Go.Proofs.Ythjldafdcopgbaa
open Go.RowKit
set_option linter.unusedVariables false
set_option maxRecDepth 100000

theorem sums_long (s : Nat) (A : Option Addr) (n c : Nat) (w : World) (h : 2000 < n) :
    Calls Try.prog 3 #[.int .u32 (s : Int), .slice A n c] w fun e w' => e = .returned (.bool true) ∧ Below w.heap.size w w' := by
  go_enter Try.func3, Try.ntmps3
  go_wp2_with fail
  refine (awake_any w).mono ?_
  rintro e w1 ⟨rfl, hb⟩
  go_wp2_with fail
  go_ret
  exact ⟨rfl, hb⟩
theorem sums_main (s : Nat) (A : Option Addr) (n c : Nat) (l : List Nat) (w : World) (hs : s < 4294967296) (hr : Reads w w.heap.size 1 A n (bs l)) (hl : ∀ b ∈ l, b < 256) (h : n ≤ 2000) :
    Calls Try.prog 3 #[.int .u32 (s : Int), .slice A n c] w fun e w' => e = .returned (.bool true) ∧ Below w.heap.size w w' := by
  have HL := Lib.hid hl; clear hl
  obtain ⟨m, hm⟩ : ∃ m : Nat, moreN s l = m := ⟨_, rfl⟩
  obtain ⟨m0, hm0⟩ : ∃ m0 : Nat, sumN l = m0 := ⟨_, rfl⟩
  have HM := Lib.hid hm; have HM0 := Lib.hid hm0
  clear hm hm0
  go_enter Try.func3, Try.ntmps3
  go_wp2_with fail
  have h1 := more_any s A n c l w hs hr HL.out (by omega)
  rw [HM.out] at h1
  refine h1.mono ?_
  clear h1
  rintro e w1 ⟨rfl, hb1⟩
  go_wp2_with fail
  have h1 := refmore_any s A n c l w1 hs ((hr.below hb1).more hb1.size) HL.out (by omega)
  rw [HM.out] at h1
  refine h1.mono ?_
  clear h1
  rintro e w2 ⟨rfl, hd2⟩
  have hb2 := hd2.below hb1
  go_wp2_with fail
  have h1 := sum_any A n c l w2 ((hr.below hb2).more hb2.size) HL.out (by omega)
  rw [HM0.out] at h1
  refine h1.mono ?_
  clear h1
  rintro e w3 ⟨rfl, hb3⟩
  have hb3 := hb2.trans (hb3.mono hb2.size)
  go_wp2_with fail
  have h1 := refmore_any 0 A n c l w3 (by omega) ((hr.below hb3).more hb3.size) HL.out (by omega)
  rw [show moreN 0 l = m0 from HM0.out] at h1
  refine h1.mono ?_
  clear h1
  rintro e w4 ⟨rfl, hd4⟩
  have hb4 := hd4.below hb3
  go_wp2_with fail
  refine (awake_any w4).mono ?_
  rintro e w5 ⟨rfl, hb5⟩
  go_wp2_with fail
  go_ret
  exact ⟨rfl, hb4.trans (hb5.mono hb4.size)⟩

theorem parts_long (A : Option Addr) (n c : Nat) (k : Int) (w : World) (h : 2000 < n) :
    Calls Try.prog 4 #[.slice A n c, .int .i64 k] w fun e w' => e = .returned (.bool true) ∧ Below w.heap.size w w' := by
  go_enter Try.func4, Try.ntmps4
  go_wp2_with fail
  refine (awake_any w).mono ?_
  rintro e w1 ⟨rfl, hb⟩
  go_wp2_with fail
  go_ret
  exact ⟨rfl, hb⟩
theorem below_drew {B : Nat} {w W : World} (h : Below B w W) : Below B w W.drew := ⟨h.os, h.tape, h.output, h.size, h.block⟩
/-- What follows wants of a callee: an answer, and that what stood below still stands. -/
def Yields (B : Nat) (w : World) (f : FuncId) (args : Array Value) (v : Value) : Prop :=
  ∀ W, Below B w W → Calls Try.prog f args W fun e w' => e = .returned v ∧ Below B w w'
theorem sum_yields (A : Option Addr) (n c : Nat) (l : List Nat) (m : Nat) (w : World) (hr : Reads w w.heap.size 1 A n (bs l)) (hl : ∀ b ∈ l, b < 256) (h : n ≤ 140737488355328) (hm : sumN l = m) :
    Yields w.heap.size w 9 #[.slice A n c] (.int .u32 (m : Int)) := by
  intro W hb
  subst hm
  refine (sum_any A n c l W ((hr.below hb).more hb.size) hl h).mono ?_
  rintro e w1 ⟨rfl, hb1⟩
  exact ⟨rfl, hb.trans (hb1.mono hb.size)⟩
theorem more_yields (s : Nat) (A : Option Addr) (n c : Nat) (l : List Nat) (m : Nat) (w : World) (hs : s < 4294967296) (hr : Reads w w.heap.size 1 A n (bs l)) (hl : ∀ b ∈ l, b < 256) (h : n ≤ 140737488355328) (hm : moreN s l = m) :
    Yields w.heap.size w 7 #[.int .u32 (s : Int), .slice A n c] (.int .u32 (m : Int)) := by
  intro W hb
  subst hm
  refine (more_any s A n c l W hs ((hr.below hb).more hb.size) hl h).mono ?_
  rintro e w1 ⟨rfl, hb1⟩
  exact ⟨rfl, hb.trans (hb1.mono hb.size)⟩
theorem awake_yields (w : World) : Yields w.heap.size w 10 #[] (.bool true) := by
  intro W hb
  refine (awake_any W).mono ?_
  rintro e w1 ⟨rfl, hb1⟩
  exact ⟨rfl, hb.trans (hb1.mono hb.size)⟩
theorem parts_main (A : Option Addr) (n c : Nat) (k : Int) (l : List Nat) (w : World) (hr : Reads w w.heap.size 1 A n (bs l)) (hl : ∀ b ∈ l, b < 256) (h : n ≤ 2000) (hc : n ≤ c) (hk : -9223372036854775808 ≤ k ∧ k ≤ 9223372036854775807) :
    Calls Try.prog 4 #[.slice A n c, .int .i64 k] w fun e w' => e = .returned (.bool true) ∧ Below w.heap.size w w' := by
  have HL := Lib.hid hl; clear hl
  go_enter Try.func4, Try.ntmps4
  go_wp2_with fail
  refine (pick_any k (n + 1) w hk.1 hk.2 (by omega) (by omega)).mono ?_
  rintro e w' ⟨p, hp, rfl, rfl⟩
  have hpn : (p : Int) ≤ (n : Int) := by omega
  have hpc : (p : Int) ≤ (c : Int) := by omega
  obtain ⟨m1, hm1⟩ : ∃ m1 : Nat, sumN (l.take p) = m1 := ⟨_, rfl⟩
  obtain ⟨m, hm⟩ : ∃ m : Nat, sumN l = m := ⟨_, rfl⟩
  have hm1l : m1 < 4294967296 := hm1 ▸ sumN_lt _
  have ht : ∀ b ∈ l.take p, b < 256 := fun b hb => HL.out b (List.mem_of_mem_take hb)
  have hd : ∀ b ∈ l.drop p, b < 256 := fun b hb => HL.out b (List.mem_of_mem_drop hb)
  have hcut : Reads w w.heap.size 1 (if c = p then A else Option.map (fun x => x.add p) A) (n - p) (bs (l.drop p)) := by
    have := hr.cut (k := p) (cap := c) (by omega) hc
    rw [Nat.mul_one] at this
    simpa only [bs_drop] using this
  obtain ⟨A2, hA2⟩ : ∃ A2, (if c = p then A else Option.map (fun x => x.add p) A) = A2 := ⟨_, rfl⟩
  rw [hA2] at hcut
  have S1 := Lib.hid (sum_yields A p c (l.take p) m1 w (by have := hr.fore (k := p) (by omega); simpa [bs_take] using this) ht (by omega) hm1)
  have S2 := Lib.hid (more_yields m1 A2 (n - p) (c - p) (l.drop p) m w hm1l hcut hd (by omega) (by rw [← hm1, moreN_append _ _ ht, List.take_append_drop, hm]))
  have S3 := Lib.hid (sum_yields A n c l m w hr HL.out (by omega) hm)
  have S4 := Lib.hid (awake_yields w)
  clear hm hm1 ht hd hm1l hcut
  have hbb : Below w.heap.size w w := Below.refl _ _
  have HB := Lib.hid hbb
  clear hbb
  go_wp2_with fail
  go_region_with (first
    | (go_at_call 9; first
        | (refine (S1.out _ ?_).mono ?_; (first | exact HB.out | exact below_drew HB.out); clear HB; rintro e w1 ⟨rfl, HB⟩; have HB := Lib.hid HB)
        | (refine (S3.out _ ?_).mono ?_; (first | exact HB.out | exact below_drew HB.out); clear HB; rintro e w1 ⟨rfl, HB⟩; have HB := Lib.hid HB))
    | (go_at_call 7; refine (S2.out _ ?_).mono ?_; (first | exact HB.out | exact below_drew HB.out); clear HB; rintro e w1 ⟨rfl, HB⟩; have HB := Lib.hid HB)
    | (go_at_call 10; refine (S4.out _ ?_).mono ?_; (first | exact HB.out | exact below_drew HB.out); clear HB; rintro e w1 ⟨rfl, HB⟩; have HB := Lib.hid HB))
  all_goals
    go_wp2_with fail
    go_ret
    first
      | exact ⟨rfl, HB.out⟩
      | exact ⟨rfl, below_drew HB.out⟩
end Go.Proofs.Ythjldafdcopgbaa
