import Derived.Test.YtpgdlmnhomnblaaGreatDoorJ4
import Derived.Test.YtpgdlmnhomnblaaGreatDoorJ22
import Derived.Test.YtpgdlmnhomnblaaGreatDoorJ23
namespace Go.Proofs.YtpgdlmnhomnblaaGreatDoor
open Go.RowKit
set_option linter.unusedVariables false
set_option linter.unusedSimpArgs false
set_option maxRecDepth 100000
def grV (l : List (Int × Int × Tx)) (m q : Nat) : Bool := decide (m < l.length) || (l.take m).any fun s => decide (q < s.2.2.length)
theorem grV_false {l : List (Int × Int × Tx)} {m q : Nat} (h : grV l m q = false) : l.length ≤ m ∧ ∀ s ∈ l, s.2.2.length ≤ q := by
  unfold grV at h
  rw [Bool.or_eq_false_iff] at h
  obtain ⟨h1, h2⟩ := h
  have h3 : l.length ≤ m := by simpa using h1
  rw [List.take_of_length_le h3] at h2
  refine ⟨h3, fun s hs => ?_⟩
  have := List.any_eq_false.1 h2 s hs
  simpa using this
set_option maxHeartbeats 400000 in
theorem greatV_any (A : Option Addr) (n c m q : Nat) (l : List (Int × Int × Tx)) (w : World) (hr : Reads w w.heap.size 3 A n (vs l)) (hm : m ≤ 1000) (hq : q ≤ 1000) (g : Bool) (hg : g = grV l m q) :
    Calls Tryz.prog 15 #[.slice A n c, .int .i64 (m : Int), .int .i64 (q : Int)] w fun e w' => e = .returned (.bool g) ∧ w = w' := by
  have e1 : l.length = n := by have := hr.1; rw [vs_length] at this; omega
  have HE : Hid (l.length = n) := Lib.hid e1
  have HG := Lib.hid hg
  clear e1 hg
  go_enter Tryz.func15, Tryz.ntmps15
  go_wp2_with fail
  go_loop [7] (fun i => ∃ k : Nat, k ≤ n ∧ k ≤ m ∧ i = .int .i64 (k : Int) ∧ Hid (∀ s ∈ l.take k, s.2.2.length ≤ q)) (fun i => n - (intOf i).toNat)
  case atStart => exact ⟨0, Nat.zero_le _, Nat.zero_le _, rfl, Lib.hid (by simp)⟩
  case round =>
    obtain ⟨k, hk, hkm, rfl, HA⟩ := hrel
    have hend : ¬ (k < n ∧ k < m) → Hid (g = decide (m < n)) := fun h => Lib.hid (by
      rw [HG.out]
      unfold grV
      rw [HE.out]
      by_cases h1 : m < n
      · simp [h1]
      · have h2 : ((l.take m).any fun s => decide (q < s.2.2.length)) = false := by
          rw [List.any_eq_false]
          intro s hs
          have hkn : n ≤ k := by omega
          have := HA.out s (by
            rw [List.take_of_length_le (by rw [HE.out]; exact hkn)]
            exact List.mem_of_mem_take hs)
          simpa using this
        rw [h2]; simp)
    by_cases hlt : k < n
    · by_cases hltm : k < m
      · obtain ⟨⟨v0, v1, z⟩, hz⟩ : ∃ v, l[k]? = some v := ⟨_, List.getElem?_eq_getElem (by rw [HE.out]; omega)⟩
        obtain ⟨b, o, rfl, hb, x0, x1, x2⟩ := hr.val hz
        have hzs : (⟨z.toArray⟩ : ByteArray).size = z.length := by simp [ByteArray.size]
        by_cases hzl : q < z.length
        · have HR : Hid (g = true) := Lib.hid (by
            rw [HG.out]
            unfold grV
            rw [Bool.or_eq_true]
            refine .inr (List.any_eq_true.2 ⟨(v0, v1, z), ?_, by simp [hzl]⟩)
            rw [List.mem_take_iff_getElem]
            obtain ⟨h1, h2⟩ := List.getElem?_eq_some_iff.1 hz
            exact ⟨k, by omega, h2⟩)
          clear hz hend
          go_wp2_with fail
          go_ret
          exact ⟨by rw [HR.out]; rfl, rfl⟩
        · have HA2 : Hid (∀ s ∈ l.take (k + 1), s.2.2.length ≤ q) := Lib.hid (by
            rw [take_snoc hz]
            intro s hs
            rcases List.mem_append.1 hs with hs | hs
            · exact HA.out s hs
            · rw [List.mem_singleton] at hs; subst hs; simp only []; omega)
          clear hz hend
          go_wp2_with fail
          go_round
          case rel => exact ⟨k + 1, by omega, by omega, by go_num, HA2⟩
          case measure => simp [intOf]; omega
      · have HR := hend (fun h => hltm h.2)
        clear hend
        by_cases hmn : m < n
        · have d1 : decide (m < n) = true := by simp [hmn]
          go_wp2_with fail
          go_ret
          exact ⟨by rw [HR.out, d1]; rfl, rfl⟩
        · omega
    · have HR := hend (fun h => hlt h.1)
      clear hend
      by_cases hmn : m < n
      · omega
      · have d1 : decide (m < n) = false := by simp; omega
        go_wp2_with fail
        go_ret
        exact ⟨by rw [HR.out, d1]; rfl, rfl⟩
end Go.Proofs.YtpgdlmnhomnblaaGreatDoor
namespace Go.Proofs.YtpgdlmnhomnblaaGreatDoor
open Go.RowKit
set_option linter.unusedVariables false
set_option linter.unusedSimpArgs false
set_option maxRecDepth 100000
def grR (l : List (List (Int × Int × Tx))) (m wd q : Nat) : Bool := decide (m < l.length) || (l.take m).any fun r => grV r wd q
theorem grR_false {l : List (List (Int × Int × Tx))} {m wd q : Nat} (h : grR l m wd q = false) : l.length ≤ m ∧ ∀ r ∈ l, r.length ≤ wd ∧ ∀ s ∈ r, s.2.2.length ≤ q := by
  unfold grR at h
  rw [Bool.or_eq_false_iff] at h
  obtain ⟨h1, h2⟩ := h
  have h3 : l.length ≤ m := by simpa using h1
  rw [List.take_of_length_le h3] at h2
  refine ⟨h3, fun r hr => ?_⟩
  have := List.any_eq_false.1 h2 r hr
  exact grV_false (by simpa using this)
set_option maxHeartbeats 400000 in
theorem greatR_any (A : Option Addr) (c m wd q : Nat) (l : List (List (Int × Int × Tx))) (w : World) (hr : VV w A l) (hl : l.length ≤ 9223372036854775807) (hm : m ≤ 1000) (hwd : wd ≤ 1000) (hq : q ≤ 1000) (g : Bool) (hg : g = grR l m wd q) :
    Calls Tryz.prog 4 #[.slice A l.length c, .int .i64 (m : Int), .int .i64 (wd : Int), .int .i64 (q : Int)] w fun e w' => e = .returned (.bool g) ∧ w = w' := by
  obtain ⟨n, e1⟩ : ∃ n, l.length = n := ⟨_, rfl⟩
  obtain ⟨us, hu, hus⟩ := hr
  rw [e1] at hu hl ⊢
  have HE : Hid (l.length = n) := Lib.hid e1
  have HG := Lib.hid hg
  have HU := Lib.hid hus
  clear e1 hg hus
  go_enter Tryz.func4, Tryz.ntmps4
  go_wp2_with fail
  go_loop [9] (fun i => ∃ k : Nat, k ≤ n ∧ k ≤ m ∧ i = .int .i64 (k : Int) ∧ Hid (∀ r ∈ l.take k, grV r wd q = false)) (fun i => n - (intOf i).toNat)
  case atStart => exact ⟨0, Nat.zero_le _, Nat.zero_le _, rfl, Lib.hid (by simp)⟩
  case round =>
    obtain ⟨k, hk, hkm, rfl, HA⟩ := hrel
    have hend : ¬ (k < n ∧ k < m) → Hid (g = decide (m < n)) := fun h => Lib.hid (by
      rw [HG.out]
      unfold grR
      rw [HE.out]
      by_cases h1 : m < n
      · simp [h1]
      · have h2 : ((l.take m).any fun r => grV r wd q) = false := by
          rw [List.any_eq_false]
          intro s hs
          have hkn : n ≤ k := by omega
          have := HA.out s (by
            rw [List.take_of_length_le (by rw [HE.out]; exact hkn)]
            exact List.mem_of_mem_take hs)
          simpa using this
        rw [h2]; simp)
    by_cases hlt : k < n
    · by_cases hltm : k < m
      · obtain ⟨r, hz⟩ : ∃ r, l[k]? = some r := ⟨_, List.getElem?_eq_getElem (by rw [HE.out]; omega)⟩
        obtain ⟨u, hu1, A2, c2, rfl, hrr⟩ := HU.out k r hz
        obtain ⟨bb, oo, rfl, hbb, hcell⟩ := reads_plain2 hu (by omega) hu1
        have hck := hcell k _ hu1
        obtain ⟨y, hy⟩ : ∃ y, grV r wd q = y := ⟨_, rfl⟩
        have hcl := Lib.hid (greatV_any A2 r.length c2 wd q r w hrr hwd hq y hy.symm)
        obtain ⟨rl, hrl⟩ : ∃ rl, r.length = rl := ⟨_, rfl⟩
        rw [hrl] at hck hcl
        cases y with
        | true =>
          have HR : Hid (g = true) := Lib.hid (by
            rw [HG.out]
            unfold grR
            rw [Bool.or_eq_true]
            refine .inr (List.any_eq_true.2 ⟨r, ?_, hy⟩)
            rw [List.mem_take_iff_getElem]
            obtain ⟨h1, h2⟩ := List.getElem?_eq_some_iff.1 hz
            exact ⟨k, by omega, h2⟩)
          clear hz hy hcell hu1 hrr hend hrl
          go_wp2_with fail
          refine hcl.out.mono ?_
          rintro e w' ⟨rfl, rfl⟩
          go_wp2_with fail
          go_ret
          exact ⟨ret_of (congrArg Value.bool HR.out.symm), rfl⟩
        | false =>
          have HA2 : Hid (∀ r ∈ l.take (k + 1), grV r wd q = false) := Lib.hid (by
            rw [take_snoc hz]
            intro s hs
            rcases List.mem_append.1 hs with hs | hs
            · exact HA.out s hs
            · rw [List.mem_singleton] at hs; subst hs; exact hy)
          clear hz hy hcell hu1 hrr hend hrl
          go_wp2_with fail
          refine hcl.out.mono ?_
          rintro e w' ⟨rfl, rfl⟩
          go_wp2_with fail
          go_round
          case rel => exact ⟨k + 1, by omega, by omega, by go_num, HA2⟩
          case measure => simp [intOf]; omega
      · have HR := hend (fun h => hltm h.2)
        clear hend
        by_cases hmn : m < n
        · have d1 : decide (m < n) = true := by simp [hmn]
          go_wp2_with fail
          go_ret
          exact ⟨by rw [HR.out, d1]; rfl, rfl⟩
        · omega
    · have HR := hend (fun h => hlt h.1)
      clear hend
      by_cases hmn : m < n
      · omega
      · have d1 : decide (m < n) = false := by simp; omega
        go_wp2_with fail
        go_ret
        exact ⟨by rw [HR.out, d1]; rfl, rfl⟩
end Go.Proofs.YtpgdlmnhomnblaaGreatDoor
