/- Contract of the statements' own Great over lists of byte texts: are there more, or longer ones, than are looked at? Nothing changes. -/
import Derived.Test.YtfpbijnlmlaloaaDoorJ9
namespace Go.Proofs.YtfpbijnlmlaloaaDoor
open Go.RowKit
set_option linter.unusedVariables false
set_option linter.unusedSimpArgs false
set_option maxRecDepth 100000

/-- More than 'm', or one of the first 'm' is longer than 'q'. -/
def grL (l : List (List Nat)) (m q : Nat) : Bool := decide (m < l.length) || (l.take m).any fun s => decide (q < s.length)
theorem grL_false {l : List (List Nat)} {m q : Nat} (h : grL l m q = false) : l.length ≤ m ∧ ∀ s ∈ l, s.length ≤ q := by
  unfold grL at h
  rw [Bool.or_eq_false_iff] at h
  obtain ⟨h1, h2⟩ := h
  have h3 : l.length ≤ m := by simpa using h1
  rw [List.take_of_length_le h3] at h2
  refine ⟨h3, fun s hs => ?_⟩
  have := List.any_eq_false.1 h2 s hs
  simpa using this
set_option maxHeartbeats 1000000 in
theorem greatL_any (A : Option Addr) (n c m q : Nat) (l : List (List Nat)) (w : World) (hl : l.length = n) (hr : LC w A l) (hm : m ≤ 1000) (hq : q ≤ 1000) (g : Bool) (hg : g = grL l m q) :
    Calls Tryd.prog 6 #[.slice A n c, .int .i64 (m : Int), .int .i64 (q : Int)] w fun e w' => e = .returned (.bool g) ∧ w = w' := by
  have HE : Hid (l.length = n) := Lib.hid hl
  have HG := Lib.hid hg
  have HR := Lib.hid hr
  clear hl hg hr
  go_enter Tryd.func6, Tryd.ntmps6
  go_wp2_with fail
  go_loop [7] (fun i => ∃ k : Nat, k ≤ n ∧ k ≤ m ∧ i = .int .i64 (k : Int) ∧ Hid (∀ s ∈ l.take k, s.length ≤ q)) (fun i => n - (intOf i).toNat)
  case atStart => exact ⟨0, Nat.zero_le _, Nat.zero_le _, rfl, Lib.hid (by simp)⟩
  case round =>
    obtain ⟨k, hk, hkm, rfl, HA⟩ := hrel
    have hend : ¬ (k < n ∧ k < m) → Hid (g = decide (m < n)) := fun h => Lib.hid (by
      rw [HG.out]
      unfold grL
      rw [HE.out]
      by_cases h1 : m < n
      · simp [h1]
      · have h2 : ((l.take m).any fun s => decide (q < s.length)) = false := by
          rw [List.any_eq_false]
          intro s hs
          have hkn : n ≤ k := by omega
          have := HA.out s (by
            rw [List.take_of_length_le (by rw [HE.out]; exact hkn)]
            exact List.mem_of_mem_take hs)
          simpa using this
        rw [h2]; simp)
    by_cases hlt : k < n
    · by_cases hltm : k < m
      · obtain ⟨z, hz⟩ : ∃ z, l[k]? = some z := ⟨_, List.getElem?_eq_getElem (by rw [HE.out]; exact hlt)⟩
        obtain ⟨ad, u, rfl, hc, A', c', rfl, hcc, hrr⟩ := HR.out.at_ hz
        by_cases hzl : q < z.length
        · have HR : Hid (g = true) := Lib.hid (by
            rw [HG.out]
            unfold grL
            rw [Bool.or_eq_true]
            refine .inr (List.any_eq_true.2 ⟨z, ?_, by simp [hzl]⟩)
            rw [List.mem_take_iff_getElem]
            obtain ⟨h1, h2⟩ := List.getElem?_eq_some_iff.1 hz
            exact ⟨k, by omega, h2⟩)
          clear hz hend hrr
          go_wp2_with fail
          go_ret
          exact ⟨by rw [HR.out]; rfl, rfl⟩
        · have HA2 : Hid (∀ s ∈ l.take (k + 1), s.length ≤ q) := Lib.hid (by
            rw [List.take_add_one, hz]
            intro s hs
            rcases List.mem_append.1 hs with hs | hs
            · exact HA.out s hs
            · have hs : s = z := by simpa using hs
              subst hs; omega)
          clear hz hend hrr
          go_wp2_with fail
          go_round
          case rel => exact ⟨k + 1, by omega, by omega, by go_num, HA2⟩
          case measure => simp [intOf]; omega
      · have HR := hend (fun h => hltm h.2)
        clear hend
        by_cases hmn : m < n
        · go_wp2_with fail
          go_ret
          exact ⟨by rw [HR.out]; simp [hmn], rfl⟩
        · go_wp2_with fail
          go_ret
          exact ⟨by rw [HR.out]; simp [hmn], rfl⟩
    · have HR := hend (fun h => hlt h.1)
      clear hend
      by_cases hmn : m < n
      · go_wp2_with fail
        go_ret
        exact ⟨by rw [HR.out]; simp [hmn], rfl⟩
      · go_wp2_with fail
        go_ret
        exact ⟨by rw [HR.out]; simp [hmn], rfl⟩
end Go.Proofs.YtfpbijnlmlaloaaDoor
