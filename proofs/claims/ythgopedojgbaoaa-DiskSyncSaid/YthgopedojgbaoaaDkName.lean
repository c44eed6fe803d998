/- Contracts of package disk's isNameByte, isName, modulo. -/
import Derived.Test.YthgopedojgbaoaaDkMem
import Derived.Deep.LoopGhost
namespace Go.Proofs.Ythgopedojgbaoaa
open Go.RowKit
set_option linter.unusedVariables false
set_option linter.unusedSimpArgs false
set_option maxRecDepth 100000

theorem isNameByte_any (b : Nat) (hb : b < 256) (w : World) : Calls Try.prog 42 #[.int .u8 (b : Int)] w fun e w' => e = .returned (.bool (okb b)) ∧ Drawn w w' := by
  rcases (show b < 45 ∨ b = 45 ∨ b = 46 ∨ b = 47 ∨ (48 ≤ b ∧ b ≤ 57) ∨ (57 < b ∧ b < 97) ∨ (97 ≤ b ∧ b ≤ 122) ∨ 122 < b from by omega) with h | rfl | rfl | rfl | ⟨h, h'⟩ | ⟨h, h'⟩ | ⟨h, h'⟩ | h
  all_goals
    go_enter Try.func42, Try.ntmps42
    go_wp2
    go_ret
    refine ⟨ret_of (congrArg Value.bool ?_), Drawn.refl _⟩
    first
      | rfl
      | (rw [Bool.eq_iff_iff]; simp [okb]; omega)

theorem str_at (s : ByteArray) (k : Nat) (h : k < s.size) : s.data.toList[k]? = some s[k] := by
  rw [List.getElem?_eq_getElem (by simpa using h), Array.getElem_toList]
  rfl
theorem nm_no {l : List UInt8} {k : Nat} {c : UInt8} (h : l[k]? = some c) (hc : okb c.toNat = false) : nm l = false := by
  unfold nm
  have : l.all (fun c => okb c.toNat) = false := by
    rw [List.all_eq_false]
    exact ⟨c, List.mem_of_getElem? h, by simp [hc]⟩
  rw [this, Bool.and_false]
theorem nm_yes {l : List UInt8} (h0 : 0 < l.length) (h1 : l.length ≤ 32) (h : ∀ k, k < l.length → ∃ c, l[k]? = some c ∧ okb c.toNat = true) : nm l = true := by
  unfold nm
  simp only [h0, h1, decide_true, Bool.true_and]
  rw [List.all_eq_true]
  intro c hc
  obtain ⟨k, hk, e⟩ := List.getElem_of_mem hc
  obtain ⟨c', h2, h3⟩ := h k hk
  rw [List.getElem?_eq_getElem hk, e] at h2
  cases h2
  exact h3
theorem isName_any (s : ByteArray) (w : World) : Calls Try.prog 34 #[.string s] w fun e w' => e = .returned (.bool (nm s.data.toList)) ∧ Drawn w w' := by
  obtain ⟨n, hn⟩ : ∃ n, s.size = n := ⟨_, rfl⟩
  have hlen : s.data.toList.length = n := by rw [Array.length_toList]; exact hn
  by_cases h0 : n = 0
  · subst h0
    rw [show nm s.data.toList = false from by unfold nm; rw [hlen]; rfl]
    go_enter Try.func34, Try.ntmps34
    go_wp2_with fail
    go_ret
    exact ⟨rfl, Drawn.refl _⟩
  · by_cases h32 : 32 < n
    · rw [show nm s.data.toList = false from by unfold nm; rw [hlen]; simp; omega]
      go_enter Try.func34, Try.ntmps34
      go_wp2_with fail
      go_ret
      exact ⟨rfl, Drawn.refl _⟩
    · have h0' : 0 < n := by omega
      have h32' : n ≤ 32 := by omega
      have h0e : ((n : Int) == 0) = false := by simp; omega
      go_enter Try.func34, Try.ntmps34
      go_wp2_with fail
      go_loopg [3, 14] n (fun g s3 s14 wr => ∃ k : Nat, k + g = n ∧ s14 = .int .i64 (k : Int) ∧ (∀ j, j < k → ∃ c, s.data.toList[j]? = some c ∧ okb c.toNat = true) ∧ Drawn w wr)
      case atStart => exact ⟨0, by omega, rfl, fun j hj => by omega, Drawn.refl _⟩
      case round =>
        obtain ⟨k, hkg, rfl, hok, hd⟩ := hrel
        cases gk with
        | zero =>
          obtain rfl : k = n := by omega
          clear hkg
          have hnm := nm_yes (l := s.data.toList) (by omega) (by omega) (by rw [hlen]; exact hok)
          go_wp2_with fail
          go_ret
          exact ⟨by rw [hnm]; rfl, hd⟩
        | succ g =>
          have hk : k < n := by omega
          have hks : k < s.size := by omega
          have hat := str_at s k hks
          obtain ⟨c, hc⟩ : ∃ c, s[k] = c := ⟨_, rfl⟩
          have hcv : s[k].toNat = c.toNat := by rw [hc]
          rw [hc] at hat
          have hc256 := c.toNat_lt
          go_wp2_with fail
          refine (isNameByte_any c.toNat (by omega) _).mono ?_
          rintro e w1 ⟨rfl, hd1⟩
          cases hb : okb c.toNat with
          | false =>
            have hnm := nm_no hat hb
            go_wp2_with fail
            go_ret
            exact ⟨by rw [hnm]; rfl, hd.trans hd1⟩
          | true =>
            go_wp2_with fail
            go_roundg g
            case rel =>
              refine ⟨k + 1, by omega, by simp, fun j hj => ?_, hd.trans hd1⟩
              by_cases e : j = k
              · subst e; exact ⟨c, hat, hb⟩
              · exact hok j (by omega)
            case measure => exact Nat.lt_succ_self _
theorem modulo_any (n m : Int) (hn : -9223372036854775808 ≤ n ∧ n < 9223372036854775808) (hm : 0 < m) (hm' : m < 9223372036854775808) (w : World) :
    Calls Try.prog 29 #[.int .i64 n, .int .i64 m] w fun e w' => e = .returned (.int .i64 (modu n m)) ∧ Drawn w w' := by
  have h1 := Int.tmod_lt_of_pos n hm
  have h2 := Int.lt_tmod_of_pos n hm
  have hne : m ≠ 0 := by omega
  by_cases h : Int.tmod n m < 0
  · rw [show modu n m = Int.tmod n m + m from if_pos h]
    go_enter Try.func29, Try.ntmps29
    go_wp2_with fail
    go_ret
    exact ⟨by simp, Drawn.refl _⟩
  · rw [show modu n m = Int.tmod n m from if_neg h]
    go_enter Try.func29, Try.ntmps29
    go_wp2_with fail
    go_ret
    exact ⟨by simp, Drawn.refl _⟩
end Go.Proofs.Ythgopedojgbaoaa
