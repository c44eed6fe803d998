/- Contracts of package bitmap's New, Len, isPlace and Has. -/
import Derived.Test.YtgfpemndbgdhdaaBmMem
namespace Go.Proofs.Ytgfpemndbgdhdaa
open Go.RowKit
set_option linter.unusedVariables false
set_option linter.unusedSimpArgs false
set_option maxRecDepth 100000

theorem New_no (n : Int) (w : World) (hn : n < 0 ∨ 65536 < n) : Calls Try.prog 8 #[.int .i64 n] w fun e w' => e = .returned (.pointer none) ∧ w = w' := by
  rcases hn with h | h
  · go_enter Try.func8, Try.ntmps8
    go_wp2_with fail
    go_ret
    exact ⟨rfl, rfl⟩
  · have h' : ¬ n < 0 := by omega
    go_enter Try.func8, Try.ntmps8
    go_wp2_with fail
    go_ret
    exact ⟨rfl, rfl⟩
theorem New_any (n : Nat) (w : World) (hn : n ≤ 65536) : Calls Try.prog 8 #[.int .i64 (n : Int)] w (NewS w n (List.replicate (siz n) 0)) := by
  have hq : ((n : Int) + 8 - 1) / 8 = (siz n : Int) := by unfold siz; omega
  have hmk := run_make_u8n (siz n) (by unfold siz; omega)
  go_enter Try.func8, Try.ntmps8
  go_wp2_with fail
  go_ret
  exact ⟨_, _, rfl, made_set w n _ (siz n) (by simp) hn (OkS.new n), ((Below.refl _ _).alloc (Nat.le_refl _) _).alloc (by simp) _⟩
theorem Len_nil (w : World) : Calls Try.prog 12 #[.pointer none] w fun e w' => e = .returned (.int .i64 0) ∧ w = w' := by
  go_enter Try.func12, Try.ntmps12
  go_wp2_with fail
  go_ret
  exact ⟨rfl, rfl⟩
section
variable {w : World} {B g h n : Nat} {l : List Nat}
theorem Len_any (s : SetIn w B g h n l) : Calls Try.prog 12 #[.pointer (some ⟨g, 0, none⟩)] w fun e w' => e = .returned (.int .i64 (n : Int)) ∧ w = w' := by
  obtain ⟨c0, c1⟩ := s.cells
  go_enter Try.func12, Try.ntmps12
  go_wp2_with fail
  go_ret
  exact ⟨rfl, rfl⟩
theorem place_nil (i : Int) (w : World) : Calls Try.prog 23 #[.pointer none, .int .i64 i] w fun e w' => e = .returned (.bool false) ∧ w = w' := by
  by_cases h0 : 0 ≤ i
  · have hd : decide (i < 0) = false := by simpa using h0
    go_enter Try.func23, Try.ntmps23
    go_wp2_with fail
    refine (Len_nil w).mono ?_
    rintro e w' ⟨rfl, rfl⟩
    go_wp2_with fail
    go_ret
    exact ⟨rfl, rfl⟩
  · have hd : decide (0 ≤ i) = false := by simpa using h0
    go_enter Try.func23, Try.ntmps23
    go_wp2_with fail
    go_ret
    exact ⟨rfl, rfl⟩
/-- Is the number a place? -/
def plc (n : Nat) (i : Int) : Bool := decide (0 ≤ i) && decide (i < (n : Int))
theorem plc_yes {n : Nat} {i : Int} (h0 : 0 ≤ i) (h1 : i < n) : plc n i = true := by unfold plc; simp [h0, h1]
theorem plc_no {n : Nat} {i : Int} (h : i < 0 ∨ (n : Int) ≤ i) : plc n i = false := by unfold plc; simp; omega
theorem place_any (s : SetIn w B g h n l) (i : Int) : Calls Try.prog 23 #[.pointer (some ⟨g, 0, none⟩), .int .i64 i] w fun e w' => e = .returned (.bool (plc n i)) ∧ w = w' := by
  by_cases h0 : 0 ≤ i
  · have hd : decide (0 ≤ i) = true := by simpa using h0
    have hp : plc n i = decide (i < (n : Int)) := by unfold plc; rw [hd]; rfl
    have HP := Lib.hid hp
    clear hp
    go_enter Try.func23, Try.ntmps23
    go_wp2_with fail
    refine (Len_any s).mono ?_
    rintro e w' ⟨rfl, rfl⟩
    go_wp2_with fail
    go_ret
    exact ⟨ret_of (congrArg Value.bool HP.out.symm), rfl⟩
  · have hd : decide (0 ≤ i) = false := by simpa using h0
    have hp : plc n i = false := by unfold plc; rw [hd]; rfl
    have HP := Lib.hid hp
    clear hp
    go_enter Try.func23, Try.ntmps23
    go_wp2_with fail
    go_ret
    exact ⟨ret_of (congrArg Value.bool HP.out.symm), rfl⟩
/-- Is the place marked? -/
def has (n : Nat) (l : List Nat) (i : Int) : Bool := plc n i && bit l i.toNat
theorem has_no {n : Nat} {l : List Nat} {i : Int} (h : plc n i = false) : has n l i = false := by unfold has; rw [h]; rfl
theorem has_at {n : Nat} {l : List Nat} {k : Nat} (h : k < n) : has n l (k : Int) = bit l k := by unfold has; rw [plc_yes (by omega) (by omega)]; simp
theorem plc_cases (n : Nat) (i : Int) : plc n i = false ∨ ∃ k : Nat, i = (k : Int) ∧ k < n ∧ plc n i = true := by
  by_cases h : i < 0 ∨ (n : Int) ≤ i
  · exact .inl (plc_no h)
  · exact .inr ⟨i.toNat, by omega, by omega, plc_yes (by omega) (by omega)⟩
theorem bit_and (x k : Nat) (hx : x < 256) : (bits .and .u8 ((x : Int) / 2 ^ k) 1 == 1) = x.testBit k := by
  have h1 : x / 2 ^ k < 256 := Nat.lt_of_le_of_lt (Nat.div_le_self _ _) hx
  rw [show (x : Int) / 2 ^ k = ((x / 2 ^ k : Nat) : Int) by push_cast; rfl, show (1 : Int) = ((1 : Nat) : Int) from rfl, u8_and_nat _ _ h1 (by omega), Nat.and_one_is_mod, Nat.testBit_eq_decide_div_mod_eq]
  by_cases h : x / 2 ^ k % 2 = 1
  · simp [h]
  · have : x / 2 ^ k % 2 = 0 := by omega
    simp [this]
theorem Has_nil (i : Int) (w : World) : Calls Try.prog 11 #[.pointer none, .int .i64 i] w fun e w' => e = .returned (.bool false) ∧ w = w' := by
  go_enter Try.func11, Try.ntmps11
  go_wp2_with fail
  refine (place_nil i w).mono ?_
  rintro e w' ⟨rfl, rfl⟩
  go_wp2_with fail
  go_ret
  exact ⟨rfl, rfl⟩
theorem Has_any (s : SetIn w B g h n l) (i : Int) : Calls Try.prog 11 #[.pointer (some ⟨g, 0, none⟩), .int .i64 i] w fun e w' => e = .returned (.bool (has n l i)) ∧ w = w' := by
  obtain ⟨c0, c1⟩ := s.cells
  have hc := place_any s i
  rcases plc_cases n i with hp | ⟨k, rfl, hk, hp⟩
  · rw [hp] at hc
    have HP := Lib.hid (has_no (l := l) hp)
    clear hp
    go_enter Try.func11, Try.ntmps11
    go_wp2_with fail
    refine hc.mono ?_
    clear hc
    rintro e w' ⟨rfl, rfl⟩
    go_wp2_with fail
    go_ret
    exact ⟨ret_of (congrArg Value.bool HP.out.symm), rfl⟩
  · rw [hp] at hc
    have HP := Lib.hid (has_at (l := l) hk)
    have hkl : k / 8 < l.length := by rw [s.size.1]; exact siz_lt hk
    have cb := s.byte hkl
    have hx := getD_byte s.ok.byte (k / 8)
    obtain ⟨x, hx0⟩ : ∃ x, x = l.getD (k / 8) 0 := ⟨_, rfl⟩
    obtain ⟨k8, hk8⟩ : ∃ k8 : Nat, k8 = k % 8 := ⟨_, rfl⟩
    obtain ⟨kq, hkq⟩ : ∃ kq : Nat, kq = k / 8 := ⟨_, rfl⟩
    rw [← hx0] at cb hx
    rw [← hkq] at cb hkl
    have r8 : (k : Int) % 8 = (k8 : Int) := by omega
    have rq : (k : Int) / 8 = (kq : Int) := by omega
    have hk8l : k8 < 8 := by omega
    have hkqb : kq ≤ 8192 := by have := s.size.2; omega
    have hkb : k ≤ 65536 := by have := s.le; omega
    have HK := Lib.hid (And.intro hk8 (And.intro hkq hx0))
    clear hk8 hkq hx0 hp
    go_enter Try.func11, Try.ntmps11
    go_wp2_with fail
    refine hc.mono ?_
    clear hc
    rintro e w' ⟨rfl, rfl⟩
    go_wp2_with fail
    go_ret
    refine ⟨ret_of (congrArg Value.bool ?_), rfl⟩
    rw [HP.out, bit_and x k8 hx]
    unfold bit
    rw [HK.out.2.2, HK.out.1]
end
end Go.Proofs.Ytgfpemndbgdhdaa
