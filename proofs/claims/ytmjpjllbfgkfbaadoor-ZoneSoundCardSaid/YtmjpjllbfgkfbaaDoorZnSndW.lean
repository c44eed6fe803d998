/- The law's walk: ZoneSound, under the contracts. No condition. -/
import Derived.Test.YtmjpjllbfgkfbaaDoorZnColV
import Derived.Test.YtmjpjllbfgkfbaaDoorZnMayK
namespace Go.Proofs.YtmjpjllbfgkfbaaDoor
open Go.RowKit
set_option linter.unusedVariables false
set_option linter.unusedSimpArgs false
set_option maxRecDepth 100000

/-- Check: something comes of it. -/
def ChkC (w0 : World) (S : Option Addr) (m cs : Nat) (c0 c1 c2 c3 : Value) : Prop := ∀ W : World, Below w0.heap.size w0 W → Calls Tryd.prog 6 #[.slice S m cs, .agg #[c0, c1, c2, c3]] W fun e w' => (∃ r : Int, e = .returned (.int .i64 r)) ∧ Below W.heap.size W w'
section
variable {f M : Nat} {P : Nat → Prop} {c0 c1 c2 c3 : Value} {p : Pd} {S A : Option Addr} {m cs n cp : Nat} {sl : List Cl} {rows : List (List Vl)} {cut : Int} {w : World}
set_option maxHeartbeats 4000000 in
theorem sndW_else (hM : (M : Int) ≤ 4611686018427387904) (ha : AwakeZC w) (hI : IsP f w P [c0, c1, c2, c3] p) (hl : ∀ k, LenP M k p) (h : ¬ szP 400 40 p ≤ 400 ∨ ¬ m ≤ 64 ∨ ¬ n ≤ 100) :
    Calls Tryd.prog 3 #[.slice S m cs, .agg #[c0, c1, c2, c3], .slice A n cp, .int .i64 cut] w fun e w' => e = .returned (.bool true) ∧ Below w.heap.size w w' := by
  have HB : Hid (∀ o, Below w.heap.size w (w.alloc o)) := Lib.hid fun o => (Below.refl _ _).alloc (Nat.le_refl _) o
  have HS := Lib.hid fun (W : World) (hb : Below w.heap.size w W) => small_any hM (hI.next hb) hl
  have HA := Lib.hid ha
  obtain ⟨s, hs⟩ : ∃ s, decide (szP 400 40 p ≤ 400) = s := ⟨_, rfl⟩
  obtain ⟨a, hda⟩ : ∃ a, decide ((64 : Int) < (m : Int)) = a := ⟨_, rfl⟩
  obtain ⟨b, hdb⟩ : ∃ b, decide ((100 : Int) < (n : Int)) = b := ⟨_, rfl⟩
  have hs2 : s = false ∨ (s = true ∧ a = true) ∨ (s = true ∧ a = false ∧ b = true) := by
    have ha' : a = true ↔ 64 < m := by rw [← hda]; simp; omega
    have hb' : b = true ↔ 100 < n := by rw [← hdb]; simp; omega
    cases s
    · exact .inl rfl
    · have h1 : szP 400 40 p ≤ 400 := of_decide_eq_true hs
      by_cases h2 : 64 < m
      · exact .inr (.inl ⟨rfl, ha'.2 h2⟩)
      · have h3 : 100 < n := by rcases h with h | h | h <;> omega
        exact .inr (.inr ⟨rfl, by cases a; · rfl
                                  · exact absurd (ha'.1 rfl) h2, hb'.2 h3⟩)
  rw [hs] at HS
  have h4 := hI.four.2
  have f0 := h4 c0 (by simp); have f1 := h4 c1 (by simp); have f2 := h4 c2 (by simp); have f3 := h4 c3 (by simp)
  clear hs hI hl h4 h ha
  rcases hs2 with rfl | ⟨rfl, rfl⟩ | ⟨rfl, rfl, rfl⟩
  all_goals
    go_enter Tryd.func3, Tryd.ntmps3
    go_wp2_with fail
    refine (HS.out _ (HB.out _)).mono ?_
    rintro e w1 ⟨rfl, hb⟩
    have hb1 := (HB.out _).trans (hb.mono (HB.out _).size)
    go_wp2_with fail
    refine (HA.out _ hb1).mono ?_
    rintro e w2 ⟨rfl, hb2⟩
    go_wp2_with fail
    go_ret
    exact ⟨rfl, hb1.trans (hb2.mono hb1.size)⟩
end
end Go.Proofs.YtmjpjllbfgkfbaaDoor
