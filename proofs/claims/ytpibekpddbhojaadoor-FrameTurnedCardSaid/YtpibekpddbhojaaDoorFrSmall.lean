/- Contracts of package frame's small functions: checkSize, sumOf, number. -/
import Derived.Test.YtpibekpddbhojaaDoorFramePlain
import Derived.Test.YtpibekpddbhojaaDoorCrcMore
import Derived.Test.YtpibekpddbhojaaDoorErrIs
namespace Go.Proofs.YtpibekpddbhojaaDoor
open Go.RowKit
set_option linter.unusedVariables false
set_option maxRecDepth 100000

theorem check_ok (s : Nat) (w : World) (hs : s ≤ 16777216) : Calls Tryd.prog 18 #[.int .u64 (s : Int)] w fun e w' => e = .returned .nilIface ∧ w = w' := by
  go_enter Tryd.func18, Tryd.ntmps18
  go_wp2_with fail
  go_ret
  exact ⟨rfl, rfl⟩
theorem check_big (s : Nat) (w : World) (hs : 16777216 < s) (hs2 : s < 18446744073709551616) : Calls Tryd.prog 18 #[.int .u64 (s : Int)] w fun e w' => e = .returned (.iface 24 (.int .i64 12)) ∧ w = w' := by
  go_enter Tryd.func18, Tryd.ntmps18
  go_wp2_with fail
  go_ret
  exact ⟨rfl, rfl⟩
theorem sumOf_any (A A' : Option Addr) (n c m c' : Nat) (l p : List Nat) (w : World) (hr : Reads w w.heap.size 1 A n (bs l)) (hr' : Reads w w.heap.size 1 A' m (bs p)) (hl : ∀ b ∈ l, b < 256) (hp : ∀ b ∈ p, b < 256) (hn : n ≤ 140737488355328) (hm : m ≤ 140737488355328) :
    Calls Tryd.prog 21 #[.slice A n c, .slice A' m c'] w fun e w' => e = .returned (.int .u32 (sumN (l ++ p) : Int)) ∧ Below w.heap.size w w' := by
  have h1 := sum_any A n c l w hr hl hn
  have e : moreN (sumN l) p = sumN (l ++ p) := moreN_append l p hl
  have hs := sumN_lt l
  obtain ⟨s, hsd⟩ : ∃ s, sumN l = s := ⟨_, rfl⟩
  rw [hsd] at h1 e hs
  rw [← e]
  clear e hsd
  go_enter Tryd.func21, Tryd.ntmps21
  go_wp2_with fail
  refine h1.mono ?_
  rintro e w1 ⟨rfl, hb1⟩
  go_wp2_with fail
  refine (more_any s A' m c' p w1 hs ((hr'.below hb1).more hb1.size) hp hm).mono ?_
  rintro e w2 ⟨rfl, hb2⟩
  go_wp2_with fail
  go_ret
  exact ⟨rfl, hb1.trans (hb2.mono hb1.size)⟩

/-- An Errno, plain or wrapped once or twice. -/
def Wraps (w : World) (v : Value) (k : Int) : Prop :=
  v = .iface 24 (.int .i64 k) ∨
  (∃ g, v = .iface 67 (.pointer (some ⟨g, 0, none⟩)) ∧ w.cell? ⟨g, 1, none⟩ = some (.iface 24 (.int .i64 k))) ∨
  (∃ g f, v = .iface 67 (.pointer (some ⟨g, 0, none⟩)) ∧ w.cell? ⟨g, 1, none⟩ = some (.iface 67 (.pointer (some ⟨f, 0, none⟩))) ∧ w.cell? ⟨f, 1, none⟩ = some (.iface 24 (.int .i64 k)))
theorem Wraps.is {w : World} {v : Value} {k : Int} (h : Wraps w v k) (t : Int) : Calls Tryd.prog 28 #[v, .iface 24 (.int .i64 t)] w fun e w' => e = .returned (.bool (k == t)) ∧ w = w' := by
  rcases h with rfl | ⟨g, rfl, h1⟩ | ⟨g, f, rfl, h1, h2⟩
  · exact is_flat k t w
  · exact is_one g k t w h1
  · exact is_two g f k t w h1 h2
theorem number_any {w : World} {v : Value} {k : Int} (h : Wraps w v k) (hk : k = 2 ∨ k = 12 ∨ k = 6) : Calls Tryd.prog 19 #[v] w fun e w' => e = .returned (.int .i64 k) ∧ w = w' := by
  have h12 := Lib.hid (h.is 12)
  have h2 := Lib.hid (h.is 2)
  clear h
  rcases hk with rfl | rfl | rfl
  · go_enter Tryd.func19, Tryd.ntmps19
    go_wp2_with fail
    refine h12.out.mono ?_
    rintro e w1 ⟨rfl, rfl⟩
    go_wp2_with fail
    refine h2.out.mono ?_
    rintro e w1 ⟨rfl, rfl⟩
    go_wp2_with fail
    go_ret
    exact ⟨rfl, rfl⟩
  · go_enter Tryd.func19, Tryd.ntmps19
    go_wp2_with fail
    refine h12.out.mono ?_
    rintro e w1 ⟨rfl, rfl⟩
    go_wp2_with fail
    go_ret
    exact ⟨rfl, rfl⟩
  · go_enter Tryd.func19, Tryd.ntmps19
    go_wp2_with fail
    refine h12.out.mono ?_
    rintro e w1 ⟨rfl, rfl⟩
    go_wp2_with fail
    refine h2.out.mono ?_
    rintro e w1 ⟨rfl, rfl⟩
    go_wp2_with fail
    go_ret
    exact ⟨rfl, rfl⟩
end Go.Proofs.YtpibekpddbhojaaDoor
