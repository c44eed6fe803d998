/- Contract of the statements' great: it answers, and only draws; what it answers is not told. -/
import Derived.Test.YthgopedojgbaoaaActsIn
import Derived.BigQuiet
import Derived.Deep.QuietTactic
import Derived.Outline
namespace Go.Proofs.Ythgopedojgbaoaa
open Go.RowKit Go.Maps Go.WideMaps Go.ChangeMaps
set_option linter.unusedVariables false
set_option linter.unusedSimpArgs false
set_option maxRecDepth 100000

def Told (w : World) (e : Ending) (w' : World) : Prop := ∃ b, e = .returned (.bool b) ∧ Drawn w w'
set_option maxHeartbeats 2000000 in
theorem great_any (A : Option Addr) (n c : Nat) (al : List Ac) (w : World) (h : Acts w A n al) (hn : n ≤ maxLen) :
    Calls Try.prog 16 #[.slice A n c] w (Told w) := by
  obtain ⟨hl, hc⟩ := h
  unfold maxLen at hn
  have HC := Lib.hid hc
  have HL := Lib.hid hl
  clear hc hl
  go_enter Try.func16, Try.ntmps16
  go_wp2_with fail
  go_loopg [3] n (fun g s3 wr => ∃ k : Nat, k + g = n ∧ s3 = .int .i64 (k : Int) ∧ Drawn w wr)
  case atStart => exact ⟨0, by omega, rfl, Drawn.refl _⟩
  case round =>
    obtain ⟨k, hkg, rfl, hd⟩ := hrel
    cases gk with
    | zero =>
      obtain rfl : k = n := by omega
      go_wp2_with fail
      all_goals
        go_ret
        exact ⟨_, rfl, hd⟩
    | succ g =>
      have hk0 : k < n := by omega
      by_cases h60 : k < 60
      · obtain ⟨b, o, rfl, hb, hx⟩ := HC.out (by omega)
        obtain ⟨x, hx0⟩ : ∃ x, al[k]? = some x := ⟨al[k]'(by rw [HL.out]; omega), List.getElem?_eq_getElem _⟩
        obtain ⟨hxi, hxc⟩ := hx k x hx0
        obtain ⟨q, rfl⟩ := hd
        have d1 : (w.drewN q).cell? ⟨b, o + k * 6 + 1, none⟩ = some (.string x.name) := hxc 1 _ rfl
        have d2 : (w.drewN q).cell? ⟨b, o + k * 6 + 2, none⟩ = some (.string x.to) := hxc 2 _ rfl
        have d3 : (w.drewN q).cell? ⟨b, o + k * 6 + 3, none⟩ = some (.slice x.bA x.b.length x.bc) := hxc 3 _ rfl
        have d5 : (w.drewN q).cell? ⟨b, o + k * 6 + 5, none⟩ = some (.slice x.kA x.ks.length x.kc) := hxc 5 _ rfl
        clear hx hxc hxi hx0
        go_wp2_with fail
        all_goals first
          | (go_ret
             exact ⟨_, rfl, Drawn.one _ _⟩)
          | (go_roundg g
             case rel => exact ⟨k + 1, by omega, by go_num, Drawn.one _ _⟩
             case measure => exact Nat.lt_succ_self _)
      · go_wp2_with fail
        all_goals
          go_ret
          exact ⟨_, rfl, hd⟩
end Go.Proofs.Ythgopedojgbaoaa
