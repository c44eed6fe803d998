/- Contract of the document's SameAll, where both lists are the same. -/
import Derived.Test.YtpibekpddbhojaaDoorLists
import Derived.Test.YtpibekpddbhojaaDoorSame
namespace Go.Proofs.YtpibekpddbhojaaDoor
open Go.RowKit
set_option linter.unusedVariables false
set_option maxRecDepth 100000

set_option maxHeartbeats 1000000 in
theorem sameAll_true (A A' : Option Addr) (c c' : Nat) (ls : List (List Nat)) (w : World) (h1 : LL w A ls) (h2 : LL w A' ls) (hb : ∀ l ∈ ls, l.length ≤ 140737488355328) (hn : ls.length ≤ 140737488355328) :
    Calls Tryd.prog 16 #[.slice A ls.length c, .slice A' ls.length c'] w fun e w' => e = .returned (.bool true) ∧ Drawn w w' := by
  obtain ⟨vs, hr1, hE1⟩ := h1
  obtain ⟨us, hr2, hE2⟩ := h2
  obtain ⟨n, hnd⟩ : ∃ n, ls.length = n := ⟨_, rfl⟩
  rw [hnd] at hr1 hr2 hn ⊢
  have HN := Lib.hid hnd; clear hnd
  have HB := Lib.hid hb; clear hb
  go_enter Tryd.func16, Tryd.ntmps16
  go_wp2_with fail
  go_loopg [5] n (fun g s5 wr => ∃ k : Nat, k + g = n ∧ s5 = .int .i64 (k : Int) ∧ ∃ q, wr = w.drewN q)
  case atStart => exact ⟨0, by omega, rfl, 0, rfl⟩
  case round =>
    obtain ⟨k, hkg, rfl, q, rfl⟩ := hrel
    cases gk with
    | zero =>
      obtain rfl : k = n := by omega
      clear hkg
      go_wp2_with fail
      go_ret
      exact ⟨rfl, _, rfl⟩
    | succ g =>
      have hk : k < n := by omega
      have hk2 : (k : Int) < (n : Int) := by omega
      obtain ⟨l, hl⟩ : ∃ l, ls[k]? = some l := ⟨_, List.getElem?_eq_getElem (by rw [HN.out]; exact hk)⟩
      obtain ⟨ad, v, rfl, _, hv, hc⟩ := hr1.at_ hk
      obtain ⟨ad', u, rfl, _, hu, hc'⟩ := hr2.at_ hk
      obtain ⟨v0, hv0, B1, d1, rfl, hb1⟩ := hE1.at_ hl
      obtain ⟨u0, hu0, B2, d2, rfl, hb2⟩ := hE2.at_ hl
      rw [hv] at hv0; rw [hu] at hu0
      injection hv0 with hv0; injection hu0 with hu0
      subst hv0; subst hu0
      have hll := HB.out l (List.mem_of_getElem? hl)
      have hsame := fun q => same_true B1 B2 l.length d1 l.length d2 l (w.drewN q) (hb1.drewN q) (hb2.drewN q) hll
      have HS := Lib.hid hsame
      clear hsame hl hv hu
      go_wp2_with fail
      go_quiet ((go_at_call 10; exact quiet_drawn (HS.out _)))
      go_wp2_with fail
      go_roundg g
      case measure => omega
      case rel => exact ⟨k + 1, by omega, by go_num, _, rfl⟩
end Go.Proofs.YtpibekpddbhojaaDoor
