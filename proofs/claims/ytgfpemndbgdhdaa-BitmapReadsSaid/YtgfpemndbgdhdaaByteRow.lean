/- A store into a row of bytes of the call's own. No program. -/
import Derived.Test.YtgfpemndbgdhdaaWords
namespace Go.Proofs.Ytgfpemndbgdhdaa
open Go.RowKit
set_option linter.unusedVariables false
set_option linter.unusedSimpArgs false

/-- A block that begins with bytes, one of them written anew. -/
theorem take_set (cur : Array Value) (n i : Nat) (x : List Nat) (v : Nat) (h : cur.toList.take n = bs x) (hn : x.length = n) (hi : i < n) :
    (cur.setIfInBounds i (.int .u8 (v : Int))).toList.take n = bs (x.set i v) := by
  rw [Array.toList_setIfInBounds, List.take_set, h]
  unfold bs
  rw [List.map_set]
theorem cell_take (cur : Array Value) (n i : Nat) (x : List Nat) (y : Nat) (h : cur.toList.take n = bs x) (hi : i < n) (hx : x[i]? = some y) : cur[i]? = some (.int .u8 (y : Int)) := by
  have h2 : (cur.toList.take n)[i]? = some (.int .u8 (y : Int)) := by rw [h]; unfold bs; rw [List.getElem?_map, hx]; rfl
  rw [List.getElem?_take, if_pos hi] at h2
  simpa using h2
/-- The block of an own row of bytes that isn't empty. -/
theorem own_blk {w : World} {base : Nat} {t : TypeId} {v : Value} {n : Nat} {l : List Nat} (h : w.ownsRow base t 1 v n (bs l)) (hn : 0 < n) :
    ∃ g cap cur, v = .slice (some ⟨g, 0, none⟩) n cap ∧ base ≤ g ∧ n ≤ cap ∧ Blk w g t cur ∧ cur.toList.take n = bs l := by
  rcases h.2 with ⟨_, h0⟩ | ⟨g, cap, cur, hv, hge, hg, h1, _, _, ht⟩
  · omega
  · exact ⟨g, cap, cur, hv, hge, h1, hg, by simpa using ht⟩
end Go.Proofs.Ytgfpemndbgdhdaa
