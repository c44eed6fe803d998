/- A list of three byte texts, laid in new memory. No condition. -/
import Derived.Test.YtpjmenaejfdiaaaConcat
namespace Go.Proofs.Ytpjmenaejfdiaaa
open Go.RowKit
set_option linter.unusedVariables false
set_option linter.unusedSimpArgs false
set_option maxRecDepth 100000

theorem IsB.nil_ (w : World) : IsB w (.slice none 0 0) [] := ⟨none, 0, rfl, Reads.none_⟩
theorem three_parts (w : World) (t : TypeId) (v1 v2 v3 : Value) (l1 l2 l3 : List Nat) (h1 : IsB w v1 l1) (h2 : IsB w v2 l2) (h3 : IsB w v3 l3) :
    LL (w.alloc (.cells #[v1, v2, v3] t)) (some ⟨w.heap.size, 0, none⟩) [l1, l2, l3] := by
  have hb : Below w.heap.size w (w.alloc (.cells #[v1, v2, v3] t)) := (Below.refl _ _).alloc (Nat.le_refl _) _
  exact ⟨[v1, v2, v3], reads_blk (Blk.new w t #[v1, v2, v3]) _ 3 _ (by simp) rfl rfl, h1.next hb, h2.next hb, h3.next hb, trivial⟩
end Go.Proofs.Ytpjmenaejfdiaaa
