/- copy onto a whole row of the call's own, from bytes that read as so many. No program. -/
import Derived.Laws.CopyOwn
import Derived.Test.YtgfpemndbgdhdaaWords
namespace Go.Proofs.Ytgfpemndbgdhdaa
open Go.RowKit
set_option linter.unusedVariables false
set_option linter.unusedSimpArgs false

theorem grown_setRow (w : World) (g : Nat) (cs : Array Value) : w.grownBy (w.setRow g cs) (some g) :=
  ⟨rfl, rfl, rfl, by simp [World.setRow], fun k hk hne => setRow_other w g k cs (fun e => hne (by rw [e]))⟩
theorem wpList_copy_whole {P : Program} {w : World} {ops : Array Oper} {rest : List Oper} {o : Oper} {a : Act} {Q : Exit → Act → World → Prop} (hgd : o.guard = none) (d s : Operand) (dT sT : TypeId)
    (ho : o.op = .call { callee := .builtin .copy, args := #[d, s], argTypes := #[dT, sT] }) (elem : TypeId) (hu : P.underlying dT = some (.slice elem)) (hsz : (P.info? elem).map (·.size) = some 1)
    (g n dCap sCap B : Nat) (A : Option Addr) (t : TypeId) (cur : Array Value) (xs : List Value) (hd : a.eval d = .slice (some ⟨g, 0, none⟩) n dCap) (hs : a.eval s = .slice A n sCap)
    (hg : Blk w g t cur) (hcur : cur.size = n) (hr : Reads w B 1 A n xs) (h1 : ∀ v ∈ xs, v.oneCell' = true)
    (h : ∀ w', Hid (Blk w' g t xs.toArray) → w.grownBy w' (some g) → wpList P ops Q rest (a.put o.dst (goInt n)) w') :
    wpList P ops Q (o :: rest) a w := by
  have hl : xs.length = n := by simpa using hr.1
  rcases Nat.eq_zero_or_pos n with h0 | h0
  · subst h0
    refine wpList_copy_nothing hgd d s dT sT ho elem hu hsz _ _ _ _ _ _ hd hs rfl ?_
    refine h w ?_ (World.grownBy.refl w _)
    obtain rfl : xs = [] := List.eq_nil_of_length_eq_zero hl
    obtain rfl : cur = #[] := Array.eq_empty_of_size_eq_zero hcur
    exact hg
  · obtain ⟨ad, rfl, _, hc⟩ := hr.2 h0
    refine wpList_copy_own hgd d s dT sT ho elem hu hsz g 0 n dCap ad n sCap hd hs cur t hg xs (by rw [hl]; exact (Nat.min_self n).symm) hc (by omega) h1 ?_
    have e : (cur.toList.take 0 ++ (xs ++ cur.toList.drop (0 + xs.length))).toArray = xs.toArray := by
      rw [List.drop_of_length_le (by simp; omega)]; simp
    rw [e, hl]
    exact h _ (setRow_heap w g _ _ t _ hg) (grown_setRow w g _)
end Go.Proofs.Ytgfpemndbgdhdaa
