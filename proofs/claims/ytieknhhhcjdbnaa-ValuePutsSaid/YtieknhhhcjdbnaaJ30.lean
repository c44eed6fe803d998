/- Texts joined: OwnNew VlFront VlScF VlWrap. -/
import Derived.Test.YtieknhhhcjdbnaaWords
import Derived.Test.YtieknhhhcjdbnaaJ18
import Derived.Test.YtieknhhhcjdbnaaVlForm
import Derived.WalkKit
/- A row that was just made whole is the call's own. No program. -/
namespace Go.Proofs.Ytieknhhhcjdbnaa
open Go.RowKit
set_option linter.unusedVariables false
set_option linter.unusedSimpArgs false
set_option maxRecDepth 100000

theorem own_new (w : World) (cs : Array Value) (n : Nat) (t : TypeId) (xs : List Value) (hm : n ≤ maxLen) (hs : cs.size = n) (hx : cs.toList = xs) :
    (w.alloc (.cells cs t)).ownsRow w.heap.size t 1 (.slice (some ⟨w.heap.size, 0, none⟩) n n) n xs := by
  subst hx
  exact ⟨by simp [hs], .inr ⟨w.heap.size, n, cs, rfl, Nat.le_refl _, heap_alloc_new w _, Nat.le_refl _, hm, by omega, by rw [Nat.mul_one, ← hs, ← Array.length_toList, List.take_length]⟩⟩

end Go.Proofs.Ytieknhhhcjdbnaa

/- Contract of the statement ValuePuts' own 'front'. Nothing that was there changes. -/
namespace Go.Proofs.Ytieknhhhcjdbnaa
open Go.RowKit
set_option linter.unusedVariables false
set_option linter.unusedSimpArgs false
set_option maxRecDepth 100000

/-- The statement's own 'front': new bytes: what it has caught, and behind it what it is handed. -/
theorem frontV_any (cb : Addr) (A A' : Option Addr) (n c m c' : Nat) (xs ys : List Value) (w : World) (hcell : w.cell? cb = some (.slice A n c)) (hr : Reads w w.heap.size 1 A n xs) (h1 : ∀ u ∈ xs, u.oneCell' = true)
    (hp : Reads w w.heap.size 1 A' m ys) (h2 : ∀ u ∈ ys, u.oneCell' = true) (hb : n + m ≤ 140737488355300) :
    Calls Try.prog 15 #[.slice A' m c', .pointer (some cb)] w (New w (xs ++ ys) (n + m)) := by
  obtain ⟨i0, hi0, hz0, hz1, hz2⟩ := info_parts info_u8
  have hown0 := own_new w #[] 0 5 [] (by unfold maxLen; omega) rfl rfl
  have hcell2 : (w.alloc (.cells #[] 5)).cell? cb = some (.slice A n c) := (World.cell?_alloc_lt w _ cb (World.block_lt_of_cell? w cb hcell)).trans hcell
  clear hcell
  go_enter Try.func15, Try.ntmps15
  go_wp2_with (first
    | (at_builtin
       refine wpList_append_any _ rfl (.tmp 4) (.tmp 5) _ rfl w.heap.size 5 i0 _ 1 1 Try.underlying36 hi0 hz0 hz1 hz2 rfl (by omega) (.slice (some ⟨w.heap.size, 0, none⟩) 0 0) 0 [] rfl
         hown0 w.heap.size A n c xs rfl (hr.alloc (Nat.le_refl _) _) h1 (by unfold maxLen; omega) (by omega) (by simp) ?_
       intro v1 w1 hown1 hg1 hat1
       have hb1 : Below w.heap.size w w1 := ((Below.refl _ _).alloc (Nat.le_refl _) _).grown hg1 (by simp) (fun k hk => by simp [Value.ownBlock] at hk; omega))
    | (at_builtin
       refine wpList_append_any _ rfl (.tmp 6) (.tmp 7) _ rfl w.heap.size 5 i0 _ 1 1 Try.underlying36 hi0 hz0 hz1 hz2 rfl (by omega) v1 (0 + n) ([] ++ xs) rfl
         hown1 w.heap.size A' m c' ys rfl (hp.below hb1) h2 (by unfold maxLen; omega) (by omega) hb1.size ?_
       intro v2 w2 hown2 hg2 hat2))
  go_ret
  exact ⟨v2, rfl, by simpa using hown2, hb1.grown hg2 hb1.size (fun k hk => (hown1.lt k hk).1)⟩
end Go.Proofs.Ytieknhhhcjdbnaa

/- A schema's form, column by column. No program; no condition. -/
namespace Go.Proofs.Ytieknhhhcjdbnaa
open Go.RowKit
set_option linter.unusedVariables false
set_option linter.unusedSimpArgs false
set_option maxRecDepth 100000

/-- A schema's form behind so many columns. -/
def scF (n : Nat) (l : List Cl) : List Nat := n % 256 :: l.flatMap cB
theorem scF_all (s : List Cl) : scB s = scF s.length s := rfl
theorem cB_length (c : Cl) : (cB c).length = 3 := rfl
theorem scF_length (n : Nat) : ∀ l : List Cl, (scF n l).length = 3 * l.length + 1
  | [] => rfl
  | c :: l => by
    have := scF_length n l
    simp only [scF, List.flatMap_cons, List.length_cons, List.length_append, cB_length] at this ⊢
    omega
theorem scF_snoc (n : Nat) (l : List Cl) (c : Cl) : scF n (l ++ [c]) = scF n l ++ cB c := by simp [scF]
end Go.Proofs.Ytieknhhhcjdbnaa

/- What goes into one byte. No condition. -/
namespace Go.Proofs.Ytieknhhhcjdbnaa
open Go.RowKit
set_option linter.unusedVariables false
set_option linter.unusedSimpArgs false
set_option maxRecDepth 100000

theorem u8_mod (x : Int) : IntKind.u8.wrap x = ((x % 256).toNat : Int) := by
  have : IntKind.u8.wrap x = x % 256 := by simp [IntKind.wrap, IntKind.bits, IntKind.signed]
  rw [this, Int.toNat_of_nonneg (by omega)]
theorem i64_mod (x : Int) : IntKind.i64.wrap x % 256 = x % 256 := by
  simp only [IntKind.wrap, IntKind.bits, IntKind.signed, Int.bmod]
  first
    | omega
    | (split <;> omega)
    | (simp; omega)
    | (simp; split <;> omega)
end Go.Proofs.Ytieknhhhcjdbnaa
