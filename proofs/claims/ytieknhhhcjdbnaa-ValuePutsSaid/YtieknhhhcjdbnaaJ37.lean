/- Texts joined: GrowNil Each. -/
import Derived.Test.YtieknhhhcjdbnaaJ18
import Derived.Test.YtieknhhhcjdbnaaWords
/- Contract of the library's slices.Grow over bytes, of nil: room of its own. An append of so many zeros onto nil. -/
namespace Go.Proofs.Ytieknhhhcjdbnaa
open Go.RowKit
set_option linter.unusedVariables false
set_option linter.unusedSimpArgs false
set_option maxRecDepth 100000

theorem run_append_zeros_nil {P : Program} (w : World) (t u ty e : TypeId) (i : TypeInfo) (z : Value) (k : IntKind) (ht : P.underlying t = some (.slice e)) (hu : P.underlying u = some (.int k)) (hi : P.info? e = some i) (hz : i.zero = some z)
    (n : Nat) (h0 : 0 < n) (hsz : 0 < i.size) (h63 : (n : Int) ≤ 9223372036854775807) (h48 : n * i.bytes ≤ 281474976710656) :
    (Builtin.append_ #[t, u] ty #[.slice none 0 0, .int .i64 (n : Int)]).run P w =
      .ok (.slice (some ⟨w.heap.size, 0, none⟩) n (grownCap w n 0 e)) (w.drew.alloc (.cells (Builtin.zeroCells z.cells n ++ Builtin.zeroCells z.cells (grownCap w n 0 e - n)) e)) := by
  have hn : n ≠ 0 := by omega
  have hs0 : i.size ≠ 0 := by omega
  have h63' : ¬ (9223372036854775807 < (n : Int)) := by omega
  have h48' : ¬ (281474976710656 < Builtin.nextslicecap n 0 * i.bytes) := by rw [nextslicecap_zero h0]; omega
  have hw : IntKind.i64.wrap (n : Int) = (n : Int) := IntWalk.i64_in _ (by omega)
  have hneg : ¬ ((n : Int) < 0) := by omega
  have hle : ¬ ((n : Int) ≤ 0) := by omega
  have hmx : ¬ (9223372036854775807 < max (n : Int) 0) := by omega
  have h48i : ¬ (281474976710656 < (n : Int) * (i.bytes : Int)) := by rw [← Int.natCast_mul]; omega
  simp [Builtin.append_, run_underlying ht, run_underlying hu, sizeOf, typeInfo, zeroValue, hi, hz, Builtin.lenOf, hn, hs0, h63', h48', hw, hneg, h48i, asInt, asIntOf, hle, hmx, Question.forced, run_firstCells_none, newRow, grownCap]
  intro h
  rcases Nat.mul_eq_zero.1 h with h | h <;> omega
theorem wpList_append_zeros {P : Program} (w : World) {ops : Array Oper} {rest : List Oper} {o : Oper} {a : Act} {Q : Exit → Act → World → Prop} (hgd : o.guard = none) (s x : Operand) (t u : TypeId)
    (ho : o.op = .call { callee := .builtin .append, args := #[s, x], argTypes := #[t, u] }) (e : TypeId) (i : TypeInfo) (z : Value) (k : IntKind) (ht : P.underlying t = some (.slice e)) (hu : P.underlying u = some (.int k)) (hi : P.info? e = some i) (hz : i.zero = some z)
    (hsz : i.size = 1) (hzs : z.cells.size = 1) (hby : i.bytes = 1) (n : Nat) (h0 : 0 < n) (h48 : n ≤ 140737488355328) (hs : a.eval s = .slice none 0 0) (hx : a.eval x = .int .i64 (n : Int))
    (h : ∀ cap cs, n ≤ cap → cap ≤ maxLen → cs.size = cap → wpList P ops Q rest (a.put o.dst (.slice (some ⟨w.heap.size, 0, none⟩) n cap)) (w.drew.alloc (.cells cs e))) : wpList P ops Q (o :: rest) a w := by
  refine wpList_plain hgd fun _ hK => ?_
  have hr := run_append_zeros_nil (P := P) w t u o.type e i z k ht hu hi hz n h0 (by omega) (by omega) (by rw [hby]; omega)
  unfold Oper.wp execOp
  simp only [ho, resolve, invoke, builtin, Sem.run_bind, Sem.run_pure, Result.andThen_ok, List.map_toArray, List.map_cons, List.map_nil, hs, hx, hr]
  refine hK _ _ (h _ _ (grownCap_ge w n 0 e) (grownCap_le_maxLen w n 0 e (by unfold maxLen; omega)) ?_)
  have := grownCap_ge w n 0 e
  rw [Array.size_append, size_zeroCells, size_zeroCells, hzs]
  omega
theorem grow_nil (n : Nat) (w : World) (hn : n ≤ 140737488355328) :
    Calls Try.prog 40 #[.slice none 0 0, .int .i64 (n : Int)] w (New w [] 0) := by
  obtain ⟨i0, hi0, hz0, hz1, hz2⟩ := info_parts info_u8
  rcases Nat.eq_zero_or_pos n with h0 | h0
  · subst h0
    go_enter Try.func40, Try.ntmps40
    go_wp2_with fail
    go_ret
    exact ⟨_, rfl, own_nil _ _ _ _, Below.refl _ _⟩
  · go_enter Try.func40, Try.ntmps40
    go_wp2_with (at_builtin
                 refine wpList_append_zeros w rfl (.tmp 20) (.tmp 21) _ _ rfl 5 i0 _ .i64 Try.underlying36 Try.underlying3 hi0 hz0 hz1 rfl hz2 n h0 hn rfl rfl ?_
                 intro cap cs hcap hcm hcs)
    go_ret
    exact ⟨_, rfl, World.ownsRow_made w.drew _ _ (Nat.le_refl _) hcm (by rw [hcs]; omega), (Drawn.one w 1).below (Below.refl _ _) |>.alloc (Nat.le_refl _) _⟩
end Go.Proofs.Ytieknhhhcjdbnaa

/- A relation between the values of a row and byte texts, one for one. No program. -/
namespace Go.Proofs.Ytieknhhhcjdbnaa
open Go.RowKit
set_option linter.unusedVariables false
set_option linter.unusedSimpArgs false

def Each (R : Value → List Nat → Prop) : List Value → List (List Nat) → Prop
  | [], [] => True
  | v :: vs, l :: ls => R v l ∧ Each R vs ls
  | _, _ => False
theorem Each.imp {R R' : Value → List Nat → Prop} (h : ∀ v l, R v l → R' v l) : ∀ {vs : List Value} {ls : List (List Nat)}, Each R vs ls → Each R' vs ls := by
  intro vs
  induction vs with
  | nil => intro ls e; cases ls with
    | nil => trivial
    | cons l ls => exact e.elim
  | cons v vs ih => intro ls e; cases ls with
    | nil => exact e.elim
    | cons l ls => exact ⟨h v l e.1, ih e.2⟩
theorem Each.length {R : Value → List Nat → Prop} : ∀ {vs : List Value} {ls : List (List Nat)}, Each R vs ls → vs.length = ls.length := by
  intro vs
  induction vs with
  | nil => intro ls e; cases ls with
    | nil => rfl
    | cons l ls => exact e.elim
  | cons v vs ih => intro ls e; cases ls with
    | nil => exact e.elim
    | cons l ls => simp [ih e.2]
theorem Each.append {R : Value → List Nat → Prop} : ∀ {vs : List Value} {ls : List (List Nat)} {us : List Value} {ms : List (List Nat)}, Each R vs ls → Each R us ms → Each R (vs ++ us) (ls ++ ms) := by
  intro vs
  induction vs with
  | nil => intro ls us ms e f; cases ls with
    | nil => exact f
    | cons l ls => exact e.elim
  | cons v vs ih => intro ls us ms e f; cases ls with
    | nil => exact e.elim
    | cons l ls => exact ⟨e.1, ih e.2 f⟩
theorem Each.at_ {R : Value → List Nat → Prop} : ∀ {vs : List Value} {ls : List (List Nat)}, Each R vs ls → ∀ {i : Nat} {l : List Nat}, ls[i]? = some l → ∃ v, vs[i]? = some v ∧ R v l := by
  intro vs
  induction vs with
  | nil => intro ls e i l h; cases ls with
    | nil => simp at h
    | cons l ls => exact e.elim
  | cons v vs ih => intro ls e i l h; cases ls with
    | nil => exact e.elim
    | cons l' ls =>
      cases i with
      | zero => simp at h; subst h; exact ⟨v, by simp, e.1⟩
      | succ i => simp at h; obtain ⟨u, h1, h2⟩ := ih e.2 h; exact ⟨u, by simpa using h1, h2⟩
theorem Each.cells {R : Value → List Nat → Prop} (h1 : ∀ v l, R v l → v.oneCell' = true) : ∀ {vs : List Value} {ls : List (List Nat)}, Each R vs ls → ∀ u ∈ vs, u.oneCell' = true := by
  intro vs
  induction vs with
  | nil => intro ls e u hu; simp at hu
  | cons v vs ih => intro ls e u hu; cases ls with
    | nil => exact e.elim
    | cons l ls =>
      rcases List.mem_cons.1 hu with rfl | hu
      · exact h1 _ _ e.1
      · exact ih e.2 u hu
theorem Each.range {R : Value → List Nat → Prop} (g : Nat → Value) (f : Nat → List Nat) (n : Nat) (h : ∀ r, r < n → R (g r) (f r)) : Each R ((List.range n).map g) ((List.range n).map f) := by
  induction n with
  | zero => trivial
  | succ n ih =>
    rw [List.range_succ, List.map_append, List.map_append]
    exact (ih fun r hr => h r (by omega)).append ⟨h n (by omega), trivial⟩
end Go.Proofs.Ytieknhhhcjdbnaa
