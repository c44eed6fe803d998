/- A range over a function whose body never leaves early, over an iterator that may write cells of its own (a reader's): the statement, out of the iterator's contract and one walk of the body. No program, no condition. -/
import Derived.RangeFuncNested
import Derived.RangeFuncCalls
import Derived.RangeFuncLeaves
import Derived.Shelf.Abstract
import Derived.Shelf.RegionOpen
import Derived.OwnWalkIn
import Derived.TacticsInMore
import Derived.LoopNIn
import Derived.LoopIn
import Derived.Test.YtlonaeonndjmmaaDoorWords
namespace Go.Proofs.YtlonaeonndjmmaaDoor
open Go.RowKit
set_option linter.unusedVariables false
set_option linter.unusedSimpArgs false
set_option maxRecDepth 100000

theorem wide_fn (f : FuncId) : Fence.wide.fn f = True := rfl
theorem wide_depth : Fence.wide.depth = none := rfl
/-- What a round leaves alone: all that is no cells from block 'B' on, and the blocks that the iterator leans on. -/
structure Spares (B : Nat) (X : Nat → Prop) (W W' : World) : Prop where
  from_ : KeepsFrom B W W'
  leans : ∀ k, X k → W'.heap[k]? = W.heap[k]?
theorem Spares.refl (B : Nat) (X : Nat → Prop) (W : World) : Spares B X W W := ⟨KeepsFrom.refl _ _, fun _ _ => rfl⟩
theorem Spares.trans {B : Nat} {X : Nat → Prop} {a b c : World} (h : Spares B X a b) (k : Spares B X b c) : Spares B X a c := ⟨h.from_.trans k.from_, fun i hi => (k.leans i hi).trans (h.leans i hi)⟩
theorem Spares.drawn {B : Nat} {X : Nat → Prop} {a w w' : World} (h : Spares B X a w) (hd : Drawn w w') : Spares B X a w' := by
  obtain ⟨q, rfl⟩ := hd
  exact ⟨⟨h.from_.size, h.from_.same⟩, h.leans⟩
theorem Spares.below {B : Nat} {X : Nat → Prop} {a w w' : World} (h : Spares B X a w) (hX : ∀ k, X k → k < w.heap.size) (hb : Below w.heap.size w w') : Spares B X a w' :=
  h.trans ⟨⟨hb.size, fun k o _ ho _ => (hb.block k (Array.getElem?_eq_some_iff.1 ho).1).trans ho⟩, fun k hk => hb.block k (hX k hk)⟩
theorem cell_is_cells {w : World} {p : Addr} {u : Value} (h : w.cell? p = some u) : ∃ o : Obj, w.heap[p.block]? = some o ∧ o.isCells = true := cells_of_cell h
theorem Spares.setCell {B : Nat} {X : Nat → Prop} {a w : World} (h : Spares B X a w) {p : Addr} (hX : ¬ X p.block) (u : Value) : Spares B X a (w.setCell p u) :=
  h.trans ⟨(KeepsOthers.setCell w p u).from B, fun k hk => Below.heap_setCell w p u k (fun e => hX (by rw [← e]; exact hk))⟩
/-- An append onto a row. -/
theorem Spares.grown {B : Nat} {X : Nat → Prop} {a w w' : World} (h : Spares B X a w) {row : Option Nat} (hg : w.grownBy w' row) (hX : ∀ k, X k → k < w.heap.size) (hr : ∀ j, row = some j → ¬ X j ∧ ∀ o : Obj, w.heap[j]? = some o → o.isCells = true) : Spares B X a w' :=
  h.trans ⟨(KeepsOthers.of_grownBy hg (fun j o e ho => (hr j e).2 o ho)).from B, fun k hk => hg.block k (hX k hk) (fun e => (hr k e.symm).1 hk)⟩

variable {P : Program}
/-- What an iterator's call of yield is to be handed: a round that ends in true, from 'J k' to 'J (k + 1)', and spares what the iterator leans on. -/
def Rounds (P : Program) (l N : Nat) (el : Nat → Array Value) (X : Nat → Prop) (J : Nat → World → Prop) : Prop :=
  ∀ k W, k < N → J k W → YieldAt Fence.wide 0 P l (el k) W fun e W' => e = .returned (.bool true) ∧ J (k + 1) W' ∧ ∀ i, X i → W'.heap[i]? = W.heap[i]?
/-- What the iterator's own steps leave: all but new blocks and the blocks that it may write. -/
def Abide (X Y : Nat → Prop) (J : Nat → World → Prop) : Prop := ∀ k A B, J k A → (∃ row, A.grownBy B row ∧ ∀ r, row = some r → Y r) → J k B
/-- The contract of a function that is ranged over: so many rounds with those values; what it leaves itself ('T'). -/
def Gives (P : Program) (gf : Nat) (lb : Array Value) (N : Nat) (el : Nat → Array Value) (X Y : Nat → Prop) (T : World → Prop) (w : World) : Prop :=
  ∀ (l : Nat) (J : Nat → World → Prop) (W : World), Below w.heap.size w W → Abide X Y J → Rounds P l N el X J → J 0 W →
    Calls P gf (#[.func (.yield l) #[] #[]] ++ lb) W fun e W' => (∃ v, e = .returned v) ∧ J N W' ∧ T W'

theorem range_gives {g : Operand} {ps : Array Tmp} {assign body : Code} {Q : Exit → Act → World → Prop} {a : Act} {w : World} {gf : Nat} {lb : Array Value}
    (hg : a.eval g = .func (.func gf) #[] lb) (eg : ∀ args w, (callFunc gf args).run P w = .ok (.enter gf args) w)
    {N : Nat} {el : Nat → Array Value} {X Y : Nat → Prop} {T : World → Prop} (hseq : Gives P gf lb N el X Y T w)
    (hX : ∀ k, X k → k < w.heap.size) (hY : ∀ k, Y k → k < w.heap.size) (hps : ∀ k, (el k).size = ps.size)
    (I : Nat → World → Prop) (a₁ : Nat → Act) (h0 : I 0 w)
    (hIn : ∀ k A B row, I k A → A.grownBy B row → (∀ r, row = some r → w.heap.size ≤ r ∧ ∃ o : Obj, A.heap[r]? = some o ∧ o.isCells = false) → I k B)
    (hIy : ∀ k A B row, I k A → A.grownBy B row → (∀ r, row = some r → Y r) → I k B)
    (hT : ∀ A B row, T A → A.grownBy B row → (∀ r, row = some r → w.heap.size ≤ r ∧ ∃ o : Obj, A.heap[r]? = some o ∧ o.isCells = false) → T B)
    (hassign : ∀ (l k : Nat) (W : World) (K : Act → World → Prop), K (a₁ k) W →
      assign.wpIn (Fence.wide.inRound l) 0 P (Exit.then K (fun _ _ _ => False)) { tmps := (ps.zip (el k)).foldl (fun t (p, v) => t.setIfInBounds p v) a.tmps, defers := [] } W)
    (hbody : ∀ (l k : Nat) (W : World), k < N → w.heap.size ≤ W.heap.size → I k W → body.wpIn (Fence.wide.inRound l) 0 P (fun e _ W' => e = .normal ∧ Spares w.heap.size X W W' ∧ I (k + 1) W') (a₁ k) W)
    (hdone : ∀ (D : Nat) (W : World), w.heap.size ≤ D → I N W → T W → W.heap[D]? = some (.deferred (some [])) → Q .normal { a with defers := { target := .collected D, args := #[] } :: a.defers } W) :
    (Code.rangeFunc g ps assign body).wpIn Fence.wide 0 P Q a w := by
  refine wpIn_rangeFunc ?_
  intro fn hfn
  -- the loop's record, by its state and its jump; the two blocks that are laid
  obtain ⟨rec, hrec⟩ : ∃ rec : LoopState → Option Code → Loop, rec = fun st pe => { state := st, pending := pe, fn, tmps := a.tmps, params := ps, assign, body, defers := w.heap.size } := ⟨_, rfl⟩
  obtain ⟨D, hD⟩ : ∃ D, D = w.heap.size := ⟨_, rfl⟩
  obtain ⟨W1, hW1⟩ : ∃ W1, (w.alloc (.deferred (some []))).alloc (.loop (rec .ready none)) = W1 := ⟨_, rfl⟩
  have hb1 : Below w.heap.size w W1 := by rw [← hW1]; exact ((Below.refl _ w).alloc (Nat.le_refl _) _).alloc (by simp) _
  have hL1 : W1.heap[D + 1]? = some (.loop (rec .ready none)) := by
    have := World.alloc_heap_new (w.alloc (.deferred (some []))) (.loop (rec .ready none))
    rw [World.size_alloc, ← hD, hW1] at this
    exact this
  have hK1 : W1.heap[D]? = some (.deferred (some [])) := by
    rw [← hW1, Below.heap_alloc _ _ _ (by rw [World.size_alloc]; omega), hD]; exact World.alloc_heap_new w _
  have hI1 : I 0 W1 := by
    rw [← hW1]
    exact hIn _ _ _ none (hIn _ _ _ none h0 (World.grownBy_alloc _ _ none) (fun r e => by cases e)) (World.grownBy_alloc _ _ none) (fun r e => by cases e)
  -- the record is turned: nothing else is
  have turn : ∀ (W : World) (o o' : Obj), W.heap[D + 1]? = some o → o.isCells = false → (∀ k, I k W → I k (W.putObj (D + 1) o')) ∧ (T W → T (W.putObj (D + 1) o')) ∧
      (∀ k, X k → (W.putObj (D + 1) o').heap[k]? = W.heap[k]?) ∧ (W.putObj (D + 1) o').heap[D + 1]? = some o' ∧ (W.putObj (D + 1) o').heap[D]? = W.heap[D]? := fun W o o' ho hc =>
    ⟨fun k hi => hIn k W _ (some (D + 1)) hi (grownBy_putObj' W (D + 1) o') (fun r e => by cases e; exact ⟨by omega, o, ho, hc⟩),
     fun ht => hT W _ (some (D + 1)) ht (grownBy_putObj' W (D + 1) o') (fun r e => by cases e; exact ⟨by omega, o, ho, hc⟩),
     fun k hk => World.putObj_heap_other (by have := hX k hk; omega),
     World.putObj_heap_same (Array.getElem?_eq_some_iff.1 ho).1,
     World.putObj_heap_other (by omega)⟩
  rw [show (Fence.wide).round = none from rfl]
  refine ⟨D + 1, [{ target := .collected D, args := #[] }], W1, { target := .fn (.func gf) lb, args := #[.func (.yield (D + 1)) #[] #[]] }, W1, gf, #[.func (.yield (D + 1)) #[] #[]] ++ lb, W1, ?_, ?_, ?_, ?_, ?_, ?_⟩
  · rw [← hW1, hrec, hD]; exact run_enterLoop_outer _ _ _ _ _
  · simp only [resolve, hg]; simp [go_sem]
  · intro f' _; trivial
  · simp [invoke, go_sem, eg]
  · intro h; cases h
  refine callsIn_wide.2 ((hseq (D + 1) (fun k W => I k W ∧ W.heap[D + 1]? = some (.loop (rec .ready none)) ∧ W.heap[D]? = some (.deferred (some []))) W1 hb1 ?_ ?_ ⟨hI1, hL1, hK1⟩).mono ?_)
  · -- the iterator's own steps
    rintro k A B ⟨hi, hl, hk⟩ ⟨row, hg', hr⟩
    have far : ∀ (j : Nat) (o : Obj), D ≤ j → A.heap[j]? = some o → B.heap[j]? = some o := fun j o hj ho =>
      (hg'.block j (Array.getElem?_eq_some_iff.1 ho).1 (fun e => by have := hY j (hr j e.symm); omega)).trans ho
    exact ⟨hIy k A B row hi hg' hr, far _ _ (by omega) hl, far _ _ (Nat.le_refl _) hk⟩
  · -- one round
    rintro k W hkN ⟨hi, hl, hk⟩
    have hy := run_yield (P := P) (args := el k) hl (by rw [hrec]; exact hps k)
    rw [hrec] at hy
    refine ⟨fn, _, assign, body, hy, roundIn_of_wpIn hfn (hassign _ k W _ ⟨_, run_beginRound hl (by rw [hrec]), ?_⟩)⟩
    obtain ⟨t1, _, t3, t4, t5⟩ := turn W _ (.loop { rec .ready none with state := .busy }) hl rfl
    refine wpIn_mono (hbody _ k _ hkN (by rw [World.putObj_size]; have := (Array.getElem?_eq_some_iff.1 hl).1; omega) (t1 k hi)) ?_
    rintro e a3 W3 ⟨rfl, hs, hi3⟩
    have hl3 : W3.heap[D + 1]? = some (.loop { rec .ready none with state := .busy }) := hs.from_.same _ _ (by omega) t4 rfl
    have hk3 : W3.heap[D]? = some (.deferred (some [])) := hs.from_.same _ _ (by omega) (t5.trans hk) rfl
    have hend := run_endRound (P := P) none hl3
    obtain ⟨u1, _, u3, u4, u5⟩ := turn W3 _ (.loop (rec .ready none)) hl3 rfl
    have hend' : (Instr.endRound (D + 1) none).run P W3 = .ok (.bool true) (W3.putObj (D + 1) (.loop (rec .ready none))) := by
      rw [hrec] at hend ⊢; exact hend
    exact ⟨_, _, hend', rfl, ⟨u1 _ hi3, u4, u5.trans hk3⟩, fun i hx => (u3 i hx).trans ((hs.leans i hx).trans (t3 i hx))⟩
  · -- behind the iterator
    rintro e W2 ⟨⟨v, rfl⟩, ⟨hi, hl, hk⟩, ht⟩
    have hend := run_endLoop (P := P) hl (by rw [hrec]; simp)
    obtain ⟨t1, t2, t3, t4, t5⟩ := turn W2 _ (.loop { rec .ready none with state := .exhausted }) hl rfl
    refine ⟨none, _, by rw [hrec] at hend ⊢; exact hend, hdone D _ (by omega) (t1 _ hi) (t2 ht) (t5.trans hk)⟩

/-- An operation that is no defer statement is in a round what it is everywhere. -/
theorem oper_in {o : Oper} {a : Act} {w : World} {K : Act → World → Prop} {Q : Exit → Act → World → Prop} {l : Nat} (ho : ∀ c, o.op ≠ .defer c) (h : o.wp P a w K Q) : o.wpIn (Fence.wide.inRound l) 0 P a w K Q := by
  refine ⟨fun _ _ => trivial, ?_⟩
  rw [show (Fence.wide.inRound l).round = some l from rfl, Oper.semAt_some l _ _ ho]
  unfold Oper.wp at h
  generalize (execOp a.eval o).run P w = r at h
  cases r with
  | ok x w' =>
    cases x <;> simp only [Oper.upon, Oper.uponIn] at h ⊢ <;> first
      | exact h
      | exact ⟨fun hd => (by cases hd), CallsIn.inRound l (callsIn_wide.2 h)⟩
      | exact ⟨fun hd => (by cases hd), fun c cs _ => let ⟨v, w'', r, s⟩ := h c cs; ⟨v, w'', r, stepsIn_wide.2 s⟩⟩
      | exact h.elim
  | halt x w' => cases x <;> simp only [Oper.upon, Oper.uponIn] at h ⊢ <;> exact h
theorem wpListIn_append_any {ops : Array Oper} {rest : List Oper} {o : Oper} {a : Act} {w : World} {Q : Exit → Act → World → Prop} {l : Nat} (hgd : o.guard = none) (s x : Operand) (t : TypeId)
    (ho : o.op = .call { callee := .builtin .append, args := #[s, x], argTypes := #[t, t] })
    (base : Nat) (e : TypeId) (i : TypeInfo) (z : Value) (size bytes : Nat) (ht : P.underlying t = some (.slice e)) (hi : P.info? e = some i) (hz : i.zero = some z)
    (hsize : i.size = size) (hby : i.bytes = bytes) (hzs : z.cells.size = size) (hsz : 0 < size)
    (v : Value) (n : Nat) (xs : List Value) (hs : a.eval s = v) (hown : w.ownsRow base e size v n xs)
    (B : Nat) (A : Option Addr) (m c : Nat) (news : List Value) (hx : a.eval x = .slice A m c) (hr : Reads w B size A m news) (h1 : ∀ u ∈ news, u.oneCell' = true)
    (h63 : n + m ≤ maxLen) (hbytes : (n + m) * bytes ≤ 140737488355328) (hbase : base ≤ w.heap.size)
    (h : ∀ v' w', w'.ownsRow base e size v' (n + m) (xs ++ news) → w.grownBy w' v.ownBlock → (v'.ownBlock = v.ownBlock ∨ v'.ownBlock = some w.heap.size) → wpListIn (Fence.wide.inRound l) 0 P ops Q rest (a.put o.dst v') w') :
    wpListIn (Fence.wide.inRound l) 0 P ops Q (o :: rest) a w :=
  wpListIn_plain hgd fun K hK => oper_in (by rw [ho]; intro c e; cases e) (wp_append_any w s x t ho base e i z size bytes ht hi hz hsize hby hzs hsz v n xs hs hown B A m c news hx hr h1 h63 hbytes hbase fun v' w' h2 h3 h4 => hK _ _ (h v' w' h2 h3 h4))

/-- No operation of a region is a defer statement. -/
def noDefer (ops : Array Oper) : Bool := ops.all fun o => match o.op with | .defer .. => false | _ => true
theorem noDefer_at {ops : Array Oper} (h : noDefer ops = true) {i : Nat} {o : Oper} (ho : ops[i]? = some o) : ∀ c, o.op ≠ .defer c := by
  intro c e
  obtain ⟨hi, rfl⟩ := Array.getElem?_eq_some_iff.1 ho
  unfold noDefer at h
  rw [Array.all_eq_true] at h
  have := h i hi
  rw [e] at this
  cases this
theorem any_in {md : Region.Mode} {ops : Array Oper} {Q : Exit → Act → World → Prop} {l : Nat} (hd : noDefer ops = true) (hQ : ∀ a w, ¬ Q .outgrown a w) : ∀ (fuel : Nat) (listed : Array Bool) (a : Act) (w : World),
    wpAny P md ops Q fuel listed a w → wpAnyIn (Fence.wide.inRound l) 0 P md ops Q fuel listed a w
  | 0, _, _, _, h => h
  | fuel + 1, listed, a, w, h => by
    refine ⟨h.1, fun i hi => ?_⟩
    have hs := h.2 i hi
    unfold wpOp at hs
    unfold wpOpIn
    cases ho : ops[i]? with
    | none => rw [ho] at hs; exact any_in hd hQ fuel _ _ _ hs
    | some o =>
      rw [ho] at hs
      simp only at hs ⊢
      split
      · rename_i hw
        rw [if_pos hw] at hs
        rcases hs with hs | ⟨_, a', w', ho'⟩
        · exact oper_in (noDefer_at hd ho) (Oper.wp_mono (fun a' w' h' => any_in hd hQ fuel _ a' w' h') hs)
        · exact (hQ a' w' ho').elim
      · rename_i hw
        rw [if_neg hw] at hs
        exact ⟨fun _ _ => trivial, any_in hd hQ fuel _ _ _ hs⟩
/-- A region that draws its order, in a round: walked as everywhere. -/
theorem region_in {id : Nat} {ops : Array Oper} {Q : Exit → Act → World → Prop} {a : Act} {w : World} {l : Nat} (hm : P.follows .mixedOrders = true) (hd : noDefer ops = true) (hQ : ∀ a w, ¬ Q .outgrown a w)
    (h : wpAny P .any ops Q ops.size (Array.replicate ops.size false) a w.drew) : (Code.region id ops true).wpIn (Fence.wide.inRound l) 0 P Q a w :=
  wpIn_region_any hm (any_in hd hQ _ _ _ _ h)
end Go.Proofs.YtlonaeonndjmmaaDoor
