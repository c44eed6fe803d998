/- A range over a function whose body never leaves early, where iterator and caller each keep blocks of their own that grow while it runs: the statement, out of the iterator's contract and one walk of the body. No program, no condition. -/
import Derived.Test.YtkopoepoinkpeaaDoorRound
namespace Go.Proofs.YtkopoepoinkpeaaDoor
open Go.RowKit
set_option linter.unusedVariables false
set_option linter.unusedSimpArgs false
set_option maxRecDepth 100000

/-- What a step leaves that minds the blocks 'C'. -/
structure KeptOn (C : Nat → Prop) (A B : World) : Prop where
  os : B.os = A.os
  tape : B.tape = A.tape
  output : B.output = A.output
  size : A.heap.size ≤ B.heap.size
  block : ∀ k, k < A.heap.size → C k → B.heap[k]? = A.heap[k]?
theorem KeptOn.refl (C : Nat → Prop) (A : World) : KeptOn C A A := ⟨rfl, rfl, rfl, Nat.le_refl _, fun _ _ _ => rfl⟩
theorem KeptOn.trans {C : Nat → Prop} {a b c : World} (h : KeptOn C a b) (k : KeptOn C b c) : KeptOn C a c :=
  ⟨k.os.trans h.os, k.tape.trans h.tape, k.output.trans h.output, Nat.le_trans h.size k.size, fun i hi hc => (k.block i (Nat.lt_of_lt_of_le hi h.size) hc).trans (h.block i hi hc)⟩
theorem KeptOn.mono {C C' : Nat → Prop} {a b : World} (h : KeptOn C a b) (hc : ∀ j, j < a.heap.size → C' j → C j) : KeptOn C' a b := ⟨h.os, h.tape, h.output, h.size, fun i hi hx => h.block i hi (hc i hi hx)⟩
theorem KeptOn.of_below {C : Nat → Prop} {a b : World} (h : Below a.heap.size a b) : KeptOn C a b := ⟨h.os, h.tape, h.output, h.size, fun i hi _ => h.block i hi⟩
theorem KeptOn.of_grown {C : Nat → Prop} {a b : World} {row : Option Nat} (h : a.grownBy b row) (hr : ∀ r, row = some r → ¬ C r) : KeptOn C a b :=
  ⟨h.os, h.tape, h.output, h.size, fun i hi hc => h.block i hi (fun e => hr i e.symm hc)⟩
theorem KeptOn.putObj {C : Nat → Prop} (W : World) {l : Nat} (hl : ¬ C l) (o : Obj) : KeptOn C W (W.putObj l o) := .of_grown (grownBy_putObj' W l o) (fun r e => by injection e with e; rw [← e]; exact hl)
theorem KeptOn.setCell {C : Nat → Prop} (W : World) {p : Addr} (hp : ¬ C p.block) (u : Value) : KeptOn C W (W.setCell p u) :=
  .of_grown (row := some p.block) (only_setCell (World.grownBy.refl W (some p.block)) (.inl rfl) u) (fun r e => by injection e with e; rw [← e]; exact hp)
theorem KeptOn.alloc {C : Nat → Prop} (W : World) (o : Obj) : KeptOn C W (W.alloc o) := .of_below ((Below.refl _ _).alloc (Nat.le_refl _) o)
theorem KeptOn.drawn {C : Nat → Prop} {W W' : World} (h : Drawn W W') : KeptOn C W W' := .of_below (h.below (Below.refl _ _))
theorem KeptOn.cell {C : Nat → Prop} {a b : World} (h : KeptOn C a b) {p : Addr} (hc : C p.block) (hp : p.block < a.heap.size) : b.cell? p = a.cell? p := World.cell?_of_block (h.block _ hp hc)
theorem KeptOn.below {C : Nat → Prop} {a b : World} {B : Nat} (h : KeptOn C a b) (hB : B ≤ a.heap.size) (hc : ∀ j, j < B → C j) : Below B a b := ⟨h.os, h.tape, h.output, h.size, fun i hi => h.block i (Nat.lt_of_lt_of_le hi hB) (hc i hi)⟩

variable {P : Program}
/-- The caller's word abides whatever its blocks are spared. -/
def Abide2 (J : Nat → (Nat → Prop) → World → Prop) : Prop := ∀ k C A B, J k C A → KeptOn C A B → J k C B
/-- The caller's blocks are there. -/
def There (J : Nat → (Nat → Prop) → World → Prop) : Prop := ∀ k C A, J k C A → ∀ j, C j → j < A.heap.size
/-- Behind a round that began in 'W': the caller's blocks are those of before, or new; what the iterator leans on, and what isn't the caller's, stands. -/
structure After (X : Nat → Prop) (J : (Nat → Prop) → World → Prop) (C : Nat → Prop) (W W' : World) : Prop where
  word : ∃ C', J C' W' ∧ ∀ j, C' j → C j ∨ W.heap.size ≤ j
  size : W.heap.size ≤ W'.heap.size
  block : ∀ i, i < W.heap.size → X i ∨ ¬ C i → W'.heap[i]? = W.heap[i]?
def Rounds2 (P : Program) (l N : Nat) (el : Nat → Array Value) (X : Nat → Prop) (J : Nat → (Nat → Prop) → World → Prop) : Prop :=
  ∀ k C W, k < N → J k C W → YieldAt Fence.wide 0 P l (el k) W fun e W' => e = .returned (.bool true) ∧ After X (J (k + 1)) C W W'
def Gives2 (P : Program) (gf : Nat) (lb : Array Value) (N : Nat) (el : Nat → Array Value) (X : Nat → Prop) (w : World) : Prop :=
  ∀ (l : Nat) (J : Nat → (Nat → Prop) → World → Prop) (C : Nat → Prop) (W : World), Below w.heap.size w W → Abide2 J → There J → Rounds2 P l N el X J → J 0 C W →
    Calls P gf (#[.func (.yield l) #[] #[]] ++ lb) W fun e W' => (∃ v, e = .returned v) ∧ ∃ C', J N C' W'

theorem round_gives2 {a a₁ : Act} {ps : Array Tmp} {assign body : Code} {fn : FuncId} {D : Nat} {el : Array Value} {X : Nat → Prop} {I I' : (Nat → Prop) → World → Prop} {C : Nat → Prop} {W : World}
    (hps : el.size = ps.size) (hI : ∀ C A B, I C A → KeptOn C A B → I C B) (hI' : ∀ C A B, I' C A → KeptOn C A B → I' C B) (hX : ∀ k, X k → k < D) (hC : ¬ C D ∧ ¬ C (D + 1)) (u : Under D (recOf fn a ps assign body D .ready) W) (hi : I C W)
    (hassign : ∀ (K : Act → World → Prop), K a₁ W → assign.wpIn (Fence.wide.inRound (D + 1)) 0 P (Exit.then K (fun _ _ _ => False)) { tmps := (ps.zip el).foldl (fun t (p, v) => t.setIfInBounds p v) a.tmps, defers := [] } W)
    (hbody : ∀ W2, D + 2 ≤ W2.heap.size → I C W2 → body.wpIn (Fence.wide.inRound (D + 1)) 0 P (fun e _ W' => e = .normal ∧ After X I' C W2 W') a₁ W2) :
    YieldAt Fence.wide 0 P (D + 1) el W fun e W' => e = .returned (.bool true) ∧ (∃ C', I' C' W' ∧ (∀ j, C' j → C j ∨ W.heap.size ≤ j)) ∧ Under D (recOf fn a ps assign body D .ready) W' ∧ W.heap.size ≤ W'.heap.size ∧ ∀ i, i < W.heap.size → X i ∨ (¬ C i ∧ i ≠ D + 1) → W'.heap[i]? = W.heap[i]? := by
  have ul := u.lt
  have ub := u.turn (recOf fn a ps assign body D .busy)
  have hgo := run_yield (P := P) (args := el) u.record hps
  have hsz : (W.putObj (D + 1) (.loop (recOf fn a ps assign body D .busy))).heap.size = W.heap.size := World.putObj_size ..
  refine ⟨fn, _, assign, body, hgo, roundIn_of_wpIn trivial (hassign _ ⟨_, run_beginRound u.record rfl, ?_⟩)⟩
  refine wpIn_mono (hbody _ (by show D + 2 ≤ (W.putObj (D + 1) (.loop (recOf fn a ps assign body D .busy))).heap.size; rw [hsz]; omega) (hI _ _ _ hi (.putObj W hC.2 _))) ?_
  rintro e a' V ⟨rfl, ⟨C', hv, hC'⟩, hs, hb⟩
  change (W.putObj (D + 1) (.loop (recOf fn a ps assign body D .busy))).heap.size ≤ V.heap.size at hs
  rw [hsz] at hs
  have hb' : ∀ i, i < W.heap.size → X i ∨ ¬ C i → V.heap[i]? = (W.putObj (D + 1) (.loop (recOf fn a ps assign body D .busy))).heap[i]? := fun i hi h => hb i (by show i < (W.putObj (D + 1) (.loop (recOf fn a ps assign body D .busy))).heap.size; rw [hsz]; exact hi) h
  have uv : Under D (recOf fn a ps assign body D .busy) V := ⟨(hb' D (by omega) (.inr hC.1)).trans ub.mark, (hb' (D + 1) (by omega) (.inr hC.2)).trans ub.record⟩
  have hC2 : ∀ j, C' j → C j ∨ W.heap.size ≤ j := fun j hj => by
    rcases hC' j hj with h | h
    · exact .inl h
    · right
      change (W.putObj (D + 1) (.loop (recOf fn a ps assign body D .busy))).heap.size ≤ j at h
      rwa [hsz] at h
  have hCD : ¬ C' (D + 1) := fun h => by
    rcases hC2 _ h with h | h
    · exact hC.2 h
    · omega
  refine ⟨.bool true, V.putObj (D + 1) (.loop (recOf fn a ps assign body D .ready)), run_endRound (P := P) none uv.record, rfl, ⟨C', hI' _ _ _ hv (.putObj V hCD _), hC2⟩, uv.turn _, by rw [World.putObj_size]; exact hs, fun i hi hx => ?_⟩
  have hne : i ≠ D + 1 := by
    rcases hx with h | h
    · have := hX i h; omega
    · exact h.2
  rw [World.putObj_heap_other (by omega), hb' i hi (hx.imp id (·.1)), World.putObj_heap_other (by omega)]

theorem range_gives2 {nd : Nat} {g : Operand} {ps : Array Tmp} {assign body : Code} {Q : Exit → Act → World → Prop} {a : Act} {w : World} {gf : Nat} {lb : Array Value}
    (hg : a.eval g = .func (.func gf) #[] lb) (eg : ∀ args w, (callFunc gf args).run P w = .ok (.enter gf args) w)
    {N : Nat} {el : Nat → Array Value} {X : Nat → Prop} (hseq : Gives2 P gf lb N el X w)
    (hX : ∀ k, X k → k < w.heap.size) (hps : ∀ k, (el k).size = ps.size)
    (I : Nat → (Nat → Prop) → World → Prop) (a₁ : Nat → Act) (C₀ : Nat → Prop) (h0 : I 0 C₀ w)
    (hI : Abide2 I) (hIt : There I) (hIC : ∀ k C W, I k C W → ¬ C w.heap.size ∧ ¬ C (w.heap.size + 1))
    (hassign : ∀ (l k : Nat) (W : World) (K : Act → World → Prop), K (a₁ k) W →
      assign.wpIn (Fence.wide.inRound l) 0 P (Exit.then K (fun _ _ _ => False)) { tmps := (ps.zip (el k)).foldl (fun t (p, v) => t.setIfInBounds p v) a.tmps, defers := [] } W)
    (hbody : ∀ (l k : Nat) (C : Nat → Prop) (W : World), k < N → w.heap.size + 2 ≤ W.heap.size → I k C W → body.wpIn (Fence.wide.inRound l) 0 P (fun e _ W' => e = .normal ∧ After X (I (k + 1)) C W W') (a₁ k) W)
    (hdone : ∀ (D : Nat) (C : Nat → Prop) (W : World), D = w.heap.size → I N C W → W.heap[D]? = some (.deferred (some [])) → Q .normal { a with defers := { target := .collected D, args := #[] } :: a.defers } W) :
    (Code.rangeFunc g ps assign body).wpIn Fence.wide nd P Q a w := by
  refine wpIn_rangeFunc fun fn _ => ?_
  have u0 := under_new w (recOf fn a ps assign body w.heap.size .ready)
  have b0 : Below w.heap.size w ((w.alloc (.deferred (some []))).alloc (.loop (recOf fn a ps assign body w.heap.size .ready))) := ((Below.refl _ w).alloc (Nat.le_refl _) _).alloc (by simp) _
  have i0 := hI _ _ _ _ h0 ((KeptOn.alloc w (.deferred (some []))).trans (KeptOn.alloc _ (.loop (recOf fn a ps assign body w.heap.size .ready))))
  have hen := run_enterLoop_outer (P := P) (w := w) fn a.tmps ps assign body
  change _ = Result.ok _ ((w.alloc (.deferred (some []))).alloc (.loop (recOf fn a ps assign body w.heap.size .ready))) at hen
  generalize (w.alloc (.deferred (some []))).alloc (.loop (recOf fn a ps assign body w.heap.size .ready)) = W1 at u0 b0 i0 hen
  have hcall := hseq (w.heap.size + 1) (fun k C W => ∃ C₁, C = (fun j => C₁ j ∨ j = w.heap.size ∨ j = w.heap.size + 1) ∧ I k C₁ W ∧ Under w.heap.size (recOf fn a ps assign body w.heap.size .ready) W) _ _ b0
    (by
      rintro k C A B ⟨C₁, rfl, hi, u⟩ hk
      have ul := u.lt
      exact ⟨C₁, rfl, hI k C₁ A B hi (hk.mono fun j _ h => .inl h), ⟨(hk.block _ (by omega) (.inr (.inl rfl))).trans u.mark, (hk.block _ ul (.inr (.inr rfl))).trans u.record⟩⟩)
    (by
      rintro k C A ⟨C₁, rfl, hi, u⟩ j hj
      have ul := u.lt
      rcases hj with h | h | h
      · exact hIt k C₁ A hi j h
      · omega
      · omega)
    (by
      rintro k C W hk ⟨C₁, rfl, hi, u⟩
      obtain ⟨fn', tmps, asg, bd, hy, hR⟩ := round_gives2 (hps k) (hI k) (hI (k + 1)) hX (hIC k C₁ W hi) u hi (hassign _ k W) (fun W2 hs hi => hbody _ k C₁ W2 hk hs hi)
      refine ⟨fn', tmps, asg, bd, hy, hR.mono ?_⟩
      rintro e W' ⟨he, ⟨C', h1, h2⟩, hu, hs, hb⟩
      refine ⟨he, ⟨⟨_, ⟨C', rfl, h1, hu⟩, fun j hj => ?_⟩, hs, fun i hi2 hx => ?_⟩⟩
      · rcases hj with h | h
        · rcases h2 j h with h | h
          · exact .inl (.inl h)
          · exact .inr h
        · exact .inl (.inr h)
      · exact hb i hi2 (hx.imp id fun h => ⟨fun hc => h (.inl hc), fun e => h (.inr (.inr e))⟩))
    ⟨C₀, rfl, i0, u0⟩
  refine ⟨_, _, _, { target := .fn (.func gf) lb, args := #[.func (.yield (w.heap.size + 1)) #[] #[]] }, W1, gf, _, _, hen, ?_, fun _ _ => trivial, ?_, fun h => (by cases h), callsIn_wide.2 (hcall.mono ?_)⟩
  · simp only [resolve, hg]; simp [go_sem]
  · simp [invoke, go_sem, eg]
  · rintro e W2 ⟨⟨v, rfl⟩, C', C₁, rfl, hi, u⟩
    refine ⟨none, _, run_endLoop (P := P) u.record (by intro h; cases h), hdone _ C₁ _ rfl (hI _ _ _ _ hi (.putObj W2 (hIC _ _ _ hi).2 _)) (u.turn _).mark⟩
end Go.Proofs.YtkopoepoinkpeaaDoor
