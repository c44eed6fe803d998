/- Texts joined: Round2 OwnNew PrStk Fill ZwBack Round3 VlForm ColsIn VlCol SlVal PrParts RowsIn ReadsP ZnMono. -/
import Derived.Test.YtmjpjllbfgkfbaaDoorJ4
import Derived.Test.YtmjpjllbfgkfbaaDoorJ1
import Derived.Test.YtmjpjllbfgkfbaaDoorJ3
import Derived.WalkKit
import Derived.Test.YtmjpjllbfgkfbaaDoorJ2
import Derived.Deep.Slices
import Derived.Deep.Matrix
/- A range over a function whose body never leaves early, where iterator and caller each keep blocks of their own that grow while it runs: the statement, out of the iterator's contract and one walk of the body. No program, no condition. -/
namespace Go.Proofs.YtmjpjllbfgkfbaaDoor
open Go.RowKit
set_option linter.unusedVariables false
set_option linter.unusedSimpArgs false
set_option maxRecDepth 100000

/-- What a step leaves that minds the blocks 'C'. -/
structure KeptOn (C : Nat → Prop) (A B : World) : Prop where
  os : B.os = A.os
  tape : B.tape = A.tape
  output : B.output = A.output
  size : A.heap.size ≤ B.heap.size
  block : ∀ k, k < A.heap.size → C k → B.heap[k]? = A.heap[k]?
theorem KeptOn.refl (C : Nat → Prop) (A : World) : KeptOn C A A := ⟨rfl, rfl, rfl, Nat.le_refl _, fun _ _ _ => rfl⟩
theorem KeptOn.trans {C : Nat → Prop} {a b c : World} (h : KeptOn C a b) (k : KeptOn C b c) : KeptOn C a c :=
  ⟨k.os.trans h.os, k.tape.trans h.tape, k.output.trans h.output, Nat.le_trans h.size k.size, fun i hi hc => (k.block i (Nat.lt_of_lt_of_le hi h.size) hc).trans (h.block i hi hc)⟩
theorem KeptOn.mono {C C' : Nat → Prop} {a b : World} (h : KeptOn C a b) (hc : ∀ j, j < a.heap.size → C' j → C j) : KeptOn C' a b := ⟨h.os, h.tape, h.output, h.size, fun i hi hx => h.block i hi (hc i hi hx)⟩
theorem KeptOn.of_below {C : Nat → Prop} {a b : World} (h : Below a.heap.size a b) : KeptOn C a b := ⟨h.os, h.tape, h.output, h.size, fun i hi _ => h.block i hi⟩
theorem KeptOn.of_grown {C : Nat → Prop} {a b : World} {row : Option Nat} (h : a.grownBy b row) (hr : ∀ r, row = some r → ¬ C r) : KeptOn C a b :=
  ⟨h.os, h.tape, h.output, h.size, fun i hi hc => h.block i hi (fun e => hr i e.symm hc)⟩
theorem KeptOn.putObj {C : Nat → Prop} (W : World) {l : Nat} (hl : ¬ C l) (o : Obj) : KeptOn C W (W.putObj l o) := .of_grown (grownBy_putObj' W l o) (fun r e => by injection e with e; rw [← e]; exact hl)
theorem KeptOn.setCell {C : Nat → Prop} (W : World) {p : Addr} (hp : ¬ C p.block) (u : Value) : KeptOn C W (W.setCell p u) :=
  .of_grown (row := some p.block) (only_setCell (World.grownBy.refl W (some p.block)) (.inl rfl) u) (fun r e => by injection e with e; rw [← e]; exact hp)
theorem KeptOn.alloc {C : Nat → Prop} (W : World) (o : Obj) : KeptOn C W (W.alloc o) := .of_below ((Below.refl _ _).alloc (Nat.le_refl _) o)
theorem KeptOn.drawn {C : Nat → Prop} {W W' : World} (h : Drawn W W') : KeptOn C W W' := .of_below (h.below (Below.refl _ _))
theorem KeptOn.cell {C : Nat → Prop} {a b : World} (h : KeptOn C a b) {p : Addr} (hc : C p.block) (hp : p.block < a.heap.size) : b.cell? p = a.cell? p := World.cell?_of_block (h.block _ hp hc)
theorem KeptOn.below {C : Nat → Prop} {a b : World} {B : Nat} (h : KeptOn C a b) (hB : B ≤ a.heap.size) (hc : ∀ j, j < B → C j) : Below B a b := ⟨h.os, h.tape, h.output, h.size, fun i hi => h.block i (Nat.lt_of_lt_of_le hi hB) (hc i hi)⟩

variable {P : Program}
/-- The caller's word abides whatever its blocks are spared. -/
def Abide2 (J : Nat → (Nat → Prop) → World → Prop) : Prop := ∀ k C A B, J k C A → KeptOn C A B → J k C B
/-- The caller's blocks are there. -/
def There (J : Nat → (Nat → Prop) → World → Prop) : Prop := ∀ k C A, J k C A → ∀ j, C j → j < A.heap.size
/-- Behind a round that began in 'W': the caller's blocks are those of before, or new; what the iterator leans on, and what isn't the caller's, stands. -/
structure After (X : Nat → Prop) (J : (Nat → Prop) → World → Prop) (C : Nat → Prop) (W W' : World) : Prop where
  word : ∃ C', J C' W' ∧ ∀ j, C' j → C j ∨ W.heap.size ≤ j
  size : W.heap.size ≤ W'.heap.size
  block : ∀ i, i < W.heap.size → X i ∨ ¬ C i → W'.heap[i]? = W.heap[i]?
def Rounds2 (P : Program) (l N : Nat) (el : Nat → Array Value) (X : Nat → Prop) (J : Nat → (Nat → Prop) → World → Prop) : Prop :=
  ∀ k C W, k < N → J k C W → YieldAt Fence.wide 0 P l (el k) W fun e W' => e = .returned (.bool true) ∧ After X (J (k + 1)) C W W'
def Gives2 (P : Program) (gf : Nat) (lb : Array Value) (N : Nat) (el : Nat → Array Value) (X : Nat → Prop) (w : World) : Prop :=
  ∀ (l : Nat) (J : Nat → (Nat → Prop) → World → Prop) (C : Nat → Prop) (W : World), Below w.heap.size w W → Abide2 J → There J → Rounds2 P l N el X J → J 0 C W →
    Calls P gf (#[.func (.yield l) #[] #[]] ++ lb) W fun e W' => (∃ v, e = .returned v) ∧ ∃ C', J N C' W'

theorem round_gives2 {a a₁ : Act} {ps : Array Tmp} {assign body : Code} {fn : FuncId} {D : Nat} {el : Array Value} {X : Nat → Prop} {I I' : (Nat → Prop) → World → Prop} {C : Nat → Prop} {W : World}
    (hps : el.size = ps.size) (hI : ∀ C A B, I C A → KeptOn C A B → I C B) (hI' : ∀ C A B, I' C A → KeptOn C A B → I' C B) (hX : ∀ k, X k → k < D) (hC : ¬ C D ∧ ¬ C (D + 1)) (u : Under D (recOf fn a ps assign body D .ready) W) (hi : I C W)
    (hassign : ∀ (K : Act → World → Prop), K a₁ W → assign.wpIn (Fence.wide.inRound (D + 1)) 0 P (Exit.then K (fun _ _ _ => False)) { tmps := (ps.zip el).foldl (fun t (p, v) => t.setIfInBounds p v) a.tmps, defers := [] } W)
    (hbody : ∀ W2, D + 2 ≤ W2.heap.size → I C W2 → body.wpIn (Fence.wide.inRound (D + 1)) 0 P (fun e _ W' => e = .normal ∧ After X I' C W2 W') a₁ W2) :
    YieldAt Fence.wide 0 P (D + 1) el W fun e W' => e = .returned (.bool true) ∧ (∃ C', I' C' W' ∧ (∀ j, C' j → C j ∨ W.heap.size ≤ j)) ∧ Under D (recOf fn a ps assign body D .ready) W' ∧ W.heap.size ≤ W'.heap.size ∧ ∀ i, i < W.heap.size → X i ∨ (¬ C i ∧ i ≠ D + 1) → W'.heap[i]? = W.heap[i]? := by
  have ul := u.lt
  have ub := u.turn (recOf fn a ps assign body D .busy)
  have hgo := run_yield (P := P) (args := el) u.record hps
  have hsz : (W.putObj (D + 1) (.loop (recOf fn a ps assign body D .busy))).heap.size = W.heap.size := World.putObj_size ..
  refine ⟨fn, _, assign, body, hgo, roundIn_of_wpIn trivial (hassign _ ⟨_, run_beginRound u.record rfl, ?_⟩)⟩
  refine wpIn_mono (hbody _ (by show D + 2 ≤ (W.putObj (D + 1) (.loop (recOf fn a ps assign body D .busy))).heap.size; rw [hsz]; omega) (hI _ _ _ hi (.putObj W hC.2 _))) ?_
  rintro e a' V ⟨rfl, ⟨C', hv, hC'⟩, hs, hb⟩
  change (W.putObj (D + 1) (.loop (recOf fn a ps assign body D .busy))).heap.size ≤ V.heap.size at hs
  rw [hsz] at hs
  have hb' : ∀ i, i < W.heap.size → X i ∨ ¬ C i → V.heap[i]? = (W.putObj (D + 1) (.loop (recOf fn a ps assign body D .busy))).heap[i]? := fun i hi h => hb i (by show i < (W.putObj (D + 1) (.loop (recOf fn a ps assign body D .busy))).heap.size; rw [hsz]; exact hi) h
  have uv : Under D (recOf fn a ps assign body D .busy) V := ⟨(hb' D (by omega) (.inr hC.1)).trans ub.mark, (hb' (D + 1) (by omega) (.inr hC.2)).trans ub.record⟩
  have hC2 : ∀ j, C' j → C j ∨ W.heap.size ≤ j := fun j hj => by
    rcases hC' j hj with h | h
    · exact .inl h
    · right
      change (W.putObj (D + 1) (.loop (recOf fn a ps assign body D .busy))).heap.size ≤ j at h
      rwa [hsz] at h
  have hCD : ¬ C' (D + 1) := fun h => by
    rcases hC2 _ h with h | h
    · exact hC.2 h
    · omega
  refine ⟨.bool true, V.putObj (D + 1) (.loop (recOf fn a ps assign body D .ready)), run_endRound (P := P) none uv.record, rfl, ⟨C', hI' _ _ _ hv (.putObj V hCD _), hC2⟩, uv.turn _, by rw [World.putObj_size]; exact hs, fun i hi hx => ?_⟩
  have hne : i ≠ D + 1 := by
    rcases hx with h | h
    · have := hX i h; omega
    · exact h.2
  rw [World.putObj_heap_other (by omega), hb' i hi (hx.imp id (·.1)), World.putObj_heap_other (by omega)]

theorem range_gives2 {nd : Nat} {g : Operand} {ps : Array Tmp} {assign body : Code} {Q : Exit → Act → World → Prop} {a : Act} {w : World} {gf : Nat} {lb : Array Value}
    (hg : a.eval g = .func (.func gf) #[] lb) (eg : ∀ args w, (callFunc gf args).run P w = .ok (.enter gf args) w)
    {N : Nat} {el : Nat → Array Value} {X : Nat → Prop} (hseq : Gives2 P gf lb N el X w)
    (hX : ∀ k, X k → k < w.heap.size) (hps : ∀ k, (el k).size = ps.size)
    (I : Nat → (Nat → Prop) → World → Prop) (a₁ : Nat → Act) (C₀ : Nat → Prop) (h0 : I 0 C₀ w)
    (hI : Abide2 I) (hIt : There I) (hIC : ∀ k C W, I k C W → ¬ C w.heap.size ∧ ¬ C (w.heap.size + 1))
    (hassign : ∀ (l k : Nat) (W : World) (K : Act → World → Prop), K (a₁ k) W →
      assign.wpIn (Fence.wide.inRound l) 0 P (Exit.then K (fun _ _ _ => False)) { tmps := (ps.zip (el k)).foldl (fun t (p, v) => t.setIfInBounds p v) a.tmps, defers := [] } W)
    (hbody : ∀ (l k : Nat) (C : Nat → Prop) (W : World), k < N → w.heap.size + 2 ≤ W.heap.size → I k C W → body.wpIn (Fence.wide.inRound l) 0 P (fun e _ W' => e = .normal ∧ After X (I (k + 1)) C W W') (a₁ k) W)
    (hdone : ∀ (D : Nat) (C : Nat → Prop) (W : World), D = w.heap.size → I N C W → W.heap[D]? = some (.deferred (some [])) → Q .normal { a with defers := { target := .collected D, args := #[] } :: a.defers } W) :
    (Code.rangeFunc g ps assign body).wpIn Fence.wide nd P Q a w := by
  refine wpIn_rangeFunc fun fn _ => ?_
  have u0 := under_new w (recOf fn a ps assign body w.heap.size .ready)
  have b0 : Below w.heap.size w ((w.alloc (.deferred (some []))).alloc (.loop (recOf fn a ps assign body w.heap.size .ready))) := ((Below.refl _ w).alloc (Nat.le_refl _) _).alloc (by simp) _
  have i0 := hI _ _ _ _ h0 ((KeptOn.alloc w (.deferred (some []))).trans (KeptOn.alloc _ (.loop (recOf fn a ps assign body w.heap.size .ready))))
  have hen := run_enterLoop_outer (P := P) (w := w) fn a.tmps ps assign body
  change _ = Result.ok _ ((w.alloc (.deferred (some []))).alloc (.loop (recOf fn a ps assign body w.heap.size .ready))) at hen
  generalize (w.alloc (.deferred (some []))).alloc (.loop (recOf fn a ps assign body w.heap.size .ready)) = W1 at u0 b0 i0 hen
  have hcall := hseq (w.heap.size + 1) (fun k C W => ∃ C₁, C = (fun j => C₁ j ∨ j = w.heap.size ∨ j = w.heap.size + 1) ∧ I k C₁ W ∧ Under w.heap.size (recOf fn a ps assign body w.heap.size .ready) W) _ _ b0
    (by
      rintro k C A B ⟨C₁, rfl, hi, u⟩ hk
      have ul := u.lt
      exact ⟨C₁, rfl, hI k C₁ A B hi (hk.mono fun j _ h => .inl h), ⟨(hk.block _ (by omega) (.inr (.inl rfl))).trans u.mark, (hk.block _ ul (.inr (.inr rfl))).trans u.record⟩⟩)
    (by
      rintro k C A ⟨C₁, rfl, hi, u⟩ j hj
      have ul := u.lt
      rcases hj with h | h | h
      · exact hIt k C₁ A hi j h
      · omega
      · omega)
    (by
      rintro k C W hk ⟨C₁, rfl, hi, u⟩
      obtain ⟨fn', tmps, asg, bd, hy, hR⟩ := round_gives2 (hps k) (hI k) (hI (k + 1)) hX (hIC k C₁ W hi) u hi (hassign _ k W) (fun W2 hs hi => hbody _ k C₁ W2 hk hs hi)
      refine ⟨fn', tmps, asg, bd, hy, hR.mono ?_⟩
      rintro e W' ⟨he, ⟨C', h1, h2⟩, hu, hs, hb⟩
      refine ⟨he, ⟨⟨_, ⟨C', rfl, h1, hu⟩, fun j hj => ?_⟩, hs, fun i hi2 hx => ?_⟩⟩
      · rcases hj with h | h
        · rcases h2 j h with h | h
          · exact .inl (.inl h)
          · exact .inr h
        · exact .inl (.inr h)
      · exact hb i hi2 (hx.imp id fun h => ⟨fun hc => h (.inl hc), fun e => h (.inr (.inr e))⟩))
    ⟨C₀, rfl, i0, u0⟩
  refine ⟨_, _, _, { target := .fn (.func gf) lb, args := #[.func (.yield (w.heap.size + 1)) #[] #[]] }, W1, gf, _, _, hen, ?_, fun _ _ => trivial, ?_, fun h => (by cases h), callsIn_wide.2 (hcall.mono ?_)⟩
  · simp only [resolve, hg]; simp [go_sem]
  · simp [invoke, go_sem, eg]
  · rintro e W2 ⟨⟨v, rfl⟩, C', C₁, rfl, hi, u⟩
    refine ⟨none, _, run_endLoop (P := P) u.record (by intro h; cases h), hdone _ C₁ _ rfl (hI _ _ _ _ hi (.putObj W2 (hIC _ _ _ hi).2 _)) (u.turn _).mark⟩
end Go.Proofs.YtmjpjllbfgkfbaaDoor

/- A row that was just made whole is the call's own. No program. -/
namespace Go.Proofs.YtmjpjllbfgkfbaaDoor
open Go.RowKit
set_option linter.unusedVariables false
set_option linter.unusedSimpArgs false
set_option maxRecDepth 100000

theorem own_new (w : World) (cs : Array Value) (n : Nat) (t : TypeId) (xs : List Value) (hm : n ≤ maxLen) (hs : cs.size = n) (hx : cs.toList = xs) :
    (w.alloc (.cells cs t)).ownsRow w.heap.size t 1 (.slice (some ⟨w.heap.size, 0, none⟩) n n) n xs := by
  subst hx
  exact ⟨by simp [hs], .inr ⟨w.heap.size, n, cs, rfl, Nat.le_refl _, heap_alloc_new w _, Nat.le_refl _, hm, by omega, by rw [Nat.mul_one, ← hs, ← Array.length_toList, List.take_length]⟩⟩

end Go.Proofs.YtmjpjllbfgkfbaaDoor

/- The stack of pred's each: a row of pointers that stands in a box; marks of deferred calls. No condition. -/
namespace Go.Proofs.YtmjpjllbfgkfbaaDoor
open Go.RowKit
set_option linter.unusedVariables false
set_option linter.unusedSimpArgs false
set_option maxRecDepth 100000

/-- The blocks of 'C' stand. -/
def Spared (C : Nat → Prop) (A B : World) : Prop := ∀ k, k < A.heap.size → C k → B.heap[k]? = A.heap[k]?
theorem own_on {w w' : World} {base : Nat} {e : TypeId} {size n : Nat} {v : Value} {xs : List Value} {C : Nat → Prop} (h : w.ownsRow base e size v n xs) (hk : Spared C w w') (hc : ∀ q, v.ownBlock = some q → C q) : w'.ownsRow base e size v n xs := by
  refine ⟨h.1, ?_⟩
  rcases h.2 with hn | ⟨g, cap, cur, rfl, h1, hgc, rest⟩
  · exact .inl hn
  · exact .inr ⟨g, cap, cur, rfl, h1, (hk g (Array.getElem?_eq_some_iff.1 hgc).1 (hc g rfl)).trans hgc, rest⟩
theorem blk_on {w w' : World} {g : Nat} {t : TypeId} {cs : Array Value} {C : Nat → Prop} (h : Blk w g t cs) (hk : Spared C w w') (hc : C g) : Blk w' g t cs := (hk g h.lt hc).trans h
/-- The front of a row of the call's own, whatever it is. -/
theorem own_less {w : World} {base n k : Nat} {A : Option Addr} {cap : Nat} {e : TypeId} {xs : List Value} (h : w.ownsRow base e 1 (.slice A n cap) n xs) (hk : k ≤ n) : w.ownsRow base e 1 (.slice A k cap) k (xs.take k) := by
  have hl : xs.length = n := by have := h.1; omega
  rcases h.2 with ⟨e1, e2⟩ | ⟨g, cap', cur, e1, h1, hgc, h3, h4, h5, h6⟩
  · injection e1 with a1 a2 a3
    obtain rfl : k = 0 := by omega
    subst a1 a3
    exact ⟨by simp, .inl ⟨rfl, rfl⟩⟩
  · injection e1 with a1 a2 a3
    subst a1 a3
    refine ⟨by rw [List.length_take, hl]; omega, .inr ⟨g, cap, cur, rfl, h1, hgc, by omega, h4, h5, ?_⟩⟩
    rw [← h6, Nat.mul_one, Nat.mul_one, List.take_take, Nat.min_eq_left hk]
/-- A row of pointers that grows in place or anew, in a box of its own. -/
structure Stk (n₀ tb : Nat) (C : Nat → Prop) (xs : List Value) (W : World) (A : Option Addr) (c : Nat) : Prop where
  box : Blk W tb 94 #[.slice A xs.length c]
  own : W.ownsRow 0 50 1 (.slice A xs.length c) xs.length xs
  row : ∀ q, (Value.slice A xs.length c).ownBlock = some q → q ≠ tb ∧ ¬ C q ∧ n₀ ≤ q
  far : ¬ C tb ∧ n₀ ≤ tb
section
variable {n₀ tb : Nat} {C C' K : Nat → Prop} {xs : List Value} {W W' : World} {A : Option Addr} {c : Nat}
theorem Stk.on (h : Stk n₀ tb C xs W A c) (hk : Spared K W W') (h1 : K tb) (h2 : ∀ q, (Value.slice A xs.length c).ownBlock = some q → K q) : Stk n₀ tb C xs W' A c := ⟨blk_on h.box hk h1, own_on h.own hk h2, h.row, h.far⟩
theorem Stk.own_lt (h : Stk n₀ tb C xs W A c) {q : Nat} (hq : (Value.slice A xs.length c).ownBlock = some q) : q < W.heap.size := (h.own.lt q hq).2
/-- The caller's blocks may be fewer, or new ones. -/
theorem Stk.other (h : Stk n₀ tb C xs W A c) {S : Nat} (hS : tb < S ∧ ∀ q, (Value.slice A xs.length c).ownBlock = some q → q < S) (hC : ∀ j, C' j → C j ∨ S ≤ j) : Stk n₀ tb C' xs W A c :=
  ⟨h.box, h.own, fun q hq => ⟨(h.row q hq).1, fun hc => by
    rcases hC q hc with g | g
    · exact (h.row q hq).2.1 g
    · have := hS.2 q hq; omega, (h.row q hq).2.2⟩, fun hc => by
    rcases hC tb hc with g | g
    · exact h.far.1 g
    · have := hS.1; omega, h.far.2⟩
/-- The last one is taken off: the box is stored. -/
theorem Stk.pop {x : Value} (h : Stk n₀ tb C (xs ++ [x]) W A c) : Stk n₀ tb C xs (W.setCell ⟨tb, 0, none⟩ (.slice A xs.length c)) A c := by
  have hl : (xs ++ [x]).length = xs.length + 1 := by simp
  have h1 := h.own
  have hob : (Value.slice A xs.length c).ownBlock = (Value.slice A (xs ++ [x]).length c).ownBlock := by cases A <;> rfl
  have h2 := own_less h1 (k := xs.length) (by omega)
  rw [List.take_left' rfl] at h2
  have hk : KeptOn (fun j => j ≠ tb) W (W.setCell ⟨tb, 0, none⟩ (.slice A xs.length c)) := KeptOn.setCell W (p := ⟨tb, 0, none⟩) (fun h => h rfl) _
  refine ⟨by simpa using h.box.set_ 0 (.slice A xs.length c), own_on h2 hk.block (fun q hq => (h.row q (hob ▸ hq)).1), fun q hq => h.row q (hob ▸ hq), h.far⟩
/-- One more, in place or in a new row; the box is stored. -/
theorem Stk.push {o : Obj} {v' x : Value} {W2 : World} (h : Stk n₀ tb C xs W A c) (hC : ∀ j, C j → j < W.heap.size) (hn0 : n₀ ≤ W.heap.size) (hown : W2.ownsRow 0 50 1 v' (xs.length + 1) (xs ++ [x]))
    (hg : (W.alloc o).grownBy W2 (Value.slice A xs.length c).ownBlock) (hat : v'.ownBlock = (Value.slice A xs.length c).ownBlock ∨ v'.ownBlock = some (W.alloc o).heap.size) :
    ∃ A2 c2, v' = .slice A2 (xs ++ [x]).length c2 ∧ Stk n₀ tb C (xs ++ [x]) (W2.setCell ⟨tb, 0, none⟩ v') A2 c2 ∧ KeptOn (fun q => q ≠ tb ∧ (Value.slice A xs.length c).ownBlock ≠ some q) W (W2.setCell ⟨tb, 0, none⟩ v') ∧
      W.heap.size ≤ (W2.setCell ⟨tb, 0, none⟩ v').heap.size ∧ ∀ q, v'.ownBlock = some q → (Value.slice A xs.length c).ownBlock = some q ∨ W.heap.size ≤ q := by
  obtain ⟨A2, c2, rfl, _, _, _⟩ := own_slice hown
  have hl : xs.length + 1 = (xs ++ [x]).length := by simp
  have htb := h.box.lt
  have hnew : ∀ q, (Value.slice A2 (xs.length + 1) c2).ownBlock = some q → (Value.slice A xs.length c).ownBlock = some q ∨ W.heap.size ≤ q := fun q hq => by
    rcases hat with e | e
    · exact .inl (e ▸ hq)
    · rw [e] at hq; injection hq with hq; simp at hq; exact .inr (by omega)
  have hrow : ∀ q, (Value.slice A2 (xs.length + 1) c2).ownBlock = some q → q ≠ tb ∧ ¬ C q ∧ n₀ ≤ q := fun q hq => by
    rcases hnew q hq with e | e
    · exact h.row q e
    · exact ⟨by omega, fun hc => by have := hC q hc; omega, by omega⟩
  have k1 : KeptOn (fun q => q ≠ tb ∧ (Value.slice A xs.length c).ownBlock ≠ some q) W W2 := (KeptOn.alloc W o).trans (.of_grown hg (fun r e hc => hc.2 e))
  have k2 : KeptOn (fun q => q ≠ tb) W2 (W2.setCell ⟨tb, 0, none⟩ (.slice A2 (xs.length + 1) c2)) := .setCell _ (p := ⟨tb, 0, none⟩) (fun h => h rfl) _
  have hb2 : Blk W2 tb 94 #[.slice A xs.length c] := by
    have h1 : (W.alloc o).heap[tb]? = W.heap[tb]? := Below.heap_alloc W o tb htb
    exact (hg.block tb (by simp; omega) (fun e => (h.row tb e.symm).1 rfl)).trans (h1.trans h.box)
  refine ⟨A2, c2, by rw [← hl], ⟨?_, ?_, fun q hq => hrow q (by rw [hl]; exact hq), h.far⟩, k1.trans (k2.mono fun j _ hj => hj.1), Nat.le_trans k1.size k2.size, hnew⟩
  · have := hb2.set_ 0 (.slice A2 (xs.length + 1) c2)
    rw [← hl]
    simpa using this
  · rw [← hl]
    exact own_on hown k2.block (fun q hq => (hrow q hq).1)
end
/-- The marks that ranges over functions left: each one's block is as it was laid, and isn't the caller's. -/
structure Marks (ds : List Deferred) (C : Nat → Prop) (n₀ : Nat) (W : World) (l : List Nat) : Prop where
  list : ds = l.map fun D => { target := .collected D, args := #[] }
  once : l.Nodup
  mark : ∀ D ∈ l, W.heap[D]? = some (.deferred (some []))
  far : ∀ D ∈ l, ¬ C D ∧ n₀ ≤ D
section
variable {ds : List Deferred} {C C' K : Nat → Prop} {n₀ : Nat} {W W' : World} {l : List Nat}
theorem Marks.lt (h : Marks ds C n₀ W l) {D : Nat} (hD : D ∈ l) : D < W.heap.size := (Array.getElem?_eq_some_iff.1 (h.mark D hD)).1
theorem Marks.on (h : Marks ds C n₀ W l) (hk : Spared K W W') (hK : ∀ D ∈ l, K D) : Marks ds C n₀ W' l := ⟨h.list, h.once, fun D hD => (hk D (h.lt hD) (hK D hD)).trans (h.mark D hD), h.far⟩
theorem Marks.ne (h : Marks ds C n₀ W l) {g : Nat} {t : TypeId} {cs : Array Value} (hb : Blk W g t cs) : ∀ D ∈ l, D ≠ g := fun D hD e => by
  have h1 := h.mark D hD
  rw [e, show W.heap[g]? = _ from hb] at h1
  cases h1
theorem Marks.ne_row (h : Marks ds C n₀ W l) {base size n : Nat} {e : TypeId} {v : Value} {xs : List Value} (ho : W.ownsRow base e size v n xs) {g : Nat} (hg : v.ownBlock = some g) : ∀ D ∈ l, D ≠ g := fun D hD e => by
  have h1 := h.mark D hD
  rcases ho.2 with ⟨rfl, _⟩ | ⟨g', cap, cur, rfl, _, hgc, _⟩
  · cases hg
  · obtain rfl : g' = g := by simpa [Value.ownBlock] using hg
    rw [e, hgc] at h1
    cases h1
theorem Marks.other (h : Marks ds C n₀ W l) {S : Nat} (hS : ∀ D ∈ l, D < S) (hC : ∀ j, C' j → C j ∨ S ≤ j) : Marks ds C' n₀ W l :=
  ⟨h.list, h.once, h.mark, fun D hD => ⟨fun hc => by
    rcases hC D hc with g | g
    · exact (h.far D hD).1 g
    · have := hS D hD; omega, (h.far D hD).2⟩⟩
theorem Marks.cons (h : Marks ds C n₀ W l) {D : Nat} (hn : D ∉ l) (hD : W.heap[D]? = some (.deferred (some []))) (hC : ¬ C D) (h0 : n₀ ≤ D) : Marks ({ target := .collected D, args := #[] } :: ds) C n₀ W (D :: l) :=
  ⟨by rw [h.list]; rfl, List.nodup_cons.2 ⟨hn, h.once⟩, fun E hE => by
    rcases List.mem_cons.1 hE with rfl | hE
    · exact hD
    · exact h.mark E hE, fun E hE => by
    rcases List.mem_cons.1 hE with rfl | hE
    · exact ⟨hC, h0⟩
    · exact h.far E hE⟩
end
/-- A function leaves with so many marks. -/
theorem leaves_marks {n : Nat} {P : Program} {fn : Func} {tmps : Array Value} {R : Ending → World → Prop} {C : Nat → Prop} {n₀ : Nat} : ∀ (l : List Nat) (ds : List Deferred) (W : World), Marks ds C n₀ W l →
    (∀ W', KeptOn C W W' → LeavesIn Fence.wide n P fn tmps R [] .returning W') → LeavesInM Fence.wide n P fn tmps R ds .returning W
  | [], ds, W, h, hR => by
    rw [h.list]
    exact hR W (.refl _ _)
  | D :: l, ds, W, h, hR => by
    rw [h.list]
    refine ⟨by simp, .inl ⟨_, _, rfl, run_takeDeferred (h.mark D (List.mem_cons_self ..)), ?_⟩⟩
    have hD := (h.far D (List.mem_cons_self ..)).1
    have hk : KeptOn C W (W.putObj D (.deferred none)) := .putObj W hD _
    refine leaves_marks l (l.map fun D => { target := .collected D, args := #[] }) _ ⟨rfl, (List.nodup_cons.1 h.once).2, fun E hE => ?_, fun E hE => h.far E (List.mem_cons_of_mem _ hE)⟩ fun W' hk' => hR W' (hk.trans hk')
    have hne : E ≠ D := fun e => (List.nodup_cons.1 h.once).1 (e ▸ hE)
    exact (World.putObj_heap_other (by omega)).trans (h.mark E (List.mem_cons_of_mem _ hE))
end Go.Proofs.YtmjpjllbfgkfbaaDoor

/- A row that is filled in order: so many places are filled, the others are zero. No program. -/
namespace Go.Proofs.YtmjpjllbfgkfbaaDoor
open Go.RowKit
set_option linter.unusedVariables false
set_option linter.unusedSimpArgs false
set_option maxRecDepth 100000

/-- A row of which 'k' are filled. -/
def fillW (xs : List Value) (z : Value) (k : Nat) : Array Value := (xs.take k ++ List.replicate (xs.length - k) z).toArray
theorem fillW_zero (xs : List Value) (z : Value) (n : Nat) (h : xs.length = n) : fillW xs z 0 = madeCells #[z] n := by
  apply Array.ext'
  rw [toList_madeCells_one]
  simp [fillW, h]
theorem fillW_all (xs : List Value) (z : Value) (n : Nat) (h : xs.length = n) : fillW xs z n = xs.toArray := by
  unfold fillW
  rw [List.take_of_length_le (by omega), h, Nat.sub_self]
  simp
theorem fillW_old (xs : List Value) (z : Value) (k : Nat) (h : k < xs.length) : (fillW xs z k)[k]? = some z := by
  unfold fillW
  rw [List.getElem?_toArray, List.getElem?_append_right (by rw [List.length_take]; omega), List.getElem?_replicate, if_pos (by rw [List.length_take]; omega)]
theorem fillW_next (xs : List Value) (z : Value) (k : Nat) (v : Value) (h : xs[k]? = some v) : (fillW xs z k).setIfInBounds k v = fillW xs z (k + 1) := by
  have hk : k < xs.length := (List.getElem?_eq_some_iff.1 h).1
  unfold fillW
  rw [List.setIfInBounds_toArray]
  congr 1
  apply List.ext_getElem?
  intro i
  rw [List.getElem?_set]
  by_cases hi : k = i
  · subst hi
    rw [if_pos rfl, if_pos (by simp; omega), List.getElem?_append_left (by simp; omega), List.getElem?_take, if_pos (by omega), h]
  · rw [if_neg hi]
    by_cases h2 : i < k
    · rw [List.getElem?_append_left (by simp; omega), List.getElem?_append_left (by simp; omega), List.getElem?_take, List.getElem?_take, if_pos h2, if_pos (by omega)]
    · rw [List.getElem?_append_right (by simp; omega), List.getElem?_append_right (by simp; omega), List.getElem?_replicate, List.getElem?_replicate]
      simp only [List.length_take]
      by_cases h3 : i < xs.length
      · rw [if_pos (by omega), if_pos (by omega)]
      · rw [if_neg (by omega), if_neg (by omega)]
/-- A block that is just the row is the call's own. -/
theorem own_whole {w : World} {B h n : Nat} {t : TypeId} {xs : List Value} (hb : Blk w h t xs.toArray) (hB : B ≤ h) (hn : xs.length = n) (hm : n ≤ maxLen) :
    w.ownsRow B t 1 (.slice (some ⟨h, 0, none⟩) n n) n xs :=
  ⟨by omega, .inr ⟨h, n, xs.toArray, rfl, hB, hb, Nat.le_refl _, hm, by simp; omega, by simp; rw [List.take_of_length_le (by omega)]⟩⟩
end Go.Proofs.YtmjpjllbfgkfbaaDoor

/- Contracts of the library's slices.Backward over zone's steps: what it answers, and the rounds that its answer gives: from the last one to the first. -/
namespace Go.Proofs.YtmjpjllbfgkfbaaDoor
open Go.RowKit
set_option linter.unusedVariables false
set_option linter.unusedSimpArgs false
set_option maxRecDepth 100000
attribute [local go_sem] Oper.semAt_some wide_fn wide_depth

theorem leans_lt {a w : World} {j : Nat} (h : w.heap[j]? = a.heap[j]?) (hj : j < a.heap.size) : j < w.heap.size := by
  rw [Array.getElem?_eq_getElem hj] at h
  exact (Array.getElem?_eq_some_iff.1 h).1
theorem leans_cell {X : Nat → Prop} {a w : World} (h : ∀ k, X k → w.heap[k]? = a.heap[k]?) {p : Addr} (hp : X p.block) : w.cell? p = a.cell? p := World.cell?_of_block (h _ hp)

theorem backS_any (A : Option Addr) (n c : Nat) (w : World) : Calls Tryd.prog 29 #[.slice A n c] w fun e w' =>
    e = .returned (.func (.func 41) #[] #[.pointer (some ⟨w.heap.size, 0, none⟩)]) ∧ w' = w.alloc (.cells #[.slice A n c] 71) := by
  go_enter Tryd.func29, Tryd.ntmps29
  go_wp2_with fail
  go_ret
  exact ⟨rfl, rfl⟩
set_option maxHeartbeats 2000000 in
theorem backS_gives (q o n c b : Nat) (e0 e1 : Nat → Value) (w : World) (hb : w.cell? ⟨b, 0, none⟩ = some (.slice (some ⟨q, o, none⟩) n c)) (hbl : b < w.heap.size) (hq : q < w.heap.size) (hr : ∀ i, i < n → w.cell? ⟨q, o + i * 2, none⟩ = some (e0 i) ∧ w.cell? ⟨q, o + i * 2 + 1, none⟩ = some (e1 i)) (hn : n ≤ 17592186044416) :
    Gives2 Tryd.prog 41 #[.pointer (some ⟨b, 0, none⟩)] n (fun k => #[.int .i64 ((n - 1 - k : Nat) : Int), .agg #[e0 (n - 1 - k), e1 (n - 1 - k)]]) (fun j => j = q ∨ j = b) w := by
  intro lp J C₀ W hW hJ hJt hR h0
  have hb1 : W.cell? ⟨b, 0, none⟩ = some (.slice (some ⟨q, o, none⟩) n c) := (hW.cell (p := ⟨b, 0, none⟩) hbl).trans hb
  have hr1 : ∀ (V : World), (∀ j, j = q ∨ j = b → V.heap[j]? = W.heap[j]?) → ∀ i, i < n → V.cell? ⟨q, o + i * 2, none⟩ = some (e0 i) ∧ V.cell? ⟨q, o + i * 2 + 1, none⟩ = some (e1 i) := fun V hV i hi => by
    have hc := hr i hi
    have hk : ∀ x, V.cell? ⟨q, x, none⟩ = w.cell? ⟨q, x, none⟩ := fun x => (leans_cell hV (p := ⟨q, x, none⟩) (.inl rfl)).trans (hW.cell (p := ⟨q, x, none⟩) (by show q < w.heap.size; omega))
    simpa only [hk] using hc
  have HR1 := Lib.hid hr1
  have HS := Lib.hid fun (j : Nat) (hj : j = q ∨ j = b) => (show j < W.heap.size by have := hW.size; omega)
  clear hb hr hW hr1
  refine (callsIn_wide (n := 1)).1 ?_
  refine callsIn_of_wp Tryd.func41 rfl trivial ?_ rfl
  simp only [Tryd.ntmps41, List.size_toArray, List.length_cons, List.length_nil, Nat.reduceAdd, Nat.reduceSub, Array.replicate_succ, Array.replicate_zero, List.push_toArray, List.append_toArray, List.nil_append, List.cons_append]
  gi_wp2
  gi_loopw [3] (fun i wr => ∃ (k : Nat) (C : Nat → Prop), k ≤ n ∧ i = .int .i64 ((n : Int) - 1 - (k : Int)) ∧ J k C wr ∧ ∀ j, j = q ∨ j = b → wr.heap[j]? = W.heap[j]?) (fun i _ => (intOf i + 1).toNat)
  case atStart => exact ⟨0, C₀, Nat.zero_le _, by simp, h0, fun _ _ => rfl⟩
  case round =>
    obtain ⟨k, C, hk, rfl, hJk, hX⟩ := hrel
    have hbx : wr.cell? ⟨b, 0, none⟩ = some (.slice (some ⟨q, o, none⟩) n c) := (leans_cell hX (p := ⟨b, 0, none⟩) (.inr rfl)).trans hb1
    by_cases hkn : k < n
    · have hc := HR1.out wr hX (n - 1 - k) (by omega)
      obtain ⟨fn, tmps, asg, bd, hy, hR1⟩ := hR k C wr hkn hJk
      obtain ⟨m, hm⟩ : ∃ m, n - 1 - k = m := ⟨_, rfl⟩
      simp only [hm] at hc hy
      have hmi : (n : Int) - 1 - (k : Int) = (m : Int) := by omega
      rw [hmi]
      have hmn : m < n := by omega
      have HM := Lib.hid hm; have HMI := Lib.hid hmi
      have hw1 : IntKind.i64.wrap ((m : Int) - 1) = (m : Int) - 1 := IntWalk.i64_in _ (by omega)
      obtain ⟨x0, x1⟩ := hc
      clear hm hmi
      gi_wp2
      refine hR1.mono ?_
      rintro e W3 ⟨rfl, ⟨C', hC', _⟩, _, hb3⟩
      have hX3 : ∀ j, j = q ∨ j = b → W3.heap[j]? = W.heap[j]? := fun j hj => (hb3 j (leans_lt (hX j hj) (HS.out j hj)) (.inl hj)).trans (hX j hj)
      gi_wp2
      go_roundw
      case rel => exact ⟨k + 1, C', by omega, by have := HMI.out; congr 1; omega, hC', hX3⟩
      case measure => first | (simp [intOf]; done) | (simp [intOf]; omega)
    · obtain rfl : k = n := by omega
      gi_wp2
      go_end0
      exact ⟨⟨_, rfl⟩, _, hJk⟩

end Go.Proofs.YtmjpjllbfgkfbaaDoor

/- A range over a function whose variable is a block of its own, new in each round (else as Round2). No program, no condition. -/
namespace Go.Proofs.YtmjpjllbfgkfbaaDoor
open Go.RowKit
set_option linter.unusedVariables false
set_option linter.unusedSimpArgs false
set_option maxRecDepth 100000

variable {P : Program}
theorem round_gives3 {a : Act} {a₁ : Nat → Act} {o : Obj} {ps : Array Tmp} {assign body : Code} {fn : FuncId} {D : Nat} {el : Array Value} {X : Nat → Prop} {I I' : (Nat → Prop) → World → Prop} {C : Nat → Prop} {W : World}
    (hps : el.size = ps.size) (hI : ∀ C A B, I C A → KeptOn C A B → I C B) (hI' : ∀ C A B, I' C A → KeptOn C A B → I' C B) (hX : ∀ k, X k → k < D) (hC : ¬ C D ∧ ¬ C (D + 1)) (u : Under D (recOf fn a ps assign body D .ready) W) (hi : I C W)
    (hassign : ∀ (K : Act → World → Prop), K (a₁ W.heap.size) (W.alloc o) → assign.wpIn (Fence.wide.inRound (D + 1)) 0 P (Exit.then K (fun _ _ _ => False)) { tmps := (ps.zip el).foldl (fun t (p, v) => t.setIfInBounds p v) a.tmps, defers := [] } W)
    (hbody : ∀ W2, D + 2 ≤ W.heap.size → W.heap.size < W2.heap.size → W2.heap[W.heap.size]? = some o → I C W2 → body.wpIn (Fence.wide.inRound (D + 1)) 0 P (fun e _ W' => e = .normal ∧ After X I' C W2 W') (a₁ W.heap.size) W2) :
    YieldAt Fence.wide 0 P (D + 1) el W fun e W' => e = .returned (.bool true) ∧ (∃ C', I' C' W' ∧ (∀ j, C' j → C j ∨ W.heap.size ≤ j)) ∧ Under D (recOf fn a ps assign body D .ready) W' ∧ W.heap.size ≤ W'.heap.size ∧ ∀ i, i < W.heap.size → X i ∨ (¬ C i ∧ i ≠ D + 1) → W'.heap[i]? = W.heap[i]? := by
  have ul := u.lt
  have hgo := run_yield (P := P) (args := el) u.record hps
  have hs1 : (W.alloc o).heap.size = W.heap.size + 1 := World.size_alloc ..
  have hold : ∀ i, i < W.heap.size → (W.alloc o).heap[i]? = W.heap[i]? := fun i hi => Below.heap_alloc W o i hi
  have u1 : Under D (recOf fn a ps assign body D .ready) (W.alloc o) := ⟨(hold D (by omega)).trans u.mark, (hold (D + 1) ul).trans u.record⟩
  have hi1 : I C (W.alloc o) := hI _ _ _ hi (KeptOn.alloc W o)
  have ub := u1.turn (recOf fn a ps assign body D .busy)
  have hsz : ((W.alloc o).putObj (D + 1) (.loop (recOf fn a ps assign body D .busy))).heap.size = W.heap.size + 1 := by rw [World.putObj_size, hs1]
  refine ⟨fn, _, assign, body, hgo, roundIn_of_wpIn trivial (hassign _ ⟨_, run_beginRound u1.record rfl, ?_⟩)⟩
  refine wpIn_mono (hbody _ (by omega) (by show W.heap.size < ((W.alloc o).putObj (D + 1) (.loop (recOf fn a ps assign body D .busy))).heap.size; rw [hsz]; omega) ?_ (hI _ _ _ hi1 (.putObj (W.alloc o) hC.2 _))) ?_
  · exact (World.putObj_heap_other (by omega)).trans (heap_alloc_new W o)
  rintro e a' V ⟨rfl, ⟨C', hv, hC'⟩, hs, hb⟩
  change ((W.alloc o).putObj (D + 1) (.loop (recOf fn a ps assign body D .busy))).heap.size ≤ V.heap.size at hs
  rw [hsz] at hs
  have hb' : ∀ i, i < W.heap.size + 1 → X i ∨ ¬ C i → V.heap[i]? = ((W.alloc o).putObj (D + 1) (.loop (recOf fn a ps assign body D .busy))).heap[i]? := fun i hi h => hb i (by show i < ((W.alloc o).putObj (D + 1) (.loop (recOf fn a ps assign body D .busy))).heap.size; rw [hsz]; exact hi) h
  have uv : Under D (recOf fn a ps assign body D .busy) V := ⟨(hb' D (by omega) (.inr hC.1)).trans ub.mark, (hb' (D + 1) (by omega) (.inr hC.2)).trans ub.record⟩
  have hC2 : ∀ j, C' j → C j ∨ W.heap.size ≤ j := fun j hj => by
    rcases hC' j hj with h | h
    · exact .inl h
    · right
      change ((W.alloc o).putObj (D + 1) (.loop (recOf fn a ps assign body D .busy))).heap.size ≤ j at h
      rw [hsz] at h
      omega
  have hCD : ¬ C' (D + 1) := fun h => by
    rcases hC2 _ h with h | h
    · exact hC.2 h
    · omega
  refine ⟨.bool true, V.putObj (D + 1) (.loop (recOf fn a ps assign body D .ready)), run_endRound (P := P) none uv.record, rfl, ⟨C', hI' _ _ _ hv (.putObj V hCD _), hC2⟩, uv.turn _, by rw [World.putObj_size]; omega, fun i hi hx => ?_⟩
  have hne : i ≠ D + 1 := by
    rcases hx with h | h
    · have := hX i h; omega
    · exact h.2
  rw [World.putObj_heap_other (by omega), hb' i (by omega) (hx.imp id (·.1)), World.putObj_heap_other (by omega), hold i hi]

theorem range_gives3 {nd : Nat} {g : Operand} {ps : Array Tmp} {assign body : Code} {Q : Exit → Act → World → Prop} {a : Act} {w : World} {gf : Nat} {lb : Array Value}
    (hg : a.eval g = .func (.func gf) #[] lb) (eg : ∀ args w, (callFunc gf args).run P w = .ok (.enter gf args) w)
    {N : Nat} {el : Nat → Array Value} {X : Nat → Prop} (hseq : Gives2 P gf lb N el X w)
    (hX : ∀ k, X k → k < w.heap.size) (hps : ∀ k, (el k).size = ps.size)
    (I : Nat → (Nat → Prop) → World → Prop) (a₁ : Nat → Nat → Act) (o : Nat → Obj) (C₀ : Nat → Prop) (h0 : I 0 C₀ w)
    (hI : Abide2 I) (hIt : There I) (hIC : ∀ k C W, I k C W → ¬ C w.heap.size ∧ ¬ C (w.heap.size + 1))
    (hassign : ∀ (l k : Nat) (W : World) (K : Act → World → Prop), K (a₁ k W.heap.size) (W.alloc (o k)) →
      assign.wpIn (Fence.wide.inRound l) 0 P (Exit.then K (fun _ _ _ => False)) { tmps := (ps.zip (el k)).foldl (fun t (p, v) => t.setIfInBounds p v) a.tmps, defers := [] } W)
    (hbody : ∀ (l k : Nat) (C : Nat → Prop) (W : World) (b : Nat), k < N → w.heap.size + 2 ≤ b → b < W.heap.size → W.heap[b]? = some (o k) → ¬ C b → I k C W → body.wpIn (Fence.wide.inRound l) 0 P (fun e _ W' => e = .normal ∧ After X (I (k + 1)) C W W') (a₁ k b) W)
    (hdone : ∀ (D : Nat) (C : Nat → Prop) (W : World), D = w.heap.size → I N C W → W.heap[D]? = some (.deferred (some [])) → Q .normal { a with defers := { target := .collected D, args := #[] } :: a.defers } W) :
    (Code.rangeFunc g ps assign body).wpIn Fence.wide nd P Q a w := by
  refine wpIn_rangeFunc fun fn _ => ?_
  have u0 := under_new w (recOf fn a ps assign body w.heap.size .ready)
  have b0 : Below w.heap.size w ((w.alloc (.deferred (some []))).alloc (.loop (recOf fn a ps assign body w.heap.size .ready))) := ((Below.refl _ w).alloc (Nat.le_refl _) _).alloc (by simp) _
  have i0 := hI _ _ _ _ h0 ((KeptOn.alloc w (.deferred (some []))).trans (KeptOn.alloc _ (.loop (recOf fn a ps assign body w.heap.size .ready))))
  have hen := run_enterLoop_outer (P := P) (w := w) fn a.tmps ps assign body
  change _ = Result.ok _ ((w.alloc (.deferred (some []))).alloc (.loop (recOf fn a ps assign body w.heap.size .ready))) at hen
  generalize (w.alloc (.deferred (some []))).alloc (.loop (recOf fn a ps assign body w.heap.size .ready)) = W1 at u0 b0 i0 hen
  have hcall := hseq (w.heap.size + 1) (fun k C W => ∃ C₁, C = (fun j => C₁ j ∨ j = w.heap.size ∨ j = w.heap.size + 1) ∧ I k C₁ W ∧ Under w.heap.size (recOf fn a ps assign body w.heap.size .ready) W) _ _ b0
    (by
      rintro k C A B ⟨C₁, rfl, hi, u⟩ hk
      have ul := u.lt
      exact ⟨C₁, rfl, hI k C₁ A B hi (hk.mono fun j _ h => .inl h), ⟨(hk.block _ (by omega) (.inr (.inl rfl))).trans u.mark, (hk.block _ ul (.inr (.inr rfl))).trans u.record⟩⟩)
    (by
      rintro k C A ⟨C₁, rfl, hi, u⟩ j hj
      have ul := u.lt
      rcases hj with h | h | h
      · exact hIt k C₁ A hi j h
      · omega
      · omega)
    (by
      rintro k C W hk ⟨C₁, rfl, hi, u⟩
      obtain ⟨fn', tmps, asg, bd, hy, hR⟩ := round_gives3 (a₁ := a₁ k) (o := o k) (hps k) (hI k) (hI (k + 1)) hX (hIC k C₁ W hi) u hi (hassign _ k W) (fun W2 hs hlt hb hi2 => hbody _ k C₁ W2 _ hk hs hlt hb (fun hc => by have := hIt k C₁ W hi _ hc; omega) hi2)
      refine ⟨fn', tmps, asg, bd, hy, hR.mono ?_⟩
      rintro e W' ⟨he, ⟨C', h1, h2⟩, hu, hs, hb⟩
      refine ⟨he, ⟨⟨_, ⟨C', rfl, h1, hu⟩, fun j hj => ?_⟩, hs, fun i hi2 hx => ?_⟩⟩
      · rcases hj with h | h
        · rcases h2 j h with h | h
          · exact .inl (.inl h)
          · exact .inr h
        · exact .inl (.inr h)
      · exact hb i hi2 (hx.imp id fun h => ⟨fun hc => h (.inl hc), fun e => h (.inr (.inr e))⟩))
    ⟨C₀, rfl, i0, u0⟩
  refine ⟨_, _, _, { target := .fn (.func gf) lb, args := #[.func (.yield (w.heap.size + 1)) #[] #[]] }, W1, gf, _, _, hen, ?_, fun _ _ => trivial, ?_, fun h => (by cases h), callsIn_wide.2 (hcall.mono ?_)⟩
  · simp only [resolve, hg]; simp [go_sem]
  · simp [invoke, go_sem, eg]
  · rintro e W2 ⟨⟨v, rfl⟩, C', C₁, rfl, hi, u⟩
    refine ⟨none, _, run_endLoop (P := P) u.record (by intro h; cases h), hdone _ C₁ _ rfl (hI _ _ _ _ hi (.putObj W2 (hIC _ _ _ hi).2 _)) (u.turn _).mark⟩
end Go.Proofs.YtmjpjllbfgkfbaaDoor

/- Values, schemas and rows as plain bytes; what is wrong with a schema, with a row. No condition. -/
namespace Go.Proofs.YtmjpjllbfgkfbaaDoor
open Go.RowKit
set_option linter.unusedVariables false
set_option linter.unusedSimpArgs false
set_option maxRecDepth 100000

/-- A column: its kind, whether it may have nothing, its way. -/
abbrev Cl := Int × Bool × Int
/-- What is wrong with a schema: an error's number. -/
def scE (s : List Cl) : Int := if s.length = 0 ∨ 64 < s.length then 12 else if ∃ c ∈ s, c.1 ≠ 1 ∧ c.1 ≠ 2 then 11 else if ∃ c ∈ s, c.2.2 ≠ -1 ∧ ofW c.2.2 c.1 = false then 1 else 0
/-- What is wrong with a value of a column; with a row. -/
def colE (c : Cl) (v : Vl) : Int := if rgt c.1 v = false ∨ v.1 = 0 ∧ c.2.1 = false then 11 else if 65536 < v.2.2.length then 12 else 0
def colsE : List Cl → List Vl → Int
  | c :: s, v :: r => if colE c v ≠ 0 then colE c v else colsE s r
  | _, _ => 0
def rwE (s : List Cl) (row : List Vl) : Int := if row.length ≠ s.length then 1 else colsE s row
/-- The forms. -/
def vB (v : Vl) : List Nat := (v.1 % 256).toNat :: (if v.1 = 1 then vb (zg v.2.1) else if v.1 = 2 then blbT v.2.2 else [])
def cB (c : Cl) : List Nat := [(c.1 % 256).toNat, if c.2.1 = true then 1 else 0, ((c.2.2 + 1) % 256).toNat]
def scB (s : List Cl) : List Nat := s.length % 256 :: s.flatMap cB
def rowB (r : List Vl) : List Nat := r.flatMap vB
def rwB (rows : List (List Vl)) : List Nat := vb rows.length ++ rows.flatMap rowB
theorem rowB_cons (v : Vl) (r : List Vl) : rowB (v :: r) = vB v ++ rowB r := by simp [rowB]
theorem rowB_append (a b : List Vl) : rowB (a ++ b) = rowB a ++ rowB b := by simp [rowB]
end Go.Proofs.YtmjpjllbfgkfbaaDoor

/- A schema's columns in memory; a list of them that came in, opened. -/
namespace Go.Proofs.YtmjpjllbfgkfbaaDoor
open Go.ChangeShapes Go.WideShapes Go.RowKit
set_option linter.unusedVariables false
set_option linter.unusedSimpArgs false
set_option maxRecDepth 100000

/-- A column's cells. -/
def cc (c : Int × Bool × Int) : List Value := [.int .i64 c.1, .bool c.2.1, .int .i64 c.2.2]
/-- Columns as cells. -/
def cls (l : List (Int × Bool × Int)) : List Value := l.flatMap cc
theorem cls_nil : cls [] = [] := rfl
theorem cls_append (a b : List (Int × Bool × Int)) : cls (a ++ b) = cls a ++ cls b := by simp [cls]
theorem cls_one (c : Int × Bool × Int) : cls [c] = cc c := by simp [cls]
theorem cls_cons (c : Int × Bool × Int) (l : List (Int × Bool × Int)) : cls (c :: l) = cc c ++ cls l := by simp [cls]
theorem cls_length : ∀ l : List (Int × Bool × Int), (cls l).length = l.length * 3
  | [] => rfl
  | c :: l => by rw [cls_cons, List.length_append, cls_length l]; simp [cc]; omega
theorem cc_cell (c : Int × Bool × Int) : ∀ u ∈ cc c, u.oneCell' = true := by
  intro u hu
  simp [cc] at hu
  rcases hu with rfl | rfl | rfl <;> rfl
theorem cls_at : ∀ {l : List (Int × Bool × Int)} {k : Nat} {c : Int × Bool × Int}, l[k]? = some c → (cls l)[k * 3]? = some (.int .i64 c.1) ∧ (cls l)[k * 3 + 1]? = some (.bool c.2.1) ∧ (cls l)[k * 3 + 2]? = some (.int .i64 c.2.2)
  | [], k, c, h => by simp at h
  | x :: l, 0, c, h => by
    simp at h
    subst h
    rw [cls_cons]
    exact ⟨rfl, rfl, rfl⟩
  | x :: l, k + 1, c, h => by
    simp at h
    obtain ⟨h1, h2, h3⟩ := cls_at h
    have e : ∀ j, (cc x ++ cls l)[3 + j]? = (cls l)[j]? := fun j => by
      rw [List.getElem?_append_right (by simp [cc])]
      congr 1
      simp [cc]
    rw [cls_cons, show (k + 1) * 3 = 3 + k * 3 by omega, show 3 + k * 3 + 1 = 3 + (k * 3 + 1) by omega, show 3 + k * 3 + 2 = 3 + (k * 3 + 2) by omega, e, e, e]
    exact ⟨h1, h2, h3⟩
theorem Reads.col {w : World} {B n : Nat} {A : Option Addr} {l : List (Int × Bool × Int)} (h : Reads w B 3 A n (cls l)) {k : Nat} {c : Int × Bool × Int} (hv : l[k]? = some c) :
    ∃ b o, A = some ⟨b, o, none⟩ ∧ b < B ∧ w.cell? ⟨b, o + k * 3, none⟩ = some (.int .i64 c.1) ∧ w.cell? ⟨b, o + k * 3 + 1, none⟩ = some (.bool c.2.1) ∧ w.cell? ⟨b, o + k * 3 + 2, none⟩ = some (.int .i64 c.2.2) := by
  have hk : k < l.length := (List.getElem?_eq_some_iff.1 hv).1
  have hn : 0 < n := by have := h.1; rw [cls_length] at this; omega
  obtain ⟨⟨b, o, sp⟩, rfl, hb, hc⟩ := h.2 hn
  obtain ⟨h1, h2, h3⟩ := cls_at hv
  have c1 := hc _ _ h1
  have c2 := hc _ _ h2
  have c3 := hc _ _ h3
  have hl : 0 < (cls l).length := by rw [cls_length]; omega
  obtain rfl : sp = none := by simpa [Addr.add] using World.cell?_spot (hc 0 _ (List.getElem?_eq_getElem hl))
  rw [plain_add] at c1 c2 c3
  exact ⟨b, o, rfl, hb, c1, by rw [← c2, Nat.add_assoc], by rw [← c3, Nat.add_assoc]⟩
/-- What the walk is told of a schema that came in. -/
def IsCols (w : World) (a : Option Addr) (len cap : Nat) (l : List (Int × Bool × Int)) : Prop :=
  l.length = len ∧ len ≤ cap ∧ cap ≤ maxLen ∧ Reads w w.heap.size 3 a len (cls l) ∧ ∀ c ∈ l, In64 c.1 ∧ In64 c.2.2
theorem cols_of {H : Type} {enc : TypeId × Value → H} {W : World} {a : Option Addr} {len cap : Nat} {d : DataW H} {p : List MemPlace} (h : DataW.Trod enc Tryd.prog W 0 (fun _ => true) true 22 (.slice a len cap) d p) :
    ∃ l, IsCols W a len cap l := by
  obtain ⟨fuel, hf⟩ := h
  rcases open_slice_fields Tryd.underlying22 Tryd.underlying43 (by kernel_rfl) (by kernel_rfl) hf with ⟨hcs, _⟩ | ⟨x, l, c, mm, D, Pl, hcs, _, hl, hcm, hmm, _, hi⟩
  · simp [Value.cells] at hcs
    obtain ⟨rfl, rfl, rfl⟩ := hcs
    exact ⟨[], rfl, Nat.le_refl _, Nat.zero_le _, Reads.none_, by simp⟩
  · simp [Value.cells] at hcs
    obtain ⟨rfl, rfl, rfl⟩ := hcs
    have hall : ∀ j, ∃ y : Int × Bool × Int, j < len → (In64 y.1 ∧ In64 y.2.2) ∧ ∀ i v, (cc y)[i]? = some v → W.cell? (x.add (j * 3 + i)) = some v := by
      intro j
      by_cases hj : j < len
      · obtain ⟨ys, nn, _, _, _, hfld⟩ := hi j (by rw [hmm]; simp; omega)
        obtain ⟨v0, y0, c0, _, t0⟩ := hfld 0 _ rfl
        obtain ⟨v1, y1, c1, _, t1⟩ := hfld 1 _ rfl
        obtain ⟨v2, y2, c2, _, t2⟩ := hfld 2 _ rfl
        obtain ⟨k, e0, _, wk⟩ := DataW.trod_int Tryd.underlying3 t0
        obtain ⟨bb, e1, _⟩ := DataW.trod_bool Tryd.underlying4 t1
        obtain ⟨s, e2, _, ws⟩ := DataW.trod_int Tryd.underlying3 t2
        injection e0 with e0
        injection e1 with e1
        injection e2 with e2
        subst e0 e1 e2
        have hk : In64 k := by have := i64_of wk; unfold In64; omega
        have hs : In64 s := by have := i64_of ws; unfold In64; omega
        refine ⟨⟨k, bb, s⟩, fun _ => ⟨⟨hk, hs⟩, fun i v hv => ?_⟩⟩
        unfold cc at hv
        rcases i with _ | _ | _ | i
        all_goals simp at hv
        all_goals subst hv
        · exact c0
        · exact c1
        · exact c2
      · exact ⟨(0, false, 0), fun h => absurd h hj⟩
    obtain ⟨f, hfn⟩ := Classical.axiomOfChoice hall
    have hget : ∀ j y, ((List.range len).map f)[j]? = some y → j < len ∧ y = f j := by
      intro j y hy
      have hj : j < len := by
        have := (List.getElem?_eq_some_iff.1 hy).1
        simpa using this
      rw [List.getElem?_map, List.getElem?_range hj] at hy
      injection hy with hy
      exact ⟨hj, hy.symm⟩
    refine ⟨(List.range len).map f, by simp, hl, hcm, ⟨by rw [cls_length]; simp, fun hn => ?_⟩, fun v hv => ?_⟩
    · refine ⟨x, rfl, ?_, fun j u hu => ?_⟩
      · have := World.block_lt_of_cell? W _ ((hfn 0 hn).2 0 _ rfl)
        rwa [block_of_add] at this
      · have hj : j < len * 3 := by
          have := (List.getElem?_eq_some_iff.1 hu).1
          rw [cls_length] at this
          simpa using this
        have hy : ((List.range len).map f)[j / 3]? = some (f (j / 3)) := by rw [List.getElem?_map, List.getElem?_range (by omega)]; rfl
        obtain ⟨h1, h2, h3⟩ := cls_at hy
        have hc := (hfn (j / 3) (by omega)).2
        obtain ⟨q, hq⟩ : ∃ q, j / 3 = q := ⟨_, rfl⟩
        rw [hq] at h1 h2 h3 hc
        have hr : j = q * 3 ∨ j = q * 3 + 1 ∨ j = q * 3 + 2 := by omega
        rcases hr with rfl | rfl | rfl
        · rw [h1] at hu; exact hc 0 _ (by rw [← hu]; rfl)
        · rw [h2] at hu; exact hc 1 _ (by rw [← hu]; rfl)
        · rw [h3] at hu; exact hc 2 _ (by rw [← hu]; rfl)
    · obtain ⟨j, hj, rfl⟩ := List.mem_map.1 hv
      exact (hfn j (List.mem_range.1 hj)).1
end Go.Proofs.YtmjpjllbfgkfbaaDoor

/- What is wrong with a row, column by column, on plain data. No program; no condition. -/
namespace Go.Proofs.YtmjpjllbfgkfbaaDoor
open Go.RowKit
set_option linter.unusedVariables false
set_option linter.unusedSimpArgs false
set_option maxRecDepth 100000

theorem drop_at {α : Type} {l : List α} {k : Nat} {x : α} (h : l[k]? = some x) : l.drop k = x :: l.drop (k + 1) := by
  have hk : k < l.length := (List.getElem?_eq_some_iff.1 h).1
  rw [List.drop_eq_getElem_cons hk, (List.getElem?_eq_some_iff.1 h).2]
theorem colsE_step {s : List Cl} {r : List Vl} {k : Nat} {c : Cl} {v : Vl} (hc : s[k]? = some c) (hv : r[k]? = some v) : colsE (s.drop k) (r.drop k) = if colE c v ≠ 0 then colE c v else colsE (s.drop (k + 1)) (r.drop (k + 1)) := by
  rw [drop_at hc, drop_at hv, colsE]
theorem colE_11 {c : Cl} {v : Vl} (h : rgt c.1 v = false ∨ v.1 = 0 ∧ c.2.1 = false) : colE c v = 11 := by unfold colE; rw [if_pos h]
theorem colE_12 {c : Cl} {v : Vl} (h : ¬ (rgt c.1 v = false ∨ v.1 = 0 ∧ c.2.1 = false)) (h2 : 65536 < v.2.2.length) : colE c v = 12 := by unfold colE; rw [if_neg h, if_pos h2]
theorem colE_0 {c : Cl} {v : Vl} (h : ¬ (rgt c.1 v = false ∨ v.1 = 0 ∧ c.2.1 = false)) (h2 : ¬ 65536 < v.2.2.length) : colE c v = 0 := by unfold colE; rw [if_neg h, if_neg h2]
end Go.Proofs.YtmjpjllbfgkfbaaDoor

/- Slices of a row of values, run. No condition. -/
namespace Go.Proofs.YtmjpjllbfgkfbaaDoor
open Go.RowKit
set_option linter.unusedVariables false
set_option linter.unusedSimpArgs false
set_option maxRecDepth 100000

/-- Slices of a row of values, run. -/
theorem elem_val' : Tryd.prog.elem 23 = 37 := by kernel_rfl
theorem info_val' : (Tryd.prog.info? 37).map (fun i => i.size) = some 3 := by kernel_rfl
theorem sizeOf_val' (W : World) : (sizeOf 37).run Tryd.prog W = .ok 3 W := by
  have h := info_val'
  cases hi : Tryd.prog.info? 37 with
  | none => rw [hi] at h; cases h
  | some i =>
    rw [hi] at h
    injection h with h
    simp [sizeOf, typeInfo, hi, h]
theorem slice_front_val (A : Option Addr) (n c p : Nat) (hp : p ≤ c) (W : World) : (Instr.sliceAt 23 (.slice A n c) none (some (.int .i64 (p : Int))) none).run Tryd.prog W = .ok (.slice A p c) W := by
  rw [run_sliceAt_slice W 23 _ _ _ _ (by rw [elem_val']; exact Tryd.underlying23), run_slice_h W 23 A n c (by rw [elem_val']; exact Tryd.underlying23) .i64 (p : Int) (by omega) (by omega), elem_val', sizeOf_val']
  have h : A.map (·.add 0) = A := by cases A <;> simp [Addr.add]
  simp [Result.andThen, sliced, h]
theorem slice_mid_val (b o n c k : Nat) (hp : k < c) (W : World) : (Instr.sliceAt 23 (.slice (some ⟨b, o, none⟩) n c) (some (.int .i64 (k : Int))) (some (.int .i64 ((k : Int) + 1))) none).run Tryd.prog W = .ok (.slice (some ⟨b, o + k * 3, none⟩) 1 (c - k)) W := by
  rw [run_sliceAt_slice W 23 _ _ _ _ (by rw [elem_val']; exact Tryd.underlying23), run_slice_lh W 23 (some ⟨b, o, none⟩) n c (by rw [elem_val']; exact Tryd.underlying23) .i64 .i64 (k : Int) ((k : Int) + 1) (by omega) (by omega) (by omega), elem_val', sizeOf_val']
  have e : ((k : Int) + 1).toNat - (k : Int).toNat = 1 := by omega
  simp [Result.andThen, sliced, e, Addr.add, show c ≠ k by omega]
end Go.Proofs.YtmjpjllbfgkfbaaDoor

/- The statement PredIn's predicates in memory: leaves, nodes, the parts of 'or'. No condition. -/
namespace Go.Proofs.YtmjpjllbfgkfbaaDoor
open Go.RowKit
set_option linter.unusedVariables false
set_option linter.unusedSimpArgs false
set_option maxRecDepth 100000

/-- The parts of 'or', one for each of the first so many values. -/
def usF (b o c1 : Nat) (cl : Int) (k : Nat) : List (List Value) := (List.range k).map fun i => [.int .i64 1, .int .i64 cl, .slice (some ⟨b, o + i * 3, none⟩) 1 (c1 - i), .slice none 0 0]
section
variable {w : World} {b o c1 m n : Nat} {cl op : Int} {vals : List Vl}
theorem usF_length (k : Nat) : (usF b o c1 cl k).length = k := by simp [usF]
theorem usF_flat (k : Nat) : (usF b o c1 cl (k + 1)).flatten = (usF b o c1 cl k).flatten ++ [.int .i64 1, .int .i64 cl, .slice (some ⟨b, o + k * 3, none⟩) 1 (c1 - k), .slice none 0 0] := by
  simp [usF, List.range_succ]
theorem usF_zero : (usF b o c1 cl 0).flatten = [] := rfl
theorem one_reads {B : Nat} (h : Reads w B 3 (some ⟨b, o, none⟩) m (vs vals)) {i : Nat} {v : Vl} (hv : vals[i]? = some v) : Reads w B 3 (some ⟨b, o + i * 3, none⟩) 1 (vs [v]) := by
  obtain ⟨b', o', e, hb, x0, x1, x2⟩ := h.val hv
  injection e with e
  injection e with e1 e2
  subst e1 e2
  refine ⟨by rw [vs_length]; rfl, fun _ => ⟨_, rfl, hb, fun j u hu => ?_⟩⟩
  rw [plain_add]
  rw [vs_one] at hu
  have hj : j < 3 := by
    have := (List.getElem?_eq_some_iff.1 hu).1
    simpa [vc] using this
  rcases j with _ | _ | _ | j
  · simp [vc] at hu; subst hu; exact x0
  · simp [vc] at hu; subst hu; exact x1
  · simp [vc] at hu; subst hu; exact x2
  · omega
theorem isP_leaf {A : Option Addr} {c : Nat} (h : Reads w w.heap.size 3 A n (vs vals)) (hn : vals.length = n) (hc : n ≤ c) : IsP 1 w (fun _ => False) [.int .i64 op, .int .i64 cl, .slice A n c, .slice none 0 0] (.mk op cl vals []) := by
  subst hn
  exact ⟨A, c, none, 0, rfl, h, ⟨fun _ _ _ h => h, hc⟩, fun _ _ _ h => h, [], rfl, Reads.none_, fun k q h => by simp [Pd.parts] at h⟩
theorem isP_node {A : Option Addr} {c : Nat} {us : List (List Value)} {parts : List Pd} (h : Reads w w.heap.size 4 A n us.flatten) (hn : parts.length = n) (ha : AllP 1 w (fun _ => False) us parts) : IsP 2 w (fun _ => False) [.int .i64 op, .int .i64 cl, .slice none 0 0, .slice A n c] (.mk op cl [] parts) := by
  subst hn
  exact ⟨none, 0, A, c, rfl, Reads.none_, ⟨fun _ _ _ h => h, Nat.le_refl _⟩, fun _ _ _ h => h, us, ha.1, h, ha.2⟩
theorem usF_all (h : Reads w w.heap.size 3 (some ⟨b, o, none⟩) m (vs vals)) (hl : vals.length = m) (hc1 : m ≤ c1) : AllP 1 w (fun _ => False) (usF b o c1 cl m) (vals.map fun v => .mk 1 cl [v] []) := by
  refine ⟨by simp [usF, hl], fun k q hk => ?_⟩
  rw [List.getElem?_map] at hk
  cases hv : vals[k]? with
  | none => rw [hv] at hk; cases hk
  | some v =>
    rw [hv] at hk
    injection hk with hk
    subst hk
    have hkm : k < m := by have := (List.getElem?_eq_some_iff.1 hv).1; omega
    refine ⟨_, by rw [usF, List.getElem?_map, List.getElem?_range hkm]; rfl, isP_leaf (one_reads h hv) rfl (by show 1 ≤ c1 - k; omega)⟩
theorem two_all {c2 : Nat} {u v : Vl} (hc1 : 1 ≤ c1) (hc2 : 1 ≤ c2) (hu : Reads w w.heap.size 3 (some ⟨b, o, none⟩) 1 (vs [u])) (hv : Reads w w.heap.size 3 (some ⟨b, o + 3, none⟩) 1 (vs [v])) :
    AllP 1 w (fun _ => False) [[.int .i64 6, .int .i64 cl, .slice (some ⟨b, o, none⟩) 1 c1, .slice none 0 0], [.int .i64 4, .int .i64 cl, .slice (some ⟨b, o + 3, none⟩) 1 c2, .slice none 0 0]] [.mk 6 cl [u] [], .mk 4 cl [v] []] := by
  refine ⟨rfl, fun k q hk => ?_⟩
  rcases k with _ | _ | k
  · simp at hk; subst hk; exact ⟨_, rfl, isP_leaf hu rfl hc1⟩
  · simp at hk; subst hk; exact ⟨_, rfl, isP_leaf hv rfl hc2⟩
  · simp at hk
theorem small_leaf (hn : vals.length ≤ 65536) : Small 1 (.mk op cl vals []) := ⟨hn, by simp [Pd.parts], fun q hq => by simp [Pd.parts] at hq⟩
theorem small_node {parts : List Pd} (hn : parts.length ≤ 65536) (h : ∀ q ∈ parts, Small 1 q) : Small 2 (.mk op cl [] parts) := ⟨by simp [Pd.vals], hn, h⟩
end
theorem nd_leaf (op cl : Int) (vals : List Vl) : ndP (.mk op cl vals []) ≤ 1073741824 := by simp [ndP, ndL]
theorem nd_leaves (op cl : Int) : ∀ l : List Vl, ndL (l.map fun v => .mk op cl [v] []) = l.length
  | [] => rfl
  | v :: l => by rw [List.map_cons, ndL, nd_leaves op cl l, List.length_cons]; simp [ndP, ndL]; omega
theorem nd_or (op cl op' cl' : Int) (l : List Vl) (h : l.length ≤ 1000) : ndP (.mk op cl [] (l.map fun v => .mk op' cl' [v] [])) ≤ 1073741824 := by
  rw [ndP, nd_leaves]; omega
/-- Eight cells, two elements. -/
theorem reads8 (w : World) (t : TypeId) (a b c d e f g h : Value) : Reads (w.alloc (.cells #[a, b, c, d, e, f, g, h] t)) (w.heap.size + 1) 4 (some ⟨w.heap.size, 0, none⟩) 2 [a, b, c, d, e, f, g, h] := by
  refine ⟨rfl, fun _ => ⟨_, rfl, Nat.lt_succ_self _, fun j u hu => ?_⟩⟩
  rw [plain_add, Nat.zero_add, (Blk.new w t #[a, b, c, d, e, f, g, h]).cell]
  simpa using hu
/-- A row of two elements and a block that points to it, made in one order or the other. -/
theorem and_row (w : World) (t : TypeId) (xs ys : Array Value) :
    Blk ((w.alloc (.cells xs t)).alloc (.cells ys t)).drew (w.heap.size + 1) t ys ∧ Blk ((w.alloc (.cells xs t)).alloc (.cells ys t)).drew w.heap.size t xs ∧ Below w.heap.size w ((w.alloc (.cells xs t)).alloc (.cells ys t)).drew := by
  have k1 := Blk.new (w.alloc (.cells xs t)) t ys
  rw [World.size_alloc] at k1
  have k0 := (Blk.new w t xs).alloc (.cells ys t)
  have hd := Below.drew (Below.refl ((w.alloc (.cells xs t)).alloc (.cells ys t)).heap.size ((w.alloc (.cells xs t)).alloc (.cells ys t)))
  exact ⟨k1.below hd k1.lt, k0.below hd k0.lt, (((Below.refl w.heap.size w).alloc (Nat.le_refl _) _).alloc (by simp) _).drew⟩
theorem blk_reads8 {W : World} {g : Nat} {t : TypeId} {a b c d e f i h : Value} (k : Blk W g t #[a, b, c, d, e, f, i, h]) : Reads W W.heap.size 4 (some ⟨g, 0, none⟩) 2 [a, b, c, d, e, f, i, h] := by
  refine ⟨rfl, fun _ => ⟨_, rfl, k.lt, fun j u hu => ?_⟩⟩
  rw [plain_add, Nat.zero_add, k.cell]
  simpa using hu
theorem fore2 {w : World} {B n : Nat} {A : Option Addr} {u v : Vl} {r : List Vl} (h : Reads w B 3 A n (vs (u :: v :: r))) (hn : 2 ≤ n) : Reads w B 3 A 2 (vs [u, v]) := by
  have := h.fore hn
  have e : (vs (u :: v :: r)).take (2 * 3) = vs [u, v] := by simp [vs, vc]
  rwa [e] at this
end Go.Proofs.YtmjpjllbfgkfbaaDoor

/- Rows of values in memory; a list of them that came in, opened. -/
namespace Go.Proofs.YtmjpjllbfgkfbaaDoor
open Go.ChangeShapes Go.WideShapes Go.RowKit
set_option linter.unusedVariables false
set_option linter.unusedSimpArgs false
set_option maxRecDepth 100000

/-- A slice that reads as values. -/
def IsV (w : World) (v : Value) (l : List (Int × Int × Tx)) : Prop := ∃ A c, v = .slice A l.length c ∧ Reads w w.heap.size 3 A l.length (vs l)
theorem IsV.next {w w' : World} {v : Value} {l : List (Int × Int × Tx)} (h : IsV w v l) (hb : Below w.heap.size w w') : IsV w' v l := by
  obtain ⟨A, c, e, hr⟩ := h
  exact ⟨A, c, e, (hr.below hb).more hb.size⟩
theorem IsV.one {w : World} {v : Value} {l : List (Int × Int × Tx)} (h : IsV w v l) : v.oneCell' = true := by
  obtain ⟨A, c, rfl, _⟩ := h; rfl
/-- Rows of values: a slice of slices. -/
def VV (w : World) (A : Option Addr) (rows : List (List (Int × Int × Tx))) : Prop := ∃ us : List Value, Reads w w.heap.size 1 A rows.length us ∧ ∀ (k : Nat) (r : List (Int × Int × Tx)), rows[k]? = some r → ∃ u : Value, us[k]? = some u ∧ IsV w u r
theorem VV.next {w w' : World} {A : Option Addr} {rows : List (List (Int × Int × Tx))} (h : VV w A rows) (hb : Below w.heap.size w w') : VV w' A rows := by
  obtain ⟨us, hr, he⟩ := h
  exact ⟨us, (hr.below hb).more hb.size, fun k r hk => by obtain ⟨u, h1, h2⟩ := he k r hk; exact ⟨u, h1, h2.next hb⟩⟩
theorem VV.none_ {w : World} : VV w none [] := ⟨[], Reads.none_, fun k r h => by simp at h⟩
/-- What the walk is told of rows that came in. -/
def IsRowsV (w : World) (a : Option Addr) (len cap : Nat) (rows : List (List (Int × Int × Tx))) : Prop :=
  rows.length = len ∧ len ≤ cap ∧ cap ≤ maxLen ∧ VV w a rows ∧ ∀ r ∈ rows, ∀ v ∈ r, In64 v.1 ∧ In64 v.2.1
theorem rowsV_len {H : Type} {enc : TypeId × Value → H} {W : World} {a : Option Addr} {len cap : Nat} {d : DataW H} {p : List MemPlace} (h : DataW.Trod enc Tryd.prog W 0 (fun _ => true) true 27 (.slice a len cap) d p) :
    ∃ rows, IsRowsV W a len cap rows ∧ ∀ r ∈ rows, r.length ≤ maxLen := by
  obtain ⟨fuel, hf⟩ := h
  have hce : Tryd.prog.cellsOf 23 = 1 := by kernel_rfl
  rcases Go.Deep.open_slice1 Tryd.underlying27 hce hf with ⟨hcs, _⟩ | ⟨x, l, c, mm, nn, V, D, Pl, hcs, _, hl, hcm, hmm, _, hi⟩
  · simp [Value.cells] at hcs
    obtain ⟨rfl, rfl, rfl⟩ := hcs
    exact ⟨[], ⟨rfl, Nat.le_refl _, Nat.zero_le _, VV.none_, by simp⟩, by simp⟩
  · simp [Value.cells] at hcs
    obtain ⟨rfl, rfl, rfl⟩ := hcs
    have hall : ∀ j, ∃ r : List (Int × Int × Tx), j < len → IsV W (V j) r ∧ (∀ v ∈ r, In64 v.1 ∧ In64 v.2.1) ∧ r.length ≤ maxLen := by
      intro j
      by_cases hj : j < len
      · obtain ⟨_, ht⟩ := hi j (by rw [hmm]; simp; omega)
        have hsl : ∃ A1 l1 c1, V j = .slice A1 l1 c1 := by
          rcases Go.Deep.open_slice Tryd.underlying23 ht with ⟨e, _⟩ | ⟨a1, l1, c1, _, _, _, _, e, _⟩
          · exact ⟨none, 0, 0, by simpa using e⟩
          · exact ⟨some a1, l1, c1, by simpa using e⟩
        obtain ⟨A1, l1, c1, e⟩ := hsl
        rw [e] at ht
        obtain ⟨r, hr1, hr2, hr3, hr4, hr5⟩ := vals_of (a := A1) (len := l1) (cap := c1) ⟨nn, ht⟩
        exact ⟨r, fun _ => ⟨⟨A1, c1, by rw [e, hr1], by rw [hr1]; exact hr4⟩, hr5, by omega⟩⟩
      · exact ⟨[], fun h => absurd h hj⟩
    obtain ⟨f, hfn⟩ := Classical.axiomOfChoice hall
    refine ⟨(List.range len).map f, ⟨by simp, hl, hcm, ⟨(List.range len).map V, ⟨by simp, fun hn => ?_⟩, ?_⟩, ?_⟩, ?_⟩
    · refine ⟨x, rfl, ?_, fun j u hu => ?_⟩
      · have hn0 : 0 < len := by simpa using hn
        have := World.block_lt_of_cell? W _ (hi 0 (by rw [hmm]; simp; omega)).1
        rwa [block_of_add] at this
      · have hj : j < len := by
          have := (List.getElem?_eq_some_iff.1 hu).1
          simpa using this
        rw [List.getElem?_map, List.getElem?_range hj] at hu
        injection hu with hu
        rw [← hu]
        exact (hi j (by rw [hmm]; simp; omega)).1
    · intro k r hk
      have hj : k < len := by
        have := (List.getElem?_eq_some_iff.1 hk).1
        simpa using this
      rw [List.getElem?_map, List.getElem?_range hj] at hk
      injection hk with hk
      refine ⟨V k, by rw [List.getElem?_map, List.getElem?_range hj]; rfl, ?_⟩
      rw [← hk]
      exact (hfn k hj).1
    · intro r hr v hv
      obtain ⟨j, hj, rfl⟩ := List.mem_map.1 hr
      exact (hfn j (List.mem_range.1 hj)).2.1 v hv
    · intro r hr
      obtain ⟨j, hj, rfl⟩ := List.mem_map.1 hr
      exact (hfn j (List.mem_range.1 hj)).2.2
theorem rowsV_of {H : Type} {enc : TypeId × Value → H} {W : World} {a : Option Addr} {len cap : Nat} {d : DataW H} {p : List MemPlace} (h : DataW.Trod enc Tryd.prog W 0 (fun _ => true) true 27 (.slice a len cap) d p) :
    ∃ rows, IsRowsV W a len cap rows := by
  obtain ⟨rows, h1, _⟩ := rowsV_len h
  exact ⟨rows, h1⟩
end Go.Proofs.YtmjpjllbfgkfbaaDoor

/- What is read at a place of a slice: its address is a plain one. No program; no condition. -/
namespace Go.Proofs.YtmjpjllbfgkfbaaDoor
open Go.RowKit
set_option linter.unusedVariables false
set_option linter.unusedSimpArgs false
set_option maxRecDepth 100000

theorem reads_plain2 {w : World} {B size n k : Nat} {A : Option Addr} {xs : List Value} {u : Value} (h : Reads w B size A n xs) (hn : 0 < n) (hu : xs[k]? = some u) : ∃ b off, A = some ⟨b, off, none⟩ ∧ b < B ∧ ∀ j u, xs[j]? = some u → w.cell? ⟨b, off + j, none⟩ = some u := by
  obtain ⟨⟨b, off, sp⟩, rfl, hb, hc⟩ := h.2 hn
  have hl : 0 < xs.length := by have := (List.getElem?_eq_some_iff.1 hu).1; omega
  have h0 := hc 0 _ (List.getElem?_eq_getElem hl)
  have hsp : sp = none := by simpa [Addr.add] using World.cell?_spot h0
  subst hsp
  exact ⟨b, off, rfl, hb, fun j u hu => by have := hc j u hu; rwa [plain_add] at this⟩
end Go.Proofs.YtmjpjllbfgkfbaaDoor

/- Which truths may be of fewer rows: no more than of all of them. No program; no condition. -/
namespace Go.Proofs.YtmjpjllbfgkfbaaDoor
open Go.RowKit
set_option linter.unusedVariables false
set_option linter.unusedSimpArgs false
set_option maxRecDepth 100000

/-- Whatever truth may be here may be there. -/
def le3 (t u : Tr3) : Prop := (t.1 = true → u.1 = true) ∧ (t.2.1 = true → u.2.1 = true) ∧ (t.2.2 = true → u.2.2 = true)
theorem le3.refl (t : Tr3) : le3 t t := ⟨id, id, id⟩
theorem le3_none (t : Tr3) : le3 (false, false, false) t := by unfold le3; simp
/-- Ahead or the same. -/
def leV (a b : Vl) : Prop := cmpV a b ≤ 0
theorem leV.trans {a b c : Vl} (h : leV a b) (k : leV b c) : leV a c := cmp_trans h k
theorem le_iff (a b : Vl) : cmpV a b ≤ 0 ↔ leV a b := Iff.rfl
theorem ge_iff (a b : Vl) : 0 ≤ cmpV a b ↔ leV b a := by unfold leV; rw [cmp_turn a b]; omega
theorem lt_iff (a b : Vl) : cmpV a b < 0 ↔ ¬ leV b a := by unfold leV; rw [cmp_turn a b]; omega
theorem gt_iff (a b : Vl) : 0 < cmpV a b ↔ ¬ leV a b := by unfold leV; omega
theorem eq_iff (a b : Vl) : cmpV a b = 0 ↔ leV a b ∧ leV b a := by unfold leV; rw [cmp_turn a b]; omega
/-- The zone of some of the rows lies in that of all. -/
structure ZSub (k : Int) (y : Zn) (rows : Int) (z : Zn) : Prop where
  nulls : y.1 ≤ z.1
  some : y.2.1 = true → z.2.1 = true ∧ leV z.2.2.1 y.2.2.1 ∧ leV y.2.2.2 z.2.2.2 ∧ leV y.2.2.1 y.2.2.2
  left : y.1 < k → z.1 < rows
open Classical in
theorem oneZ_mono (op : Int) (vals : List Vl) {y z : Zn} (h1 : leV z.2.2.1 y.2.2.1) (h2 : leV y.2.2.2 z.2.2.2) (h3 : leV y.2.2.1 y.2.2.2) :
    ((oneZ op vals y).1 = true → (oneZ op vals z).1 = true) ∧ ((oneZ op vals y).2 = true → (oneZ op vals z).2 = true) := by
  obtain ⟨yn, ys, ya, yb⟩ := y
  obtain ⟨zn, zs, za, zb⟩ := z
  simp only at h1 h2 h3
  have hlo : ∀ v, leV ya v → leV za v := fun v h => h1.trans h
  have hhi : ∀ v, leV v yb → leV v zb := fun v h => h.trans h2
  have klo : ∀ v, leV v za → leV v ya := fun v h => h.trans h1
  have khi : ∀ v, leV zb v → leV yb v := fun v h => h2.trans h
  have kmix : ∀ v, leV zb v → leV ya v := fun v h => h3.trans (khi v h)
  have kmix2 : ∀ v, leV v za → leV v yb := fun v h => (klo v h).trans h3
  unfold oneZ
  dsimp only
  generalize vals.getD 0 (0, 0, []) = a
  generalize vals.getD 1 (0, 0, []) = b
  have same : (decide (leV ya a) && decide (leV a yb)) = true → (decide (leV za a) && decide (leV a zb)) = true := by
    simp only [Bool.and_eq_true, decide_eq_true_eq]
    exact fun h => ⟨hlo _ h.1, hhi _ h.2⟩
  have other : ∀ v, ((leV ya v ∧ leV v ya) ∧ leV yb v ∧ leV v yb → False) → ((leV za v ∧ leV v za) ∧ leV zb v ∧ leV v zb) → False := fun v h k =>
    h ⟨⟨kmix _ k.2.1, klo _ k.1.2⟩, khi _ k.2.1, kmix2 _ k.1.2⟩
  have other' : (!decide (leV ya a ∧ leV a ya) || !decide (leV yb a ∧ leV a yb)) = true → (!decide (leV za a ∧ leV a za) || !decide (leV zb a ∧ leV a zb)) = true := by
    have := other a
    simp only [Bool.or_eq_true, Bool.not_eq_true', decide_eq_false_iff_not]
    intro h
    refine Decidable.byContradiction fun hn => ?_
    have hn' := not_or.1 hn
    exact this (fun k => h.elim (fun q => q k.1) (fun q => q k.2)) ⟨Classical.not_not.1 hn'.1, Classical.not_not.1 hn'.2⟩
  by_cases o1 : op = 1
  · simp only [if_pos o1, le_iff, ge_iff, lt_iff, gt_iff, eq_iff]; exact ⟨same, other'⟩
  by_cases o2 : op = 2
  · simp only [if_neg o1, if_pos o2, le_iff, ge_iff, lt_iff, gt_iff, eq_iff]; exact ⟨other', same⟩
  by_cases o3 : op = 3
  · simp only [if_neg o1, if_neg o2, if_pos o3, le_iff, ge_iff, lt_iff, gt_iff, eq_iff, decide_eq_true_eq]; exact ⟨fun h k => h (klo _ k), hhi _⟩
  by_cases o4 : op = 4
  · simp only [if_neg o1, if_neg o2, if_neg o3, if_pos o4, le_iff, ge_iff, lt_iff, gt_iff, eq_iff, decide_eq_true_eq]; exact ⟨hlo _, fun h k => h (khi _ k)⟩
  by_cases o5 : op = 5
  · simp only [if_neg o1, if_neg o2, if_neg o3, if_neg o4, if_pos o5, le_iff, ge_iff, lt_iff, gt_iff, eq_iff, decide_eq_true_eq]; exact ⟨fun h k => h (khi _ k), hlo _⟩
  by_cases o6 : op = 6
  · simp only [if_neg o1, if_neg o2, if_neg o3, if_neg o4, if_neg o5, if_pos o6, le_iff, ge_iff, lt_iff, gt_iff, eq_iff, decide_eq_true_eq]; exact ⟨hhi _, fun h k => h (klo _ k)⟩
  by_cases o7 : op = 7
  · simp only [if_neg o1, if_neg o2, if_neg o3, if_neg o4, if_neg o5, if_neg o6, if_pos o7, le_iff, ge_iff, lt_iff, gt_iff, eq_iff, List.any_eq_true, List.all_eq_true, Bool.and_eq_true, Bool.not_eq_true', Bool.and_eq_false_iff, decide_eq_true_eq, decide_eq_false_iff_not]
    refine ⟨fun ⟨v, hv, h⟩ => ⟨v, hv, hlo _ h.1, hhi _ h.2⟩, fun h v hv => ?_⟩
    have := h v hv
    refine Decidable.byContradiction fun hn => ?_
    have hn' := not_or.1 hn
    have k1 := Classical.not_not.1 hn'.1
    have k2 := Classical.not_not.1 hn'.2
    exact other v (fun k => this.elim (fun q => q ⟨k.1.2, k.1.1⟩) (fun q => q ⟨k.2.2, k.2.1⟩)) ⟨⟨k1.2, k1.1⟩, k2.2, k2.1⟩
  · simp only [if_neg o1, if_neg o2, if_neg o3, if_neg o4, if_neg o5, if_neg o6, if_neg o7, le_iff, ge_iff, lt_iff, gt_iff, eq_iff, Bool.and_eq_true, Bool.or_eq_true, decide_eq_true_eq]
    exact ⟨fun h => ⟨⟨h.1.1, hhi _ h.1.2⟩, hlo _ h.2⟩, fun h => h.elim (fun q => Or.inl fun k => q (klo _ k)) (fun q => Or.inr fun k => q (khi _ k))⟩
theorem at3_mono {t u : Tr3} (h : le3 t u) : ∀ k, at3 t k = true → at3 u k = true
  | 0 => h.1
  | 1 => h.2.1
  | _ + 2 => h.2.2
theorem put3_mono {t u : Tr3} (h : le3 t u) {is js : Bool} (hi : is = true → js = true) (k : Nat) : le3 (put3 t is k) (put3 u js k) := by
  have key : ∀ (a b d : Bool), (a = true → b = true) → (a || (is && d)) = true → (b || (js && d)) = true := fun a b d hab hh => by
    simp only [Bool.or_eq_true, Bool.and_eq_true] at hh ⊢
    exact hh.elim (fun q => Or.inl (hab q)) (fun q => Or.inr ⟨hi q.1, q.2⟩)
  exact ⟨key _ _ _ h.1, key _ _ _ h.2.1, key _ _ _ h.2.2⟩
theorem jnB_mono (op : Int) {o o' x x' : Tr3} (ho : le3 o o') (hx : le3 x x') (a : Nat) {t t' : Tr3} (ht : le3 t t') : ∀ b, le3 (jnB op o x a t b) (jnB op o' x' a t' b)
  | 0 => ht
  | b + 1 => put3_mono (jnB_mono op ho hx a ht b) (by
      simp only [Bool.and_eq_true]
      exact fun h => ⟨at3_mono ho a h.1, at3_mono hx b h.2⟩) _
theorem jnA_mono (op : Int) {o o' x x' : Tr3} (ho : le3 o o') (hx : le3 x x') : ∀ a, le3 (jnA op o x a) (jnA op o' x' a)
  | 0 => le3.refl _
  | a + 1 => jnB_mono op ho hx a (jnA_mono op ho hx a) 3
theorem jn3_mono (op : Int) {o o' x x' : Tr3} (ho : le3 o o') (hx : le3 x x') : le3 (jn3 op o x) (jn3 op o' x') := jnA_mono op ho hx 3
/-- As many, each one's truths among the other's. -/
def LeL : List Tr3 → List Tr3 → Prop
  | [], [] => True
  | t :: l, u :: m => le3 t u ∧ LeL l m
  | _, _ => False
theorem fold_mono (op : Int) : ∀ (l m : List Tr3) {o o' : Tr3}, LeL l m → le3 o o' → le3 (l.foldl (jn3 op) o) (m.foldl (jn3 op) o')
  | [], [], _, _, _, ho => ho
  | t :: l, u :: m, _, _, h, ho => fold_mono op l m h.2 (jn3_mono op ho h.1)
  | [], _ :: _, _, _, h, _ => h.elim
  | _ :: _, [], _, _, h, _ => h.elim
/-- The zones of some of the rows, of each column. -/
structure ZsSub (k : Int) (ys : List Zn) (rows : Int) (zs : List Zn) : Prop where
  len : ys.length = zs.length
  pos : 1 ≤ k
  pos' : 1 ≤ rows
  each : ∀ c, c < zs.length → ZSub k (ys.getD c zNone) rows (zs.getD c zNone)
mutual
theorem mayP_mono {k rows : Int} {ys zs : List Zn} (h : ZsSub k ys rows zs) : ∀ p, le3 (mayP k ys p) (mayP rows zs p)
  | .mk op col vals parts => by
    have ih := mayL_mono h parts
    have h1 := h.pos
    have h2 := h.pos'
    rw [mayP, mayP, if_neg (show ¬ k < 1 by omega), if_neg (show ¬ rows < 1 by omega), h.len]
    split
    · exact le3.refl _
    rename_i hf
    split
    · exact le3.refl _
    rename_i h0
    have hcol : 1 ≤ op ∧ op ≤ 9 → ZSub k (ys.getD col.toNat zNone) rows (zs.getD col.toNat zNone) := fun ho => by
      refine h.each _ ?_
      have := not_or.1 hf
      have h3 : ¬ (col < 0 ∨ (zs.length : Int) ≤ col) := fun q => this.2 ⟨ho, q⟩
      omega
    dsimp only
    split
    · rename_i h9
      have hz := hcol (by omega)
      have q1 := hz.left
      have q2 := hz.nulls
      refine ⟨?_, id, ?_⟩
      · simp only [decide_eq_true_eq]; exact q1
      · simp only [decide_eq_true_eq]; omega
    split
    · rename_i h9 ho
      have hz := hcol ho
      have q2 := hz.nulls
      refine ⟨?_, ?_, ?_⟩
      · dsimp only
        split
        · rename_i hs
          obtain ⟨k0, k1, k2, k3⟩ := hz.some hs
          rw [if_pos k0]
          exact (oneZ_mono op vals k1 k2 k3).2
        · intro q; cases q
      · simp only [decide_eq_true_eq]; omega
      · dsimp only
        split
        · rename_i hs
          obtain ⟨k0, k1, k2, k3⟩ := hz.some hs
          rw [if_pos k0]
          exact (oneZ_mono op vals k1 k2 k3).1
        · intro q; cases q
    · generalize hl : mayL k ys parts = l at ih ⊢
      generalize hm : mayL rows zs parts = m at ih ⊢
      have hd : le3 (l.headD (false, false, false)) (m.headD (false, false, false)) := by
        cases l <;> cases m
        · exact le3.refl _
        · exact ih.elim
        · exact ih.elim
        · exact ih.1
      split
      · exact ⟨hd.2.2, hd.2.1, hd.1⟩
      · refine fold_mono op _ _ ?_ hd
        cases l <;> cases m
        · trivial
        · exact ih.elim
        · exact ih.elim
        · exact ih.2
theorem mayL_mono {k rows : Int} {ys zs : List Zn} (h : ZsSub k ys rows zs) : ∀ l, LeL (mayL k ys l) (mayL rows zs l)
  | [] => by rw [mayL, mayL]; trivial
  | p :: l => by rw [mayL, mayL]; exact ⟨mayP_mono h p, mayL_mono h l⟩
end
end Go.Proofs.YtmjpjllbfgkfbaaDoor
