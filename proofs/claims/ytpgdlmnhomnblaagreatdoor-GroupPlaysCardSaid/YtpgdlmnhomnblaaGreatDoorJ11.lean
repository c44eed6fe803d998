import Derived.RangeFuncNested
import Derived.RangeFuncCalls
import Derived.RangeFuncLeaves
import Derived.Shelf.Abstract
import Derived.Shelf.RegionOpen
import Derived.OwnWalkIn
import Derived.TacticsInMore
import Derived.LoopNIn
import Derived.LoopIn
import Derived.Test.YtpgdlmnhomnblaaGreatDoorJ1
import Derived.Test.YtpgdlmnhomnblaaGreatDoorJ5
import Derived.Test.YtpgdlmnhomnblaaGreatDoorJ10
import Derived.RangeFuncOwn
namespace Go.Proofs.YtpgdlmnhomnblaaGreatDoor
open Go.RowKit
set_option linter.unusedVariables false
set_option linter.unusedSimpArgs false
set_option maxRecDepth 100000
theorem wide_fn (f : FuncId) : Fence.wide.fn f = True := rfl
theorem wide_depth : Fence.wide.depth = none := rfl
structure Spares (B : Nat) (X : Nat → Prop) (W W' : World) : Prop where
  from_ : KeepsFrom B W W'
  leans : ∀ k, X k → W'.heap[k]? = W.heap[k]?
theorem Spares.refl (B : Nat) (X : Nat → Prop) (W : World) : Spares B X W W := ⟨KeepsFrom.refl _ _, fun _ _ => rfl⟩
theorem Spares.trans {B : Nat} {X : Nat → Prop} {a b c : World} (h : Spares B X a b) (k : Spares B X b c) : Spares B X a c := ⟨h.from_.trans k.from_, fun i hi => (k.leans i hi).trans (h.leans i hi)⟩
theorem Spares.drawn {B : Nat} {X : Nat → Prop} {a w w' : World} (h : Spares B X a w) (hd : Drawn w w') : Spares B X a w' := by
  obtain ⟨q, rfl⟩ := hd
  exact ⟨⟨h.from_.size, h.from_.same⟩, h.leans⟩
theorem Spares.below {B : Nat} {X : Nat → Prop} {a w w' : World} (h : Spares B X a w) (hX : ∀ k, X k → k < w.heap.size) (hb : Below w.heap.size w w') : Spares B X a w' :=
  h.trans ⟨⟨hb.size, fun k o _ ho _ => (hb.block k (Array.getElem?_eq_some_iff.1 ho).1).trans ho⟩, fun k hk => hb.block k (hX k hk)⟩
theorem Spares.setCell {B : Nat} {X : Nat → Prop} {a w : World} (h : Spares B X a w) {p : Addr} (hX : ¬ X p.block) (u : Value) : Spares B X a (w.setCell p u) :=
  h.trans ⟨(KeepsOthers.setCell w p u).from B, fun k hk => Below.heap_setCell w p u k (fun e => hX (by rw [← e]; exact hk))⟩
theorem Spares.grown {B : Nat} {X : Nat → Prop} {a w w' : World} (h : Spares B X a w) {row : Option Nat} (hg : w.grownBy w' row) (hX : ∀ k, X k → k < w.heap.size) (hr : ∀ j, row = some j → ¬ X j ∧ ∀ o : Obj, w.heap[j]? = some o → o.isCells = true) : Spares B X a w' :=
  h.trans ⟨(KeepsOthers.of_grownBy hg (fun j o e ho => (hr j e).2 o ho)).from B, fun k hk => hg.block k (hX k hk) (fun e => (hr k e.symm).1 hk)⟩
variable {P : Program}
def Rounds (P : Program) (l N : Nat) (el : Nat → Array Value) (X : Nat → Prop) (J : Nat → World → Prop) : Prop :=
  ∀ k W, k < N → J k W → YieldAt Fence.wide 0 P l (el k) W fun e W' => e = .returned (.bool true) ∧ J (k + 1) W' ∧ ∀ i, X i → W'.heap[i]? = W.heap[i]?
def Abide (X Y : Nat → Prop) (J : Nat → World → Prop) : Prop := ∀ k A B, J k A → (∃ row, A.grownBy B row ∧ ∀ r, row = some r → Y r) → J k B
def Gives (P : Program) (gf : Nat) (lb : Array Value) (N : Nat) (el : Nat → Array Value) (X Y : Nat → Prop) (T : World → Prop) (w : World) : Prop :=
  ∀ (l : Nat) (J : Nat → World → Prop) (W : World), Below w.heap.size w W → Abide X Y J → Rounds P l N el X J → J 0 W →
    Calls P gf (#[.func (.yield l) #[] #[]] ++ lb) W fun e W' => (∃ v, e = .returned v) ∧ J N W' ∧ T W'
def recOf (fn : FuncId) (a : Act) (ps : Array Tmp) (assign body : Code) (D : Nat) (st : LoopState) : Loop :=
  { fn := fn, tmps := a.tmps, params := ps, assign := assign, body := body, defers := D, pending := none, state := st }
structure Under (D : Nat) (r : Loop) (W : World) : Prop where
  mark : W.heap[D]? = some (.deferred (some []))
  record : W.heap[D + 1]? = some (.loop r)
theorem Under.lt {D : Nat} {r : Loop} {W : World} (u : Under D r W) : D + 1 < W.heap.size := (Array.getElem?_eq_some_iff.1 u.record).1
theorem Under.turn {D : Nat} {r : Loop} {W : World} (u : Under D r W) (r' : Loop) : Under D r' (W.putObj (D + 1) (.loop r')) :=
  ⟨(World.putObj_heap_other (by omega)).trans u.mark, World.putObj_heap_same u.lt⟩
theorem Under.step {D : Nat} {r : Loop} {A B : World} (u : Under D r A) {row : Option Nat} (hg : A.grownBy B row) (hr : ∀ k, row = some k → k < D) : Under D r B :=
  ⟨(hg.block D (by have := u.lt; omega) (fun e => by have := hr D e.symm; omega)).trans u.mark, (hg.block (D + 1) u.lt (fun e => by have := hr _ e.symm; omega)).trans u.record⟩
theorem Under.spared {D : Nat} {r : Loop} {X : Nat → Prop} {A B : World} (u : Under D r A) (s : Spares D X A B) : Under D r B :=
  ⟨s.from_.same _ _ (Nat.le_refl _) u.mark rfl, s.from_.same _ _ (by omega) u.record rfl⟩
theorem under_new (w : World) (r : Loop) : Under w.heap.size r ((w.alloc (.deferred (some []))).alloc (.loop r)) := by
  have h := World.alloc_heap_new (w.alloc (.deferred (some []))) (.loop r)
  rw [World.size_alloc] at h
  exact ⟨(Below.heap_alloc _ _ _ (by rw [World.size_alloc]; omega)).trans (World.alloc_heap_new w _), h⟩
def Minds (D : Nat) (I : World → Prop) : Prop := ∀ A B row, I A → A.grownBy B row → (∀ r, row = some r → D ≤ r ∧ ∃ o : Obj, A.heap[r]? = some o ∧ o.isCells = false) → I B
theorem Minds.turn {D : Nat} {I : World → Prop} (h : Minds D I) {r : Loop} {W : World} (u : Under D r W) (r' : Loop) (hi : I W) : I (W.putObj (D + 1) (.loop r')) :=
  h W _ (some (D + 1)) hi (grownBy_putObj' W (D + 1) _) (fun k e => by injection e with e; subst e; exact ⟨Nat.le_succ D, _, u.record, rfl⟩)
theorem Minds.new {D : Nat} {I : World → Prop} (h : Minds D I) {W : World} (hi : I W) (o : Obj) : I (W.alloc o) := h W _ none hi (World.grownBy_alloc W o none) (fun r e => by cases e)
theorem round_gives {a a₁ : Act} {ps : Array Tmp} {assign body : Code} {fn : FuncId} {D : Nat} {el : Array Value} {X : Nat → Prop} {I I' : World → Prop} {W : World}
    (hps : el.size = ps.size) (hI : Minds D I) (hI' : Minds D I') (hX : ∀ k, X k → k < D) (u : Under D (recOf fn a ps assign body D .ready) W) (hi : I W)
    (hassign : ∀ (K : Act → World → Prop), K a₁ W → assign.wpIn (Fence.wide.inRound (D + 1)) 0 P (Exit.then K (fun _ _ _ => False)) { tmps := (ps.zip el).foldl (fun t (p, v) => t.setIfInBounds p v) a.tmps, defers := [] } W)
    (hbody : ∀ W2, D ≤ W2.heap.size → I W2 → body.wpIn (Fence.wide.inRound (D + 1)) 0 P (fun e _ W' => e = .normal ∧ Spares D X W2 W' ∧ I' W') a₁ W2) :
    YieldAt Fence.wide 0 P (D + 1) el W fun e W' => e = .returned (.bool true) ∧ (I' W' ∧ Under D (recOf fn a ps assign body D .ready) W') ∧ ∀ i, X i → W'.heap[i]? = W.heap[i]? := by
  have hturn : ∀ (V : World) (o : Obj) (i : Nat), X i → (V.putObj (D + 1) o).heap[i]? = V.heap[i]? := fun V o i hx => World.putObj_heap_other (by have := hX i hx; omega)
  have ub := u.turn (recOf fn a ps assign body D .busy)
  have hgo := run_yield (P := P) (args := el) u.record hps
  refine ⟨fn, _, assign, body, hgo, roundIn_of_wpIn trivial (hassign _ ⟨_, run_beginRound u.record rfl, ?_⟩)⟩
  refine wpIn_mono (hbody _ (by have := ub.lt; show D ≤ (W.putObj (D + 1) _).heap.size; rw [World.putObj_size]; have := u.lt; omega) (hI.turn u _ hi)) ?_
  rintro e a' V ⟨rfl, hs, hv⟩
  have uv : Under D (recOf fn a ps assign body D .busy) V := ub.spared hs
  refine ⟨.bool true, V.putObj (D + 1) (.loop (recOf fn a ps assign body D .ready)), run_endRound (P := P) none uv.record, rfl, ⟨hI'.turn uv _ hv, uv.turn _⟩, fun i hx => ?_⟩
  exact (hturn V _ i hx).trans ((hs.leans i hx).trans (hturn W _ i hx))
theorem range_gives {g : Operand} {ps : Array Tmp} {assign body : Code} {Q : Exit → Act → World → Prop} {a : Act} {w : World} {gf : Nat} {lb : Array Value}
    (hg : a.eval g = .func (.func gf) #[] lb) (eg : ∀ args w, (callFunc gf args).run P w = .ok (.enter gf args) w)
    {N : Nat} {el : Nat → Array Value} {X Y : Nat → Prop} {T : World → Prop} (hseq : Gives P gf lb N el X Y T w)
    (hX : ∀ k, X k → k < w.heap.size) (hY : ∀ k, Y k → k < w.heap.size) (hps : ∀ k, (el k).size = ps.size)
    (I : Nat → World → Prop) (a₁ : Nat → Act) (h0 : I 0 w)
    (hIn : ∀ k A B row, I k A → A.grownBy B row → (∀ r, row = some r → w.heap.size ≤ r ∧ ∃ o : Obj, A.heap[r]? = some o ∧ o.isCells = false) → I k B)
    (hIy : ∀ k A B row, I k A → A.grownBy B row → (∀ r, row = some r → Y r) → I k B)
    (hT : ∀ A B row, T A → A.grownBy B row → (∀ r, row = some r → w.heap.size ≤ r ∧ ∃ o : Obj, A.heap[r]? = some o ∧ o.isCells = false) → T B)
    (hassign : ∀ (l k : Nat) (W : World) (K : Act → World → Prop), K (a₁ k) W →
      assign.wpIn (Fence.wide.inRound l) 0 P (Exit.then K (fun _ _ _ => False)) { tmps := (ps.zip (el k)).foldl (fun t (p, v) => t.setIfInBounds p v) a.tmps, defers := [] } W)
    (hbody : ∀ (l k : Nat) (W : World), k < N → w.heap.size ≤ W.heap.size → I k W → body.wpIn (Fence.wide.inRound l) 0 P (fun e _ W' => e = .normal ∧ Spares w.heap.size X W W' ∧ I (k + 1) W') (a₁ k) W)
    (hdone : ∀ (D : Nat) (W : World), w.heap.size ≤ D → I N W → T W → W.heap[D]? = some (.deferred (some [])) → Q .normal { a with defers := { target := .collected D, args := #[] } :: a.defers } W) :
    (Code.rangeFunc g ps assign body).wpIn Fence.wide 0 P Q a w := by
  have mI : ∀ k, Minds w.heap.size (I k) := fun k A B row h hg hr => hIn k A B row h hg hr
  have mT : Minds w.heap.size T := hT
  refine wpIn_rangeFunc fun fn _ => ?_
  have u0 := under_new w (recOf fn a ps assign body w.heap.size .ready)
  have b0 : Below w.heap.size w ((w.alloc (.deferred (some []))).alloc (.loop (recOf fn a ps assign body w.heap.size .ready))) := ((Below.refl _ w).alloc (Nat.le_refl _) _).alloc (by simp) _
  have i0 := (mI 0).new ((mI 0).new h0 (.deferred (some []))) (.loop (recOf fn a ps assign body w.heap.size .ready))
  have hen := run_enterLoop_outer (P := P) (w := w) fn a.tmps ps assign body
  change _ = Result.ok _ ((w.alloc (.deferred (some []))).alloc (.loop (recOf fn a ps assign body w.heap.size .ready))) at hen
  generalize (w.alloc (.deferred (some []))).alloc (.loop (recOf fn a ps assign body w.heap.size .ready)) = W1 at u0 b0 i0 hen
  have hcall := hseq (w.heap.size + 1) (fun k W => I k W ∧ Under w.heap.size (recOf fn a ps assign body w.heap.size .ready) W) _ b0
    (fun k A B h ⟨row, hg', hr⟩ => ⟨hIy k A B row h.1 hg' hr, h.2.step hg' (fun j e => hY j (hr j e))⟩)
    (fun k W hk h => round_gives (hps k) (mI k) (mI (k + 1)) hX h.2 h.1 (hassign _ k W) (fun W2 hs hi => hbody _ k W2 hk hs hi))
    ⟨i0, u0⟩
  refine ⟨_, _, _, { target := .fn (.func gf) lb, args := #[.func (.yield (w.heap.size + 1)) #[] #[]] }, W1, gf, _, _, hen, ?_, fun _ _ => trivial, ?_, fun h => (by cases h), callsIn_wide.2 (hcall.mono ?_)⟩
  · simp only [resolve, hg]; simp [go_sem]
  · simp [invoke, go_sem, eg]
  · rintro e W2 ⟨⟨v, rfl⟩, ⟨hi, u⟩, ht⟩
    refine ⟨none, _, run_endLoop (P := P) u.record (by intro h; cases h), hdone _ _ (Nat.le_refl _) ((mI N).turn u _ hi) (mT.turn u _ ht) (u.turn _).mark⟩
theorem oper_in {o : Oper} {a : Act} {w : World} {K : Act → World → Prop} {Q : Exit → Act → World → Prop} {l : Nat} (ho : ∀ c, o.op ≠ .defer c) (h : o.wp P a w K Q) : o.wpIn (Fence.wide.inRound l) 0 P a w K Q := by
  refine ⟨fun _ _ => trivial, ?_⟩
  rw [show (Fence.wide.inRound l).round = some l from rfl, Oper.semAt_some l _ _ ho]
  unfold Oper.wp at h
  generalize (execOp a.eval o).run P w = r at h
  cases r with
  | ok x w' =>
    cases x <;> simp only [Oper.upon, Oper.uponIn] at h ⊢ <;> first
      | exact h
      | exact ⟨fun hd => (by cases hd), CallsIn.inRound l (callsIn_wide.2 h)⟩
      | exact ⟨fun hd => (by cases hd), fun c cs _ => let ⟨v, w'', r, s⟩ := h c cs; ⟨v, w'', r, stepsIn_wide.2 s⟩⟩
      | exact h.elim
  | halt x w' => cases x <;> simp only [Oper.upon, Oper.uponIn] at h ⊢ <;> exact h
def noDefer (ops : Array Oper) : Bool := ops.all fun o => match o.op with | .defer .. => false | _ => true
theorem noDefer_at {ops : Array Oper} (h : noDefer ops = true) {i : Nat} {o : Oper} (ho : ops[i]? = some o) : ∀ c, o.op ≠ .defer c := by
  intro c e
  obtain ⟨hi, rfl⟩ := Array.getElem?_eq_some_iff.1 ho
  unfold noDefer at h
  rw [Array.all_eq_true] at h
  have := h i hi
  rw [e] at this
  cases this
theorem any_in {md : Region.Mode} {ops : Array Oper} {Q : Exit → Act → World → Prop} {l : Nat} (hd : noDefer ops = true) (hQ : ∀ a w, ¬ Q .outgrown a w) : ∀ (fuel : Nat) (listed : Array Bool) (a : Act) (w : World),
    wpAny P md ops Q fuel listed a w → wpAnyIn (Fence.wide.inRound l) 0 P md ops Q fuel listed a w
  | 0, _, _, _, h => h
  | fuel + 1, listed, a, w, h => by
    refine ⟨h.1, fun i hi => ?_⟩
    have hs := h.2 i hi
    unfold wpOp at hs
    unfold wpOpIn
    cases ho : ops[i]? with
    | none => rw [ho] at hs; exact any_in hd hQ fuel _ _ _ hs
    | some o =>
      rw [ho] at hs
      simp only at hs ⊢
      split
      · rename_i hw
        rw [if_pos hw] at hs
        rcases hs with hs | ⟨_, a', w', ho'⟩
        · exact oper_in (noDefer_at hd ho) (Oper.wp_mono (fun a' w' h' => any_in hd hQ fuel _ a' w' h') hs)
        · exact (hQ a' w' ho').elim
      · rename_i hw
        rw [if_neg hw] at hs
        exact ⟨fun _ _ => trivial, any_in hd hQ fuel _ _ _ hs⟩
theorem region_in {id : Nat} {ops : Array Oper} {Q : Exit → Act → World → Prop} {a : Act} {w : World} {l : Nat} (hm : P.follows .mixedOrders = true) (hd : noDefer ops = true) (hQ : ∀ a w, ¬ Q .outgrown a w)
    (h : wpAny P .any ops Q ops.size (Array.replicate ops.size false) a w.drew) : (Code.region id ops true).wpIn (Fence.wide.inRound l) 0 P Q a w :=
  wpIn_region_any hm (any_in hd hQ _ _ _ _ h)
end Go.Proofs.YtpgdlmnhomnblaaGreatDoor
namespace Go.Proofs.YtpgdlmnhomnblaaGreatDoor
open Go.RowKit
set_option linter.unusedVariables false
set_option linter.unusedSimpArgs false
set_option maxRecDepth 100000
attribute [local go_sem] Oper.semAt_some
theorem laid_any (A : Option Addr) (n c : Nat) (w : World) : Calls Tryz.prog 117 #[.slice A n c] w fun e w' =>
    e = .returned (.func (.func 168) #[] #[.pointer (some ⟨w.heap.size, 0, none⟩)]) ∧ w' = w.alloc (.cells #[.slice A n c] 142) := by
  go_enter Tryz.func117, Tryz.ntmps117
  go_wp2_with fail
  go_ret
  exact ⟨rfl, rfl⟩
def elR (l : List Int) (k : Nat) : Array Value := #[.int .i64 ((runs l)[k]?.getD (0, 0)).1, .int .i64 (((runs l)[k]?.getD (0, 0)).2 : Int)]
theorem elR_at {l : List Int} {k : Nat} {x : Int} {n : Nat} (h : (runs l)[k]? = some (x, n)) : elR l k = #[.int .i64 x, .int .i64 (n : Int)] := by unfold elR; rw [h]; rfl
def LaidX (n₀ b : Nat) (k : Nat) : Prop := k < n₀ ∨ k = b
theorem kept_cell {X : Nat → Prop} {a w : World} (h : ∀ k, X k → w.heap[k]? = a.heap[k]?) {p : Addr} (hp : X p.block) : w.cell? p = a.cell? p := World.cell?_of_block (h _ hp)
set_option maxHeartbeats 2000000 in
theorem laid1_gives (A : Option Addr) (n c n₀ b : Nat) (l : List Int) (w : World) (hb : w.cell? ⟨b, 0, none⟩ = some (.slice A n c)) (hbl : b < w.heap.size) (hn0 : n₀ ≤ w.heap.size) (hr : Reads w n₀ 1 A n (zs l)) (hn : n ≤ 17592186044416) :
    Gives Tryz.prog 168 #[.pointer (some ⟨b, 0, none⟩)] (rc l) (elR l) (LaidX n₀ b) (fun _ => False) (fun _ => True) w := by
  intro lp J W hW hJ hR h0
  have e1 : l.length = n := by have := hr.1; rw [zs_length] at this; omega
  have hb1 : W.cell? ⟨b, 0, none⟩ = some (.slice A n c) := (hW.cell (p := ⟨b, 0, none⟩) hbl).trans hb
  have hr1 := hr.keep (w' := W) (fun p hp => hW.cell (by omega))
  have E1 := Lib.hid e1
  have hpa := pos_all l
  rw [e1] at hpa
  have HPA := Lib.hid hpa
  clear hpa e1 hb hr hW
  refine (callsIn_wide (n := 1)).1 ?_
  refine callsIn_of_wp Tryz.func168 rfl trivial ?_ rfl
  simp only [Tryz.ntmps168, List.size_toArray, List.length_cons, List.length_nil, Nat.reduceAdd, Nat.reduceSub, Array.replicate_succ, Array.replicate_zero, List.push_toArray, List.append_toArray, List.nil_append, List.cons_append]
  gi_wp2
  gi_loopw [3] (fun i wr => ∃ k p : Nat, k ≤ rc l ∧ Hid (p = pos (runs l) k) ∧ i = .int .i64 (p : Int) ∧ J k wr ∧ ∀ i, LaidX n₀ b i → wr.heap[i]? = W.heap[i]?) (fun i _ => n - (intOf i).toNat)
  case atStart => exact ⟨0, 0, by omega, Lib.hid rfl, rfl, h0, fun _ _ => rfl⟩
  case round =>
    obtain ⟨k, p, hk, hp, rfl, hJk, hX⟩ := hrel
    have hbx : wr.cell? ⟨b, 0, none⟩ = some (.slice A n c) := (kept_cell hX (p := ⟨b, 0, none⟩) (.inr rfl)).trans hb1
    have hrx : Reads wr n₀ 1 A n (zs l) := hr1.keep (fun p hp => kept_cell hX (.inl hp))
    by_cases hkl : k < rc l
    · obtain ⟨x, m, hat⟩ : ∃ x m, (runs l)[k]? = some (x, m) := ⟨_, _, List.getElem?_eq_getElem hkl⟩
      obtain ⟨hm0, hle, hall, hend⟩ := run_at hat
      have hps := pos_succ hat
      rw [← hp.out] at hle hall hend hps
      rw [E1.out] at hle
      obtain ⟨ad, u, rfl, _, hu, hc0⟩ := hrx.at_ (k := p) (by omega)
      obtain ⟨z, hz, rfl⟩ := zs_at hu
      obtain rfl : z = x := by
        have := hall 0 hm0
        rw [Nat.add_zero, hz] at this
        injection this
      have hcs : ∀ j, j < m → wr.cell? (ad.add (p + j)) = some (.int .i64 z) := by
        intro j hj
        obtain ⟨ad', u, e, _, hu, hc⟩ := hrx.at_ (k := p + j) (by omega)
        injection e with e
        subst e
        obtain ⟨y, hy, rfl⟩ := zs_at hu
        rw [hall j hj] at hy
        injection hy with hy
        subst hy
        exact hc
      have hce : p + m < n → ∃ y, y ≠ z ∧ wr.cell? (ad.add (p + m)) = some (.int .i64 y) := by
        intro hlt
        obtain ⟨ad', u, e, _, hu, hc⟩ := hrx.at_ (k := p + m) hlt
        injection e with e
        subst e
        obtain ⟨y, hy, rfl⟩ := zs_at hu
        exact ⟨y, hend y hy, hc⟩
      have HS := Lib.hid hps; have HT := Lib.hid hat; have HCS := Lib.hid hcs; have HCE := Lib.hid hce
      clear hps hall hend hat hu hz hrx hcs hce
      have hmx : Tryz.prog.follows .mixedOrders = true := by kernel_rfl
      gi_wp2
      gi_loopw [4] (fun t wi => ∃ j : Nat, 1 ≤ j ∧ j ≤ m ∧ t = .int .i64 ((p + j : Nat) : Int) ∧ Drawn wr wi) (fun t _ => n - (intOf t).toNat)
      case atStart => exact ⟨1, by omega, by omega, by go_num, Drawn.refl _⟩
      case round =>
        obtain ⟨j, hj1, hjm, rfl, hd⟩ := hrel
        have hbd : wr.cell? ⟨b, 0, none⟩ = some (.slice (some ad) n c) := by obtain ⟨q, rfl⟩ := hd; exact hbx
        have hcd : wr.cell? (ad.add p) = some (.int .i64 z) := by obtain ⟨q, rfl⟩ := hd; exact hc0
        by_cases hjl : j < m
        · have hcj : wr.cell? (ad.add (p + j)) = some (.int .i64 z) := by
            obtain ⟨q, rfl⟩ := hd
            exact HCS.out j hjl
          have g1 : decide ((p : Int) + (j : Int) < (n : Int)) = true := by simp; omega
          gi_wp2
          refine wpIn_wide.2 ?_
          go_quiet (fail)
          gi_wp2
          go_roundw
          case rel => exact ⟨j + 1, by omega, by omega, by go_num, hd.trans (Drawn.one _ _)⟩
          case measure => simp [intOf]; omega
        · obtain rfl : j = m := by omega
          have fin : ∀ W', Drawn wr W' → ∃ fn tmps assign body, (Instr.yield lp #[.int .i64 z, .int .i64 ((p : Int) + (j : Int) - (p : Int))]).run Tryz.prog W' = .ok (.round lp fn tmps assign body) W' ∧ RoundIn Fence.wide 0 Tryz.prog lp fn tmps assign body W' fun e W3 =>
              e = .returned (.bool true) ∧ J (k + 1) W3 ∧ ∀ i, LaidX n₀ b i → W3.heap[i]? = W.heap[i]? := by
            intro W' hd'
            obtain ⟨q, rfl⟩ := hd.trans hd'
            obtain ⟨fn, tmps, assign, body, hy, hR1⟩ := hR k _ hkl (hJ k _ _ hJk ⟨none, only_drewN (World.grownBy.refl _ _) q, fun r e => by cases e⟩)
            rw [elR_at HT.out] at hy
            exact ⟨fn, tmps, assign, body, by rw [show (p : Int) + (j : Int) - (p : Int) = (j : Int) by omega]; exact hy, hR1.mono fun e W3 ⟨h1, h2, h3⟩ => ⟨h1, h2, fun i hi => (h3 i hi).trans (hX i hi)⟩⟩
          have FIN := Lib.hid fin
          clear fin
          rcases Nat.lt_or_ge (p + j) n with hlt | hge
          · obtain ⟨y, hy0, hcj0⟩ := HCE.out hlt
            have hcj : wr.cell? (ad.add (p + j)) = some (.int .i64 y) := by obtain ⟨q, rfl⟩ := hd; exact hcj0
            clear hcj0
            have g1 : decide ((p : Int) + (j : Int) < (n : Int)) = true := by simp; omega
            have g2 : (y == z) = false := by simp [hy0]
            clear hjl hjm
            gi_wp2
            refine wpIn_wide.2 ?_
            go_quiet (fail)
            obtain ⟨fn, tmps, assign, body, hy, hR1⟩ := FIN.out _ (Drawn.one wr nq)
            gi_wp2
            refine hR1.mono ?_
            rintro e W3 ⟨rfl, hJ3, hX3⟩
            gi_wp2
            go_roundw
            case rel => exact ⟨k + 1, p + j, by omega, Lib.hid HS.out.symm, by go_num, hJ3, hX3⟩
            case measure => simp [intOf]; omega
          · obtain rfl : n = p + j := by omega
            have g1 : decide ((p : Int) + (j : Int) < ((p + j : Nat) : Int)) = false := by simp
            clear hjl hjm hge
            gi_wp2
            refine wpIn_wide.2 ?_
            go_quiet (fail)
            obtain ⟨fn, tmps, assign, body, hy, hR1⟩ := FIN.out _ (Drawn.one wr nq)
            gi_wp2
            refine hR1.mono ?_
            rintro e W3 ⟨rfl, hJ3, hX3⟩
            gi_wp2
            go_roundw
            case rel => exact ⟨k + 1, p + j, by omega, Lib.hid HS.out.symm, by go_num, hJ3, hX3⟩
            case measure => simp [intOf]; omega
    · obtain rfl : k = rc l := by omega
      obtain rfl : p = n := hp.out.trans HPA.out
      clear hp
      gi_wp2
      go_end0
      exact ⟨⟨_, rfl⟩, hJk, trivial⟩
end Go.Proofs.YtpgdlmnhomnblaaGreatDoor
namespace Go.Proofs.YtpgdlmnhomnblaaGreatDoor
open Go.RowKit
set_option linter.unusedVariables false
set_option linter.unusedSimpArgs false
set_option maxRecDepth 100000
theorem own_kept {w w' : World} {base : Nat} {e : TypeId} {size n : Nat} {v : Value} {xs : List Value} {row : Option Nat} (h : w.ownsRow base e size v n xs) (hg : w.grownBy w' row)
    (hr : ∀ r, row = some r → ∃ o : Obj, w.heap[r]? = some o ∧ o.isCells = false) : w'.ownsRow base e size v n xs := by
  refine ⟨h.1, ?_⟩
  rcases h.2 with hn | ⟨g, cap, cur, rfl, h1, hgc, rest⟩
  · exact .inl hn
  · refine .inr ⟨g, cap, cur, rfl, h1, (hg.block g (Array.getElem?_eq_some_iff.1 hgc).1 (fun e => ?_)).trans hgc, rest⟩
    obtain ⟨o, ho, hc⟩ := hr g e.symm
    rw [hgc] at ho
    injection ho with ho
    subst ho
    cases hc
theorem own_before {w w' : World} {base : Nat} {e : TypeId} {size n : Nat} {v : Value} {xs : List Value} {row : Option Nat} (h : w.ownsRow base e size v n xs) (hg : w.grownBy w' row)
    (hr : ∀ r, row = some r → r < base) : w'.ownsRow base e size v n xs := by
  refine ⟨h.1, ?_⟩
  rcases h.2 with hn | ⟨g, cap, cur, rfl, h1, hgc, rest⟩
  · exact .inl hn
  · exact .inr ⟨g, cap, cur, rfl, h1, (hg.block g (Array.getElem?_eq_some_iff.1 hgc).1 (fun e => by have := hr g e.symm; omega)).trans hgc, rest⟩
theorem own_cells {w : World} {base : Nat} {e : TypeId} {size n : Nat} {v : Value} {xs : List Value} (h : w.ownsRow base e size v n xs) {g : Nat} (hg : v.ownBlock = some g) : base ≤ g ∧ ∀ o : Obj, w.heap[g]? = some o → o.isCells = true := by
  refine ⟨(h.lt g hg).1, fun o ho => ?_⟩
  rcases h.2 with ⟨rfl, _⟩ | ⟨g', cap, cur, rfl, h1, hgc, rest⟩
  · cases hg
  · have : g' = g := by simpa [Value.ownBlock] using hg
    subst this
    rw [hgc] at ho
    injection ho with ho
    subst ho
    rfl
end Go.Proofs.YtpgdlmnhomnblaaGreatDoor
