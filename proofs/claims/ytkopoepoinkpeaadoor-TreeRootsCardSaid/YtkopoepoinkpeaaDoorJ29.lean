/- Texts joined: TrRange Opened. -/
import Derived.WalkKit
import Derived.Deep.MidRow
import Derived.Test.YtkopoepoinkpeaaDoorRound2
import Derived.Test.YtkopoepoinkpeaaDoorJ2
import Derived.Test.YtkopoepoinkpeaaDoorTrEq
/- A range over the library's slices.Backward over digests, where the body writes the very row that is gone through: what the iterator reads is told by what the caller keeps. -/
namespace Go.Proofs.YtkopoepoinkpeaaDoor
open Go.RowKit
set_option linter.unusedVariables false
set_option linter.unusedSimpArgs false
set_option maxRecDepth 100000
attribute [local go_sem] Oper.semAt_some wide_fn wide_depth

section
variable {P : Program}
/-- As Gives2, but what the iterator reads beside its own is told, round by round, by the caller's word. -/
def GivesQ (P : Program) (gf : Nat) (lb : Array Value) (N : Nat) (el : Nat → Array Value) (X : Nat → Prop) (F : Nat → World → Prop) (w : World) : Prop :=
  ∀ (l : Nat) (J : Nat → (Nat → Prop) → World → Prop) (C : Nat → Prop) (W : World), Below w.heap.size w W → Abide2 J → (∀ k C A, k < N → J k C A → F k A) → There J → Rounds2 P l N el X J → J 0 C W →
    Calls P gf (#[.func (.yield l) #[] #[]] ++ lb) W fun e W' => (∃ v, e = .returned v) ∧ ∃ C', J N C' W'
theorem range_givesQ {nd : Nat} {g : Operand} {ps : Array Tmp} {assign body : Code} {Q : Exit → Act → World → Prop} {a : Act} {w : World} {gf : Nat} {lb : Array Value}
    (hg : a.eval g = .func (.func gf) #[] lb) (eg : ∀ args w, (callFunc gf args).run P w = .ok (.enter gf args) w)
    {N : Nat} {el : Nat → Array Value} {X : Nat → Prop} {F : Nat → World → Prop} (hseq : GivesQ P gf lb N el X F w)
    (hX : ∀ k, X k → k < w.heap.size) (hps : ∀ k, (el k).size = ps.size)
    (I : Nat → (Nat → Prop) → World → Prop) (a₁ : Nat → Act) (C₀ : Nat → Prop) (h0 : I 0 C₀ w)
    (hI : Abide2 I) (hF : ∀ k C W, k < N → I k C W → F k W) (hIt : There I) (hIC : ∀ k C W, I k C W → ¬ C w.heap.size ∧ ¬ C (w.heap.size + 1))
    (hassign : ∀ (l k : Nat) (W : World) (K : Act → World → Prop), K (a₁ k) W →
      assign.wpIn (Fence.wide.inRound l) 0 P (Exit.then K (fun _ _ _ => False)) { tmps := (ps.zip (el k)).foldl (fun t (p, v) => t.setIfInBounds p v) a.tmps, defers := [] } W)
    (hbody : ∀ (l k : Nat) (C : Nat → Prop) (W : World), k < N → w.heap.size + 2 ≤ W.heap.size → I k C W → body.wpIn (Fence.wide.inRound l) 0 P (fun e _ W' => e = .normal ∧ After X (I (k + 1)) C W W') (a₁ k) W)
    (hdone : ∀ (D : Nat) (C : Nat → Prop) (W : World), D = w.heap.size → I N C W → W.heap[D]? = some (.deferred (some [])) → Q .normal { a with defers := { target := .collected D, args := #[] } :: a.defers } W) :
    (Code.rangeFunc g ps assign body).wpIn Fence.wide nd P Q a w := by
  refine wpIn_rangeFunc fun fn _ => ?_
  have u0 := under_new w (recOf fn a ps assign body w.heap.size .ready)
  have b0 : Below w.heap.size w ((w.alloc (.deferred (some []))).alloc (.loop (recOf fn a ps assign body w.heap.size .ready))) := ((Below.refl _ w).alloc (Nat.le_refl _) _).alloc (by simp) _
  have i0 := hI _ _ _ _ h0 ((KeptOn.alloc w (.deferred (some []))).trans (KeptOn.alloc _ (.loop (recOf fn a ps assign body w.heap.size .ready))))
  have hen := run_enterLoop_outer (P := P) (w := w) fn a.tmps ps assign body
  change _ = Result.ok _ ((w.alloc (.deferred (some []))).alloc (.loop (recOf fn a ps assign body w.heap.size .ready))) at hen
  generalize (w.alloc (.deferred (some []))).alloc (.loop (recOf fn a ps assign body w.heap.size .ready)) = W1 at u0 b0 i0 hen
  have hcall := hseq (w.heap.size + 1) (fun k C W => ∃ C₁, C = (fun j => C₁ j ∨ j = w.heap.size ∨ j = w.heap.size + 1) ∧ I k C₁ W ∧ Under w.heap.size (recOf fn a ps assign body w.heap.size .ready) W) _ _ b0
    (by
      rintro k C A B ⟨C₁, rfl, hi, u⟩ hk
      have ul := u.lt
      exact ⟨C₁, rfl, hI k C₁ A B hi (hk.mono fun j _ h => .inl h), ⟨(hk.block _ (by omega) (.inr (.inl rfl))).trans u.mark, (hk.block _ ul (.inr (.inr rfl))).trans u.record⟩⟩)
    (by
      rintro k C A hk ⟨C₁, rfl, hi, u⟩
      exact hF k C₁ A hk hi)
    (by
      rintro k C A ⟨C₁, rfl, hi, u⟩ j hj
      have ul := u.lt
      rcases hj with h | h | h
      · exact hIt k C₁ A hi j h
      · omega
      · omega)
    (by
      rintro k C W hk ⟨C₁, rfl, hi, u⟩
      obtain ⟨fn', tmps, asg, bd, hy, hR⟩ := round_gives2 (hps k) (hI k) (hI (k + 1)) hX (hIC k C₁ W hi) u hi (hassign _ k W) (fun W2 hs hi => hbody _ k C₁ W2 hk hs hi)
      refine ⟨fn', tmps, asg, bd, hy, hR.mono ?_⟩
      rintro e W' ⟨he, ⟨C', h1, h2⟩, hu, hs, hb⟩
      refine ⟨he, ⟨⟨_, ⟨C', rfl, h1, hu⟩, fun j hj => ?_⟩, hs, fun i hi2 hx => ?_⟩⟩
      · rcases hj with h | h
        · rcases h2 j h with h | h
          · exact .inl (.inl h)
          · exact .inr h
        · exact .inl (.inr h)
      · exact hb i hi2 (hx.imp id fun h => ⟨fun hc => h (.inl hc), fun e => h (.inr (.inr e))⟩))
    ⟨C₀, rfl, i0, u0⟩
  refine ⟨_, _, _, { target := .fn (.func gf) lb, args := #[.func (.yield (w.heap.size + 1)) #[] #[]] }, W1, gf, _, _, hen, ?_, fun _ _ => trivial, ?_, fun h => (by cases h), callsIn_wide.2 (hcall.mono ?_)⟩
  · simp only [resolve, hg]; simp [go_sem]
  · simp [invoke, go_sem, eg]
  · rintro e W2 ⟨⟨v, rfl⟩, C', C₁, rfl, hi, u⟩
    refine ⟨none, _, run_endLoop (P := P) u.record (by intro h; cases h), hdone _ C₁ _ rfl (hI _ _ _ _ hi (.putObj W2 (hIC _ _ _ hi).2 _)) (u.turn _).mark⟩
theorem wpListIn_loadX {F : Fence} {nF : Nat} {ops : Array Oper} {rest : List Oper} {op : Oper} {a : Act} {w : World} {Q : Exit → Act → World → Prop} (hgd : op.guard = none) (ty : TypeId) (x : Operand) (ho : op.op = .load ty x)
    (b o : Nat) (hx : a.eval x = .pointer (some ⟨b, o, none⟩)) (cs : List Value) (X : Array Value) (hX : cs.toArray = X) (d : TypeDesc) (hc : w.rangeAt b o cs)
    (hu : P.underlying ty = some d) (hd : d.isRow = true) (hi : (P.info? ty).map (·.size) = some cs.length)
    (h : wpListIn F nF P ops Q rest (a.put op.dst (.agg X)) w) : wpListIn F nF P ops Q (op :: rest) a w := by
  subst hX
  refine wpListIn_plain hgd fun K' hK' => ?_
  unfold Oper.wpIn
  refine ⟨by simp [Oper.about, ho], ?_⟩
  rw [Oper.semAt_eq _ _ _ (by rw [ho]; intro c hc'; cases hc')]
  unfold execOp
  simp only [ho, hx, Instr.loadAt, Instr.sureAddr, Sem.run_bind, Sem.run_pure, Result.andThen_ok, run_loadVar_mid w b o ty cs d hc hu hd hi]
  exact hK' _ _ h
end
theorem leansH_lt {a w : World} {j : Nat} (h : w.heap[j]? = a.heap[j]?) (hj : j < a.heap.size) : j < w.heap.size := by
  rw [Array.getElem?_eq_getElem hj] at h
  exact (Array.getElem?_eq_some_iff.1 h).1
theorem backH_any (A : Option Addr) (n c : Nat) (w : World) : Calls Tryd.prog 28 #[.slice A n c] w fun e w' =>
    e = .returned (.func (.func 39) #[] #[.pointer (some ⟨w.heap.size, 0, none⟩)]) ∧ w' = w.alloc (.cells #[.slice A n c] 25) := by
  go_enter Tryd.func28, Tryd.ntmps28
  go_wp2_with fail
  go_ret
  exact ⟨rfl, rfl⟩
set_option maxHeartbeats 2000000 in
theorem backH_gives (q n c b : Nat) (zs : List Value) (Z : Array Value) (w : World) (hZ : zs.toArray = Z) (hzl : zs.length = 32) (hb : w.cell? ⟨b, 0, none⟩ = some (.slice (some ⟨q, 0, none⟩) n c)) (hbl : b < w.heap.size) (hn : n ≤ 17592186044416) :
    GivesQ Tryd.prog 39 #[.pointer (some ⟨b, 0, none⟩)] n (fun k => #[.int .i64 ((n - 1 - k : Nat) : Int), .agg Z]) (fun j => j = b) (fun k W => W.rangeAt q ((n - 1 - k) * 32) zs) w := by
  intro lp J C₀ W hW hJ hF hJt hR h0
  have hb1 : W.cell? ⟨b, 0, none⟩ = some (.slice (some ⟨q, 0, none⟩) n c) := (hW.cell (p := ⟨b, 0, none⟩) hbl).trans hb
  have hbW : b < W.heap.size := by have := hW.size; omega
  have HI : (Tryd.prog.info? 31).map (·.size) = some zs.length := by rw [hzl]; exact (zero_of_info info_hash).2
  have HIZ := Lib.hid HI; have HZ := Lib.hid hZ
  clear hb hW HI hZ
  refine (callsIn_wide (n := 1)).1 ?_
  refine callsIn_of_wp Tryd.func39 rfl trivial ?_ rfl
  simp only [Tryd.ntmps39, List.size_toArray, List.length_cons, List.length_nil, Nat.reduceAdd, Nat.reduceSub, Array.replicate_succ, Array.replicate_zero, List.push_toArray, List.append_toArray, List.nil_append, List.cons_append]
  gi_wp2
  gi_loopw [3] (fun i wr => ∃ (k : Nat) (C : Nat → Prop), k ≤ n ∧ i = .int .i64 ((n : Int) - 1 - (k : Int)) ∧ J k C wr ∧ wr.heap[b]? = W.heap[b]?) (fun i _ => (intOf i + 1).toNat)
  case atStart => exact ⟨0, C₀, Nat.zero_le _, by simp, h0, rfl⟩
  case round =>
    obtain ⟨k, C, hk, rfl, hJk, hX⟩ := hrel
    have hbx : wr.cell? ⟨b, 0, none⟩ = some (.slice (some ⟨q, 0, none⟩) n c) := (World.cell?_of_block (a := ⟨b, 0, none⟩) hX).trans hb1
    by_cases hkn : k < n
    · have hc := hF k C wr hkn hJk
      obtain ⟨fn, tmps, asg, bd, hy, hR1⟩ := hR k C wr hkn hJk
      obtain ⟨m, hm⟩ : ∃ m, n - 1 - k = m := ⟨_, rfl⟩
      simp only [hm] at hc hy
      have hmi : (n : Int) - 1 - (k : Int) = (m : Int) := by omega
      rw [hmi]
      have hmn : m < n := by omega
      have HM := Lib.hid hm; have HMI := Lib.hid hmi
      have hw1 : IntKind.i64.wrap ((m : Int) - 1) = (m : Int) - 1 := IntWalk.i64_in _ (by omega)
      have HC := Lib.hid hc
      clear hm hmi hc
      gi_wp2_with (refine wpListIn_loadX (by rfl) 31 (.tmp 15) rfl q (m * 32) (by first | rfl | simp [Act.eval]) zs Z HZ.out _ HC.out Tryd.underlying31 rfl HIZ.out ?_)
      refine hR1.mono ?_
      rintro e W3 ⟨rfl, ⟨C', hC', _⟩, _, hb3⟩
      have hX3 : W3.heap[b]? = W.heap[b]? := (hb3 b (leansH_lt hX hbW) (.inl rfl)).trans hX
      gi_wp2
      go_roundw
      case rel => exact ⟨k + 1, C', by omega, by have := HMI.out; congr 1; omega, hC', hX3⟩
      case measure => first | (simp [intOf]; done) | (simp [intOf]; omega)
    · obtain rfl : k = n := by omega
      gi_wp2
      go_end0
      exact ⟨⟨_, rfl⟩, _, hJk⟩
end Go.Proofs.YtkopoepoinkpeaaDoor

/- What a function answers that hands out new bytes, opened; what reads goes on reading. -/
namespace Go.Proofs.YtkopoepoinkpeaaDoor
open Go.RowKit
set_option linter.unusedVariables false
set_option linter.unusedSimpArgs false
set_option maxRecDepth 100000

theorem New.opened {w w' : World} {xs : List Value} {n : Nat} {e : Ending} (h : New w xs n e w') : ∃ A c, e = .returned (.slice A n c) ∧ n ≤ c ∧ Reads w' w'.heap.size 1 A n xs ∧ Below w.heap.size w w' := by
  obtain ⟨v, rfl, hown, hb⟩ := h
  obtain ⟨A, c, rfl, hc, _, hr⟩ := own_slice hown
  exact ⟨A, c, rfl, hc, hr, hb⟩
theorem Reads.next {w w' : World} {size n : Nat} {A : Option Addr} {xs : List Value} (h : Reads w w.heap.size size A n xs) (hb : Below w.heap.size w w') : Reads w' w'.heap.size size A n xs :=
  (h.below hb).more hb.size
end Go.Proofs.YtkopoepoinkpeaaDoor
