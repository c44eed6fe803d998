/- Contracts of package runs' laid: what it answers, and the rounds that its answer gives: run by run. -/
import Derived.Test.YtlonaeonndjmmaaDoorRnPlain
import Derived.Test.YtlonaeonndjmmaaDoorRound
import Derived.Test.YtlonaeonndjmmaaDoorInts
import Derived.Test.YtlonaeonndjmmaaDoorMem
namespace Go.Proofs.YtlonaeonndjmmaaDoor
open Go.RowKit
set_option linter.unusedVariables false
set_option linter.unusedSimpArgs false
set_option maxRecDepth 100000
attribute [local go_sem] Oper.semAt_some

theorem laid_any (A : Option Addr) (n c : Nat) (w : World) : Calls Tryd.prog 18 #[.slice A n c] w fun e w' =>
    e = .returned (.func (.func 30) #[] #[.pointer (some ⟨w.heap.size, 0, none⟩)]) ∧ w' = w.alloc (.cells #[.slice A n c] 24) := by
  go_enter Tryd.func18, Tryd.ntmps18
  go_wp2_with fail
  go_ret
  exact ⟨rfl, rfl⟩

/-- The values of a round. -/
def elR (l : List Int) (k : Nat) : Array Value := #[.int .i64 ((runs l)[k]?.getD (0, 0)).1, .int .i64 (((runs l)[k]?.getD (0, 0)).2 : Int)]
theorem elR_at {l : List Int} {k : Nat} {x : Int} {n : Nat} (h : (runs l)[k]? = some (x, n)) : elR l k = #[.int .i64 x, .int .i64 (n : Int)] := by unfold elR; rw [h]; rfl
/-- What the iterator leans on. -/
def LaidX (n₀ b : Nat) (k : Nat) : Prop := k < n₀ ∨ k = b
theorem kept_cell {X : Nat → Prop} {a w : World} (h : ∀ k, X k → w.heap[k]? = a.heap[k]?) {p : Addr} (hp : X p.block) : w.cell? p = a.cell? p := World.cell?_of_block (h _ hp)

set_option maxHeartbeats 2000000 in
theorem laid1_gives (A : Option Addr) (n c n₀ b : Nat) (l : List Int) (w : World) (hb : w.cell? ⟨b, 0, none⟩ = some (.slice A n c)) (hbl : b < w.heap.size) (hn0 : n₀ ≤ w.heap.size) (hr : Reads w n₀ 1 A n (zs l)) (hn : n ≤ 17592186044416) :
    Gives Tryd.prog 30 #[.pointer (some ⟨b, 0, none⟩)] (rc l) (elR l) (LaidX n₀ b) (fun _ => False) (fun _ => True) w := by
  intro lp J W hW hJ hR h0
  have e1 : l.length = n := by have := hr.1; rw [zs_length] at this; omega
  have hb1 : W.cell? ⟨b, 0, none⟩ = some (.slice A n c) := (hW.cell (p := ⟨b, 0, none⟩) hbl).trans hb
  have hr1 := hr.keep (w' := W) (fun p hp => hW.cell (by omega))
  have E1 := Lib.hid e1
  have hpa := pos_all l
  rw [e1] at hpa
  have HPA := Lib.hid hpa
  clear hpa e1 hb hr hW
  refine (callsIn_wide (n := 1)).1 ?_
  refine callsIn_of_wp Tryd.func30 rfl trivial ?_ rfl
  simp only [Tryd.ntmps30, List.size_toArray, List.length_cons, List.length_nil, Nat.reduceAdd, Nat.reduceSub, Array.replicate_succ, Array.replicate_zero, List.push_toArray, List.append_toArray, List.nil_append, List.cons_append]
  gi_wp2
  gi_loopw [3] (fun i wr => ∃ k p : Nat, k ≤ rc l ∧ Hid (p = pos (runs l) k) ∧ i = .int .i64 (p : Int) ∧ J k wr ∧ ∀ i, LaidX n₀ b i → wr.heap[i]? = W.heap[i]?) (fun i _ => n - (intOf i).toNat)
  case atStart => exact ⟨0, 0, by omega, Lib.hid rfl, rfl, h0, fun _ _ => rfl⟩
  case round =>
    obtain ⟨k, p, hk, hp, rfl, hJk, hX⟩ := hrel
    have hbx : wr.cell? ⟨b, 0, none⟩ = some (.slice A n c) := (kept_cell hX (p := ⟨b, 0, none⟩) (.inr rfl)).trans hb1
    have hrx : Reads wr n₀ 1 A n (zs l) := hr1.keep (fun p hp => kept_cell hX (.inl hp))
    by_cases hkl : k < rc l
    · obtain ⟨x, m, hat⟩ : ∃ x m, (runs l)[k]? = some (x, m) := ⟨_, _, List.getElem?_eq_getElem hkl⟩
      obtain ⟨hm0, hle, hall, hend⟩ := run_at hat
      have hps := pos_succ hat
      rw [← hp.out] at hle hall hend hps
      rw [E1.out] at hle
      obtain ⟨ad, u, rfl, _, hu, hc0⟩ := hrx.at_ (k := p) (by omega)
      obtain ⟨z, hz, rfl⟩ := zs_at hu
      obtain rfl : z = x := by
        have := hall 0 hm0
        rw [Nat.add_zero, hz] at this
        injection this
      have hcs : ∀ j, j < m → wr.cell? (ad.add (p + j)) = some (.int .i64 z) := by
        intro j hj
        obtain ⟨ad', u, e, _, hu, hc⟩ := hrx.at_ (k := p + j) (by omega)
        injection e with e
        subst e
        obtain ⟨y, hy, rfl⟩ := zs_at hu
        rw [hall j hj] at hy
        injection hy with hy
        subst hy
        exact hc
      have hce : p + m < n → ∃ y, y ≠ z ∧ wr.cell? (ad.add (p + m)) = some (.int .i64 y) := by
        intro hlt
        obtain ⟨ad', u, e, _, hu, hc⟩ := hrx.at_ (k := p + m) hlt
        injection e with e
        subst e
        obtain ⟨y, hy, rfl⟩ := zs_at hu
        exact ⟨y, hend y hy, hc⟩
      have HS := Lib.hid hps; have HT := Lib.hid hat; have HCS := Lib.hid hcs; have HCE := Lib.hid hce
      clear hps hall hend hat hu hz hrx hcs hce
      have hmx : Tryd.prog.follows .mixedOrders = true := by kernel_rfl
      gi_wp2
      gi_loopw [4] (fun t wi => ∃ j : Nat, 1 ≤ j ∧ j ≤ m ∧ t = .int .i64 ((p + j : Nat) : Int) ∧ Drawn wr wi) (fun t _ => n - (intOf t).toNat)
      case atStart => exact ⟨1, by omega, by omega, by go_num, Drawn.refl _⟩
      case round =>
        obtain ⟨j, hj1, hjm, rfl, hd⟩ := hrel
        have hbd : wr.cell? ⟨b, 0, none⟩ = some (.slice (some ad) n c) := by obtain ⟨q, rfl⟩ := hd; exact hbx
        have hcd : wr.cell? (ad.add p) = some (.int .i64 z) := by obtain ⟨q, rfl⟩ := hd; exact hc0
        by_cases hjl : j < m
        · have hcj : wr.cell? (ad.add (p + j)) = some (.int .i64 z) := by
            obtain ⟨q, rfl⟩ := hd
            exact HCS.out j hjl
          have g1 : decide ((p : Int) + (j : Int) < (n : Int)) = true := by simp; omega
          gi_wp2
          refine wpIn_wide.2 ?_
          go_quiet (fail)
          gi_wp2
          go_roundw
          case rel => exact ⟨j + 1, by omega, by omega, by go_num, hd.trans (Drawn.one _ _)⟩
          case measure => simp [intOf]; omega
        · obtain rfl : j = m := by omega
          have fin : ∀ W', Drawn wr W' → ∃ fn tmps assign body, (Instr.yield lp #[.int .i64 z, .int .i64 ((p : Int) + (j : Int) - (p : Int))]).run Tryd.prog W' = .ok (.round lp fn tmps assign body) W' ∧ RoundIn Fence.wide 0 Tryd.prog lp fn tmps assign body W' fun e W3 =>
              e = .returned (.bool true) ∧ J (k + 1) W3 ∧ ∀ i, LaidX n₀ b i → W3.heap[i]? = W.heap[i]? := by
            intro W' hd'
            obtain ⟨q, rfl⟩ := hd.trans hd'
            obtain ⟨fn, tmps, assign, body, hy, hR1⟩ := hR k _ hkl (hJ k _ _ hJk ⟨none, only_drewN (World.grownBy.refl _ _) q, fun r e => by cases e⟩)
            rw [elR_at HT.out] at hy
            exact ⟨fn, tmps, assign, body, by rw [show (p : Int) + (j : Int) - (p : Int) = (j : Int) by omega]; exact hy, hR1.mono fun e W3 ⟨h1, h2, h3⟩ => ⟨h1, h2, fun i hi => (h3 i hi).trans (hX i hi)⟩⟩
          have FIN := Lib.hid fin
          clear fin
          rcases Nat.lt_or_ge (p + j) n with hlt | hge
          · obtain ⟨y, hy0, hcj0⟩ := HCE.out hlt
            have hcj : wr.cell? (ad.add (p + j)) = some (.int .i64 y) := by obtain ⟨q, rfl⟩ := hd; exact hcj0
            clear hcj0
            have g1 : decide ((p : Int) + (j : Int) < (n : Int)) = true := by simp; omega
            have g2 : (y == z) = false := by simp [hy0]
            clear hjl hjm
            gi_wp2
            refine wpIn_wide.2 ?_
            go_quiet (fail)
            obtain ⟨fn, tmps, assign, body, hy, hR1⟩ := FIN.out _ (Drawn.one wr nq)
            gi_wp2
            refine hR1.mono ?_
            rintro e W3 ⟨rfl, hJ3, hX3⟩
            gi_wp2
            go_roundw
            case rel => exact ⟨k + 1, p + j, by omega, Lib.hid HS.out.symm, by go_num, hJ3, hX3⟩
            case measure => simp [intOf]; omega
          · obtain rfl : n = p + j := by omega
            have g1 : decide ((p : Int) + (j : Int) < ((p + j : Nat) : Int)) = false := by simp
            clear hjl hjm hge
            gi_wp2
            refine wpIn_wide.2 ?_
            go_quiet (fail)
            obtain ⟨fn, tmps, assign, body, hy, hR1⟩ := FIN.out _ (Drawn.one wr nq)
            gi_wp2
            refine hR1.mono ?_
            rintro e W3 ⟨rfl, hJ3, hX3⟩
            gi_wp2
            go_roundw
            case rel => exact ⟨k + 1, p + j, by omega, Lib.hid HS.out.symm, by go_num, hJ3, hX3⟩
            case measure => simp [intOf]; omega
    · obtain rfl : k = rc l := by omega
      obtain rfl : p = n := hp.out.trans HPA.out
      clear hp
      gi_wp2
      go_end0
      exact ⟨⟨_, rfl⟩, hJk, trivial⟩
end Go.Proofs.YtlonaeonndjmmaaDoor
