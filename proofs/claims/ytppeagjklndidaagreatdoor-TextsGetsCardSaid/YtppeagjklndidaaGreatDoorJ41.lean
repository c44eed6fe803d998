/- Texts joined: RefRd RfFar RefLook. -/
import Derived.Deep.RegionWith
import Derived.StillTailTactics
import Derived.Test.YtppeagjklndidaaGreatDoorJ6
import Derived.Test.YtppeagjklndidaaGreatDoorJ21
/- The document's own reader: its block; contract of its Fail. -/
namespace Go.Proofs.YtppeagjklndidaaGreatDoor
open Go.RowKit
set_option linter.unusedVariables false
set_option linter.unusedSimpArgs false
set_option maxRecDepth 100000

/-- The document's reader in block 'g': its bytes (below that block), its place, its error's number and place. -/
structure Rf (w : World) (g : Nat) (A : Option Addr) (n c at_ : Nat) (k : Int) (on : Nat) (l : List Nat) : Prop where
  blk : Blk w g 45 #[.slice A n c, .int .i64 (at_ : Int), .int .i64 k, .int .i64 (on : Int)]
  reads : Reads w g 1 A n (bs l)
  cap : n ≤ c
  place : at_ ≤ n
  size : n ≤ 140737488355328
  byte : ∀ b ∈ l, b < 256
/-- An error's number isn't 0. -/
def XOk (x : Option (Int × Nat)) : Prop := ∀ y, x = some y → y.1 ≠ 0
def RfS (w : World) (g : Nat) (l : List Nat) (at_ : Nat) (x : Option (Int × Nat)) : Prop := (∃ A n c, Rf w g A n c at_ (errS x).1 (errS x).2 l) ∧ XOk x
theorem Rf.length {w : World} {g : Nat} {A : Option Addr} {n c at_ : Nat} {k : Int} {on : Nat} {l : List Nat} (h : Rf w g A n c at_ k on l) : l.length = n := by
  have := h.reads.1; rw [bs_length] at this; omega
theorem Rf.below {w w' : World} {g : Nat} {A : Option Addr} {n c at_ : Nat} {k : Int} {on : Nat} {l : List Nat} {B : Nat} (h : Rf w g A n c at_ k on l) (hb : Below B w w') (hg : g < B) : Rf w' g A n c at_ k on l :=
  ⟨h.blk.below hb hg, ⟨h.reads.1, fun hn => by
    obtain ⟨ad, e, hlt, hc⟩ := h.reads.2 hn
    exact ⟨ad, e, hlt, fun j u hu => (hb.cell (by rw [block_of_add]; omega)).trans (hc j u hu)⟩⟩, h.cap, h.place, h.size, h.byte⟩
theorem RfS.lt {w : World} {g : Nat} {l : List Nat} {at_ : Nat} {x : Option (Int × Nat)} (h : RfS w g l at_ x) : g < w.heap.size := by
  obtain ⟨⟨A, n, c, hR⟩, _⟩ := h
  exact hR.blk.lt
theorem RfS.next {w w' : World} {g : Nat} {l : List Nat} {at_ : Nat} {x : Option (Int × Nat)} (h : RfS w g l at_ x) (hb : Below w.heap.size w w') : RfS w' g l at_ x := by
  have hg := h.lt
  obtain ⟨⟨A, n, c, hR⟩, hx⟩ := h
  exact ⟨⟨A, n, c, hR.below hb hg⟩, hx⟩
theorem RfS.place {w : World} {g : Nat} {l : List Nat} {at_ : Nat} {x : Option (Int × Nat)} (h : RfS w g l at_ x) : at_ ≤ l.length ∧ l.length ≤ 140737488355328 := by
  obtain ⟨⟨A, n, c, hR⟩, _⟩ := h
  have := hR.length; have := hR.place; have := hR.size
  omega
def RfTo (w : World) (g : Nat) (l : List Nat) (at_ : Nat) (x : Option (Int × Nat)) (w' : World) : Prop := RfS w' g l at_ x ∧ w.grownBy w' (some g)
theorem RfTo.same {w w' : World} {g : Nat} {l : List Nat} {at_ : Nat} {x : Option (Int × Nat)} (h : RfS w g l at_ x) (hd : Drawn w w') : RfTo w g l at_ x w' := by
  have hb := hd.below (Below.refl w.heap.size w)
  exact ⟨h.next hb, only_below (World.grownBy.refl w _) hb⟩
theorem Rf.set {w w1 : World} {g : Nat} {A : Option Addr} {n c at_ : Nat} {k : Int} {on : Nat} {l : List Nat} (h : Rf w g A n c at_ k on l) (hb : Below w.heap.size w w1) (i : Nat) (u : Value) (at' : Nat) (k' : Int) (on' : Nat) (hat : at' ≤ n)
    (hcs : (#[Value.slice A n c, .int .i64 (at_ : Int), .int .i64 k, .int .i64 (on : Int)] : Array Value).setIfInBounds i u = #[Value.slice A n c, .int .i64 (at' : Int), .int .i64 k', .int .i64 (on' : Int)]) :
    Rf (w1.setCell ⟨g, i, none⟩ u) g A n c at' k' on' l ∧ w.grownBy (w1.setCell ⟨g, i, none⟩ u) (some g) := by
  have h1 := h.below hb h.blk.lt
  refine ⟨⟨?_, h1.reads.setCell (p := ⟨g, i, none⟩) (Nat.le_refl _) _, h.cap, hat, h.size, h.byte⟩, only_setCell (only_below (World.grownBy.refl w _) hb) (.inl rfl) _⟩
  have := h1.blk.set_ i u
  rwa [hcs] at this

theorem rfail_is {w : World} {g : Nat} {l : List Nat} {at_ : Nat} {x : Option (Int × Nat)} (k : Int) (h : RfS w g l at_ x) :
    Calls Tryz.prog 39 #[.pointer (some ⟨g, 0, none⟩), .int .i64 k] w fun e w' => e = .returned (.tuple #[]) ∧ RfTo w g l at_ (failS at_ x k) w' := by
  have h0 := h
  obtain ⟨⟨A, n, c, hR⟩, hX⟩ := h
  have hc1 := hR.blk.cell 1
  have hc2 := hR.blk.cell 2
  have hc3 := hR.blk.cell 3
  have hz2 := hR.blk.frozen 2
  have hz3 := hR.blk.frozen 3
  simp only [List.getElem?_toArray, List.getElem?_cons_succ, List.getElem?_cons_zero] at hc1 hc2 hc3
  cases x with
  | some x =>
    obtain ⟨k0, on⟩ := x
    have hk0 : (k0 == 0) = false := by have := hX _ rfl; simp at this; simp [this]
    have hc2' : w.cell? ⟨g, 2, none⟩ = some (.int .i64 k0) := hc2
    clear hc2 hc3
    go_enter Tryz.func39, Tryz.ntmps39
    go_wp2_with fail
    go_end0
    exact ⟨rfl, RfTo.same h0 (Drawn.refl w)⟩
  | none =>
    have hc2' : w.cell? ⟨g, 2, none⟩ = some (.int .i64 0) := hc2
    have hc3' : w.cell? ⟨g, 3, none⟩ = some (.int .i64 0) := hc3
    clear hc2 hc3
    by_cases hk : k = 0
    · subst hk
      go_enter Tryz.func39, Tryz.ntmps39
      go_wp2_with fail
      go_end0
      exact ⟨rfl, RfTo.same h0 (Drawn.refl w)⟩
    · have hk1 : (k == 0) = false := by simp [hk]
      have hk2 : (k != 0) = true := by simp [hk]
      have hF : failS at_ none k = some (k, at_) := by unfold failS; simp [hk]
      rw [hF]
      clear hF
      go_enter Tryz.func39, Tryz.ntmps39
      go_wp2_with fail
      go_end0
      have s1 := hR.set (Below.refl w.heap.size w) 2 (.int .i64 k) at_ k 0 hR.place rfl
      have s2 := s1.1.set (Below.refl _ _) 3 (.int .i64 (at_ : Int)) at_ k at_ hR.place rfl
      exact ⟨rfl, ⟨⟨A, n, c, s2.1⟩, fun y hy => by injection hy with hy; subst hy; exact hk⟩, s1.2.trans s2.2⟩
end Go.Proofs.YtppeagjklndidaaGreatDoor

/- The document's reader stands while a row of the call's own, behind it, grows; a new one. -/
namespace Go.Proofs.YtppeagjklndidaaGreatDoor
open Go.RowKit
set_option linter.unusedVariables false
set_option linter.unusedSimpArgs false
set_option maxRecDepth 100000

theorem RfS.grown {w w' : World} {g : Nat} {l : List Nat} {at_ : Nat} {x : Option (Int × Nat)} (h : RfS w g l at_ x) {row : Option Nat} (hg : w.grownBy w' row) (hr : ∀ q, row = some q → g < q) : RfS w' g l at_ x := by
  obtain ⟨⟨A, n, c, hR⟩, hX⟩ := h
  have hlt := hR.blk.lt
  exact ⟨⟨A, n, c, hR.blk.grown hg (fun e => by have := hr g e.symm; omega), hR.reads.grown hg (Nat.le_of_lt hlt) (fun q hq => Nat.le_of_lt (hr q hq)), hR.cap, hR.place, hR.size, hR.byte⟩, hX⟩
theorem RfS.alloc {w : World} {g : Nat} {l : List Nat} {at_ : Nat} {x : Option (Int × Nat)} (h : RfS w g l at_ x) (o : Obj) : RfS (w.alloc o) g l at_ x :=
  h.next ((Below.refl _ _).alloc (Nat.le_refl _) _)
theorem rf_new {w : World} {A : Option Addr} {n c : Nat} {l : List Nat} (hr : Reads w w.heap.size 1 A n (bs l)) (hc : n ≤ c) (hn : n ≤ 140737488355328) (hb : ∀ b ∈ l, b < 256) :
    RfS (w.alloc (.cells #[.slice A n c, .int .i64 0, .int .i64 0, .int .i64 0] 45)) w.heap.size l 0 none :=
  ⟨⟨A, n, c, ⟨Blk.new w _ _, hr.alloc (Nat.le_refl _) _, hc, Nat.zero_le _, hn, hb⟩⟩, fun y h => by cases h⟩
/-- The error's number as the reader's cell has it. -/
theorem RfS.cellE {w : World} {g : Nat} {l : List Nat} {at_ : Nat} {x : Option (Int × Nat)} (h : RfS w g l at_ x) : w.cell? ⟨g, 2, none⟩ = some (.int .i64 (errS x).1) := by
  obtain ⟨⟨A, n, c, hR⟩, _⟩ := h
  rw [hR.blk.cell]; rfl
theorem RfS.cell1 {w : World} {g : Nat} {l : List Nat} {at_ : Nat} {x : Option (Int × Nat)} (h : RfS w g l at_ x) : w.cell? ⟨g, 1, none⟩ = some (.int .i64 (at_ : Int)) := by
  obtain ⟨⟨A, n, c, hR⟩, _⟩ := h
  rw [hR.blk.cell]; rfl
end Go.Proofs.YtppeagjklndidaaGreatDoor

/- The document's own answer for a short number, byte by byte. -/
namespace Go.Proofs.YtppeagjklndidaaGreatDoor
open Go.RowKit
set_option linter.unusedVariables false
set_option linter.unusedSimpArgs false
set_option maxRecDepth 100000

def lookT (r : Nat × Nat × Nat) : Value := .tuple #[.int .u64 (r.1 : Int), .int .i64 (r.2.1 : Int), .int .i64 (r.2.2 : Int)]
theorem mul_shl (b k q : Nat) (hq : q = 128 ^ k) : (b : Int) % 128 * (q : Int) = ((b % 128 * 128 ^ k : Nat) : Int) := by
  subst hq; push_cast; rfl
theorem pow_le128 (j : Nat) (h : j ≤ 8) : 128 ^ j ≤ 72057594037927936 := by
  have := Nat.pow_le_pow_right (show 0 < 128 by omega) h
  have e : (128 : Nat) ^ 8 = 72057594037927936 := by decide
  omega

set_option maxHeartbeats 4000000 in
theorem refLook_any {w : World} {B : Nat} {A : Option Addr} {n : Nat} {l : List Nat} (c : Nat) (hr : Reads w B 1 A n (bs l)) (hby : ∀ b ∈ l, b < 256) (hn : n ≤ 140737488355328) :
    Calls Tryz.prog 38 #[.slice A n c] w fun e w' => e = .returned (lookT (lookF 0 0 l)) ∧ w = w' := by
  have hl : l.length = n := by have := hr.1; rw [bs_length] at this; omega
  have Hl := Lib.hid hl
  clear hl
  go_enter Tryz.func38, Tryz.ntmps38
  go_wp2_with fail
  go_loop [5, 6] (fun v i => ∃ k acc : Nat, k ≤ n ∧ k ≤ 10 ∧ i = .int .i64 (k : Int) ∧ v = .int .u64 (acc : Int) ∧ Hid (acc < 128 ^ k) ∧ acc < 18446744073709551616 ∧ Hid (lookF 0 0 l = lookF k acc (l.drop k))) (fun _ i => n - (intOf i).toNat)
  case atStart => exact ⟨0, 0, by omega, by omega, rfl, rfl, Lib.hid (by omega), by omega, Lib.hid (by simp)⟩
  case round =>
    obtain ⟨k, acc, hk, hk10, rfl, rfl, hacc, hacc64, hpre⟩ := hrel
    by_cases hlt : k < n
    · obtain ⟨ad, u, rfl, _, hu, hc⟩ := hr.at_ hlt
      obtain ⟨b, hb, rfl⟩ := bs_at hu
      have hb256 := hby b (List.mem_of_getElem? hb)
      have hstep := look_step (acc := acc) hb
      rw [← hpre.out] at hstep
      have HS := Lib.hid hstep
      have HBY := Lib.hid hby
      clear hb hu hby hstep
      by_cases hF : (0 < k ∧ b = 0) ∨ (k = 9 ∧ 1 < b % 128) ∨ 9 < k
      · have hv := HS.out
        rw [if_pos hF] at hv
        have HV := Lib.hid hv
        clear hv HS
        by_cases p3 : 9 < k
        · have f0 : decide ((9 : Int) < (k : Int)) = true := by simp; omega
          clear hF
          go_wp2_with fail
          go_ret3
          exact ⟨by rw [HV.out]; rfl, rfl⟩
        · have f0 : decide ((9 : Int) < (k : Int)) = false := by simp; omega
          by_cases p2 : k = 9 ∧ 1 < b % 128
          · obtain ⟨q1, q2⟩ := p2
            have f3 : ((k : Int) == 9) = true := by simp; omega
            have f4 : decide ((1 : Int) < (b : Int) % 128) = true := by simp; omega
            clear hF p3 q1 q2
            go_wp2_with fail
            go_ret3
            exact ⟨by rw [HV.out]; rfl, rfl⟩
          · have f34 : (((k : Int) == 9) = true ∧ decide ((1 : Int) < (b : Int) % 128) = false) ∨ ((k : Int) == 9) = false := by
              rcases Nat.lt_or_ge k 9 with h0 | h0
              · exact .inr (by simp; omega)
              · exact .inl ⟨by simp; omega, by simp; omega⟩
            have f1 : 0 < k := by omega
            have f2 : ((b : Int) == 0) = true := by simp; omega
            clear hF p3 p2
            rcases f34 with ⟨f3, f4⟩ | f3
            all_goals
              go_wp2_with fail
              go_ret3
              exact ⟨by rw [HV.out]; rfl, rfl⟩
      · have hk9 : k ≤ 9 := by omega
        have h91 : k = 9 → b % 128 ≤ 1 := fun h => by
          rcases Nat.lt_or_ge 1 (b % 128) with h1 | h1
          · exact absurd (.inr (.inl ⟨h, h1⟩)) hF
          · exact h1
        have hbd := shl_bound b k hk9 h91
        have HN := Lib.hid (acc_next acc b k hacc.out)
        have HNW := Lib.hid (show acc + b % 128 * 128 ^ k < 18446744073709551616 by have := hacc.out; omega)
        have hv := HS.out
        rw [if_neg hF] at hv
        have HV := Lib.hid hv
        clear hv HS hbd
        have f0 : decide ((9 : Int) < (k : Int)) = false := by simp; omega
        have f12 : (0 < k ∧ ((b : Int) == 0) = false) ∨ ¬ 0 < k := by
          rcases Nat.eq_zero_or_pos k with h0 | h0
          · exact .inr (by omega)
          · exact .inl ⟨h0, by simp; omega⟩
        have f34 : (((k : Int) == 9) = true ∧ decide ((1 : Int) < (b : Int) % 128) = false) ∨ ((k : Int) == 9) = false := by
          rcases Nat.lt_or_ge k 9 with h0 | h0
          · exact .inr (by simp; omega)
          · exact .inl ⟨by simp; omega, by have := h91 (by omega); simp; omega⟩
        clear hF h91
        rcases f12 with ⟨f1, f2⟩ | f1 <;> rcases f34 with ⟨f3, f4⟩ | f3
        all_goals
          go_wp2_with fail
          go_loop [8, 9] (fun t i => ∃ j q : Nat, j ≤ k ∧ i = .int .i64 (j : Int) ∧ t = .int .u64 (q : Int) ∧ Hid (q = 128 ^ j) ∧ q ≤ 9223372036854775808) (fun _ i => k - (intOf i).toNat)
          case atStart => exact ⟨0, 1, by omega, rfl, rfl, Lib.hid rfl, by omega⟩
          case round =>
            obtain ⟨j, q, hj, rfl, rfl, hq, hq2⟩ := hrel
            by_cases hjk : j < k
            · have hq3 : q ≤ 72057594037927936 := by have := hq.out; have := pow_le128 j (by omega); omega
              clear hq2
              go_wp2_with fail
              refine ⟨⟨j + 1, q * 128, by omega, by go_num, rfl, Lib.hid (by rw [hq.out, Nat.pow_succ]), by omega⟩, by simp [intOf]; omega⟩
            · obtain rfl : j = k := by omega
              obtain ⟨y, hy⟩ : ∃ y : Nat, y = b % 128 * 128 ^ j := ⟨_, rfl⟩
              have hmul : (b : Int) % 128 * (q : Int) = (y : Int) := by rw [mul_shl b j q hq.out, hy]
              have hsum : acc + y < 18446744073709551616 := by rw [hy]; exact HNW.out
              have HY := Lib.hid hy
              clear hy
              by_cases hlast : b < 128
              · have hv := HV.out
                rw [if_pos hlast] at hv
                have HV2 := Lib.hid hv
                clear hv
                go_wp2_with fail
                go_ret3
                refine ⟨?_, rfl⟩
                rw [HV2.out, ← HY.out]
                rfl
              · have hv := HV.out
                rw [if_neg hlast] at hv
                have HV2 := Lib.hid hv
                clear hv
                go_wp2_with fail
                refine ⟨⟨j + 1, acc + y, by omega, by omega, by go_num, by go_num, by rw [HY.out]; exact HN, by omega, by rw [HY.out]; exact HV2⟩, by simp [intOf]; omega⟩
    · go_wp2_with fail
      go_ret3
      refine ⟨?_, rfl⟩
      have hl := Hl.out
      rw [hpre.out, List.drop_eq_nil_of_le (by omega)]
      rfl
end Go.Proofs.YtppeagjklndidaaGreatDoor
