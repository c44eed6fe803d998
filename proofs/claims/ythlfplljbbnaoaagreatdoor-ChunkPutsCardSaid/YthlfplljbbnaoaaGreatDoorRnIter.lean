/- Contracts of package runs' read: what it answers, and the rounds that its answer gives: run by run, as long as they are right. -/
import Derived.WalkKit
import Derived.Test.YthlfplljbbnaoaaGreatDoorJ25
import Derived.Test.YthlfplljbbnaoaaGreatDoorJ15
import Derived.Test.YthlfplljbbnaoaaGreatDoorJ24
import Derived.Test.YthlfplljbbnaoaaGreatDoorJ14
namespace Go.Proofs.YthlfplljbbnaoaaGreatDoor
open Go.RowKit
set_option linter.unusedVariables false
set_option linter.unusedSimpArgs false
set_option maxRecDepth 100000
attribute [local go_sem] Oper.semAt_some wide_fn wide_depth

theorem read_any (g : Option Addr) (N : Int) (w : World) : Calls Tryz.prog 93 #[.pointer g, .int .i64 N] w fun e w' =>
    e = .returned (.func (.func 143) #[] #[.pointer (some ⟨w.heap.size + 1, 0, none⟩), .pointer (some ⟨w.heap.size, 0, none⟩)]) ∧
    w' = (w.alloc (.cells #[.pointer g] 58)).alloc (.cells #[.int .i64 N] 3) := by
  go_enter Tryz.func93, Tryz.ntmps93
  go_wp2_with fail
  go_ret
  exact ⟨rfl, rfl⟩
/-- The values of a round. -/
def elG (b : List Nat) (k : Nat) : Array Value := #[.int .i64 (num b k), .int .i64 ((how b k + 1 : Nat) : Int)]
/-- What the iterator leans on. -/
def ReadX (n₀ br bn : Nat) (k : Nat) : Prop := k < n₀ ∨ k = br ∨ k = bn
theorem keptX_cell {X : Nat → Prop} {a w : World} (h : ∀ k, X k → w.heap[k]? = a.heap[k]?) {p : Addr} (hp : X p.block) : w.cell? p = a.cell? p := World.cell?_of_block (h _ hp)
/-- A reader without an error, while what lies below stands. -/
theorem RdS.leans {w w' : World} {g at_ : Nat} {l : List Nat} (h : RdS w g l at_ none) (hk : ∀ k, k ≤ g → w'.heap[k]? = w.heap[k]?) : RdS w' g l at_ none := by
  obtain ⟨A, n, c, err, hR, hE⟩ := h
  exact ⟨A, n, c, err, ⟨(hk g (Nat.le_refl _)).trans hR.blk, hR.reads.keep (fun p hp => World.cell?_of_block (hk _ (by omega))), hR.cap, hR.place, hR.size, hR.byte⟩, hE⟩
/-- What holds in the midst of a round: the reader, the caller's word, what was captured, the variable of errors.As. -/
structure Mid (b : List Nat) (g br bn N : Nat) (J : Nat → World → Prop) (k : Nat) (W : World) (at_ : Nat) (x : Option (Int × Nat)) : Prop where
  rd : RdS W g b at_ x
  word : J k W
  rbox : Blk W br 58 #[.pointer (some ⟨g, 0, none⟩)]
  nbox : Blk W bn 3 #[.int .i64 (N : Int)]
  met : Met W
theorem Mid.cells {b : List Nat} {g br bn N k at_ : Nat} {J : Nat → World → Prop} {W : World} {x : Option (Int × Nat)} (h : Mid b g br bn N J k W at_ x) :
    W.cell? ⟨br, 0, none⟩ = some (.pointer (some ⟨g, 0, none⟩)) ∧ W.cell? ⟨bn, 0, none⟩ = some (.int .i64 (N : Int)) := by
  rw [h.rbox.cell, h.nbox.cell]; exact ⟨rfl, rfl⟩
theorem Mid.step {b : List Nat} {g br bn N k at_ at' : Nat} {J : Nat → World → Prop} {W W' : World} {x x' : Option (Int × Nat)} {X : Nat → Prop} (h : Mid b g br bn N J k W at_ x) (hJ : Abide X (fun j => j = g) J)
    (hr : RdS W' g b at' x') (hg : W.grownBy W' (some g)) (hbr : g < br) (hbn : g < bn) (hme : 0 < g) : Mid b g br bn N J k W' at' x' :=
  ⟨hr, hJ k W W' h.word ⟨some g, hg, fun r e => by injection e with e; exact e.symm⟩, h.rbox.grown hg (fun e => by injection e with e; omega), h.nbox.grown hg (fun e => by injection e with e; omega), hg.cell h.met (fun e => by injection e with e; simp at e; omega)⟩
theorem Mid.next {b : List Nat} {g br bn N k at_ : Nat} {J : Nat → World → Prop} {W W' : World} {x : Option (Int × Nat)} {X : Nat → Prop} (h : Mid b g br bn N J k W at_ x) (hJ : Abide X (fun j => j = g) J) (hb : Below W.heap.size W W') : Mid b g br bn N J k W' at_ x :=
  ⟨h.rd.next hb, hJ k W W' h.word ⟨none, only_below (World.grownBy.refl W _) hb, fun r e => by cases e⟩, h.rbox.below hb h.rbox.lt, h.nbox.below hb h.nbox.lt, h.met.next hb⟩
theorem r_fail5 {b : List Nat} {N k : Nat} (at_ : Nat) (h : N - tot b k ≤ how b k) : ∃ y, failS at_ (vst b (2 * k + 2)).2 5 = some y ∧ y.1 = rBad b N k ∧ y.1 ≠ 0 := by
  unfold rBad
  cases hx : (vst b (2 * k + 2)).2 with
  | some y => exact ⟨y, rfl, rfl, vst_ok b _ y hx⟩
  | none => exact ⟨(5, at_), rfl, by simp only; rw [if_pos h], by simp⟩
theorem r_fail4 {b : List Nat} {N k : Nat} (at_ : Nat) (h : ¬ N - tot b k ≤ how b k) (h2 : 0 < k ∧ num b k = ahdN b k) : ∃ y, failS at_ (vst b (2 * k + 2)).2 4 = some y ∧ y.1 = rBad b N k ∧ y.1 ≠ 0 := by
  unfold rBad
  cases hx : (vst b (2 * k + 2)).2 with
  | some y => exact ⟨y, rfl, rfl, vst_ok b _ y hx⟩
  | none => exact ⟨(4, at_), rfl, by simp only; rw [if_neg h, if_pos h2], by simp⟩
theorem r_fail0 {b : List Nat} {N k : Nat} {y : Int × Nat} (hx : (vst b (2 * k + 2)).2 = some y) : y.1 = rBad b N k ∧ y.1 ≠ 0 := by
  unfold rBad
  rw [hx]
  exact ⟨rfl, vst_ok b _ y hx⟩
theorem r_stop {b : List Nat} {N k : Nat} {y : Int × Nat} (hk : k ≤ rK b N) (hlt : tot b k < N) (hy : y.1 = rBad b N k) (h0 : y.1 ≠ 0) : k = rK b N ∧ ∀ at_, (endS b at_ (some y)).1 = rEnd b N := by
  have e : k = rK b N := by
    rcases Nat.lt_or_ge k (rK b N) with h | h
    · have := (rK_go h).2
      omega
    · omega
  refine ⟨e, fun at_ => ?_⟩
  rw [endS_some _ _ _ h0, hy]
  unfold rEnd
  rw [← e, if_pos hlt]
/-- What the iterator leaves: the reader, with the error that reading ends in. -/
def ReadT (b : List Nat) (g N : Nat) (W : World) : Prop := ∃ at_ x, RdS W g b at_ x ∧ (endS b at_ x).1 = rEnd b N
theorem Mid.ends {b : List Nat} {g br bn N k at_ : Nat} {J : Nat → World → Prop} {W W' : World} {y : Int × Nat} {X : Nat → Prop} (M : Mid b g br bn N J k W at_ (some y)) (hJ : Abide X (fun j => j = g) J) (hb : Below W.heap.size W W')
    (hk : k ≤ rK b N) (hlt : tot b k < N) (hy : y.1 = rBad b N k) (h0 : y.1 ≠ 0) : J (rK b N) W' ∧ ReadT b g N W' := by
  obtain ⟨e, h⟩ := r_stop hk hlt hy h0
  have M' := M.next hJ hb
  rw [← e]
  exact ⟨M'.word, at_, some y, M'.rd, h at_⟩
theorem Mid.yielded {b : List Nat} {g br bn n₀ N k k' at_ : Nat} {J : Nat → World → Prop} {W W' : World} (M : Mid b g br bn N J k W at_ none) (h : J k' W') (hX : ∀ i, ReadX n₀ br bn i → W'.heap[i]? = W.heap[i]?) (hg : g < n₀) (hme : 0 < g) :
    Mid b g br bn N J k' W' at_ none :=
  ⟨M.rd.leans (fun k hk => hX k (.inl (by omega))), h, (hX br (.inr (.inl rfl))).trans M.rbox, (hX bn (.inr (.inr rfl))).trans M.nbox, (keptX_cell hX (p := ⟨0, 0, none⟩) (.inl (by show 0 < n₀; omega))).trans M.met⟩
theorem rvarK_even {w : World} {g : Nat} {b : List Nat} {k : Nat} (h : RdS w g b (vst b (2 * k)).1 (vst b (2 * k)).2) :
    Calls Tryz.prog 90 #[.pointer (some ⟨g, 0, none⟩)] w fun e w' => e = .returned (.int .u64 (how b k : Int)) ∧ RdS w' g b (vst b (2 * k + 1)).1 (vst b (2 * k + 1)).2 ∧ w.grownBy w' (some g) := var_is h
theorem rvarK_odd {w : World} {g : Nat} {b : List Nat} {k : Nat} (h : RdS w g b (vst b (2 * k + 1)).1 (vst b (2 * k + 1)).2) :
    Calls Tryz.prog 90 #[.pointer (some ⟨g, 0, none⟩)] w fun e w' => e = .returned (.int .u64 (vv b (2 * k + 1) : Int)) ∧ RdS w' g b (vst b (2 * k + 2)).1 (vst b (2 * k + 2)).2 ∧ w.grownBy w' (some g) := var_is h
theorem rzagK {b : List Nat} (k : Nat) (w : World) (hv : vv b (2 * k + 1) < 18446744073709551616) :
    Calls Tryz.prog 89 #[.int .u64 (vv b (2 * k + 1) : Int)] w fun e w' => e = .returned (.int .i64 (num b k)) ∧ w = w' := zag_any _ w hv
set_option maxHeartbeats 1000000 in
theorem read1_gives (g br bn n₀ N : Nat) (b : List Nat) (w : World) (hr : RdS w g b 0 none) (hrb : Blk w br 58 #[.pointer (some ⟨g, 0, none⟩)]) (hnb : Blk w bn 3 #[.int .i64 (N : Int)]) (hm : Met w)
    (hme : 0 < g) (hg : g < n₀) (hbr : n₀ ≤ br) (hbn : n₀ ≤ bn) (hn0 : n₀ ≤ w.heap.size) (hN : N ≤ 65536) (hb : ∀ x ∈ b, x < 256) :
    Gives Tryz.prog 143 #[.pointer (some ⟨bn, 0, none⟩), .pointer (some ⟨br, 0, none⟩)] (rK b N) (elG b) (ReadX n₀ br bn) (fun j => j = g) (ReadT b g N) w := by
  intro lp J W hW hJ hR h0
  have m0 : Mid b g br bn N J 0 W (vst b (2 * 0)).1 (vst b (2 * 0)).2 := ⟨hr.next hW, h0, hrb.below hW hrb.lt, hnb.below hW hnb.lt, hm.next hW⟩
  have HB := Lib.hid hb
  clear hr hrb hnb hm hW h0 hb
  refine (callsIn_wide (n := 1)).1 ?_
  refine callsIn_of_wp Tryz.func143 rfl trivial ?_ rfl
  simp only [Tryz.ntmps143, List.size_toArray, List.length_cons, List.length_nil, Nat.reduceAdd, Nat.reduceSub, Array.replicate_succ, Array.replicate_zero, List.push_toArray, List.append_toArray, List.nil_append, List.cons_append]
  gi_wp2
  gi_loopw [4, 5] (fun s4 s5 wr => ∃ k : Nat, k ≤ rK b N ∧ s4 = .int .i64 (ahdN b k) ∧ s5 = .int .i64 (tot b k : Int) ∧ Mid b g br bn N J k wr (vst b (2 * k)).1 (vst b (2 * k)).2) (fun _ i _ => N - (intOf i).toNat)
  case atStart => exact ⟨0, Nat.zero_le _, rfl, rfl, m0⟩
  case round =>
    clear m0
    obtain ⟨k, hk, rfl, rfl, M⟩ := hrel
    obtain ⟨hx, hle⟩ := rK_none (b := b) (N := N) k hk
    obtain ⟨cr, cn⟩ := M.cells
    by_cases hlt : tot b k < N
    · have hH := vv_lt HB.out (2 * k)
      have hV := vv_lt HB.out (2 * k + 1)
      gi_wp2
      refine (callsIn_wide.2 (rvarK_even M.rd)).mono ?_
      rintro e w1 ⟨rfl, hS1, hg1⟩
      have M1 := M.step hJ hS1 hg1 (by omega) (by omega) hme
      obtain ⟨cr1, cn1⟩ := M1.cells
      clear M cr cn hS1 hg1
      gi_wp2
      refine (callsIn_wide.2 (rvarK_odd M1.rd)).mono ?_
      rintro e w2 ⟨rfl, hS2, hg2⟩
      have M2 := M1.step hJ hS2 hg2 (by omega) (by omega) hme
      obtain ⟨cr2, cn2⟩ := M2.cells
      clear M1 cr1 cn1 hS2 hg2
      gi_wp2
      refine (callsIn_wide.2 (rzagK k w2 hV)).mono ?_
      rintro e w' ⟨rfl, rfl⟩
      change how b k < 18446744073709551616 at hH
      obtain ⟨d, hd⟩ : ∃ d, d = N - tot b k := ⟨_, rfl⟩
      have hw1 : IntKind.u64.wrap ((N : Int) - (tot b k : Int)) = (d : Int) := by rw [IntWalk.u64_in _ (by omega)]; omega
      have HD := Lib.hid hd
      have hd1 : 0 < d := by omega
      have hd2 : d ≤ 65536 := by omega
      clear hV hd
      obtain ⟨V, hVd⟩ : ∃ V, num b k = V := ⟨_, rfl⟩
      obtain ⟨P, hPd⟩ : ∃ P, ahdN b k = P := ⟨_, rfl⟩
      rw [hVd, hPd]
      have HV := Lib.hid hVd; have HPd := Lib.hid hPd
      clear hVd hPd
      by_cases hp : d ≤ how b k
      · have hp1 : decide ((d : Int) ≤ (how b k : Int)) = true := by simp; omega
        have FX := Lib.hid (r_fail5 (b := b) (N := N) (k := k) (vst b (2 * k + 2)).1 (by rw [← HD.out]; exact hp))
        gi_wp2
        refine (callsIn_wide.2 (fail_is 5 M2.rd)).mono ?_
        rintro e w3 ⟨rfl, hS3, hg3⟩
        have M3 := M2.step hJ hS3 hg3 (by omega) (by omega) hme
        clear M2 cr2 cn2 hS3 hg3
        obtain ⟨y, hy, hyb, hy0⟩ := FX.out
        rw [hy] at M3
        obtain ⟨r, hr⟩ : ∃ r, r = y.1 := ⟨_, rfl⟩
        obtain ⟨o, ho⟩ : ∃ o : Int, o = (y.2 : Int) := ⟨_, rfl⟩
        have hcall : Calls Tryz.prog 33 #[.pointer (some ⟨g, 0, none⟩)] w3 fun e w' => e = .returned (.tuple #[.int .i64 r, .int .i64 o]) ∧ Below w3.heap.size w3 w' := by
          rw [hr, ho]; exact err_is M3.met M3.rd
        have HC := Lib.hid hcall
        have q1 : (r != 0) = true := by rw [hr]; simp [hy0]
        have cr3 := M3.cells.1
        have FIN := Lib.hid (fun W' hb => M3.ends hJ (W' := W') hb hk hlt hyb hy0)
        clear hcall hr ho hy hyb hy0 M3
        gi_wp2
        refine (callsIn_wide.2 HC.out).mono ?_
        rintro e w4 ⟨rfl, hb4⟩
        gi_wp2
        refine bodyPost_ret (results_none rfl _ _ _) rfl ?_
        exact ⟨⟨_, rfl⟩, FIN.out w4 hb4⟩
      · have hp1 : decide ((d : Int) ≤ (how b k : Int)) = false := by simp; omega
        rcases Nat.eq_zero_or_pos k with h0 | h0
        case' inl =>
          have hq : ¬ (0 < k ∧ num b k = ahdN b k) := by omega
          have ht : decide ((0 : Int) < (tot b k : Int)) = false := by rw [h0]; rfl
          have htn : ¬ 0 < tot b k := by rw [h0]; exact Nat.lt_irrefl _
        case' inr =>
          have ht : decide ((0 : Int) < (tot b k : Int)) = true := by have := tot_ge b k; simp; omega
          have htn : 0 < tot b k := by have := tot_ge b k; omega
          by_cases hq : V = P
          case' pos =>
            subst hq
            have FX := Lib.hid (r_fail4 (b := b) (N := N) (k := k) (vst b (2 * k + 2)).1 (by rw [← HD.out]; exact hp) ⟨h0, HV.out.trans HPd.out.symm⟩)
            gi_wp2
            refine (callsIn_wide.2 (fail_is 4 M2.rd)).mono ?_
            rintro e w3 ⟨rfl, hS3, hg3⟩
            have M3 := M2.step hJ hS3 hg3 (by omega) (by omega) hme
            clear M2 cr2 cn2 hS3 hg3
            obtain ⟨y, hy, hyb, hy0⟩ := FX.out
            rw [hy] at M3
            obtain ⟨r, hr⟩ : ∃ r, r = y.1 := ⟨_, rfl⟩
            obtain ⟨o, ho⟩ : ∃ o : Int, o = (y.2 : Int) := ⟨_, rfl⟩
            have hcall : Calls Tryz.prog 33 #[.pointer (some ⟨g, 0, none⟩)] w3 fun e w' => e = .returned (.tuple #[.int .i64 r, .int .i64 o]) ∧ Below w3.heap.size w3 w' := by
              rw [hr, ho]; exact err_is M3.met M3.rd
            have HC := Lib.hid hcall
            have q1 : (r != 0) = true := by rw [hr]; simp [hy0]
            have cr3 := M3.cells.1
            have FIN := Lib.hid (fun W' hb => M3.ends hJ (W' := W') hb hk hlt hyb hy0)
            clear hcall hr ho hy hyb hy0 M3
            gi_wp2
            refine (callsIn_wide.2 HC.out).mono ?_
            rintro e w4 ⟨rfl, hb4⟩
            gi_wp2
            refine bodyPost_ret (results_none rfl _ _ _) rfl ?_
            exact ⟨⟨_, rfl⟩, FIN.out w4 hb4⟩
          case' neg =>
            have g1 : (V == P) = false := by simp [hq]
            have hne : V ≠ P := hq
            replace hq : ¬ (0 < k ∧ num b k = ahdN b k) := fun h => hne (by rw [← HV.out, ← HPd.out]; exact h.2)
        all_goals
          have HP := Lib.hid hp; have HQ := Lib.hid hq
          clear hq h0
          gi_wp2
          cases hx2 : (vst b (2 * k + 2)).2 with
          | some y =>
            obtain ⟨hyb, hy0⟩ := r_fail0 (N := N) hx2
            rw [hx2] at M2
            obtain ⟨r, hr⟩ : ∃ r, r = y.1 := ⟨_, rfl⟩
            obtain ⟨o, ho⟩ : ∃ o : Int, o = (y.2 : Int) := ⟨_, rfl⟩
            have hcall : Calls Tryz.prog 33 #[.pointer (some ⟨g, 0, none⟩)] w2 fun e w' => e = .returned (.tuple #[.int .i64 r, .int .i64 o]) ∧ Below w2.heap.size w2 w' := by
              rw [hr, ho]; exact err_is M2.met M2.rd
            have HC := Lib.hid hcall
            have q1 : (r != 0) = true := by rw [hr]; simp [hy0]
            have FIN := Lib.hid (fun W' hb => M2.ends hJ (W' := W') hb hk hlt hyb hy0)
            clear hcall hr ho hx2 hyb hy0 M2
            refine (callsIn_wide.2 HC.out).mono ?_
            rintro e w4 ⟨rfl, hb4⟩
            gi_wp2
            refine bodyPost_ret (results_none rfl _ _ _) rfl ?_
            exact ⟨⟨_, rfl⟩, FIN.out w4 hb4⟩
          | none =>
            have hgo : rGo b N k := go_of hlt hx2 (by rw [← HD.out]; exact HP.out) HQ.out
            have hkK := rK_lt hk hgo
            rw [hx2] at M2
            have hcall : Calls Tryz.prog 33 #[.pointer (some ⟨g, 0, none⟩)] w2 fun e w' => e = .returned (.tuple #[.int .i64 0, .int .i64 0]) ∧ Below w2.heap.size w2 w' := err_is M2.met M2.rd
            have HC := Lib.hid hcall
            have hh : how b k < 65536 := by omega
            have hw2 : IntKind.i64.wrap (how b k : Int) = (how b k : Int) := IntWalk.i64_in _ (by omega)
            have HX2 := Lib.hid hx2
            have fin : ∀ w4, Below w2.heap.size w2 w4 → ∃ fn tmps assign body, (Instr.yield lp #[.int .i64 V, .int .i64 ((how b k : Int) + 1)]).run Tryz.prog w4 = .ok (.round lp fn tmps assign body) w4 ∧ RoundIn Fence.wide 0 Tryz.prog lp fn tmps assign body w4 fun e W5 =>
                e = .returned (.bool true) ∧ Mid b g br bn N J (k + 1) W5 (vst b (2 * (k + 1))).1 (vst b (2 * (k + 1))).2 := by
              intro w4 hb4
              have M4 := M2.next hJ hb4
              obtain ⟨fn, tmps, assign, body, hy, hR1⟩ := hR k w4 hkK M4.word
              unfold elG at hy
              rw [HV.out] at hy
              refine ⟨fn, tmps, assign, body, hy, hR1.mono fun e W5 ⟨h1, h2, h3⟩ => ⟨h1, ?_⟩⟩
              show Mid b g br bn N J (k + 1) W5 (vst b (2 * k + 2)).1 (vst b (2 * k + 2)).2
              rw [HX2.out]
              exact M4.yielded h2 h3 hg hme
            have FIN := Lib.hid fin
            clear hcall hx2 hgo M2 fin
            refine (callsIn_wide.2 HC.out).mono ?_
            rintro e w4 ⟨rfl, hb4⟩
            obtain ⟨fn, tmps, assign, body, hy, hR1⟩ := FIN.out w4 hb4
            gi_wp2
            refine hR1.mono ?_
            rintro e W5 ⟨rfl, M5⟩
            gi_wp2
            go_roundw
            case rel => exact ⟨k + 1, hkK, by rw [ahdN_succ, HV.out], by rw [tot_succ]; go_num, M5⟩
            case measure => simp [intOf]; omega
    · have hkK : k = rK b N := by
        rcases Nat.lt_or_ge k (rK b N) with h | h
        · exact absurd (go_is (rK_go h)).1 hlt
        · omega
      subst hkK
      have hE : rEnd b N = (endS b (vst b (2 * rK b N)).1 none).1 := by unfold rEnd; rw [if_neg hlt]
      have HE := Lib.hid hE; have HX := Lib.hid hx
      clear hE hx
      gi_wp2
      go_end0
      refine ⟨⟨_, rfl⟩, M.word, _, _, M.rd, ?_⟩
      rw [HE.out, HX.out]
end Go.Proofs.YthlfplljbbnaoaaGreatDoor
