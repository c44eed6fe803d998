import Derived.Test.YticanhidahkhfaaGreatDoorJ2
import Derived.WalkKit
import Derived.Test.YticanhidahkhfaaGreatDoorJ21
import Derived.Test.YticanhidahkhfaaGreatDoorJ13
import Derived.Test.YticanhidahkhfaaGreatDoorJ12
import Derived.Test.YticanhidahkhfaaGreatDoorJ14
namespace Go.Proofs.YticanhidahkhfaaGreatDoor
open Go.RowKit
set_option linter.unusedVariables false
set_option linter.unusedSimpArgs false
set_option maxRecDepth 100000
theorem fail_nil (k : Int) (w : World) : Calls Tryz.prog 66 #[.pointer none, .int .i64 k] w fun e w' => e = .returned (.tuple #[]) ∧ w = w' := by
  go_enter Tryz.func66, Tryz.ntmps66
  go_wp2_with (go_at_call 112; refine (stopped_nil _).mono ?_; rintro e w1 ⟨rfl, rfl⟩)
  go_end0
  exact ⟨rfl, rfl⟩
theorem fail_is {w : World} {g : Nat} {l : List Nat} {at_ : Nat} {x : Option (Int × Nat)} (k : Int) (h : RdS w g l at_ x) :
    Calls Tryz.prog 66 #[.pointer (some ⟨g, 0, none⟩), .int .i64 k] w fun e w' => e = .returned (.tuple #[]) ∧ RdTo w g l at_ (failS at_ x k) w' := by
  cases x with
  | some x =>
    go_enter Tryz.func66, Tryz.ntmps66
    go_wp2_with (go_at_call 112; refine (stopped_err h).mono ?_; rintro e w1 ⟨rfl, rfl⟩)
    go_end0
    exact ⟨rfl, RdTo.same h (Drawn.refl w)⟩
  | none =>
    by_cases hk : k = 0
    · subst hk
      go_enter Tryz.func66, Tryz.ntmps66
      go_wp2_with (go_at_call 112; refine (stopped_is h).mono ?_; rintro e w1 ⟨rfl, rfl⟩)
      go_end0
      exact ⟨rfl, RdTo.same h (Drawn.refl w)⟩
    · have hk1 : (k == 0) = false := by simp [hk]
      have hk2 : (k != 0) = true := by simp [hk]
      have hF : failS at_ none k = some (k, at_) := by unfold failS; simp [hk]
      have HF := Lib.hid hF
      clear hF
      go_enter Tryz.func66, Tryz.ntmps66
      go_wp2_with (first
        | (go_at_call 112; refine (stopped_is h).mono ?_; rintro e w1 ⟨rfl, rfl⟩)
        | (go_at_call 114; refine (stop_is k h).mono ?_; rintro e w2 ⟨rfl, hto⟩))
      go_end0
      rw [HF.out]
      exact ⟨rfl, hto⟩
end Go.Proofs.YticanhidahkhfaaGreatDoor
namespace Go.Proofs.YticanhidahkhfaaGreatDoor
open Go.RowKit
set_option linter.unusedVariables false
set_option linter.unusedSimpArgs false
set_option maxRecDepth 100000
attribute [local go_sem] Oper.semAt_some wide_fn wide_depth
theorem read_any (g : Option Addr) (N : Int) (w : World) : Calls Tryz.prog 208 #[.pointer g, .int .i64 N] w fun e w' =>
    e = .returned (.func (.func 261) #[] #[.pointer (some ⟨w.heap.size + 1, 0, none⟩), .pointer (some ⟨w.heap.size, 0, none⟩)]) ∧
    w' = (w.alloc (.cells #[.pointer g] 57)).alloc (.cells #[.int .i64 N] 3) := by
  go_enter Tryz.func208, Tryz.ntmps208
  go_wp2_with fail
  go_ret
  exact ⟨rfl, rfl⟩
def elG (b : List Nat) (k : Nat) : Array Value := #[.int .i64 (num b k), .int .i64 ((how b k + 1 : Nat) : Int)]
def ReadX (n₀ br bn : Nat) (k : Nat) : Prop := k < n₀ ∨ k = br ∨ k = bn
theorem keptX_cell {X : Nat → Prop} {a w : World} (h : ∀ k, X k → w.heap[k]? = a.heap[k]?) {p : Addr} (hp : X p.block) : w.cell? p = a.cell? p := World.cell?_of_block (h _ hp)
theorem RdS.leans {w w' : World} {g at_ : Nat} {l : List Nat} (h : RdS w g l at_ none) (hk : ∀ k, k ≤ g → w'.heap[k]? = w.heap[k]?) : RdS w' g l at_ none := by
  obtain ⟨A, n, c, err, hR, hE⟩ := h
  exact ⟨A, n, c, err, ⟨(hk g (Nat.le_refl _)).trans hR.blk, hR.reads.keep (fun p hp => World.cell?_of_block (hk _ (by omega))), hR.cap, hR.place, hR.size, hR.byte⟩, hE⟩
structure Mid (b : List Nat) (g br bn N : Nat) (J : Nat → World → Prop) (k : Nat) (W : World) (at_ : Nat) (x : Option (Int × Nat)) : Prop where
  rd : RdS W g b at_ x
  word : J k W
  rbox : Blk W br 57 #[.pointer (some ⟨g, 0, none⟩)]
  nbox : Blk W bn 3 #[.int .i64 (N : Int)]
  met : Met W
theorem Mid.cells {b : List Nat} {g br bn N k at_ : Nat} {J : Nat → World → Prop} {W : World} {x : Option (Int × Nat)} (h : Mid b g br bn N J k W at_ x) :
    W.cell? ⟨br, 0, none⟩ = some (.pointer (some ⟨g, 0, none⟩)) ∧ W.cell? ⟨bn, 0, none⟩ = some (.int .i64 (N : Int)) := by
  rw [h.rbox.cell, h.nbox.cell]; exact ⟨rfl, rfl⟩
theorem Mid.step {b : List Nat} {g br bn N k at_ at' : Nat} {J : Nat → World → Prop} {W W' : World} {x x' : Option (Int × Nat)} {X : Nat → Prop} (h : Mid b g br bn N J k W at_ x) (hJ : Abide X (fun j => j = g) J)
    (hr : RdS W' g b at' x') (hg : W.grownBy W' (some g)) (hbr : g < br) (hbn : g < bn) (hme : 0 < g) : Mid b g br bn N J k W' at' x' :=
  ⟨hr, hJ k W W' h.word ⟨some g, hg, fun r e => by injection e with e; exact e.symm⟩, h.rbox.grown hg (fun e => by injection e with e; omega), h.nbox.grown hg (fun e => by injection e with e; omega), hg.cell h.met (fun e => by injection e with e; simp at e; omega)⟩
theorem Mid.next {b : List Nat} {g br bn N k at_ : Nat} {J : Nat → World → Prop} {W W' : World} {x : Option (Int × Nat)} {X : Nat → Prop} (h : Mid b g br bn N J k W at_ x) (hJ : Abide X (fun j => j = g) J) (hb : Below W.heap.size W W') : Mid b g br bn N J k W' at_ x :=
  ⟨h.rd.next hb, hJ k W W' h.word ⟨none, only_below (World.grownBy.refl W _) hb, fun r e => by cases e⟩, h.rbox.below hb h.rbox.lt, h.nbox.below hb h.nbox.lt, h.met.next hb⟩
theorem r_fail5 {b : List Nat} {N k : Nat} (at_ : Nat) (h : N - tot b k ≤ how b k) : ∃ y, failS at_ (vst b (2 * k + 2)).2 5 = some y ∧ y.1 = rBad b N k ∧ y.1 ≠ 0 := by
  unfold rBad
  cases hx : (vst b (2 * k + 2)).2 with
  | some y => exact ⟨y, rfl, rfl, vst_ok b _ y hx⟩
  | none => exact ⟨(5, at_), rfl, by simp only; rw [if_pos h], by simp⟩
theorem r_fail4 {b : List Nat} {N k : Nat} (at_ : Nat) (h : ¬ N - tot b k ≤ how b k) (h2 : 0 < k ∧ num b k = ahdN b k) : ∃ y, failS at_ (vst b (2 * k + 2)).2 4 = some y ∧ y.1 = rBad b N k ∧ y.1 ≠ 0 := by
  unfold rBad
  cases hx : (vst b (2 * k + 2)).2 with
  | some y => exact ⟨y, rfl, rfl, vst_ok b _ y hx⟩
  | none => exact ⟨(4, at_), rfl, by simp only; rw [if_neg h, if_pos h2], by simp⟩
theorem r_fail0 {b : List Nat} {N k : Nat} {y : Int × Nat} (hx : (vst b (2 * k + 2)).2 = some y) : y.1 = rBad b N k ∧ y.1 ≠ 0 := by
  unfold rBad
  rw [hx]
  exact ⟨rfl, vst_ok b _ y hx⟩
theorem r_stop {b : List Nat} {N k : Nat} {y : Int × Nat} (hk : k ≤ rK b N) (hlt : tot b k < N) (hy : y.1 = rBad b N k) (h0 : y.1 ≠ 0) : k = rK b N ∧ ∀ at_, (endS b at_ (some y)).1 = rEnd b N := by
  have e : k = rK b N := by
    rcases Nat.lt_or_ge k (rK b N) with h | h
    · have := (rK_go h).2
      omega
    · omega
  refine ⟨e, fun at_ => ?_⟩
  rw [endS_some _ _ _ h0, hy]
  unfold rEnd
  rw [← e, if_pos hlt]
def ReadT (b : List Nat) (g N : Nat) (W : World) : Prop := ∃ at_ x, RdS W g b at_ x ∧ (endS b at_ x).1 = rEnd b N
theorem Mid.ends {b : List Nat} {g br bn N k at_ : Nat} {J : Nat → World → Prop} {W W' : World} {y : Int × Nat} {X : Nat → Prop} (M : Mid b g br bn N J k W at_ (some y)) (hJ : Abide X (fun j => j = g) J) (hb : Below W.heap.size W W')
    (hk : k ≤ rK b N) (hlt : tot b k < N) (hy : y.1 = rBad b N k) (h0 : y.1 ≠ 0) : J (rK b N) W' ∧ ReadT b g N W' := by
  obtain ⟨e, h⟩ := r_stop hk hlt hy h0
  have M' := M.next hJ hb
  rw [← e]
  exact ⟨M'.word, at_, some y, M'.rd, h at_⟩
theorem Mid.yielded {b : List Nat} {g br bn n₀ N k k' at_ : Nat} {J : Nat → World → Prop} {W W' : World} (M : Mid b g br bn N J k W at_ none) (h : J k' W') (hX : ∀ i, ReadX n₀ br bn i → W'.heap[i]? = W.heap[i]?) (hg : g < n₀) (hme : 0 < g) :
    Mid b g br bn N J k' W' at_ none :=
  ⟨M.rd.leans (fun k hk => hX k (.inl (by omega))), h, (hX br (.inr (.inl rfl))).trans M.rbox, (hX bn (.inr (.inr rfl))).trans M.nbox, (keptX_cell hX (p := ⟨0, 0, none⟩) (.inl (by show 0 < n₀; omega))).trans M.met⟩
theorem rvarK_even {w : World} {g : Nat} {b : List Nat} {k : Nat} (h : RdS w g b (vst b (2 * k)).1 (vst b (2 * k)).2) :
    Calls Tryz.prog 62 #[.pointer (some ⟨g, 0, none⟩)] w fun e w' => e = .returned (.int .u64 (how b k : Int)) ∧ RdS w' g b (vst b (2 * k + 1)).1 (vst b (2 * k + 1)).2 ∧ w.grownBy w' (some g) := var_is h
theorem rvarK_odd {w : World} {g : Nat} {b : List Nat} {k : Nat} (h : RdS w g b (vst b (2 * k + 1)).1 (vst b (2 * k + 1)).2) :
    Calls Tryz.prog 62 #[.pointer (some ⟨g, 0, none⟩)] w fun e w' => e = .returned (.int .u64 (vv b (2 * k + 1) : Int)) ∧ RdS w' g b (vst b (2 * k + 2)).1 (vst b (2 * k + 2)).2 ∧ w.grownBy w' (some g) := var_is h
theorem rzagK {b : List Nat} (k : Nat) (w : World) (hv : vv b (2 * k + 1) < 18446744073709551616) :
    Calls Tryz.prog 182 #[.int .u64 (vv b (2 * k + 1) : Int)] w fun e w' => e = .returned (.int .i64 (num b k)) ∧ w = w' := zag_any _ w hv
set_option maxHeartbeats 1000000 in
theorem read1_gives (g br bn n₀ N : Nat) (b : List Nat) (w : World) (hr : RdS w g b 0 none) (hrb : Blk w br 57 #[.pointer (some ⟨g, 0, none⟩)]) (hnb : Blk w bn 3 #[.int .i64 (N : Int)]) (hm : Met w)
    (hme : 0 < g) (hg : g < n₀) (hbr : n₀ ≤ br) (hbn : n₀ ≤ bn) (hn0 : n₀ ≤ w.heap.size) (hN : N ≤ 65536) (hb : ∀ x ∈ b, x < 256) :
    Gives Tryz.prog 261 #[.pointer (some ⟨bn, 0, none⟩), .pointer (some ⟨br, 0, none⟩)] (rK b N) (elG b) (ReadX n₀ br bn) (fun j => j = g) (ReadT b g N) w := by
  intro lp J W hW hJ hR h0
  have m0 : Mid b g br bn N J 0 W (vst b (2 * 0)).1 (vst b (2 * 0)).2 := ⟨hr.next hW, h0, hrb.below hW hrb.lt, hnb.below hW hnb.lt, hm.next hW⟩
  have HB := Lib.hid hb
  clear hr hrb hnb hm hW h0 hb
  refine (callsIn_wide (n := 1)).1 ?_
  refine callsIn_of_wp Tryz.func261 rfl trivial ?_ rfl
  simp only [Tryz.ntmps261, List.size_toArray, List.length_cons, List.length_nil, Nat.reduceAdd, Nat.reduceSub, Array.replicate_succ, Array.replicate_zero, List.push_toArray, List.append_toArray, List.nil_append, List.cons_append]
  gi_wp2
  gi_loopw [4, 5] (fun s4 s5 wr => ∃ k : Nat, k ≤ rK b N ∧ s4 = .int .i64 (ahdN b k) ∧ s5 = .int .i64 (tot b k : Int) ∧ Mid b g br bn N J k wr (vst b (2 * k)).1 (vst b (2 * k)).2) (fun _ i _ => N - (intOf i).toNat)
  case atStart => exact ⟨0, Nat.zero_le _, rfl, rfl, m0⟩
  case round =>
    clear m0
    obtain ⟨k, hk, rfl, rfl, M⟩ := hrel
    obtain ⟨hx, hle⟩ := rK_none (b := b) (N := N) k hk
    obtain ⟨cr, cn⟩ := M.cells
    by_cases hlt : tot b k < N
    · have hH := vv_lt HB.out (2 * k)
      have hV := vv_lt HB.out (2 * k + 1)
      gi_wp2
      refine (callsIn_wide.2 (rvarK_even M.rd)).mono ?_
      rintro e w1 ⟨rfl, hS1, hg1⟩
      have M1 := M.step hJ hS1 hg1 (by omega) (by omega) hme
      obtain ⟨cr1, cn1⟩ := M1.cells
      clear M cr cn hS1 hg1
      gi_wp2
      refine (callsIn_wide.2 (rvarK_odd M1.rd)).mono ?_
      rintro e w2 ⟨rfl, hS2, hg2⟩
      have M2 := M1.step hJ hS2 hg2 (by omega) (by omega) hme
      obtain ⟨cr2, cn2⟩ := M2.cells
      clear M1 cr1 cn1 hS2 hg2
      gi_wp2
      refine (callsIn_wide.2 (rzagK k w2 hV)).mono ?_
      rintro e w' ⟨rfl, rfl⟩
      change how b k < 18446744073709551616 at hH
      obtain ⟨d, hd⟩ : ∃ d, d = N - tot b k := ⟨_, rfl⟩
      have hw1 : IntKind.u64.wrap ((N : Int) - (tot b k : Int)) = (d : Int) := by rw [IntWalk.u64_in _ (by omega)]; omega
      have HD := Lib.hid hd
      have hd1 : 0 < d := by omega
      have hd2 : d ≤ 65536 := by omega
      clear hV hd
      obtain ⟨V, hVd⟩ : ∃ V, num b k = V := ⟨_, rfl⟩
      obtain ⟨P, hPd⟩ : ∃ P, ahdN b k = P := ⟨_, rfl⟩
      rw [hVd, hPd]
      have HV := Lib.hid hVd; have HPd := Lib.hid hPd
      clear hVd hPd
      by_cases hp : d ≤ how b k
      · have hp1 : decide ((d : Int) ≤ (how b k : Int)) = true := by simp; omega
        have FX := Lib.hid (r_fail5 (b := b) (N := N) (k := k) (vst b (2 * k + 2)).1 (by rw [← HD.out]; exact hp))
        gi_wp2
        refine (callsIn_wide.2 (fail_is 5 M2.rd)).mono ?_
        rintro e w3 ⟨rfl, hS3, hg3⟩
        have M3 := M2.step hJ hS3 hg3 (by omega) (by omega) hme
        clear M2 cr2 cn2 hS3 hg3
        obtain ⟨y, hy, hyb, hy0⟩ := FX.out
        rw [hy] at M3
        obtain ⟨r, hr⟩ : ∃ r, r = y.1 := ⟨_, rfl⟩
        obtain ⟨o, ho⟩ : ∃ o : Int, o = (y.2 : Int) := ⟨_, rfl⟩
        have hcall : Calls Tryz.prog 27 #[.pointer (some ⟨g, 0, none⟩)] w3 fun e w' => e = .returned (.tuple #[.int .i64 r, .int .i64 o]) ∧ Below w3.heap.size w3 w' := by
          rw [hr, ho]; exact err_is M3.met M3.rd
        have HC := Lib.hid hcall
        have q1 : (r != 0) = true := by rw [hr]; simp [hy0]
        have cr3 := M3.cells.1
        have FIN := Lib.hid (fun W' hb => M3.ends hJ (W' := W') hb hk hlt hyb hy0)
        clear hcall hr ho hy hyb hy0 M3
        gi_wp2
        refine (callsIn_wide.2 HC.out).mono ?_
        rintro e w4 ⟨rfl, hb4⟩
        gi_wp2
        refine bodyPost_ret (results_none rfl _ _ _) rfl ?_
        exact ⟨⟨_, rfl⟩, FIN.out w4 hb4⟩
      · have hp1 : decide ((d : Int) ≤ (how b k : Int)) = false := by simp; omega
        rcases Nat.eq_zero_or_pos k with h0 | h0
        case' inl =>
          have hq : ¬ (0 < k ∧ num b k = ahdN b k) := by omega
          have ht : decide ((0 : Int) < (tot b k : Int)) = false := by rw [h0]; rfl
          have htn : ¬ 0 < tot b k := by rw [h0]; exact Nat.lt_irrefl _
        case' inr =>
          have ht : decide ((0 : Int) < (tot b k : Int)) = true := by have := tot_ge b k; simp; omega
          have htn : 0 < tot b k := by have := tot_ge b k; omega
          by_cases hq : V = P
          case' pos =>
            subst hq
            have FX := Lib.hid (r_fail4 (b := b) (N := N) (k := k) (vst b (2 * k + 2)).1 (by rw [← HD.out]; exact hp) ⟨h0, HV.out.trans HPd.out.symm⟩)
            gi_wp2
            refine (callsIn_wide.2 (fail_is 4 M2.rd)).mono ?_
            rintro e w3 ⟨rfl, hS3, hg3⟩
            have M3 := M2.step hJ hS3 hg3 (by omega) (by omega) hme
            clear M2 cr2 cn2 hS3 hg3
            obtain ⟨y, hy, hyb, hy0⟩ := FX.out
            rw [hy] at M3
            obtain ⟨r, hr⟩ : ∃ r, r = y.1 := ⟨_, rfl⟩
            obtain ⟨o, ho⟩ : ∃ o : Int, o = (y.2 : Int) := ⟨_, rfl⟩
            have hcall : Calls Tryz.prog 27 #[.pointer (some ⟨g, 0, none⟩)] w3 fun e w' => e = .returned (.tuple #[.int .i64 r, .int .i64 o]) ∧ Below w3.heap.size w3 w' := by
              rw [hr, ho]; exact err_is M3.met M3.rd
            have HC := Lib.hid hcall
            have q1 : (r != 0) = true := by rw [hr]; simp [hy0]
            have cr3 := M3.cells.1
            have FIN := Lib.hid (fun W' hb => M3.ends hJ (W' := W') hb hk hlt hyb hy0)
            clear hcall hr ho hy hyb hy0 M3
            gi_wp2
            refine (callsIn_wide.2 HC.out).mono ?_
            rintro e w4 ⟨rfl, hb4⟩
            gi_wp2
            refine bodyPost_ret (results_none rfl _ _ _) rfl ?_
            exact ⟨⟨_, rfl⟩, FIN.out w4 hb4⟩
          case' neg =>
            have g1 : (V == P) = false := by simp [hq]
            have hne : V ≠ P := hq
            replace hq : ¬ (0 < k ∧ num b k = ahdN b k) := fun h => hne (by rw [← HV.out, ← HPd.out]; exact h.2)
        all_goals
          have HP := Lib.hid hp; have HQ := Lib.hid hq
          clear hq h0
          gi_wp2
          cases hx2 : (vst b (2 * k + 2)).2 with
          | some y =>
            obtain ⟨hyb, hy0⟩ := r_fail0 (N := N) hx2
            rw [hx2] at M2
            obtain ⟨r, hr⟩ : ∃ r, r = y.1 := ⟨_, rfl⟩
            obtain ⟨o, ho⟩ : ∃ o : Int, o = (y.2 : Int) := ⟨_, rfl⟩
            have hcall : Calls Tryz.prog 27 #[.pointer (some ⟨g, 0, none⟩)] w2 fun e w' => e = .returned (.tuple #[.int .i64 r, .int .i64 o]) ∧ Below w2.heap.size w2 w' := by
              rw [hr, ho]; exact err_is M2.met M2.rd
            have HC := Lib.hid hcall
            have q1 : (r != 0) = true := by rw [hr]; simp [hy0]
            have FIN := Lib.hid (fun W' hb => M2.ends hJ (W' := W') hb hk hlt hyb hy0)
            clear hcall hr ho hx2 hyb hy0 M2
            refine (callsIn_wide.2 HC.out).mono ?_
            rintro e w4 ⟨rfl, hb4⟩
            gi_wp2
            refine bodyPost_ret (results_none rfl _ _ _) rfl ?_
            exact ⟨⟨_, rfl⟩, FIN.out w4 hb4⟩
          | none =>
            have hgo : rGo b N k := go_of hlt hx2 (by rw [← HD.out]; exact HP.out) HQ.out
            have hkK := rK_lt hk hgo
            rw [hx2] at M2
            have hcall : Calls Tryz.prog 27 #[.pointer (some ⟨g, 0, none⟩)] w2 fun e w' => e = .returned (.tuple #[.int .i64 0, .int .i64 0]) ∧ Below w2.heap.size w2 w' := err_is M2.met M2.rd
            have HC := Lib.hid hcall
            have hh : how b k < 65536 := by omega
            have hw2 : IntKind.i64.wrap (how b k : Int) = (how b k : Int) := IntWalk.i64_in _ (by omega)
            have HX2 := Lib.hid hx2
            have fin : ∀ w4, Below w2.heap.size w2 w4 → ∃ fn tmps assign body, (Instr.yield lp #[.int .i64 V, .int .i64 ((how b k : Int) + 1)]).run Tryz.prog w4 = .ok (.round lp fn tmps assign body) w4 ∧ RoundIn Fence.wide 0 Tryz.prog lp fn tmps assign body w4 fun e W5 =>
                e = .returned (.bool true) ∧ Mid b g br bn N J (k + 1) W5 (vst b (2 * (k + 1))).1 (vst b (2 * (k + 1))).2 := by
              intro w4 hb4
              have M4 := M2.next hJ hb4
              obtain ⟨fn, tmps, assign, body, hy, hR1⟩ := hR k w4 hkK M4.word
              unfold elG at hy
              rw [HV.out] at hy
              refine ⟨fn, tmps, assign, body, hy, hR1.mono fun e W5 ⟨h1, h2, h3⟩ => ⟨h1, ?_⟩⟩
              show Mid b g br bn N J (k + 1) W5 (vst b (2 * k + 2)).1 (vst b (2 * k + 2)).2
              rw [HX2.out]
              exact M4.yielded h2 h3 hg hme
            have FIN := Lib.hid fin
            clear hcall hx2 hgo M2 fin
            refine (callsIn_wide.2 HC.out).mono ?_
            rintro e w4 ⟨rfl, hb4⟩
            obtain ⟨fn, tmps, assign, body, hy, hR1⟩ := FIN.out w4 hb4
            gi_wp2
            refine hR1.mono ?_
            rintro e W5 ⟨rfl, M5⟩
            gi_wp2
            go_roundw
            case rel => exact ⟨k + 1, hkK, by rw [ahdN_succ, HV.out], by rw [tot_succ]; go_num, M5⟩
            case measure => simp [intOf]; omega
    · have hkK : k = rK b N := by
        rcases Nat.lt_or_ge k (rK b N) with h | h
        · exact absurd (go_is (rK_go h)).1 hlt
        · omega
      subst hkK
      have hE : rEnd b N = (endS b (vst b (2 * rK b N)).1 none).1 := by unfold rEnd; rw [if_neg hlt]
      have HE := Lib.hid hE; have HX := Lib.hid hx
      clear hE hx
      gi_wp2
      go_end0
      refine ⟨⟨_, rfl⟩, M.word, _, _, M.rd, ?_⟩
      rw [HE.out, HX.out]
end Go.Proofs.YticanhidahkhfaaGreatDoor
namespace Go.Proofs.YticanhidahkhfaaGreatDoor
open Go.RowKit
set_option linter.unusedVariables false
set_option linter.unusedSimpArgs false
set_option maxRecDepth 100000
attribute [local go_sem] Oper.semAt_some wide_fn wide_depth
theorem rnGet_no (A : Option Addr) (n c : Nat) (b : List Nat) (k : Int) (w : World) (h : k < 0 ∨ 65536 < k) :
    Calls Tryz.prog 156 #[.slice A n c, .int .i64 k] w (NewLE w (rS b k) (rE b k)) := by
  have h1 : rE b k = 1 := by unfold rE; rw [if_pos h]
  have h2 : rS b k = [] := by unfold rS; rw [if_neg (by omega)]
  rw [h1, h2]
  clear h1 h2
  by_cases hk : k < 0
  · clear h
    go_enter Tryz.func156, Tryz.ntmps156
    go_wp2_with fail
    go_ret2
    exact ⟨.slice none 0 0, rfl, own_nil _ _ _ _, Below.refl _ _⟩
  · have d1 : decide (k < 0) = false := by simp; omega
    have h2 : 65536 < k := by omega
    clear h
    go_enter Tryz.func156, Tryz.ntmps156
    go_wp2_with fail
    go_ret2
    exact ⟨.slice none 0 0, rfl, own_nil _ _ _ _, Below.refl _ _⟩
structure GetV (w : World) (h : Nat) (W0 : World) (v : Value) (xs : List Int) (W : World) : Prop where
  box : Blk W (h + 1) 205 #[v]
  own : W.ownsRow h 2 1 v xs.length (zs xs)
  blk : ∀ j, v.ownBlock = some j → j = h ∨ h + 4 ≤ j
  below : Below w.heap.size w W
  base : w.heap.size ≤ h
  size : h + 4 ≤ W.heap.size
  spares : Spares (h + 4) (ReadX h (h + 2) (h + 3)) W0 W
theorem RdS.kept {A B : World} {g at_ : Nat} {l : List Nat} {x : Option (Int × Nat)} {row : Option Nat} (h : RdS A g l at_ x) (hg : A.grownBy B row) (hr : ∀ r, row = some r → ∃ o : Obj, A.heap[r]? = some o ∧ o.isCells = false) : RdS B g l at_ x := by
  have hb : ∀ f t cs, Blk A f t cs → Blk B f t cs := fun f t cs hf => (grownBy_keeps_cells hg hr hf rfl).trans hf
  obtain ⟨Ad, n, c, err, hR, hE⟩ := h
  refine ⟨Ad, n, c, err, ⟨hb _ _ _ hR.blk, ⟨hR.reads.1, fun hn => ?_⟩, hR.cap, hR.place, hR.size, hR.byte⟩, hE.next fun f t cs hf _ => hb f t cs hf⟩
  obtain ⟨ad, e, hlt, hc⟩ := hR.reads.2 hn
  exact ⟨ad, e, hlt, fun j u hu => cell_kept (hc j u hu) hg hr⟩
theorem GetV.cells {w W0 W : World} {h : Nat} {v : Value} {xs : List Int} (s : GetV w h W0 v xs W) : W.cell? ⟨h + 1, 0, none⟩ = some v := by rw [s.box.cell]; rfl
theorem GetV.far {w W0 W : World} {h : Nat} {v : Value} {xs : List Int} (s : GetV w h W0 v xs W) : ∀ k, ReadX h (h + 2) (h + 3) k → k < W.heap.size := fun k hk => by have := s.size; rcases hk with hk | hk | hk <;> omega
theorem GetV.next {w W0 W W' : World} {h : Nat} {v : Value} {xs : List Int} (s : GetV w h W0 v xs W) (hb : Below W.heap.size W W') : GetV w h W0 v xs W' :=
  ⟨s.box.below hb s.box.lt, own_below s.own hb, s.blk, s.below.trans (hb.mono s.below.size), s.base, Nat.le_trans s.size hb.size, s.spares.below s.far hb⟩
theorem GetV.start {w W0 W : World} {h : Nat} {v : Value} {xs : List Int} (s : GetV w h W0 v xs W) : GetV w h W v xs W := ⟨s.box, s.own, s.blk, s.below, s.base, s.size, Spares.refl _ _ _⟩
theorem GetV.put {w W0 W W' : World} {h : Nat} {v v' : Value} {xs ys : List Int} (s : GetV w h W0 v xs W) (hown : W'.ownsRow h 2 1 v' (xs.length + ys.length) (zs xs ++ zs ys)) (hg : W.grownBy W' v.ownBlock)
    (hat : v'.ownBlock = v.ownBlock ∨ v'.ownBlock = some W.heap.size) : GetV w h W0 v' (xs ++ ys) (W'.setCell ⟨h + 1, 0, none⟩ v') := by
  have hset : W'.grownBy (W'.setCell ⟨h + 1, 0, none⟩ v') (some (h + 1)) := only_setCell (World.grownBy.refl W' _) (.inl rfl) _
  have hsz := s.size
  have hblk : ∀ j, v'.ownBlock = some j → j = h ∨ h + 4 ≤ j := fun j hj => by
    rcases hat with e | e
    · exact s.blk j (e ▸ hj)
    · rw [e] at hj
      injection hj with hj
      omega
  refine ⟨?_, ?_, hblk, ?_, s.base, ?_, ?_⟩
  · have := (s.box.grown hg (fun e => by have := s.blk _ e.symm; omega)).set_ 0 v'
    simpa using this
  · rw [← zs_append, ← List.length_append] at hown
    refine hown.kept hset ?_
    cases hv : v'.ownBlock with
    | none => exact .inl rfl
    | some j =>
      refine .inr fun e => ?_
      injection e with e
      have := hblk j hv
      omega
  · exact (s.below.grown hg s.below.size (fun k hk => by have := (s.own.lt k hk).1; have := s.base; omega)).setCell (p := ⟨h + 1, 0, none⟩) (by have := s.base; show w.heap.size ≤ h + 1; omega) _
  · exact Nat.le_trans (Nat.le_trans s.size hg.size) (by simp)
  · refine (s.spares.grown hg s.far (fun j hj => ?_)).setCell (p := ⟨h + 1, 0, none⟩) ?_ _
    · obtain ⟨h1, h2⟩ := own_cells s.own hj
      have h3 := s.blk j hj
      exact ⟨fun hk => by rcases hk with hk | hk | hk <;> omega, h2⟩
    · intro hk
      change h + 1 < h ∨ h + 1 = h + 2 ∨ h + 1 = h + 3 at hk
      omega
def GetI (w : World) (h : Nat) (b : List Nat) (k : Nat) (W : World) : Prop := ∃ v, GetV w h W v (expd (rr b k)) W
set_option maxHeartbeats 2000000 in
theorem rnGet_ok (A : Option Addr) (n c N : Nat) (b : List Nat) (w : World) (hr : Reads w w.heap.size 1 A n (bs b)) (hb : ∀ x ∈ b, x < 256) (hn : n ≤ 140737488355328) (hN : N ≤ 65536) (hmet : Met w) :
    Calls Tryz.prog 156 #[.slice A n c, .int .i64 (N : Int)] w (NewLE w (rS b (N : Int)) (rE b (N : Int))) := by
  obtain ⟨i1, hi1, hy0, hy1, hy2⟩ := info_parts info_i64
  have d1 : decide ((N : Int) < 0) = false := by simp
  have d2 : decide ((65536 : Int) < (N : Int)) = false := by simp; omega
  have hmk : ∀ W : World, (Instr.makeSlice 205 (.int .i64 0) (.int .i64 (N : Int))).run Tryz.prog W = .ok (.slice (some ⟨W.heap.size, 0, none⟩) 0 N) (W.alloc (.cells (madeCells #[.int .i64 0] N) 2)) := fun W => by
    have := run_make_i64 0 N (Nat.zero_le _) (by omega) W
    simpa using this
  have hrE : rE b (N : Int) = rEnd b N := by unfold rE; rw [if_neg (by omega), Int.toNat_natCast]
  have hrS : rS b (N : Int) = if rEnd b N = 0 then expd (rr b (rK b N)) else [] := by unfold rS; rw [hrE, Int.toNat_natCast]
  have HE := Lib.hid hrE; have HS := Lib.hid hrS
  have hle := (rK_none (b := b) (N := N) _ (Nat.le_refl _)).2
  have HLE := Lib.hid hle
  have HB := Lib.hid hb
  have hml : 0 < w.heap.size := World.block_lt_of_cell? _ _ hmet
  clear hb hrE hrS hle
  refine (callsIn_wide (n := 0)).1 ?_
  refine callsIn_of_wp_marks Tryz.func156 rfl trivial ?_ rfl
  simp only [Tryz.ntmps156, List.size_toArray, List.length_cons, List.length_nil, Nat.reduceAdd, Nat.reduceSub, Array.replicate_succ, Array.replicate_zero, List.push_toArray, List.append_toArray, List.nil_append, List.cons_append]
  gi_wp2_with fail
  refine (callsIn_wide.2 (newReader_any A n c b w hr hn HB.out)).mono ?_
  rintro e w1 ⟨g, A1, c1, rfl, hg, hR1, hb1⟩
  have hS1 := rd_new hR1
  have hg1 := hS1.lt
  have hm1 := hmet.next hb1
  clear hR1 hr
  gi_wp2_with fail
  clear hmk
  refine (callsIn_wide.2 (read_any (some ⟨g, 0, none⟩) (N : Int) _)).mono ?_
  rintro e w' ⟨rfl, rfl⟩
  gi_wp2
  obtain ⟨h, hh⟩ : ∃ h, w1.heap.size = h := ⟨_, rfl⟩
  obtain ⟨W0, hW0⟩ : ∃ W0, ((((w1.alloc (.cells (madeCells #[.int .i64 0] N) 2)).alloc (.cells #[.slice (some ⟨w1.heap.size, 0, none⟩) 0 N] 205)).alloc (.cells #[.pointer (some ⟨g, 0, none⟩)] 57)).alloc (.cells #[.int .i64 (N : Int)] 3)) = W0 := ⟨_, rfl⟩
  rw [hW0]
  have hb0 : Below w1.heap.size w1 W0 := by
    rw [← hW0]
    exact ((((Below.refl _ w1).alloc (Nat.le_refl _) _).alloc (by simp) _).alloc (by simp; omega) _).alloc (by simp; omega) _
  have hsz : W0.heap.size = h + 4 := by rw [← hW0]; simp; omega
  have hown : W0.ownsRow h 2 1 (.slice (some ⟨h, 0, none⟩) 0 N) 0 (zs []) := by
    rw [← hW0, ← hh]
    exact (((World.ownsRow_made w1 _ _ (Nat.le_refl _) (by unfold maxLen; omega) (by rw [size_madeCells]; simp)).alloc _).alloc _).alloc _
  have hbox : Blk W0 (h + 1) 205 #[.slice (some ⟨h, 0, none⟩) 0 N] := by
    have := ((Blk.new (w1.alloc (.cells (madeCells #[.int .i64 0] N) 2)) 205 #[.slice (some ⟨w1.heap.size, 0, none⟩) 0 N]).alloc (.cells #[.pointer (some ⟨g, 0, none⟩)] 57)).alloc (.cells #[.int .i64 (N : Int)] 3)
    rw [hW0, World.size_alloc, hh] at this
    exact this
  have hrb : Blk W0 (h + 2) 57 #[.pointer (some ⟨g, 0, none⟩)] := by
    have := (Blk.new ((w1.alloc (.cells (madeCells #[.int .i64 0] N) 2)).alloc (.cells #[.slice (some ⟨w1.heap.size, 0, none⟩) 0 N] 205)) 57 #[.pointer (some ⟨g, 0, none⟩)]).alloc (.cells #[.int .i64 (N : Int)] 3)
    rw [hW0, World.size_alloc, World.size_alloc, hh] at this
    exact this
  have hnb : Blk W0 (h + 3) 3 #[.int .i64 (N : Int)] := by
    have := Blk.new (((w1.alloc (.cells (madeCells #[.int .i64 0] N) 2)).alloc (.cells #[.slice (some ⟨w1.heap.size, 0, none⟩) 0 N] 205)).alloc (.cells #[.pointer (some ⟨g, 0, none⟩)] 57)) 3 #[.int .i64 (N : Int)]
    rw [hW0, World.size_alloc, World.size_alloc, World.size_alloc, hh] at this
    exact this
  have hS0 := hS1.next hb0
  have hm0 := hm1.next hb0
  have hbw := hb1.trans (hb0.mono hb1.size)
  have hwh : w.heap.size ≤ h := by have := hb1.size; omega
  rw [hh] at hg1 ⊢
  simp only [Nat.add_assoc, Nat.reduceAdd]
  clear hW0 hb0 hb1 hS1 hm1 hh
  refine range_gives (gf := 261) (lb := #[.pointer (some ⟨h + 3, 0, none⟩), .pointer (some ⟨h + 2, 0, none⟩)]) rfl (enters_of Tryz.func261 (by kernel_rfl) rfl)
    (read1_gives g (h + 2) (h + 3) h N b W0 hS0 hrb hnb hm0 (by omega) hg1 (by omega) (by omega) (by omega) hN HB.out)
    (fun k hk => by rw [hsz]; rcases hk with hk | hk | hk <;> omega) (fun k hk => by rw [hsz]; omega) (fun _ => rfl)
    (GetI w h b)
    (fun k => { tmps := #[.slice A n c, .int .i64 (N : Int), undef, undef, .slice none 0 0, .int .i64 0, .pointer (some ⟨g, 0, none⟩), .pointer (some ⟨h + 1, 0, none⟩), .int .i64 (num b k), .int .i64 ((how b k + 1 : Nat) : Int), undef, undef, .int .i64 (N : Int), .bool false, .bool false, .int .i64 (N : Int), .bool false, .bool false, .slice A n c, .pointer (some ⟨g, 0, none⟩), .int .i64 (N : Int), .slice (some ⟨h, 0, none⟩) 0 N, .pointer (some ⟨g, 0, none⟩), .int .i64 (N : Int), .func (.func 261) #[] #[.pointer (some ⟨h + 3, 0, none⟩), .pointer (some ⟨h + 2, 0, none⟩)], .int .i64 (num b k), .int .i64 ((how b k + 1 : Nat) : Int), undef, undef, undef, undef, undef, undef, undef, undef, undef, undef, undef, undef, undef, undef, undef, undef, undef], defers := [] })
    ⟨_, hbox, hown, fun j hj => .inl (by simpa [Value.ownBlock] using hj.symm), hbw, hwh, by omega, Spares.refl _ _ _⟩ ?hIn ?hIy ?hT ?hassign ?hbody ?hdone
  case hIn =>
    rintro k X Y row ⟨v, s⟩ hg' hrow
    rw [hsz] at hrow
    exact ⟨v, s.box.grown hg' (fun e => by have := (hrow _ e.symm).1; omega), own_kept s.own hg' (fun r e => (hrow r e).2), s.blk, s.below.grown hg' s.below.size (fun j hj => by have := (hrow _ hj).1; omega), s.base, Nat.le_trans s.size hg'.size, Spares.refl _ _ _⟩
  case hIy =>
    rintro k X Y row ⟨v, s⟩ hg' hrow
    exact ⟨v, s.box.grown hg' (fun e => by have := hrow _ e.symm; omega), own_before s.own hg' (fun r e => by have := hrow _ e; omega), s.blk, s.below.grown hg' s.below.size (fun j hj => by have := hrow _ hj; omega), s.base, Nat.le_trans s.size hg'.size, Spares.refl _ _ _⟩
  case hT =>
    rintro X Y row ⟨at_, x, hS, hE⟩ hg' hrow
    exact ⟨at_, x, hS.kept hg' (fun r e => (hrow r e).2), hE⟩
  case hassign =>
    intro lp k W K hK
    unfold elG
    gi_wp2
    simpa using hK
  case hbody =>
    rintro lp k W hk hs ⟨v, s0⟩
    rw [hsz]
    dsimp only
    have htk := (rK_none (b := b) (N := N) (k + 1) hk).2
    rw [tot_succ] at htk
    have HT : Hid (expd (rr b (k + 1)) = expd (rr b k) ++ List.replicate (how b k + 1) (num b k)) := by
      rw [rr_succ, expd_append, expd_one]; exact Lib.hid rfl
    have hxl : (expd (rr b k)).length = tot b k := rfl
    generalize how b k + 1 = m at *
    generalize num b k = V at *
    generalize expd (rr b k) = xs at *
    clear hs
    gi_wp2
    gi_loopw [28] (fun s28 wr => ∃ (j : Nat) (v : Value), j ≤ m ∧ s28 = .int .i64 (j : Int) ∧ GetV w h W v (xs ++ List.replicate j V) wr) (fun s28 _ => m - (intOf s28).toNat)
    case atStart => exact ⟨0, v, Nat.zero_le _, rfl, by simpa using s0.start⟩
    case round =>
      clear s0
      obtain ⟨j, v, hj, rfl, s⟩ := hrel
      have hyl : (xs ++ List.replicate j V).length = tot b k + j := by rw [List.length_append, List.length_replicate, hxl]
      have HR := Lib.hid (List.replicate_succ' (n := j) (a := V))
      generalize hys : xs ++ List.replicate j V = ys at s hyl
      have HY := Lib.hid hys
      have hown := s.own
      rw [hyl] at hown
      obtain ⟨Av, cv, rfl, _, _, _⟩ := own_slice hown
      clear hys
      by_cases hlt : j < m
      · have hc := s.cells
        have s1 := s.next ((Below.refl wr.heap.size wr).alloc (Nat.le_refl _) (.cells #[.int .i64 V] 2))
        have hown1 := s1.own
        rw [hyl] at hown1
        gi_wp2_with (gi_at_builtin
                     refine wpListIn_append_any rfl (.tmp 30) (.tmp 32) _ rfl h 2 i1 _ 1 8 Tryz.underlying205 hi1 hy0 hy1 hy2 rfl (by omega) (.slice Av (tot b k + j) cv) (tot b k + j) (zs ys) rfl
                       hown1 (wr.heap.size + 1) (some ⟨wr.heap.size, 0, none⟩) 1 1 [.int .i64 V] rfl (Reads.new wr _ _) (one_int _ _) (by unfold maxLen; omega) (by omega) (by have := s.size; simp; omega) ?_
                     intro v3 w3 hown3 hg3 hat3
                     obtain ⟨A3, c3, rfl, _, _, _⟩ := own_slice hown3
                     have hbx := s1.box.grown hg3 (fun e => by have := s1.blk _ e.symm; omega)
                     have hc3 := hbx.cell 0
                     have hf3 := hbx.frozen 0
                     simp only [List.getElem?_toArray, List.getElem?_cons_zero] at hc3)
        go_roundw
        case rel =>
          have s2 := s1.put (ys := [V]) (by rw [hyl]; exact hown3) hg3 hat3
          rw [← HY.out, List.append_assoc, ← HR.out] at s2
          exact ⟨j + 1, _, by omega, by go_num, s2⟩
        case measure => simp [intOf]; omega
      · obtain rfl : j = m := by omega
        gi_wp2
        refine ⟨s.spares, .slice Av (tot b k + j) cv, ?_⟩
        rw [HT.out, HY.out]
        exact s.start
  case hdone =>
    rintro D W hD ⟨v, s⟩ ⟨at_, x, hS, hE2⟩ hK
    have hm := hmet.next s.below
    obtain ⟨r, hr0⟩ : ∃ r, r = (endS b at_ x).1 := ⟨_, rfl⟩
    obtain ⟨o, ho⟩ : ∃ o : Int, o = ((endS b at_ x).2 : Int) := ⟨_, rfl⟩
    have hcall : Calls Tryz.prog 23 #[.pointer (some ⟨g, 0, none⟩)] W fun e w' => e = .returned (.tuple #[.int .i64 r, .int .i64 o]) ∧ Below W.heap.size W w' := by
      rw [hr0, ho]; exact end_is hm hS
    have HC := Lib.hid hcall
    rw [← hr0] at hE2
    rw [← hE2] at HE HS
    have HRE := Lib.hid hE2
    clear hcall hr0 ho hE2 hm hS
    gi_wp2
    refine (callsIn_wide.2 HC.out).mono ?_
    rintro e W2 ⟨rfl, hb2⟩
    have hK2 : W2.heap[D]? = some (.deferred (some [])) := (hb2.block D (Array.getElem?_eq_some_iff.1 hK).1).trans hK
    have s2 := s.next hb2
    have hB2 : Below w.heap.size w (W2.putObj D (.deferred none)) := s2.below.trans (belowK_b (w := w) (Nat.le_refl _) W2 D _ _ (by rw [hsz] at hD; omega) hK2 rfl rfl)
    by_cases h0 : r = 0
    · subst h0
      have hc := s2.cells
      have h3 := own_kept s2.own (grownBy_putObj' W2 D (.deferred none)) (fun r e => by cases e; exact ⟨_, hK2, rfl⟩)
      gi_wp2
      refine ⟨by simp, .inl ⟨_, _, rfl, run_takeDeferred hK2, ?_⟩⟩
      rw [HS.out, HE.out, if_pos trivial]
      exact ⟨_, by kernel_rfl, v, rfl, own_base h3 hwh, hB2⟩
    · have q1 : (r == 0) = false := by simp [h0]
      have q2 : (r != 0) = true := by simp [h0]
      have H0 := Lib.hid h0
      clear h0
      gi_wp2
      refine ⟨by simp, .inl ⟨_, _, rfl, run_takeDeferred hK2, ?_⟩⟩
      rw [HS.out, HE.out, if_neg H0.out]
      exact ⟨_, by kernel_rfl, .slice none 0 0, rfl, own_nil _ _ _ _, hB2⟩
theorem rnGet_any (A : Option Addr) (n c : Nat) (k : Int) (b : List Nat) (w : World) (hr : Reads w w.heap.size 1 A n (bs b)) (hb : ∀ x ∈ b, x < 256) (hn : n ≤ 140737488355328) (hmet : Met w) :
    Calls Tryz.prog 156 #[.slice A n c, .int .i64 k] w (NewLE w (rS b k) (rE b k)) := by
  by_cases h : k < 0 ∨ 65536 < k
  · exact rnGet_no A n c b k w h
  · obtain ⟨N, rfl⟩ : ∃ N : Nat, k = (N : Int) := ⟨k.toNat, by omega⟩
    exact rnGet_ok A n c N b w hr hb hn (by omega) hmet
end Go.Proofs.YticanhidahkhfaaGreatDoor
