/- Texts joined: Same CkLaw CkKind Opened Yields CkMay TxRow. -/
import Derived.Test.YthlfplljbbnaoaaGreatDoorJ2
import Derived.Test.YthlfplljbbnaoaaGreatDoorJ8
import Derived.Laws.Rows
import Derived.Test.YthlfplljbbnaoaaGreatDoorJ5
import Derived.Deep.RegionWith
import Derived.BigGuard
import Derived.Lib.QuietBelow
import Derived.Sort.EncStr
/- Contracts of the statements' own small functions: Same tells whether two slices hold the same bytes; it changes nothing. -/
namespace Go.Proofs.YthlfplljbbnaoaaGreatDoor
open Go.RowKit
set_option linter.unusedVariables false
set_option linter.unusedSimpArgs false
set_option maxRecDepth 100000

def sameB (l m : List Nat) : Bool := decide (l = m)
theorem sameB_true {l m : List Nat} (h : l = m) : sameB l m = true := by unfold sameB; simp [h]
theorem sameB_false {l m : List Nat} (h : l ≠ m) : sameB l m = false := by unfold sameB; simp [h]

set_option maxHeartbeats 400000 in
theorem same_any (A A' : Option Addr) (n c m c' : Nat) (l1 l2 : List Nat) (w : World) (h1 : Reads w w.heap.size 1 A n (bs l1)) (h2 : Reads w w.heap.size 1 A' m (bs l2)) (hn : n ≤ 140737488355328) :
    Calls Tryz.prog 11 #[.slice A n c, .slice A' m c'] w fun e w' => e = .returned (.bool (sameB l1 l2)) ∧ Drawn w w' := by
  have e1 : l1.length = n := by have := h1.1; rw [bs_length] at this; omega
  have e2 : l2.length = m := by have := h2.1; rw [bs_length] at this; omega
  by_cases hnm : n = m
  · subst hnm
    have E1 := Lib.hid e1; have E2 := Lib.hid e2; clear e1 e2
    go_enter Tryz.func11, Tryz.ntmps11
    go_wp2_with fail
    go_loopw [5] (fun i wr => ∃ k : Nat, k ≤ n ∧ i = .int .i64 (k : Int) ∧ Hid (l1.take k = l2.take k) ∧ ∃ q, wr = w.drewN q) (fun i _ => n - (intOf i).toNat)
    case atStart => exact ⟨0, Nat.zero_le _, rfl, Lib.hid (by simp), 0, rfl⟩
    case round =>
      obtain ⟨k, hk, rfl, hpre, q, rfl⟩ := hrel
      by_cases hlt : k < n
      · obtain ⟨ad, u, rfl, _, hu, hc⟩ := h1.at_ hlt
        obtain ⟨ad', u', rfl, _, hu', hc'⟩ := h2.at_ hlt
        obtain ⟨b, hb, rfl⟩ := bs_at hu
        obtain ⟨b', hb', rfl⟩ := bs_at hu'
        have HB := Lib.hid hb; have HB' := Lib.hid hb'
        clear hb hb' hu hu'
        by_cases hbb : b = b'
        · subst hbb
          go_wp2_with fail
          go_quiet (fail)
          go_wp2_with fail
          have hpre' := hpre.out
          refine ⟨⟨k + 1, by omega, by go_num, Lib.hid ?_, _, rfl⟩, by simp [intOf]; omega⟩
          rw [List.take_add_one, List.take_add_one, hpre', HB.out, HB'.out]
        · have hne : ((b : Int) != (b' : Int)) = true := by simp; omega
          have hne' : ((b : Int) == (b' : Int)) = false := by simp; omega
          go_wp2_with fail
          go_quiet (fail)
          go_wp2_with fail
          go_ret
          refine ⟨ret_of (congrArg Value.bool (sameB_false ?_).symm), (Drawn.one w q).more _⟩
          intro h
          have := HB.out
          rw [h, HB'.out] at this
          injection this with this
          omega
      · go_wp2_with fail
        go_ret
        obtain rfl : k = n := by omega
        have e1 := E1.out; have e2 := E2.out; have hpre' := hpre.out
        refine ⟨ret_of (congrArg Value.bool (sameB_true ?_).symm), _, rfl⟩
        rwa [List.take_of_length_le (by omega), List.take_of_length_le (by omega)] at hpre'
  · have hne : ((n : Int) != (m : Int)) = true := by simp; omega
    have hne' : ((n : Int) == (m : Int)) = false := by simp; omega
    have E1 := Lib.hid e1; have E2 := Lib.hid e2; clear e1 e2
    go_enter Tryz.func11, Tryz.ntmps11
    go_wp2_with fail
    go_ret
    have e1 := E1.out; have e2 := E2.out
    refine ⟨ret_of (congrArg Value.bool (sameB_false ?_).symm), Drawn.refl w⟩
    rintro rfl
    omega

theorem same_true (A A' : Option Addr) (n c m c' : Nat) (l : List Nat) (w : World) (h1 : Reads w w.heap.size 1 A n (bs l)) (h2 : Reads w w.heap.size 1 A' m (bs l)) (hn : n ≤ 140737488355328) :
    Calls Tryz.prog 11 #[.slice A n c, .slice A' m c'] w fun e w' => e = .returned (.bool true) ∧ Drawn w w' :=
  (same_any A A' n c m c' l l w h1 h2 hn).mono fun e w' ⟨he, hw⟩ => ⟨by rw [he, sameB_true rfl], hw⟩
end Go.Proofs.YthlfplljbbnaoaaGreatDoor

/- What layer 14's laws are told of chunk's own Put, Get, Best and Way (each proved of the landed code in a text of its own); contract of its awake under the first. -/
namespace Go.Proofs.YthlfplljbbnaoaaGreatDoor
open Go.RowKit
set_option linter.unusedVariables false
set_option linter.unusedSimpArgs false
set_option maxRecDepth 100000

/-- The contract of Put. -/
def PutC : Prop := ∀ (A : Option Addr) (n c : Nat) (kd way : Int) (l : List Vl) (W : World), Reads W W.heap.size 3 A n (vs l) → n ≤ 65536 → (∀ v ∈ l, In64 v.1 ∧ In64 v.2.1) → (∀ v ∈ l, v.2.2.length ≤ 65536) → In64 kd → In64 way →
  Calls Tryz.prog 9 #[.slice A n c, .int .i64 kd, .int .i64 way] W (CkPut W kd way l)
/-- The contract of Best. -/
def BestC : Prop := ∀ (A : Option Addr) (n c : Nat) (kd : Int) (l : List Vl) (W : World), Reads W W.heap.size 3 A n (vs l) → n ≤ 65536 → (∀ v ∈ l, In64 v.1 ∧ In64 v.2.1) → (∀ v ∈ l, v.2.2.length ≤ 65536) → In64 kd →
  Calls Tryz.prog 12 #[.slice A n c, .int .i64 kd] W fun e w' => e = .returned (.int .i64 (bestW kd l)) ∧ Below W.heap.size W w'
theorem reads_vs (w : World) (l : List Vl) (t : TypeId) : Reads (w.alloc (.cells (vs l).toArray t)) (w.heap.size + 1) 3 (some ⟨w.heap.size, 0, none⟩) l.length (vs l) :=
  ⟨vs_length l, fun _ => ⟨_, rfl, by simp, fun j z hz => by
    have hb := (Blk.new w t (vs l).toArray).cell j
    rw [plain_add, Nat.zero_add, hb]
    simpa using hz⟩⟩
theorem ck_ex : cpE 1 0 [(0, 0, []), (1, 3, [])] = 0 ∧ cpB 1 0 [(0, 0, []), (1, 3, [])] = [1, 1, 0, 6] := by decide +kernel
theorem awakeC_any (HP : PutC) (w : World) : Calls Tryz.prog 8 #[] w fun e w' => e = .returned (.bool true) ∧ Below w.heap.size w w' := by
  have hc := HP (some ⟨w.heap.size, 0, none⟩) 2 2 1 0 [(0, 0, []), (1, 3, [])] (w.alloc (.cells (vs [(0, 0, []), (1, 3, [])]).toArray 42)) ((reads_vs w [(0, 0, []), (1, 3, [])] _).more (by simp)) (by omega) (by unfold In64; simp) (by simp) (by unfold In64; omega) (by unfold In64; omega)
  unfold CkPut at hc
  rw [ck_ex.1, ck_ex.2] at hc
  have HC := Lib.hid hc
  clear hc
  go_enter Tryz.func8, Tryz.ntmps8
  go_wp2_with fail
  refine HC.out.mono ?_
  rintro e w1 ⟨v, rfl, hown, hb⟩
  obtain ⟨A, c, rfl, _, _, hr⟩ := own_slice hown
  have hb1 : Below w.heap.size w w1 := ((Below.refl _ _).alloc (Nat.le_refl _) _).trans (hb.mono (by simp))
  clear hown hb
  go_wp2_with fail
  refine (same_true A _ 4 c 4 4 [1, 1, 0, 6] _ ((hr.alloc (Nat.le_refl _) _).more (by simp)) (reads_blk (Blk.new w1 5 #[.int .u8 1, .int .u8 1, .int .u8 0, .int .u8 6]) _ 4 _ (by simp) rfl rfl) (by omega)).mono ?_
  rintro e w2 ⟨rfl, hd⟩
  go_wp2_with fail
  go_ret
  exact ⟨rfl, hd.below (hb1.alloc hb1.size _)⟩
end Go.Proofs.YthlfplljbbnaoaaGreatDoor

/- Contracts of chunk's isKind, number, numberOf, text, textOf. No condition. -/
namespace Go.Proofs.YthlfplljbbnaoaaGreatDoor
open Go.RowKit
set_option linter.unusedVariables false
set_option linter.unusedSimpArgs false
set_option maxRecDepth 100000

/-- Is it a kind of a column? -/
def isK (kd : Int) : Bool := decide (kd = 1 ∨ kd = 2)
theorem isK_yes {kd : Int} (h : kd = 1 ∨ kd = 2) : isK kd = true := by unfold isK; simp [h]
theorem isK_no {kd : Int} (h : ¬ (kd = 1 ∨ kd = 2)) : isK kd = false := by unfold isK; simp only [decide_eq_false_iff_not]; exact h
theorem isKind_any (kd : Int) (w : World) : Calls Tryz.prog 25 #[.int .i64 kd] w fun e w' => e = .returned (.bool (isK kd)) ∧ w = w' := by
  obtain ⟨r, hr⟩ : ∃ r, isK kd = r := ⟨_, rfl⟩
  rw [hr]
  unfold isK at hr
  go_enter Tryz.func25, Tryz.ntmps25
  by_cases h1 : kd = 1
  · subst h1
    obtain rfl : r = true := by rw [← hr]; simp
    clear hr
    go_wp2_with fail
    go_ret
    exact ⟨rfl, rfl⟩
  · by_cases h2 : kd = 2
    · subst h2
      obtain rfl : r = true := by rw [← hr]; simp
      clear hr
      go_wp2_with fail
      go_ret
      exact ⟨rfl, rfl⟩
    · obtain rfl : r = false := by rw [← hr]; simp [h1, h2]
      have q1 : (kd == 1) = false := by simp [h1]
      have q2 : (kd == 2) = false := by simp [h2]
      clear hr h1 h2
      go_wp2_with fail
      go_ret
      exact ⟨rfl, rfl⟩
/-- A value handed over. -/
def vW (v : Vl) : Value := .agg #[.int .i64 v.1, .int .i64 v.2.1, .string ⟨v.2.2.toArray⟩]
theorem number_any (z : Int) (w : World) : Calls Tryz.prog 45 #[.int .i64 z] w fun e w' => e = .returned (vW (1, z, [])) ∧ Below w.heap.size w w' := by
  go_enter Tryz.func45, Tryz.ntmps45
  go_wp2_with fail
  exact bodyPost_ret (v := .agg #[.int .i64 1, .int .i64 z, .string ⟨#[]⟩]) (results_cell_row rfl _ _ _ _ _ _ _ (by rfl) (Blk.new w 42 #[.int .i64 1, .int .i64 z, .string ⟨#[]⟩]) Tryz.underlying42 rfl (by kernel_rfl)) rfl ⟨rfl, (Below.refl _ _).alloc (Nat.le_refl _) _⟩
theorem text_any (z : Tx) (w : World) : Calls Tryz.prog 58 #[.string ⟨z.toArray⟩] w fun e w' => e = .returned (vW (2, 0, z)) ∧ Below w.heap.size w w' := by
  go_enter Tryz.func58, Tryz.ntmps58
  go_wp2_with fail
  exact bodyPost_ret (v := .agg #[.int .i64 2, .int .i64 0, .string ⟨z.toArray⟩]) (results_cell_row rfl _ _ _ _ _ _ _ (by rfl) (Blk.new w 42 #[.int .i64 2, .int .i64 0, .string ⟨z.toArray⟩]) Tryz.underlying42 rfl (by kernel_rfl)) rfl ⟨rfl, (Below.refl _ _).alloc (Nat.le_refl _) _⟩
theorem numberOf_any (v : Vl) (w : World) : Calls Tryz.prog 44 #[vW v] w fun e w' => e = .returned (.int .i64 v.2.1) ∧ Below w.heap.size w w' := by
  obtain ⟨v0, v1, z⟩ := v
  unfold vW
  go_enter Tryz.func44, Tryz.ntmps44
  go_wp2_with fail
  go_ret
  exact ⟨rfl, by first | exact Below.refl _ _ | exact (Below.refl _ _).alloc (Nat.le_refl _) _⟩
theorem textOf_any (v : Vl) (w : World) : Calls Tryz.prog 57 #[vW v] w fun e w' => e = .returned (.string ⟨v.2.2.toArray⟩) ∧ Below w.heap.size w w' := by
  obtain ⟨v0, v1, z⟩ := v
  unfold vW
  go_enter Tryz.func57, Tryz.ntmps57
  go_wp2_with fail
  go_ret
  exact ⟨rfl, by first | exact Below.refl _ _ | exact (Below.refl _ _).alloc (Nat.le_refl _) _⟩
end Go.Proofs.YthlfplljbbnaoaaGreatDoor

/- What a function answers that hands out new bytes, opened; what reads goes on reading. -/
namespace Go.Proofs.YthlfplljbbnaoaaGreatDoor
open Go.RowKit
set_option linter.unusedVariables false
set_option linter.unusedSimpArgs false
set_option maxRecDepth 100000

theorem New.opened {w w' : World} {xs : List Value} {n : Nat} {e : Ending} (h : New w xs n e w') : ∃ A c, e = .returned (.slice A n c) ∧ n ≤ c ∧ Reads w' w'.heap.size 1 A n xs ∧ Below w.heap.size w w' := by
  obtain ⟨v, rfl, hown, hb⟩ := h
  obtain ⟨A, c, rfl, hc, _, hr⟩ := own_slice hown
  exact ⟨A, c, rfl, hc, hr, hb⟩
theorem Reads.next {w w' : World} {size n : Nat} {A : Option Addr} {xs : List Value} (h : Reads w w.heap.size size A n xs) (hb : Below w.heap.size w w') : Reads w' w'.heap.size size A n xs :=
  (h.below hb).more hb.size
end Go.Proofs.YthlfplljbbnaoaaGreatDoor

/- What a call answers wherever what stood below stands: for a drawn region with calls that make memory, in one walk; a part of bytes, cut at a place. No condition. -/
namespace Go.Proofs.YthlfplljbbnaoaaGreatDoor
open Go.RowKit
set_option linter.unusedVariables false
set_option linter.unusedSimpArgs false
set_option maxRecDepth 100000

/-- What a call answers wherever what stood below stands, and that it leaves that. -/
def Yields (B : Nat) (w : World) (f : FuncId) (args : Array Value) (v : Value) : Prop :=
  ∀ W, Below B w W → Calls Tryz.prog f args W fun e w' => e = .returned v ∧ Below B w w'
theorem below_drew {B : Nat} {w W : World} (h : Below B w W) : Below B w W.drew := ⟨h.os, h.tape, h.output, h.size, h.block⟩
theorem Yields.quiet {w : World} {f : FuncId} {args : Array Value} {v : Value} (h : Yields w.heap.size w f args v) (d : Nat) (os : Array Obj) :
    Calls Tryz.prog f args (Go.Sort.grow (redrawn w d) os) fun e w'' => e = .returned v ∧ ∃ p : Regrown, w'' = Go.Sort.grow (redrawn w p.d) p.os :=
  (h _ (below_regrown w d os)).mono fun _ _ ⟨he, hb⟩ => ⟨he, regrown_of_below hb⟩
theorem same_yields (A A' : Option Addr) (n c c' : Nat) (l : List Nat) (w : World) (h1 : Reads w w.heap.size 1 A n (bs l)) (h2 : Reads w w.heap.size 1 A' n (bs l)) (hn : n ≤ 140737488355328) :
    Yields w.heap.size w 11 #[.slice A n c, .slice A' n c'] (.bool true) := by
  intro W hb
  refine (same_true A A' n c n c' l W (h1.next hb) (h2.next hb) hn).mono ?_
  rintro e w1 ⟨rfl, hd⟩
  exact ⟨rfl, hd.below hb⟩
theorem cutB {w : World} {A : Option Addr} {n c k m : Nat} {l t : List Nat} (h : Reads w w.heap.size 1 A n (bs l)) (hk : k ≤ n) (hc : n ≤ c) (ht : l.drop k = t) (hm : n - k = m) : Reads w w.heap.size 1 (if c = k then A else Option.map (fun x => x.add k) A) m (bs t) := by
  have := h.cut (k := k) (cap := c) hk hc
  simp only [Nat.mul_one] at this
  rwa [bs_drop, ht, hm] at this
end Go.Proofs.YthlfplljbbnaoaaGreatDoor

/- Contracts of chunk's mayStand, and of the two tests of refusal. Nothing that was there changes. -/
namespace Go.Proofs.YthlfplljbbnaoaaGreatDoor
open Go.RowKit
set_option linter.unusedVariables false
set_option linter.unusedSimpArgs false
set_option maxRecDepth 100000

set_option maxHeartbeats 1000000 in
theorem mayStand_any (v : Vl) (kd : Int) (hk : kd = 1 ∨ kd = 2) (w : World) : Calls Tryz.prog 37 #[vW v, .int .i64 kd] w fun e w' => e = .returned (.bool (rgt kd v)) ∧ Below w.heap.size w w' := by
  obtain ⟨r, hr⟩ : ∃ r, rgt kd v = r := ⟨_, rfl⟩
  obtain ⟨v0, v1, z⟩ := v
  rw [hr]
  unfold rgt at hr
  simp only at hr
  have hB : Below w.heap.size w (w.alloc (.cells #[.int .i64 v0, .int .i64 v1, .string ⟨z.toArray⟩] 42)) := (Below.refl _ _).alloc (Nat.le_refl _) _
  have cs := Blk.new w 42 #[.int .i64 v0, .int .i64 v1, .string ⟨z.toArray⟩]
  have c0 : (w.alloc (.cells #[.int .i64 v0, .int .i64 v1, .string ⟨z.toArray⟩] 42)).cell? ⟨w.heap.size, 0, none⟩ = some (.int .i64 v0) := cs.cell 0
  have c1 : (w.alloc (.cells #[.int .i64 v0, .int .i64 v1, .string ⟨z.toArray⟩] 42)).cell? ⟨w.heap.size, 1, none⟩ = some (.int .i64 v1) := cs.cell 1
  have c2 : (w.alloc (.cells #[.int .i64 v0, .int .i64 v1, .string ⟨z.toArray⟩] 42)).cell? ⟨w.heap.size, 2, none⟩ = some (.string ⟨z.toArray⟩) := cs.cell 2
  obtain ⟨W, hW⟩ : ∃ W, W = (w.alloc (.cells #[.int .i64 v0, .int .i64 v1, .string ⟨z.toArray⟩] 42)) := ⟨_, rfl⟩
  rw [← hW] at hB c0 c1 c2
  have k0 := cell_regrown c0
  have k1 := cell_regrown c1
  have k2 := cell_regrown c2
  have hz0 : W.heap.size = w.heap.size + 1 := by rw [hW]; simp
  have hyn : Yields W.heap.size W 45 #[.int .i64 v1] (vW (1, v1, [])) := fun V hb => (number_any v1 V).mono fun e w' ⟨he, hb'⟩ => ⟨he, hb.trans (hb'.mono hb.size)⟩
  have hyt : Yields W.heap.size W 58 #[.string ⟨z.toArray⟩] (vW (2, 0, z)) := fun V hb => (text_any z V).mono fun e w' ⟨he, hb'⟩ => ⟨he, hb.trans (hb'.mono hb.size)⟩
  have HN := Lib.hid hyn
  have HT := Lib.hid hyt
  unfold vW at HN HT ⊢
  simp only at HN HT ⊢
  have qz : z = [] ∧ z.isEmpty = true ∨ z ≠ [] ∧ z.isEmpty = false := by cases z <;> simp
  have HW := Lib.hid hW
  clear hyn hyt cs hW
  go_enter Tryz.func37, Tryz.ntmps37
  by_cases h0 : v0 = 0
  · subst h0
    by_cases h1 : v1 = 0
    · subst h1
      rcases qz with ⟨hz, q⟩ | ⟨hz, q⟩
      · obtain rfl : r = true := by rw [← hr]; simp [hz]
        clear hr hz HN HT
        go_wp2_with fail
        go_ret
        rw [← HW.out]
        exact ⟨rfl, hB⟩
      · obtain rfl : r = false := by rw [← hr]; simp [hz]
        clear hr hz HN HT
        go_wp2_with fail
        go_ret
        rw [← HW.out]
        exact ⟨rfl, hB⟩
    · have q : (v1 == 0) = false := by simp [h1]
      obtain rfl : r = false := by rw [← hr]; simp [h1]
      clear hr qz h1 HN HT
      go_wp2_with fail
      go_ret
      rw [← HW.out]
      exact ⟨rfl, hB⟩
  · by_cases hv : v0 = kd
    · rcases hk with rfl | rfl
      · subst hv
        rcases qz with ⟨hz, q⟩ | ⟨hz, q⟩
        · obtain rfl : r = true := by rw [← hr]; simp [hz]
          clear hr hz h0
          go_wp2_with fail
          rw [← HW.out]
          refine wp_region_quiet_below (by kernel_rfl) (by kernel_rfl) ?_
          repeat (go_big_quiet_step (first
            | (go_at_call 45; exact HN.out.quiet _ _)
            | (go_at_call 58; exact HT.out.quiet _ _)))
          refine wpQuiet_nil ?_
          intro _ hw'
          obtain ⟨p, hw''⟩ := hw'
          subst hw''
          have hbp := below_regrown W p.d p.os
          go_wp2_with fail
          go_ret
          exact ⟨rfl, hB.trans (hbp.mono hB.size)⟩
        · obtain rfl : r = false := by rw [← hr]; simp [hz]
          clear hr hz h0
          go_wp2_with fail
          rw [← HW.out]
          refine wp_region_quiet_below (by kernel_rfl) (by kernel_rfl) ?_
          repeat (go_big_quiet_step (first
            | (go_at_call 45; exact HN.out.quiet _ _)
            | (go_at_call 58; exact HT.out.quiet _ _)))
          refine wpQuiet_nil ?_
          intro _ hw'
          obtain ⟨p, hw''⟩ := hw'
          subst hw''
          have hbp := below_regrown W p.d p.os
          go_wp2_with fail
          go_ret
          exact ⟨rfl, hB.trans (hbp.mono hB.size)⟩
      · subst hv
        have nb : ¬ (2 : Int) = 0 := by decide
        by_cases h1 : v1 = 0
        · subst h1
          obtain rfl : r = true := by rw [← hr]; simp
          have qs : (z == z) = true := by simp
          clear hr h0 qz nb
          go_wp2_with fail
          rw [← HW.out]
          refine wp_region_quiet_below (by kernel_rfl) (by kernel_rfl) ?_
          repeat (go_big_quiet_step (first
            | (go_at_call 45; exact HN.out.quiet _ _)
            | (go_at_call 58; exact HT.out.quiet _ _)))
          refine wpQuiet_nil ?_
          intro _ hw'
          obtain ⟨p, hw''⟩ := hw'
          subst hw''
          have hbp := below_regrown W p.d p.os
          go_wp2_with fail
          go_ret
          exact ⟨rfl, hB.trans (hbp.mono hB.size)⟩
        · have q : (v1 == 0) = false := by simp [h1]
          obtain rfl : r = false := by rw [← hr]; simp [h1]
          clear hr h0 qz nb h1
          go_wp2_with fail
          rw [← HW.out]
          refine wp_region_quiet_below (by kernel_rfl) (by kernel_rfl) ?_
          repeat (go_big_quiet_step (first
            | (go_at_call 45; exact HN.out.quiet _ _)
            | (go_at_call 58; exact HT.out.quiet _ _)))
          refine wpQuiet_nil ?_
          intro _ hw'
          obtain ⟨p, hw''⟩ := hw'
          subst hw''
          have hbp := below_regrown W p.d p.os
          go_wp2_with fail
          go_ret
          exact ⟨rfl, hB.trans (hbp.mono hB.size)⟩
    · have q1 : (v0 == 0) = false := by simp [h0]
      have q2 : (v0 == kd) = false := by simp [hv]
      obtain rfl : r = false := by rw [← hr]; simp [h0, hv]
      clear hr qz h0 hv HN HT
      go_wp2_with fail
      go_ret
      rw [← HW.out]
      exact ⟨rfl, hB⟩
end Go.Proofs.YthlfplljbbnaoaaGreatDoor

/- Texts in memory, over this program: lists of them as values; what a function answers that hands out new ones. No condition. -/
namespace Go.Proofs.YthlfplljbbnaoaaGreatDoor
open Go.RowKit
set_option linter.unusedVariables false
set_option linter.unusedSimpArgs false
set_option maxRecDepth 100000

/-- Texts as values. -/
def ts (l : List (List UInt8)) : List Value := l.map Go.Proofs.encStr
theorem ts_length (l : List (List UInt8)) : (ts l).length = l.length := by simp [ts]
theorem ts_nil : ts [] = [] := rfl
theorem ts_append (l m : List (List UInt8)) : ts (l ++ m) = ts l ++ ts m := by simp [ts]
theorem ts_take (l : List (List UInt8)) (k : Nat) : (ts l).take k = ts (l.take k) := by simp [ts]
theorem ts_drop (l : List (List UInt8)) (k : Nat) : (ts l).drop k = ts (l.drop k) := by simp [ts]
theorem ts_one (l : List (List UInt8)) : ∀ u ∈ ts l, u.oneCell' = true := by
  intro u hu
  obtain ⟨b, _, rfl⟩ := List.mem_map.1 hu
  rfl
theorem ts_at {l : List (List UInt8)} {k : Nat} {u : Value} (h : (ts l)[k]? = some u) : ∃ b, l[k]? = some b ∧ u = .string ⟨b.toArray⟩ := by
  unfold ts at h
  rw [List.getElem?_map] at h
  cases hb : l[k]? with
  | none => rw [hb] at h; cases h
  | some b => rw [hb] at h; injection h with h; exact ⟨b, rfl, h.symm⟩
theorem ts_get {l : List (List UInt8)} {k : Nat} {z : List UInt8} (h : l[k]? = some z) : (ts l)[k]? = some (.string ⟨z.toArray⟩) := by unfold ts; rw [List.getElem?_map, h]; rfl
theorem ts_snoc (xs : List Value) (l : List (List UInt8)) (b : List UInt8) : xs ++ ts l ++ [Value.string ⟨b.toArray⟩] = xs ++ ts (l ++ [b]) := by simp [ts]
theorem ts_same {x y : List UInt8} : ((⟨x.toArray⟩ : ByteArray) = ⟨y.toArray⟩) ↔ x = y := by
  constructor
  · intro h; have h2 := congrArg (fun b : ByteArray => b.data.toList) h; simpa using h2
  · intro h; rw [h]
theorem size_enc (x : List UInt8) : (⟨x.toArray⟩ : ByteArray).size = x.length := by simp [ByteArray.size]
theorem info_str : (Tryz.prog.info? 9).map (fun i => (i.zero, i.size, i.bytes)) = some (some (.string ⟨#[]⟩), 1, 16) := by kernel_rfl
theorem run_make_str (n c : Nat) (hnc : n ≤ c) (hc : c ≤ 8796093022208) (w : World) :
    (Instr.makeSlice 88 (.int .i64 (n : Int)) (.int .i64 (c : Int))).run Tryz.prog w = .ok (.slice (some ⟨w.heap.size, 0, none⟩) n c) (w.alloc (.cells (madeCells #[.string ⟨#[]⟩] c) 9)) := by
  obtain ⟨i, hi, hz0, hz1, hz2⟩ := info_parts info_str
  have hr := run_make (P := Tryz.prog) w 88 9 i _ Tryz.underlying88 hi hz0 .i64 .i64 n c (by omega) (by omega) (by rw [hz2]; omega) (by omega)
  rw [hz1] at hr
  simpa [Value.cells] using hr
/-- What a function answers that hands out new texts. -/
def NewT (w : World) (l : List (List UInt8)) (e : Ending) (w' : World) : Prop := ∃ v, e = .returned v ∧ w'.ownsRow w.heap.size 9 1 v l.length (ts l) ∧ Below w.heap.size w w'
theorem NewT.opened {w w' : World} {l : List (List UInt8)} {e : Ending} (h : NewT w l e w') : ∃ A c, e = .returned (.slice A l.length c) ∧ l.length ≤ c ∧ c ≤ maxLen ∧ Reads w' w'.heap.size 1 A l.length (ts l) ∧ Below w.heap.size w w' := by
  obtain ⟨v, rfl, hown, hb⟩ := h
  obtain ⟨A, c, rfl, hc, hm, hr⟩ := own_slice hown
  exact ⟨A, c, rfl, hc, hm, hr, hb⟩
/-- New texts, and the number of an error. -/
def NewTE (w : World) (l : List (List UInt8)) (x : Int) (e : Ending) (w' : World) : Prop :=
  ∃ v, e = .returned (.tuple #[v, .int .i64 x]) ∧ w'.ownsRow w.heap.size 9 1 v l.length (ts l) ∧ Below w.heap.size w w'
theorem NewTE.opened {w w' : World} {l : List (List UInt8)} {x : Int} {e : Ending} (h : NewTE w l x e w') : ∃ A c, e = .returned (.tuple #[.slice A l.length c, .int .i64 x]) ∧ l.length ≤ c ∧ c ≤ maxLen ∧ Reads w' w'.heap.size 1 A l.length (ts l) ∧ Below w.heap.size w w' := by
  obtain ⟨v, rfl, hown, hb⟩ := h
  obtain ⟨A, c, rfl, hc, hm, hr⟩ := own_slice hown
  exact ⟨A, c, rfl, hc, hm, hr, hb⟩
end Go.Proofs.YthlfplljbbnaoaaGreatDoor
