/- Texts joined: VlXok RdAt RfFar VlEnd VlArg RdFail. -/
import Derived.Test.YtieknhhhcjdbnaaDoorVlTake
import Derived.Test.YtieknhhhcjdbnaaDoorRefRd
import Derived.Test.YtieknhhhcjdbnaaDoorRBlob
import Derived.Test.YtieknhhhcjdbnaaDoorRdE
import Derived.BigQuiet
import Derived.Deep.QuietTactic
import Derived.Test.YtieknhhhcjdbnaaDoorJ5
import Derived.Test.YtieknhhhcjdbnaaDoorJ12
/- Behind whatever is taken of values and columns, a reader's error has a number; what is answered with an error; bounds. No condition. -/
namespace Go.Proofs.YtieknhhhcjdbnaaDoor
open Go.RowKit
set_option linter.unusedVariables false
set_option linter.unusedSimpArgs false
set_option maxRecDepth 100000

theorem xok_none : XOk none := fun _ h => by cases h
theorem xok_fail {x : Option (Int × Nat)} (h : XOk x) (at_ : Nat) (k : Int) : XOk (failS at_ x k) := by
  cases x with
  | some y => exact h
  | none =>
    unfold failS
    simp only
    by_cases hk : k = 0
    · rw [if_pos hk]; exact xok_none
    · rw [if_neg hk]; intro y hy; injection hy with hy; subst hy; exact hk
theorem xok_fix {x : Option (Int × Nat)} (h : XOk x) (l : List Nat) (at_ : Nat) (n : Int) : XOk (fixS l at_ x n).2.2 := by
  cases x with
  | some y => exact h
  | none =>
    unfold fixS
    simp only
    split
    · intro y hy; injection hy with hy; subst hy; simp
    · split
      · intro y hy; injection hy with hy; subst hy; simp
      · exact xok_none
theorem xok_var {x : Option (Int × Nat)} (h : XOk x) (l : List Nat) (at_ : Nat) : XOk (varS l at_ x).2.2 := by
  cases x with
  | some y => exact h
  | none =>
    unfold varS
    simp only
    split
    · exact xok_none
    · rename_i h1
      intro y hy; injection hy with hy; subst hy
      show ((lookF 0 0 (l.drop at_)).2.2 : Int) ≠ 0
      omega
theorem xok_blob {x : Option (Int × Nat)} (h : XOk x) (l : List Nat) (at_ : Nat) (most : Int) : XOk (blobS l at_ x most).2.2 := by
  cases x with
  | some y => exact h
  | none => exact fun y hy => blobS_ok l at_ most y hy
theorem xok_tkV {x : Option (Int × Nat)} (h : XOk x) (b : List Nat) (at_ : Nat) : XOk (tkV b at_ x).2.2 := by
  have hf := xok_fix h b at_ 1
  unfold tkV
  simp only
  split
  · exact xok_var hf _ _
  · split
    · exact xok_blob hf _ _ _
    · simp only
      split
      · exact xok_fail hf _ _
      · exact hf
theorem xok_tkC {x : Option (Int × Nat)} (h : XOk x) (b : List Nat) (at_ : Nat) : XOk (tkC b at_ x).2.2 := by
  have hf := xok_fix (xok_fix (xok_fix h b at_ 1) b (fixS b at_ x 1).2.1 1) b (fixS b (fixS b at_ x 1).2.1 (fixS b at_ x 1).2.2 1).2.1 1
  unfold tkC
  simp only
  split
  · exact xok_fail hf _ _
  · exact hf
theorem xok_csS {x : Option (Int × Nat)} (h : XOk x) (b : List Nat) (at_ : Nat) : ∀ k, XOk (csS b at_ x k).2.2
  | 0 => h
  | k + 1 => xok_tkC (xok_csS h b at_ k) _ _
theorem xok_vsS {x : Option (Int × Nat)} (h : XOk x) (b : List Nat) (at_ : Nat) : ∀ k, XOk (vsS b at_ x k).2.2
  | 0 => h
  | k + 1 => xok_tkV (xok_vsS h b at_ k) _ _
theorem xok_rsS {x : Option (Int × Nat)} (h : XOk x) (b : List Nat) (s : List Cl) (at_ : Nat) : ∀ k, XOk (rsS b s at_ x k).2.2
  | 0 => h
  | k + 1 => xok_fail (xok_vsS (xok_rsS h b s at_ k) _ _ _) _ _
/-- With an error nothing is answered. -/
theorem tkV_err {b : List Nat} {at_ : Nat} {x : Option (Int × Nat)} {y : Int × Nat} (h : (tkV b at_ x).2.2 = some y) : (tkV b at_ x).1 = (0, 0, []) := by
  unfold tkV at h ⊢
  simp only at h ⊢
  split
  · rename_i h1
    rw [if_pos h1] at h
    simp only at h
    simp [h]
  · rename_i h1
    rw [if_neg h1] at h
    split
    · rename_i h2
      rw [if_pos h2] at h
      simp only at h
      simp [h]
    · rfl
theorem csS_length (b : List Nat) (at_ : Nat) (x : Option (Int × Nat)) : ∀ k, (csS b at_ x k).1.length = k
  | 0 => rfl
  | k + 1 => by rw [csS]; simp only; rw [List.length_append, csS_length b at_ x k]; rfl
theorem vsS_length (b : List Nat) (at_ : Nat) (x : Option (Int × Nat)) : ∀ k, (vsS b at_ x k).1.length = k
  | 0 => rfl
  | k + 1 => by rw [vsS]; simp only; rw [List.length_append, vsS_length b at_ x k]; rfl
theorem rsS_length (b : List Nat) (s : List Cl) (at_ : Nat) (x : Option (Int × Nat)) : ∀ k, (rsS b s at_ x k).1.length = k
  | 0 => rfl
  | k + 1 => by rw [rsS]; simp only; rw [List.length_append, rsS_length b s at_ x k]; rfl
theorem varS_lt (b : List Nat) (hb : ∀ v ∈ b, v < 256) (at_ : Nat) (x : Option (Int × Nat)) : (varS b at_ x).1 < 18446744073709551616 := by
  cases x with
  | some y => show (0 : Nat) < _; omega
  | none =>
    unfold varS
    simp only
    split
    · exact look_lt (b.drop at_) 0 0 (by omega)
    · show (0 : Nat) < _; omega
theorem csS_stop {b : List Nat} {at_ : Nat} {x : Option (Int × Nat)} {k : Nat} {y : Int × Nat} (h : (csS b at_ x k).2.2 = some y) : ∀ j, (csS b at_ x (k + j)).2 = ((csS b at_ x k).2.1, some y)
  | 0 => by rw [← h]; rfl
  | j + 1 => by rw [← Nat.add_assoc, csS]; simp only; rw [csS_stop h j]; exact tkC_some _ _ _
theorem vsS_stop {b : List Nat} {at_ : Nat} {x : Option (Int × Nat)} {k : Nat} {y : Int × Nat} (h : (vsS b at_ x k).2.2 = some y) : ∀ j, (vsS b at_ x (k + j)).2 = ((vsS b at_ x k).2.1, some y)
  | 0 => by rw [← h]; rfl
  | j + 1 => by rw [← Nat.add_assoc, vsS]; simp only; rw [vsS_stop h j]; rfl
theorem rsS_stop {b : List Nat} {s : List Cl} {at_ : Nat} {x : Option (Int × Nat)} {k : Nat} {y : Int × Nat} (h : (rsS b s at_ x k).2.2 = some y) : ∀ j, (rsS b s at_ x (k + j)).2 = ((rsS b s at_ x k).2.1, some y)
  | 0 => by rw [← h]; rfl
  | j + 1 => by
    rw [← Nat.add_assoc, rsS]
    simp only
    rw [rsS_stop h j]
    simp only
    rw [vsS_some]
    rfl
end Go.Proofs.YtieknhhhcjdbnaaDoor

/- Contract of the Reader's At. -/
namespace Go.Proofs.YtieknhhhcjdbnaaDoor
open Go.RowKit
set_option linter.unusedVariables false
set_option linter.unusedSimpArgs false
set_option maxRecDepth 100000

theorem at_nil (w : World) : Calls Tryd.prog 36 #[.pointer none] w fun e w' => e = .returned (.int .i64 0) ∧ w = w' := by
  go_enter Tryd.func36, Tryd.ntmps36
  go_wp2_with fail
  go_ret
  exact ⟨rfl, rfl⟩
theorem at_is {w : World} {g : Nat} {l : List Nat} {at_ : Nat} {x : Option (Int × Nat)} (h : RdS w g l at_ x) :
    Calls Tryd.prog 36 #[.pointer (some ⟨g, 0, none⟩)] w fun e w' => e = .returned (.int .i64 (at_ : Int)) ∧ w = w' := by
  obtain ⟨A, n, c, err, hR, hE⟩ := h
  have hc := hR.blk.cell 1
  simp only [List.getElem?_toArray, List.getElem?_cons_succ, List.getElem?_cons_zero] at hc
  go_enter Tryd.func36, Tryd.ntmps36
  go_wp2_with fail
  go_ret
  exact ⟨rfl, rfl⟩
end Go.Proofs.YtieknhhhcjdbnaaDoor

/- The document's reader stands while a row of the call's own, behind it, grows; a new one. -/
namespace Go.Proofs.YtieknhhhcjdbnaaDoor
open Go.RowKit
set_option linter.unusedVariables false
set_option linter.unusedSimpArgs false
set_option maxRecDepth 100000

theorem RfS.grown {w w' : World} {g : Nat} {l : List Nat} {at_ : Nat} {x : Option (Int × Nat)} (h : RfS w g l at_ x) {row : Option Nat} (hg : w.grownBy w' row) (hr : ∀ q, row = some q → g < q) : RfS w' g l at_ x := by
  obtain ⟨⟨A, n, c, hR⟩, hX⟩ := h
  have hlt := hR.blk.lt
  exact ⟨⟨A, n, c, hR.blk.grown hg (fun e => by have := hr g e.symm; omega), hR.reads.grown hg (Nat.le_of_lt hlt) (fun q hq => Nat.le_of_lt (hr q hq)), hR.cap, hR.place, hR.size, hR.byte⟩, hX⟩
theorem RfS.alloc {w : World} {g : Nat} {l : List Nat} {at_ : Nat} {x : Option (Int × Nat)} (h : RfS w g l at_ x) (o : Obj) : RfS (w.alloc o) g l at_ x :=
  h.next ((Below.refl _ _).alloc (Nat.le_refl _) _)
theorem rf_new {w : World} {A : Option Addr} {n c : Nat} {l : List Nat} (hr : Reads w w.heap.size 1 A n (bs l)) (hc : n ≤ c) (hn : n ≤ 140737488355328) (hb : ∀ b ∈ l, b < 256) :
    RfS (w.alloc (.cells #[.slice A n c, .int .i64 0, .int .i64 0, .int .i64 0] 29)) w.heap.size l 0 none :=
  ⟨⟨A, n, c, ⟨Blk.new w _ _, hr.alloc (Nat.le_refl _) _, hc, Nat.zero_le _, hn, hb⟩⟩, fun y h => by cases h⟩
/-- The error's number as the reader's cell has it. -/
theorem RfS.cellE {w : World} {g : Nat} {l : List Nat} {at_ : Nat} {x : Option (Int × Nat)} (h : RfS w g l at_ x) : w.cell? ⟨g, 2, none⟩ = some (.int .i64 (errS x).1) := by
  obtain ⟨⟨A, n, c, hR⟩, _⟩ := h
  rw [hR.blk.cell]; rfl
theorem RfS.cell1 {w : World} {g : Nat} {l : List Nat} {at_ : Nat} {x : Option (Int × Nat)} (h : RfS w g l at_ x) : w.cell? ⟨g, 1, none⟩ = some (.int .i64 (at_ : Int)) := by
  obtain ⟨⟨A, n, c, hR⟩, _⟩ := h
  rw [hR.blk.cell]; rfl
end Go.Proofs.YtieknhhhcjdbnaaDoor

/- Contracts of package value's failed and of the statements' own end: is there an error; are a reader's place and error the document's? -/
namespace Go.Proofs.YtieknhhhcjdbnaaDoor
open Go.RowKit
set_option linter.unusedVariables false
set_option linter.unusedSimpArgs false
set_option maxRecDepth 100000

theorem Met.rd3 {W W' : World} {g : Nat} {b : List Nat} {at_ : Nat} {x : Option (Int × Nat)} (h : Met W) (hS : RdS W g b at_ x) (hg : W.grownBy W' (some g)) : Met W' := by
  unfold Met at h ⊢
  refine hg.cell h (fun e => ?_)
  injection e with e
  obtain ⟨A, n, c, err, hR, _⟩ := hS
  have h0 := hR.blk.cell 0
  rw [← e] at h0
  rw [h0] at h
  simp at h
theorem RfS.cell3 {w : World} {g : Nat} {l : List Nat} {at_ : Nat} {x : Option (Int × Nat)} (h : RfS w g l at_ x) : w.cell? ⟨g, 3, none⟩ = some (.int .i64 ((errS x).2 : Int)) := by
  obtain ⟨⟨A, n, c, hR⟩, _⟩ := h
  rw [hR.blk.cell]; rfl
theorem failed_any {w : World} {g : Nat} {b : List Nat} {at_ : Nat} {x : Option (Int × Nat)} (hm : Met w) (hS : RdS w g b at_ x) (hx : XOk x) :
    Calls Tryd.prog 29 #[.pointer (some ⟨g, 0, none⟩)] w fun e w' => e = .returned (.bool x.isSome) ∧ Below w.heap.size w w' := by
  have HE := Lib.hid (err_is hm hS)
  cases x with
  | none =>
    clear hx
    go_enter Tryd.func29, Tryd.ntmps29
    go_wp2_with fail
    refine HE.out.mono ?_
    rintro e w1 ⟨he, hb⟩
    have he' : e = .returned (.tuple #[.int .i64 0, .int .i64 ((0 : Nat) : Int)]) := he
    subst he'
    clear he
    go_wp2_with fail
    go_ret
    exact ⟨rfl, hb⟩
  | some y =>
    have hy := hx y rfl
    obtain ⟨k, on⟩ := y
    have q : (k != 0) = true := by simpa using hy
    clear hx hy
    go_enter Tryd.func29, Tryd.ntmps29
    go_wp2_with fail
    refine HE.out.mono ?_
    rintro e w1 ⟨he, hb⟩
    have he' : e = .returned (.tuple #[.int .i64 k, .int .i64 (on : Int)]) := he
    subst he'
    clear he
    go_wp2_with fail
    go_ret
    exact ⟨by first | rfl | (rw [q]; rfl) | simp [q], hb⟩
set_option maxHeartbeats 1000000 in
theorem endV_any {w : World} {g h : Nat} {b : List Nat} {at_ : Nat} {x : Option (Int × Nat)} (hm : Met w) (hS : RdS w g b at_ x) (hF : RfS w h b at_ x) :
    Calls Tryd.prog 9 #[.pointer (some ⟨g, 0, none⟩), .pointer (some ⟨h, 0, none⟩)] w fun e w' => e = .returned (.bool true) ∧ Below w.heap.size w w' := by
  have he := err_is hm hS
  have HF := Lib.hid fun (W : World) (hb : Below w.heap.size w W) => And.intro (hF.next hb).cell1 (And.intro (hF.next hb).cellE (hF.next hb).cell3)
  have HA := Lib.hid fun (W : World) (hb : Below w.heap.size w W) => at_is (hS.next hb)
  obtain ⟨⟨k, on⟩, hx⟩ : ∃ y, errS x = y := ⟨_, rfl⟩
  rw [hx] at he HF
  have HE := Lib.hid he
  clear he hS hF hx
  go_enter Tryd.func9, Tryd.ntmps9
  go_wp2_with fail
  refine HE.out.mono ?_
  rintro e w1 ⟨ht, hb⟩
  have ht' : e = .returned (.tuple #[.int .i64 k, .int .i64 (on : Int)]) := ht
  subst ht'
  obtain ⟨c1, c2, c3⟩ := HF.out _ hb
  have HAT := Lib.hid fun q => HA.out (w1.drewN q) ((Drawn.one w1 q).below hb)
  have q1 : (k == k) = true := by simp
  have q2 : ((on : Int) == (on : Int)) = true := by simp
  have q3 : ((at_ : Int) == (at_ : Int)) = true := by simp
  clear ht HE HA HF
  go_wp2_with fail
  go_quiet ((go_at_call 36; first | exact quiet_same (HAT.out _) | exact quiet_same0 (HAT.out _)))
  go_wp2_with fail
  go_ret
  exact ⟨by first | rfl | simp, (Drawn.one w1 _).below hb⟩
end Go.Proofs.YtieknhhhcjdbnaaDoor

/- A value that is handed over by value. No program; no condition. -/
namespace Go.Proofs.YtieknhhhcjdbnaaDoor
open Go.RowKit
/-- A value handed over. -/
def vW (v : Vl) : Value := .agg #[.int .i64 v.1, .int .i64 v.2.1, .string ⟨v.2.2.toArray⟩]
end Go.Proofs.YtieknhhhcjdbnaaDoor

/- Contract of the Reader's Fail. -/
namespace Go.Proofs.YtieknhhhcjdbnaaDoor
open Go.RowKit
set_option linter.unusedVariables false
set_option linter.unusedSimpArgs false
set_option maxRecDepth 100000

theorem fail_nil (k : Int) (w : World) : Calls Tryd.prog 28 #[.pointer none, .int .i64 k] w fun e w' => e = .returned (.tuple #[]) ∧ w = w' := by
  go_enter Tryd.func28, Tryd.ntmps28
  go_wp2_with (go_at_call 52; refine (stopped_nil _).mono ?_; rintro e w1 ⟨rfl, rfl⟩)
  go_end0
  exact ⟨rfl, rfl⟩
theorem fail_is {w : World} {g : Nat} {l : List Nat} {at_ : Nat} {x : Option (Int × Nat)} (k : Int) (h : RdS w g l at_ x) :
    Calls Tryd.prog 28 #[.pointer (some ⟨g, 0, none⟩), .int .i64 k] w fun e w' => e = .returned (.tuple #[]) ∧ RdTo w g l at_ (failS at_ x k) w' := by
  cases x with
  | some x =>
    go_enter Tryd.func28, Tryd.ntmps28
    go_wp2_with (go_at_call 52; refine (stopped_err h).mono ?_; rintro e w1 ⟨rfl, rfl⟩)
    go_end0
    exact ⟨rfl, RdTo.same h (Drawn.refl w)⟩
  | none =>
    by_cases hk : k = 0
    · subst hk
      go_enter Tryd.func28, Tryd.ntmps28
      go_wp2_with (go_at_call 52; refine (stopped_is h).mono ?_; rintro e w1 ⟨rfl, rfl⟩)
      go_end0
      exact ⟨rfl, RdTo.same h (Drawn.refl w)⟩
    · have hk1 : (k == 0) = false := by simp [hk]
      have hk2 : (k != 0) = true := by simp [hk]
      have hF : failS at_ none k = some (k, at_) := by unfold failS; simp [hk]
      have HF := Lib.hid hF
      clear hF
      go_enter Tryd.func28, Tryd.ntmps28
      go_wp2_with (first
        | (go_at_call 52; refine (stopped_is h).mono ?_; rintro e w1 ⟨rfl, rfl⟩)
        | (go_at_call 53; refine (stop_is k h).mono ?_; rintro e w2 ⟨rfl, hto⟩))
      go_end0
      rw [HF.out]
      exact ⟨rfl, hto⟩
end Go.Proofs.YtieknhhhcjdbnaaDoor
