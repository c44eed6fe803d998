/- Contract of package disk's Boot. -/
import Derived.StillTailTactics
import Derived.Test.YthgopedojgbaoaaDkNames
namespace Go.Proofs.Ythgopedojgbaoaa
open Go.RowKit Go.Maps Go.WideMaps Go.ChangeMaps
set_option linter.unusedVariables false
set_option linter.unusedSimpArgs false
set_option maxRecDepth 100000

def bootK (k : List UInt8) (x : St × List Int) : St × List Int :=
  match x.1.V k with
  | none => x
  | some f => ({ x.1 with used := x.1.used - (f.1.length - (bootF f x.2).1.1.length), V := upd x.1.V k (some (bootF f x.2).1) }, (bootF f x.2).2)
theorem bootS_cons (k : List UInt8) (r : List (List UInt8)) (x : St × List Int) : bootS (k :: r) x = bootS r (bootK k x) := by
  obtain ⟨S, keeps⟩ := x
  show bootS r _ = bootS r _
  congr 1
theorem bootS_snoc (k : List UInt8) : ∀ (l : List (List UInt8)) (x : St × List Int), bootS (l ++ [k]) x = bootK k (bootS l x)
  | [], x => by rw [List.nil_append, bootS_cons]; rfl
  | a :: r, x => by rw [List.cons_append, bootS_cons, bootS_cons, bootS_snoc k r]
theorem bootK_dom (k : List UInt8) (x : St × List Int) (t : List UInt8) : ((bootK k x).1.V t).isSome = (x.1.V t).isSome := by
  unfold bootK
  cases h : x.1.V k with
  | none => rfl
  | some f =>
    show (upd x.1.V k _ t).isSome = _
    by_cases e : t = k
    · subst e; rw [upd_same, h]; rfl
    · rw [upd_other _ _ e]
theorem bootS_dom : ∀ (l : List (List UInt8)) (x : St × List Int) (t : List UInt8), ((bootS l x).1.V t).isSome = (x.1.V t).isSome
  | [], x, t => rfl
  | a :: r, x, t => by rw [bootS_cons, bootS_dom r, bootK_dom]
section
variable {w w1 : World} {X X1 : Nat → Prop} {d m : Nat} {D : DataW Unit} {C : Nat → Value} {S : St}
theorem DskAt.synced (h : DskAt w X d m D C S) {k : List UInt8} {b : Nat} {f : Fl} (hat : At D k b) (hf : S.V k = some f) (z : Int) (hz : z = (f.1.length : Int)) :
    DskAt (w.setCell ⟨b, 1, none⟩ (.int .i64 z)) X d m D (fun i => if i = b then C b else C i) (actSync k S f).2 ∧ Step w X (w.setCell ⟨b, 1, none⟩ (.int .i64 z)) X := by
  subst hz
  obtain ⟨f0, hf0, hF⟩ := h.some_of hat
  rw [hf] at hf0
  cases hf0
  refine ⟨h.setFile (f' := (f.1, f.1.length)) (v' := C b) hat (by simp [World.setCell]) (fun _ e => e) (fun i hi => by have := h.lt i hi; simpa [World.setCell] using this) (fun i hi hne _ => Below.heap_setCell _ _ _ _ (by exact hne)) ⟨hF.x, ?_, ?_, hF.row⟩ (fun g e => .inl e), (Step.refl w X).setCell hF.x _⟩
  · have := hF.blk.set_ 1 (.int .i64 (f.1.length : Int))
    exact this
  · exact own_keep hF.own (fun g e => Below.heap_setCell _ _ _ _ (by exact hF.g_ne_b hF g e))
theorem modulo_still (n m : Int) (hn : -9223372036854775808 ≤ n ∧ n < 9223372036854775808) (hm : 0 < m) (hm' : m < 9223372036854775808) (w : World) :
    Calls Try.prog 29 #[.int .i64 n, .int .i64 m] w fun e w' => e = .returned (.int .i64 (modu n m)) ∧ w' = w := by
  have h1 := Int.tmod_lt_of_pos n hm
  have h2 := Int.lt_tmod_of_pos n hm
  have hne : m ≠ 0 := by omega
  by_cases h : Int.tmod n m < 0
  · rw [show modu n m = Int.tmod n m + m from if_pos h]
    go_enter Try.func29, Try.ntmps29
    go_wp2_with fail
    go_ret
    exact ⟨by simp, rfl⟩
  · rw [show modu n m = Int.tmod n m from if_neg h]
    go_enter Try.func29, Try.ntmps29
    go_wp2_with fail
    go_ret
    exact ⟨by simp, rfl⟩
/-- Numbers that are handed in: they lie apart from the disk. -/
structure Ints (w : World) (X : Nat → Prop) (A : Option Addr) (n c : Nat) (l : List Int) : Prop where
  rd : Reads w w.heap.size 1 A n (l.map (Value.int .i64))
  off : 0 < n → ∀ ad, A = some ad → ¬ X ad.block
  rng : ∀ z ∈ l, -9223372036854775808 ≤ z ∧ z < 9223372036854775808
  cap : n ≤ c ∧ c ≤ maxLen
theorem Ints.len {A : Option Addr} {n c : Nat} {l : List Int} (h : Ints w X A n c l) : l.length = n := by have := h.rd.1; rw [List.length_map] at this; omega
theorem Ints.tail {A : Option Addr} {n c : Nat} {z : Int} {l : List Int} (h : Ints w X A n c (z :: l)) : Ints w X (if c = 1 then A else A.map (·.add 1)) (n - 1) (c - 1) l := by
  have hn := h.len
  have h1 := h.rd.cut (k := 1) (cap := c) (by simp at hn; omega) h.cap.1
  refine ⟨by simpa using h1, fun hp ad e => ?_, fun z hz => h.rng z (by simp [hz]), by have := h.cap; omega⟩
  simp at hn
  have hc : ¬ c = 1 := by have := h.cap; omega
  rw [if_neg hc] at e
  cases A with
  | none => cases e
  | some a =>
    injection e with e
    subst e
    rw [block_of_add]
    exact h.off (by omega) a rfl
theorem Ints.at_ {A : Option Addr} {n c : Nat} {z : Int} {l : List Int} (h : Ints w X A n c (z :: l)) (hs : Step w X w1 X) : ∃ ad, A = some ad ∧ w1.cell? ad = some (.int .i64 z) := by
  have hn := h.len
  simp at hn
  obtain ⟨ad, e, hb, hc⟩ := h.rd.2 (by omega)
  refine ⟨ad, e, (hs.cell hb (h.off (by omega) ad e)).trans ?_⟩
  have := hc 0 (.int .i64 z) (by simp)
  rwa [show ad.add 0 = ad from rfl] at this
theorem Ints.plain {A : Option Addr} {n c : Nat} {z : Int} {l : List Int} (h : Ints w X A n c (z :: l)) (hs : Step w X w1 X) : ∃ b off, A = some ⟨b, off, none⟩ ∧ w1.cell? ⟨b, off, none⟩ = some (.int .i64 z) := by
  obtain ⟨⟨b, off, sp⟩, e, hc⟩ := h.at_ hs
  have hsp : sp = none := by simpa using World.cell?_spot hc
  subst hsp
  exact ⟨b, off, e, hc⟩
def BootD (w : World) (X : Nat → Prop) (d : Nat) (S : St) (l : List Int) (e : Ending) (w' : World) : Prop :=
  e = .returned (.tuple #[]) ∧ ∃ ts, NamesOf S.V ts ∧ Dsk w' X d (bootS ts ({ S with down := false, fuse := -1 }, l)).1 ∧ Step w X w' X
theorem Boot_nil (A : Option Addr) (n c : Nat) (w : World) : Calls Try.prog 12 #[.pointer none, .slice A n c] w fun e w' => e = .returned (.tuple #[]) ∧ Drawn w w' := by
  go_enter Try.func12, Try.ntmps12
  go_wp2_with fail
  refine bodyPost_ret (results_none (by rfl) _ _ _) rfl ?_
  exact ⟨rfl, Drawn.refl _⟩
end
end Go.Proofs.Ythgopedojgbaoaa
