/- A digest that is on its way: what has been added so far; contract of package sha's begun. -/
import Derived.Test.YtfpbijnlmlaloaaDoorJ14
import Derived.Test.YtfpbijnlmlaloaaDoorJ7
import Derived.Test.YtfpbijnlmlaloaaDoorShaFill
namespace Go.Proofs.YtfpbijnlmlaloaaDoor
open Go.RowKit
set_option linter.unusedVariables false
set_option linter.unusedSimpArgs false
set_option maxRecDepth 100000

/-- In block 'g' lies a digest that has taken 'L', whose size is set to 'N'; what isn't a whole block yet is 'o'. All of it lies from block 'B' on. -/
structure Wk (w : World) (B g : Nat) (o : Value) (L : List Nat) (N : Nat) : Prop where
  blk : Blk w g 69 (workL (st8 L).list o N)
  own : w.ownsRow B 5 1 o (L.length % 64) (bs (opn L))
  far : o.ownBlock ≠ some g
  base : B ≤ g
  byte : ∀ b ∈ L, b < 256
theorem Wk.ok {w : World} {B g : Nat} {o : Value} {L : List Nat} {N : Nat} (_h : Wk w B g o L N) : (st8 L).ok := blks_ok s0_ok _ _
theorem Wk.lt {w : World} {B g : Nat} {o : Value} {L : List Nat} {N : Nat} (h : Wk w B g o L N) : g < w.heap.size := h.blk.lt
theorem Wk.below {w w' : World} {B g : Nat} {o : Value} {L : List Nat} {N : Nat} (h : Wk w B g o L N) (hb : Below w.heap.size w w') : Wk w' B g o L N :=
  ⟨h.blk.below hb h.lt, own_below h.own hb, h.far, h.base, h.byte⟩
/-- A slice that reads as bytes, off the digest's own memory. -/
def Pt (w : World) (g : Nat) (o : Value) (A : Option Addr) (n : Nat) (l : List Nat) : Prop :=
  Reads w w.heap.size 1 A n (bs l) ∧ (0 < n → ∀ ad, A = some ad → ad.block ≠ g ∧ some ad.block ≠ o.ownBlock)
theorem Pt.len {w : World} {g : Nat} {o : Value} {A : Option Addr} {n : Nat} {l : List Nat} (h : Pt w g o A n l) : l.length = n := by
  have := h.1.1; rw [bs_length] at this; omega
theorem Pt.grown {w w' : World} {g : Nat} {o : Value} {A : Option Addr} {n : Nat} {l : List Nat} (h : Pt w g o A n l) (hg : w.grownBy w' (some g)) : Pt w' g o A n l := by
  refine ⟨⟨h.1.1, fun hn => ?_⟩, h.2⟩
  obtain ⟨ad, had, hlt, hc⟩ := h.1.2 hn
  exact ⟨ad, had, Nat.lt_of_lt_of_le hlt hg.size, fun j u hu => hg.cell (hc j u hu) (by rw [block_of_add]; simpa using (h.2 hn ad had).1)⟩
/-- The digest's own row grows. -/
theorem Pt.grownOwn {w w' : World} {g : Nat} {o o' : Value} {A : Option Addr} {n : Nat} {l : List Nat} (h : Pt w g o A n l) (hg : w.grownBy w' o.ownBlock) (ho : o'.ownBlock = o.ownBlock ∨ o'.ownBlock = some w.heap.size) : Pt w' g o' A n l := by
  refine ⟨⟨h.1.1, fun hn => ?_⟩, fun hn ad had => ⟨(h.2 hn ad had).1, ?_⟩⟩
  · obtain ⟨ad, had, hlt, hc⟩ := h.1.2 hn
    exact ⟨ad, had, Nat.lt_of_lt_of_le hlt hg.size, fun j u hu => hg.cell (hc j u hu) (by rw [block_of_add]; exact (h.2 hn ad had).2)⟩
  · rcases ho with ho | ho
    · rw [ho]; exact (h.2 hn ad had).2
    · obtain ⟨ad', had', hlt, _⟩ := h.1.2 hn
      rw [had] at had'
      injection had' with had'
      subst had'
      rw [ho]
      intro e
      injection e with e
      omega
theorem Pt.cut {w : World} {g : Nat} {o : Value} {A : Option Addr} {n : Nat} {l : List Nat} (h : Pt w g o A n l) {k c : Nat} (hk : k ≤ n) (hc : n ≤ c) : Pt w g o (if c = k then A else A.map (·.add k)) (n - k) (l.drop k) := by
  refine ⟨by have := h.1.cut (k := k) hk hc; simpa [bs_drop] using this, fun hn ad had => ?_⟩
  rw [if_neg (by omega)] at had
  obtain ⟨ad', had', _, _⟩ := h.1.2 (by omega)
  rw [had'] at had
  simp only [Option.map_some, Option.some.injEq] at had
  subst had
  rw [block_of_add]
  exact h.2 (by omega) ad' had'
theorem Pt.fore {w : World} {g : Nat} {o : Value} {A : Option Addr} {n : Nat} {l : List Nat} (h : Pt w g o A n l) {k : Nat} (hk : k ≤ n) : Pt w g o A k (l.take k) :=
  ⟨by have := h.1.fore (k := k) hk; simpa [bs_take] using this, fun hn ad had => h.2 (by omega) ad had⟩
theorem Pt.of_below {w : World} {B g : Nat} {o : Value} {L : List Nat} {N : Nat} (hk : Wk w B g o L N) {A : Option Addr} {n : Nat} {l : List Nat} (h : Reads w B 1 A n (bs l)) : Pt w g o A n l := by
  refine ⟨h.more (Nat.le_trans hk.base (Nat.le_of_lt hk.lt)), fun hn ad had => ?_⟩
  obtain ⟨ad', had', hlt, _⟩ := h.2 hn
  rw [had] at had'
  injection had' with had'
  subst had'
  refine ⟨fun e => ?_, fun e => ?_⟩
  · have := hk.base; omega
  · have := (hk.own.lt _ e.symm).1; omega
theorem Pt.of_new {w w' : World} {B g : Nat} {o : Value} {L : List Nat} {N : Nat} (hk : Wk w B g o L N) {t : TypeId} {v : Value} {n : Nat} {l : List Nat} (h : w'.ownsRow w.heap.size t 1 v n (bs l)) {A : Option Addr} {c : Nat} (hv : v = .slice A n c) (hs : w.heap.size ≤ w'.heap.size) : Pt w' g o A n l := by
  subst hv
  refine ⟨Reads.of_own h, fun hn ad had => ?_⟩
  subst had
  have h1 := (h.lt ad.block rfl).1
  exact ⟨fun e => by have := hk.lt; omega, fun e => by have := (hk.own.lt _ e.symm).2; omega⟩

def BegunTo (w : World) (e : Ending) (w' : World) : Prop := ∃ g o, e = .returned (.pointer (some ⟨g, 0, none⟩)) ∧ Wk w' w.heap.size g o [] 0 ∧ Below w.heap.size w w'
set_option maxHeartbeats 1000000 in
theorem begun_any (w : World) : Calls Tryd.prog 33 #[] w (BegunTo w) := by
  have hmk : ∀ W : World, (Instr.makeSlice 36 (.int .i64 0) (.int .i64 64)).run Tryd.prog W = .ok (.slice (some ⟨W.heap.size, 0, none⟩) 0 64) (W.alloc (.cells (madeCells #[.int .u8 0] 64) 5)) := fun W => run_make_u8 64 (by omega) W
  go_enter Tryd.func33, Tryd.ntmps33
  go_wp2_with fail
  go_ret
  refine ⟨w.heap.size + 1, .slice (some ⟨w.heap.size, 0, none⟩) 0 64, rfl, ⟨?_, ?_, ?_, ?_, ?_⟩, ((Below.refl _ _).alloc (Nat.le_refl _) _).alloc (by simp) _⟩
  · have h := Blk.new (w.alloc (.cells (madeCells #[.int .u8 0] 64) 5)) 69 (workL s0.list (.slice (some ⟨w.heap.size, 0, none⟩) 0 64) 0)
    have e : workL s0.list (.slice (some ⟨w.heap.size, 0, none⟩) 0 64) 0 = #[.int .u32 1779033703, .int .u32 3144134277, .int .u32 1013904242, .int .u32 2773480762, .int .u32 1359893119, .int .u32 2600822924, .int .u32 528734635, .int .u32 1541459225, .slice (some ⟨w.heap.size, 0, none⟩) 0 64, .int .u64 0] := by
      unfold workL
      rfl
    rw [World.size_alloc] at h
    rw [show st8 [] = s0 from rfl]
    rw [e] at h ⊢
    exact h
  · have h : (w.alloc (.cells (madeCells #[.int .u8 0] 64) 5)).ownsRow w.heap.size 5 1 (.slice (some ⟨w.heap.size, 0, none⟩) 0 64) 0 [] :=
      World.ownsRow_made w _ _ (Nat.le_refl _) (by unfold maxLen; omega) (by rw [size_madeCells])
    exact h.alloc _
  · simp [Value.ownBlock]
  · omega
  · simp
end Go.Proofs.YtfpbijnlmlaloaaDoor
