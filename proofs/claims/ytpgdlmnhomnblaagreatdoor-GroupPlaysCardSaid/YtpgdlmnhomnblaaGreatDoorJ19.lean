import Derived.Test.YtpgdlmnhomnblaaGreatDoorJ18
import Derived.Test.YtpgdlmnhomnblaaGreatDoorJ14
import Derived.Test.YtpgdlmnhomnblaaGreatDoorJ5
import Derived.Deep.QuietTactic
import Derived.BigQuiet
import Derived.Test.YtpgdlmnhomnblaaGreatDoorJ1
import Derived.WalkSpells
import Derived.Deep.RegionWith
import Derived.StillTailTactics
import Derived.Test.YtpgdlmnhomnblaaGreatDoorJ11
import Derived.Test.YtpgdlmnhomnblaaGreatDoorJ13
import Derived.Test.YtpgdlmnhomnblaaGreatDoorJ12
import Derived.Test.YtpgdlmnhomnblaaGreatDoorJ9
import Derived.Test.YtpgdlmnhomnblaaGreatDoorJ10
import Derived.Test.YtpgdlmnhomnblaaGreatDoorJ16
import Derived.Test.YtpgdlmnhomnblaaGreatDoorJ6
import Derived.Test.YtpgdlmnhomnblaaGreatDoorJ7
import Derived.Laws.IdiomStrings
import Derived.Laws.BytesArg
import Derived.Test.YtpgdlmnhomnblaaGreatDoorJ17
import Derived.Test.YtpgdlmnhomnblaaGreatDoorJ4
namespace Go.Proofs.YtpgdlmnhomnblaaGreatDoor
open Go.RowKit
set_option linter.unusedVariables false
set_option linter.unusedSimpArgs false
set_option maxRecDepth 100000
def unpackE (b : List Nat) (n w : Int) : Nat :=
  if szI n w < 0 then 1 else if (b.length : Int) < szI n w then 2 else if szI n w < (b.length : Int) then 3 else if pk 8 b < 2 ^ (w.toNat * n.toNat) then 0 else 4
def unpackS (b : List Nat) (n w : Int) : List Nat := if unpackE b n w = 0 then dg w.toNat n.toNat (pk 8 b) else []
end Go.Proofs.YtpgdlmnhomnblaaGreatDoor
namespace Go.Proofs.YtpgdlmnhomnblaaGreatDoor
open Go.RowKit
set_option linter.unusedVariables false
set_option linter.unusedSimpArgs false
set_option maxRecDepth 100000
end Go.Proofs.YtpgdlmnhomnblaaGreatDoor
namespace Go.Proofs.YtpgdlmnhomnblaaGreatDoor
open Go.RowKit
set_option linter.unusedVariables false
set_option linter.unusedSimpArgs false
set_option maxRecDepth 100000
def rbS (b : List Nat) (at_ : Nat) (x : Option (Int × Nat)) (n : Int) : List Nat × Nat × Option (Int × Nat) :=
  let f := fixS b at_ x 1
  let x2 := if 64 < f.1 then failS f.2.1 f.2.2 5 else f.2.2
  let t := takeS b f.2.1 x2 ((b.length : Int) - f.2.1)
  let x4 := failS t.2.1 t.2.2 (unpackE t.1 n f.1)
  (unpackS t.1 n f.1, t.2.1, if wd (unpackS t.1 n f.1) = f.1 then x4 else failS t.2.1 x4 4)
def dst (b : List Nat) (k : Nat) : Nat × Option (Int × Nat) :=
  if k = 0 then (0, none) else if k = 1 then vst b 1 else (rbS b (vst b 1).1 (vst b 1).2 ((k : Int) - 1)).2
end Go.Proofs.YtpgdlmnhomnblaaGreatDoor
namespace Go.Proofs.YtpgdlmnhomnblaaGreatDoor
open Go.RowKit
set_option linter.unusedVariables false
set_option linter.unusedSimpArgs false
set_option maxRecDepth 100000
end Go.Proofs.YtpgdlmnhomnblaaGreatDoor
namespace Go.Proofs.YtpgdlmnhomnblaaGreatDoor
open Go.RowKit
set_option linter.unusedVariables false
set_option linter.unusedSimpArgs false
set_option maxRecDepth 100000
end Go.Proofs.YtpgdlmnhomnblaaGreatDoor
namespace Go.Proofs.YtpgdlmnhomnblaaGreatDoor
open Go.RowKit
set_option linter.unusedVariables false
set_option linter.unusedSimpArgs false
set_option maxRecDepth 100000
end Go.Proofs.YtpgdlmnhomnblaaGreatDoor
namespace Go.Proofs.YtpgdlmnhomnblaaGreatDoor
open Go.RowKit
set_option linter.unusedVariables false
set_option linter.unusedSimpArgs false
set_option maxRecDepth 100000
theorem RdS.byte {w : World} {g : Nat} {l : List Nat} {at_ : Nat} {x : Option (Int × Nat)} (h : RdS w g l at_ x) : ∀ b ∈ l, b < 256 := by
  obtain ⟨A, n, c, err, hR, _⟩ := h
  exact hR.byte
end Go.Proofs.YtpgdlmnhomnblaaGreatDoor
namespace Go.Proofs.YtpgdlmnhomnblaaGreatDoor
open Go.RowKit
set_option linter.unusedVariables false
set_option linter.unusedSimpArgs false
set_option maxRecDepth 100000
end Go.Proofs.YtpgdlmnhomnblaaGreatDoor
namespace Go.Proofs.YtpgdlmnhomnblaaGreatDoor
open Go.RowKit
set_option linter.unusedVariables false
set_option linter.unusedSimpArgs false
set_option maxRecDepth 100000
end Go.Proofs.YtpgdlmnhomnblaaGreatDoor
namespace Go.Proofs.YtpgdlmnhomnblaaGreatDoor
open Go.RowKit
set_option linter.unusedVariables false
set_option linter.unusedSimpArgs false
set_option maxRecDepth 100000
end Go.Proofs.YtpgdlmnhomnblaaGreatDoor
namespace Go.Proofs.YtpgdlmnhomnblaaGreatDoor
open Go.RowKit
set_option linter.unusedVariables false
set_option linter.unusedSimpArgs false
set_option maxRecDepth 100000
def OffR (w : World) (own : Option Nat) (A : Option Addr) (n : Nat) (xs : List Value) : Prop :=
  Reads w w.heap.size 1 A n xs ∧ (0 < n → ∀ ad, A = some ad → some ad.block ≠ own)
theorem OffR.reads {w : World} {own : Option Nat} {A : Option Addr} {n : Nat} {xs : List Value} (h : OffR w own A n xs) : Reads w w.heap.size 1 A n xs := h.1
theorem OffR.next {w w' : World} {own : Option Nat} {A : Option Addr} {n : Nat} {xs : List Value} (h : OffR w own A n xs) (hb : Below w.heap.size w w') : OffR w' own A n xs :=
  ⟨(h.1.below hb).more hb.size, h.2⟩
theorem OffR.alloc {w : World} {own : Option Nat} {A : Option Addr} {n : Nat} {xs : List Value} (h : OffR w own A n xs) (o : Obj) : OffR (w.alloc o) own A n xs :=
  h.next ((Below.refl _ _).alloc (Nat.le_refl _) _)
theorem OffR.grown {w w' : World} {own own' : Option Nat} {A : Option Addr} {n : Nat} {xs : List Value} (h : OffR w own A n xs) (hg : w.grownBy w' own) (ho' : own' = own ∨ own' = some w.heap.size) : OffR w' own' A n xs := by
  obtain ⟨hr, ho⟩ := h
  refine ⟨⟨hr.1, fun hn => ?_⟩, fun hn ad had => ?_⟩
  · obtain ⟨ad, had, hlt, hc⟩ := hr.2 hn
    refine ⟨ad, had, Nat.lt_of_lt_of_le hlt hg.size, fun j u hu => hg.cell (hc j u hu) ?_⟩
    rw [block_of_add]
    exact ho hn ad had
  · rcases ho' with rfl | rfl
    · exact ho hn ad had
    · obtain ⟨ad', had', hlt, _⟩ := hr.2 hn
      rw [had] at had'
      injection had' with had'
      subst had'
      intro h
      injection h with h
      omega
theorem OffR.of_own {w : World} {base : Nat} {e : TypeId} {A : Option Addr} {n c : Nat} {xs : List Value} (h : w.ownsRow base e 1 (.slice A n c) n xs) (own : Option Nat) (ho : ∀ q, own = some q → q < base) : OffR w own A n xs := by
  refine ⟨Reads.of_own h, fun hn ad had heq => ?_⟩
  subst had
  have h1 := (h.lt ad.block rfl).1
  have := ho _ heq.symm
  omega
end Go.Proofs.YtpgdlmnhomnblaaGreatDoor
namespace Go.Proofs.YtpgdlmnhomnblaaGreatDoor
open Go.RowKit
set_option linter.unusedVariables false
set_option linter.unusedSimpArgs false
set_option maxRecDepth 100000
end Go.Proofs.YtpgdlmnhomnblaaGreatDoor
namespace Go.Proofs.YtpgdlmnhomnblaaGreatDoor
open Go.RowKit
set_option linter.unusedVariables false
set_option linter.unusedSimpArgs false
end Go.Proofs.YtpgdlmnhomnblaaGreatDoor
namespace Go.Proofs.YtpgdlmnhomnblaaGreatDoor
open Go.RowKit
set_option linter.unusedVariables false
set_option linter.unusedSimpArgs false
set_option maxRecDepth 100000
end Go.Proofs.YtpgdlmnhomnblaaGreatDoor
namespace Go.Proofs.YtpgdlmnhomnblaaGreatDoor
open Go.RowKit
set_option linter.unusedVariables false
set_option linter.unusedSimpArgs false
set_option maxRecDepth 100000
def bl (f : Nat → Bool) (n : Nat) : List Value := (List.range n).map fun j => Value.bool (f j)
theorem bl_length (f : Nat → Bool) (n : Nat) : (bl f n).length = n := by simp [bl]
theorem bl_snoc (f : Nat → Bool) (n : Nat) : bl f (n + 1) = bl f n ++ [Value.bool (f n)] := by simp [bl, List.range_succ]
theorem bl_at (f : Nat → Bool) {n j : Nat} (h : j < n) : (bl f n)[j]? = some (Value.bool (f j)) := by simp [bl, h]
theorem bl_congr {f g : Nat → Bool} {n : Nat} (h : ∀ k, k < n → f k = g k) : bl f n = bl g n := by
  unfold bl
  apply List.map_congr_left
  intro k hk
  rw [h k (by simpa using hk)]
theorem bl_set (f : Nat → Bool) {n k : Nat} (h : k < n) : (bl f n).set k (.bool true) = bl (fun j => decide (j = k) || f j) n := by
  apply List.ext_getElem?
  intro j
  rw [List.getElem?_set]
  by_cases hj : j < n
  · rw [bl_at _ hj, bl_at _ hj, bl_length]
    by_cases e : k = j
    · subst e; simp [h]
    · have : ¬ j = k := fun h => e h.symm
      simp [e, this]
  · rw [List.getElem?_eq_none (by rw [bl_length]; omega), List.getElem?_eq_none (by rw [bl_length]; omega)]
    by_cases e : k = j
    · omega
    · simp [e]
theorem one_bool (b : Bool) : ∀ u ∈ [Value.bool b], u.oneCell' = true := by intro u hu; simp at hu; rw [hu]; rfl
theorem info_bool : (Tryz.prog.info? 4).map (fun i => (i.zero, i.size, i.bytes)) = some (some (.bool false), 1, 1) := by kernel_rfl
theorem bl_cell {w : World} {B n : Nat} {A : Option Addr} {f : Nat → Bool} (h : Reads w B 1 A n (bl f n)) {k : Nat} (hk : k < n) : ∃ ad, A = some ad ∧ ad.block < B ∧ w.cell? (ad.add k) = some (.bool (f k)) := by
  obtain ⟨ad, u, rfl, hb, hu, hc⟩ := h.at_ hk
  rw [bl_at f hk] at hu
  obtain rfl := Option.some.inj hu
  exact ⟨ad, rfl, hb, hc⟩
end Go.Proofs.YtpgdlmnhomnblaaGreatDoor
namespace Go.Proofs.YtpgdlmnhomnblaaGreatDoor
open Go.RowKit
set_option linter.unusedVariables false
set_option linter.unusedSimpArgs false
end Go.Proofs.YtpgdlmnhomnblaaGreatDoor
namespace Go.Proofs.YtpgdlmnhomnblaaGreatDoor
open Go.RowKit
set_option linter.unusedVariables false
set_option linter.unusedSimpArgs false
set_option maxRecDepth 100000
end Go.Proofs.YtpgdlmnhomnblaaGreatDoor
namespace Go.Proofs.YtpgdlmnhomnblaaGreatDoor
open Go.RowKit
set_option linter.unusedVariables false
set_option linter.unusedSimpArgs false
set_option maxRecDepth 100000
end Go.Proofs.YtpgdlmnhomnblaaGreatDoor
namespace Go.Proofs.YtpgdlmnhomnblaaGreatDoor
open Go.RowKit
set_option linter.unusedVariables false
set_option linter.unusedSimpArgs false
set_option maxRecDepth 100000
end Go.Proofs.YtpgdlmnhomnblaaGreatDoor
namespace Go.Proofs.YtpgdlmnhomnblaaGreatDoor
open Go.RowKit
set_option linter.unusedVariables false
set_option linter.unusedSimpArgs false
set_option maxRecDepth 100000
end Go.Proofs.YtpgdlmnhomnblaaGreatDoor
namespace Go.Proofs.YtpgdlmnhomnblaaGreatDoor
open Go.RowKit
set_option linter.unusedVariables false
set_option linter.unusedSimpArgs false
set_option maxRecDepth 100000
end Go.Proofs.YtpgdlmnhomnblaaGreatDoor
namespace Go.Proofs.YtpgdlmnhomnblaaGreatDoor
open Go.RowKit
set_option linter.unusedVariables false
set_option linter.unusedSimpArgs false
set_option maxRecDepth 100000
end Go.Proofs.YtpgdlmnhomnblaaGreatDoor
namespace Go.Proofs.YtpgdlmnhomnblaaGreatDoor
open Go.RowKit
set_option linter.unusedVariables false
set_option linter.unusedSimpArgs false
set_option maxRecDepth 100000
end Go.Proofs.YtpgdlmnhomnblaaGreatDoor
namespace Go.Proofs.YtpgdlmnhomnblaaGreatDoor
open Go.RowKit
set_option linter.unusedVariables false
set_option linter.unusedSimpArgs false
end Go.Proofs.YtpgdlmnhomnblaaGreatDoor
namespace Go.Proofs.YtpgdlmnhomnblaaGreatDoor
open Go.RowKit
set_option linter.unusedVariables false
set_option linter.unusedSimpArgs false
set_option maxRecDepth 100000
end Go.Proofs.YtpgdlmnhomnblaaGreatDoor
namespace Go.Proofs.YtpgdlmnhomnblaaGreatDoor
open Go.RowKit
set_option linter.unusedVariables false
set_option linter.unusedSimpArgs false
set_option maxRecDepth 100000
end Go.Proofs.YtpgdlmnhomnblaaGreatDoor
namespace Go.Proofs.YtpgdlmnhomnblaaGreatDoor
open Go.RowKit
set_option linter.unusedVariables false
set_option linter.unusedSimpArgs false
set_option maxRecDepth 100000
end Go.Proofs.YtpgdlmnhomnblaaGreatDoor
namespace Go.Proofs.YtpgdlmnhomnblaaGreatDoor
open Go.RowKit
set_option linter.unusedVariables false
set_option linter.unusedSimpArgs false
set_option maxRecDepth 100000
end Go.Proofs.YtpgdlmnhomnblaaGreatDoor
namespace Go.Proofs.YtpgdlmnhomnblaaGreatDoor
open Go.RowKit
set_option linter.unusedVariables false
set_option linter.unusedSimpArgs false
set_option maxRecDepth 100000
end Go.Proofs.YtpgdlmnhomnblaaGreatDoor
namespace Go.Proofs.YtpgdlmnhomnblaaGreatDoor
open Go.RowKit
set_option linter.unusedVariables false
set_option linter.unusedSimpArgs false
set_option maxRecDepth 100000
end Go.Proofs.YtpgdlmnhomnblaaGreatDoor
namespace Go.Proofs.YtpgdlmnhomnblaaGreatDoor
open Go.RowKit
set_option linter.unusedVariables false
set_option linter.unusedSimpArgs false
end Go.Proofs.YtpgdlmnhomnblaaGreatDoor
namespace Go.Proofs.YtpgdlmnhomnblaaGreatDoor
open Go.RowKit
set_option linter.unusedVariables false
set_option linter.unusedSimpArgs false
set_option maxRecDepth 100000
end Go.Proofs.YtpgdlmnhomnblaaGreatDoor
namespace Go.Proofs.YtpgdlmnhomnblaaGreatDoor
open Go.RowKit
set_option linter.unusedVariables false
set_option linter.unusedSimpArgs false
set_option maxRecDepth 100000
end Go.Proofs.YtpgdlmnhomnblaaGreatDoor
namespace Go.Proofs.YtpgdlmnhomnblaaGreatDoor
open Go.RowKit
set_option linter.unusedVariables false
set_option linter.unusedSimpArgs false
set_option maxRecDepth 100000
end Go.Proofs.YtpgdlmnhomnblaaGreatDoor
namespace Go.Proofs.YtpgdlmnhomnblaaGreatDoor
open Go.RowKit
set_option linter.unusedVariables false
set_option linter.unusedSimpArgs false
set_option maxRecDepth 100000
end Go.Proofs.YtpgdlmnhomnblaaGreatDoor
namespace Go.Proofs.YtpgdlmnhomnblaaGreatDoor
open Go.RowKit
set_option linter.unusedVariables false
set_option linter.unusedSimpArgs false
end Go.Proofs.YtpgdlmnhomnblaaGreatDoor
namespace Go.Proofs.YtpgdlmnhomnblaaGreatDoor
open Go.RowKit
set_option linter.unusedVariables false
set_option linter.unusedSimpArgs false
set_option maxRecDepth 100000
end Go.Proofs.YtpgdlmnhomnblaaGreatDoor
namespace Go.Proofs.YtpgdlmnhomnblaaGreatDoor
open Go.RowKit
set_option linter.unusedVariables false
set_option linter.unusedSimpArgs false
set_option maxRecDepth 100000
attribute [local go_sem] binOp_leq_tx
theorem Met.rd {w w' : World} {g : Nat} {l : List Nat} {at_ : Nat} {x : Option (Int × Nat)} (h : Met w) (hS : RdS w g l at_ x) (hg : w.grownBy w' (some g)) : Met w' := by
  unfold Met at h ⊢
  refine hg.cell h (fun e => ?_)
  injection e with e
  obtain ⟨A, n, c, err, hR, _⟩ := hS
  have h0 := hR.blk.cell 0
  rw [← e] at h0
  rw [h0] at h
  simp at h
end Go.Proofs.YtpgdlmnhomnblaaGreatDoor
namespace Go.Proofs.YtpgdlmnhomnblaaGreatDoor
open Go.RowKit
set_option linter.unusedVariables false
set_option linter.unusedSimpArgs false
set_option maxRecDepth 100000
end Go.Proofs.YtpgdlmnhomnblaaGreatDoor
namespace Go.Proofs.YtpgdlmnhomnblaaGreatDoor
open Go.RowKit
set_option linter.unusedVariables false
set_option linter.unusedSimpArgs false
set_option maxRecDepth 100000
end Go.Proofs.YtpgdlmnhomnblaaGreatDoor
namespace Go.Proofs.YtpgdlmnhomnblaaGreatDoor
open Go.RowKit
set_option linter.unusedVariables false
set_option linter.unusedSimpArgs false
set_option maxRecDepth 100000
theorem ilv_in {l : List Int} (hl : ∀ z ∈ l, In64 z) (hn : l.length ≤ 65536) : ∀ z ∈ ilv (runs l), In64 z := by
  intro z hz
  obtain ⟨⟨x, m⟩, hp, hz⟩ := List.mem_flatMap.1 hz
  obtain ⟨k, hk⟩ := List.mem_iff_getElem?.1 hp
  obtain ⟨h1, h2, h3, _⟩ := run_at hk
  simp at hz
  rcases hz with rfl | rfl
  · exact zagI_in (by omega)
  · exact hl _ (List.mem_of_getElem? (h3 0 h1))
section
variable {l : List Int} (hl : ∀ z ∈ l, In64 z) (hn : l.length ≤ 65536)
include hl hn
end
theorem rf_byte {l : List Int} (hl : ∀ z ∈ l, In64 z) (hn : l.length ≤ 65536) : ∀ x ∈ rf (runs l), x < 256 := pl_byte _ (ilv_in hl hn)
end Go.Proofs.YtpgdlmnhomnblaaGreatDoor
namespace Go.Proofs.YtpgdlmnhomnblaaGreatDoor
open Go.RowKit
set_option linter.unusedVariables false
set_option linter.unusedSimpArgs false
set_option maxRecDepth 100000
end Go.Proofs.YtpgdlmnhomnblaaGreatDoor
namespace Go.Proofs.YtpgdlmnhomnblaaGreatDoor
open Go.RowKit
set_option linter.unusedVariables false
set_option linter.unusedSimpArgs false
set_option maxRecDepth 100000
end Go.Proofs.YtpgdlmnhomnblaaGreatDoor
namespace Go.Proofs.YtpgdlmnhomnblaaGreatDoor
open Go.RowKit
set_option linter.unusedVariables false
set_option linter.unusedSimpArgs false
set_option maxRecDepth 100000
end Go.Proofs.YtpgdlmnhomnblaaGreatDoor
namespace Go.Proofs.YtpgdlmnhomnblaaGreatDoor
open Go.RowKit
set_option linter.unusedVariables false
set_option linter.unusedSimpArgs false
theorem frm_byte {way : Nat} {l : List Vl} (hl : l.length ≤ 65536) (hi : ∀ v ∈ l, In64 v.2.1) (ht : ∀ v ∈ l, v.2.2.length ≤ 65536) : ∀ b ∈ frm way l, b < 256 := by
  have h1 := ints_in hi
  have h2 := ints_length_le l
  have h3 := wrds_length_le l
  have h4 := wrds_short ht
  unfold frm
  split
  · exact pl_byte _ h1
  split
  · exact rf_byte h1 (by omega)
  split
  · exact dl_byte _ h1
  split
  · exact dc_byte _ (by omega) h1
  split
  · exact fo_byte h1
  · exact txf_byte _ (by omega) h4
end Go.Proofs.YtpgdlmnhomnblaaGreatDoor
namespace Go.Proofs.YtpgdlmnhomnblaaGreatDoor
open Go.RowKit
set_option linter.unusedVariables false
set_option linter.unusedSimpArgs false
set_option maxRecDepth 100000
end Go.Proofs.YtpgdlmnhomnblaaGreatDoor
namespace Go.Proofs.YtpgdlmnhomnblaaGreatDoor
open Go.RowKit
set_option linter.unusedVariables false
set_option linter.unusedSimpArgs false
set_option maxRecDepth 100000
def PutsAs (f : FuncId) (w : World) (v : Value) (kd : Int) (way : Nat) : Prop :=
  ∃ g1 g2, v = .func (.func f) #[] #[.pointer (some ⟨g1, 0, none⟩), .pointer (some ⟨g2, 0, none⟩)] ∧
    ∀ (A : Option Addr) (n c : Nat) (o : List Vl) (W : World), Below w.heap.size w W → Reads W W.heap.size 3 A n (vs o) → n ≤ 65536 → (∀ v ∈ o, v.1 = kd) → (∀ v ∈ o, In64 v.2.1) → (∀ v ∈ o, v.2.2.length ≤ 65536) →
      Calls Tryz.prog f #[.slice A n c, .pointer (some ⟨g1, 0, none⟩), .pointer (some ⟨g2, 0, none⟩)] W (NewE W (frm way o) 0)
theorem nums_in {o : List Vl} (h : ∀ v ∈ o, In64 v.2.1) : ∀ z ∈ nums o, In64 z := by
  intro z hz
  obtain ⟨v, hv, rfl⟩ := List.mem_map.1 hz
  exact h v hv
theorem txts_short {o : List Vl} {q : Nat} (h : ∀ v ∈ o, v.2.2.length ≤ q) : ∀ s ∈ txts o, s.length ≤ q := by
  intro z hz
  obtain ⟨v, hv, rfl⟩ := List.mem_map.1 hz
  exact h v hv
theorem tab_putN {w : World} {a b : Nat → Value} (h : Tab w a b) {k : Nat} (hk : k < 5) : PutsAs 106 w (a k) 1 k := by
  have hc : k = 0 ∨ k = 1 ∨ k = 2 ∨ k = 3 ∨ k = 4 := by omega
  rcases hc with rfl | rfl | rfl | rfl | rfl
  · obtain ⟨g1, g2, hv, h1, h2⟩ := h.put 0 (by omega)
    refine ⟨g1, g2, hv, fun A n c o W hb hr hn hk hi hs => ?_⟩
    have := lit_plain A n c g1 g2 o W hr hn (nums_in hi) (h1.below hb) (h2.below hb)
    rwa [nums_ints hk] at this
  · obtain ⟨g1, g2, hv, h1, h2⟩ := h.put 1 (by omega)
    refine ⟨g1, g2, hv, fun A n c o W hb hr hn hk hi hs => ?_⟩
    have := lit_runs A n c g1 g2 o W hr hn (nums_in hi) (h1.below hb) (h2.below hb)
    rwa [nums_ints hk] at this
  · obtain ⟨g1, g2, hv, h1, h2⟩ := h.put 2 (by omega)
    refine ⟨g1, g2, hv, fun A n c o W hb hr hn hk hi hs => ?_⟩
    have := lit_delta A n c g1 g2 o W hr hn (nums_in hi) (h1.below hb) (h2.below hb)
    rwa [nums_ints hk] at this
  · obtain ⟨g1, g2, hv, h1, h2⟩ := h.put 3 (by omega)
    refine ⟨g1, g2, hv, fun A n c o W hb hr hn hk hi hs => ?_⟩
    have := lit_dict A n c g1 g2 o W hr hn (nums_in hi) (h1.below hb) (h2.below hb)
    rwa [nums_ints hk] at this
  · obtain ⟨g1, g2, hv, h1, h2⟩ := h.put 4 (by omega)
    refine ⟨g1, g2, hv, fun A n c o W hb hr hn hk hi hs => ?_⟩
    have := lit_fore A n c g1 g2 o W hr hn (nums_in hi) (h1.below hb) (h2.below hb)
    rwa [nums_ints hk] at this
theorem tab_putT {w : World} {a b : Nat → Value} (h : Tab w a b) : PutsAs 134 w (a 5) 2 5 := by
  obtain ⟨g1, g2, hv, h1, h2⟩ := h.put 5 (by omega)
  refine ⟨g1, g2, hv, fun A n c o W hb hr hn hk hi hs => ?_⟩
  have := lit_texts A n c g1 g2 o W hr hn (txts_short hs) (h1.below hb) (h2.below hb)
  rwa [txts_wrds hk] at this
end Go.Proofs.YtpgdlmnhomnblaaGreatDoor
namespace Go.Proofs.YtpgdlmnhomnblaaGreatDoor
open Go.RowKit
set_option linter.unusedVariables false
set_option linter.unusedSimpArgs false
set_option maxRecDepth 100000
theorem info_form : (Tryz.prog.info? 95).map (fun i => (i.zero, i.size, i.bytes)) = some (some (.agg #[.int .i64 0, .nilFunc, .nilFunc]), 3, 24) := by kernel_rfl
theorem sizeOf_form (W : World) : (sizeOf 95).run Tryz.prog W = .ok 3 W := by
  obtain ⟨i0, hi0, hz0, hz1, hz2⟩ := info_parts info_form
  simp [sizeOf, typeInfo, hi0, hz1]
theorem tabC_cut (a b : Nat → Value) {k : Nat} (hk : k < 6) : (tabC a b).extract (k * 3) (k * 3 + 3) = #[.int .i64 (if k = 5 then 2 else 1), a k, b k] := by
  have hc : k = 0 ∨ k = 1 ∨ k = 2 ∨ k = 3 ∨ k = 4 ∨ k = 5 := by omega
  rcases hc with rfl | rfl | rfl | rfl | rfl | rfl <;> simp [tabC]
theorem run_index_form (a b : Nat → Value) {k : Nat} (hk : k < 6) (W : World) :
    (Instr.index 96 (.agg (tabC a b)) (.int .i64 (k : Int))).run Tryz.prog W = .ok (.agg #[.int .i64 (if k = 5 then 2 else 1), a k, b k]) W := by
  have h1 : (k : Int) < 6 := by omega
  have hz := sizeOf_form W
  have hc := tabC_cut a b hk
  simp [Instr.index, run_underlying Tryz.underlying96, run_underlying Tryz.underlying95, asIntOf, part, isAgg, hz, h1, hc, Result.andThen, Sem.run_bind, Sem.run_pure]
  intro h
  omega
end Go.Proofs.YtpgdlmnhomnblaaGreatDoor
namespace Go.Proofs.YtpgdlmnhomnblaaGreatDoor
open Go.RowKit
set_option linter.unusedVariables false
set_option linter.unusedSimpArgs false
set_option maxRecDepth 100000
theorem frm_len {way : Nat} {l : List Vl} (hl : l.length ≤ 65536) (hi : ∀ v ∈ l, In64 v.2.1) (ht : ∀ v ∈ l, v.2.2.length ≤ 65536) : (frm way l).length ≤ 4295753740 := by
  have h1 := ints_in hi
  have h2 := ints_length_le l
  have h3 := wrds_length_le l
  have h4 := wrds_short ht
  unfold frm
  split
  · have := (pl_length (ints l)).2; omega
  split
  · have := rf_length (runs (ints l)); have := rc_le (ints l); unfold rc at this; omega
  split
  · have := dl_length (ints l) (by omega); omega
  split
  · have := dc_length (ints l) (by omega); omega
  split
  · have := fo_length h1 (by omega); omega
  · exact txf_length _ (by omega) h4
theorem lyB_byte {way : Nat} {l : List Vl} (hw : way ≤ 5) (hl : l.length ≤ 65536) (hi : ∀ v ∈ l, In64 v.2.1) (ht : ∀ v ∈ l, v.2.2.length ≤ 65536) : ∀ b ∈ lyB l way, b < 256 := by
  intro b hb
  unfold lyB at hb
  rcases List.mem_append.1 hb with hb | hb
  · rcases List.mem_append.1 hb with hb | hb
    · unfold headB at hb
      split at hb
      · simp at hb; omega
      · rcases List.mem_cons.1 hb with hb | hb
        · omega
        · exact (setB_ok (non l) l.length).1.byte b hb
    · simp at hb; omega
  · exact frm_byte hl hi ht b hb
end Go.Proofs.YtpgdlmnhomnblaaGreatDoor
