/- Texts joined: TxBack VvErr RdFar RdApp. -/
import Derived.Laws.IdiomStrings
import Derived.Laws.BytesArg
import Derived.Test.YtppeagjklndidaaGreatDoorTxPlain
import Derived.Test.YtppeagjklndidaaGreatDoorJ8
import Derived.Test.YtppeagjklndidaaGreatDoorDcRead2
import Derived.Test.YtppeagjklndidaaGreatDoorJ3
import Derived.Test.YtppeagjklndidaaGreatDoorJ31
/- Bytes as a text, over this program. No condition. -/
namespace Go.Proofs.YtppeagjklndidaaGreatDoor
open Go.RowKit
set_option linter.unusedVariables false
set_option linter.unusedSimpArgs false
set_option maxRecDepth 100000

theorem tb_length (p : List Nat) : (tb p).length = p.length := by simp [tb]
theorem text_of {w : World} {B n : Nat} {A : Option Addr} {p : List Nat} (c : Nat) (hr : Reads w B 1 A n (bs p)) (hb : ∀ x ∈ p, x < 256) :
    (convert 22 9 (.slice A n c)).run Tryz.prog w = .ok (.string ⟨(tb p).toArray⟩) w := by
  have e1 : p.length = n := by have := hr.1; rw [bs_length] at this; omega
  cases A with
  | none =>
    have hn : n = 0 := by
      rcases Nat.eq_zero_or_pos n with h0 | h0
      · exact h0
      · obtain ⟨ad, h, _⟩ := hr.2 h0
        cases h
    subst hn
    obtain rfl : p = [] := List.eq_nil_of_length_eq_zero e1
    exact run_convert_bytes_nil w 22 5 Tryz.underlying22 Tryz.underlying5 0 c 9 Tryz.underlying9
  | some ad =>
    have h := run_convert_bytes_back (P := Tryz.prog) w 22 9 5 ad c (tb p) Tryz.underlying22 Tryz.underlying5 Tryz.underlying9 (fun j hj => by
      have hjp : j < p.length := by rw [tb_length] at hj; exact hj
      obtain ⟨ad', e, _, hc⟩ := hr.2 (by omega)
      injection e with e
      subst e
      refine hc j _ ?_
      have hx := hb p[j] (List.getElem_mem hjp)
      have e : (tb p)[j] = UInt8.ofNat p[j] := by simp [tb]
      rw [e, UInt8.toNat_ofNat_of_lt' hx]
      unfold bs
      rw [List.getElem?_map, List.getElem?_eq_getElem hjp]
      rfl)
    rw [tb_length, e1] at h
    exact h
end Go.Proofs.YtppeagjklndidaaGreatDoor

/- Where the first short number can't be read it is told as 0. No program. -/
namespace Go.Proofs.YtppeagjklndidaaGreatDoor
open Go.RowKit
set_option linter.unusedVariables false
set_option linter.unusedSimpArgs false

theorem vv_err {b : List Nat} {y : Int × Nat} (h : (vst b 1).2 = some y) : vv b 0 = 0 := by
  have h2 : (varS b 0 none).2.2 = some y := h
  show (varS b 0 none).1 = 0
  unfold varS at h2 ⊢
  simp only at h2 ⊢
  split
  · rename_i h3; rw [if_pos h3] at h2; cases h2
  · rfl
end Go.Proofs.YtppeagjklndidaaGreatDoor

/- A reader stands while a row behind it is written. -/
namespace Go.Proofs.YtppeagjklndidaaGreatDoor
open Go.RowKit
set_option linter.unusedVariables false
set_option linter.unusedSimpArgs false
set_option maxRecDepth 100000

theorem RdS.store {w : World} {g h : Nat} {l : List Nat} {at_ : Nat} {x : Option (Int × Nat)} (hS : RdS w g l at_ x) {t : TypeId} {cs : Array Value} (hb : Blk w h t cs) (hg : g < h) (ht : t ≠ 116) (i : Nat) (u : Value) :
    RdS (w.setCell ⟨h, i, none⟩ u) g l at_ x := by
  obtain ⟨A, n, c, err, hR, hE⟩ := hS
  exact ⟨A, n, c, err, ⟨hR.blk.far (p := ⟨h, i, none⟩) (by show g ≠ h; omega) u, hR.reads.setCell (p := ⟨h, i, none⟩) (by show g ≤ h; omega) u, hR.cap, hR.place, hR.size, hR.byte⟩,
    hE.next fun f t' cs' hf ht' => hf.far (p := ⟨h, i, none⟩) (hf.type_ne hb (by rw [ht']; exact fun e => ht e.symm)) u⟩
theorem RdS.alloc {w : World} {g : Nat} {l : List Nat} {at_ : Nat} {x : Option (Int × Nat)} (hS : RdS w g l at_ x) (o : Obj) : RdS (w.alloc o) g l at_ x :=
  hS.next ((Below.refl _ _).alloc (Nat.le_refl _) _)
end Go.Proofs.YtppeagjklndidaaGreatDoor

/- A reader stands while a row of numbers behind it grows. -/
namespace Go.Proofs.YtppeagjklndidaaGreatDoor
open Go.RowKit
set_option linter.unusedVariables false
set_option linter.unusedSimpArgs false
set_option maxRecDepth 100000

theorem RdS.app {w w' : World} {g : Nat} {l : List Nat} {at_ : Nat} {x : Option (Int × Nat)} (h : RdS w g l at_ x) {B n : Nat} {t : TypeId} {v : Value} {xs : List Value} (hown : w.ownsRow B t 1 v n xs) (ht : t ≠ 116) (hgB : g < B) (o : Obj)
    (hg : (w.alloc o).grownBy w' v.ownBlock) : RdS w' g l at_ x := by
  have hown2 := hown.alloc o
  obtain ⟨A, n', c, err, hR, hE⟩ := h.alloc o
  have hlt := hR.blk.lt
  have hne : some g ≠ v.ownBlock := fun e => by have := (hown.lt g e.symm).1; omega
  refine ⟨A, n', c, err, ⟨hR.blk.grown hg hne, hR.reads.grown hg (Nat.le_of_lt hlt) (fun q hq => by have := (hown.lt q hq).1; omega), hR.cap, hR.place, hR.size, hR.byte⟩, hE.next fun f t' cs hf ht' => hf.grown hg (fun e => ?_)⟩
  rcases hown2.2 with ⟨rfl, _⟩ | ⟨q, cap, cur, rfl, _, hq, _⟩
  · cases e
  · have e2 : f = q := by simpa [Value.ownBlock] using e
    subst e2
    exact hf.type_ne (show Blk _ f t cur from hq) (by rw [ht']; exact fun e => ht e.symm) rfl
end Go.Proofs.YtppeagjklndidaaGreatDoor
