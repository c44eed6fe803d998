/- The row of truths while May goes through the steps; slices of it. No condition. -/
import Derived.Test.YtmjpjllbfgkfbaaDoorZwStM
import Derived.Test.YtmjpjllbfgkfbaaDoorJ8
import Derived.Test.YtmjpjllbfgkfbaaDoorJ5
namespace Go.Proofs.YtmjpjllbfgkfbaaDoor
open Go.RowKit
set_option linter.unusedVariables false
set_option linter.unusedSimpArgs false
set_option maxRecDepth 100000

/-- The truths of what is gone through: of the forest that follows, the first one's last. -/
def trz (rows : Int) (zl : List Zn) (l : List Tr) : List Tr3 := (l.map fun t => mayP rows zl t.p).reverse
theorem trz_cons (rows : Int) (zl : List Zn) (t : Tr) (l : List Tr) : trz rows zl (t :: l) = trz rows zl l ++ [mayP rows zl t.p] := by simp [trz]
theorem trz_append (rows : Int) (zl : List Zn) (a b : List Tr) : trz rows zl (a ++ b) = trz rows zl b ++ trz rows zl a := by simp [trz]
theorem trz_length (rows : Int) (zl : List Zn) (l : List Tr) : (trz rows zl l).length = l.length := by simp [trz]
theorem trz_kids (rows : Int) (zl : List Zn) (l : List Tr) : trz rows zl l = (l.reverse.map (·.p)).map (mayP rows zl) := by
  simp [trz, List.map_map, Function.comp_def]
/-- The front of a row of the call's own, of three cells each. -/
theorem own_less3 {w : World} {base n k : Nat} {A : Option Addr} {cap : Nat} {e : TypeId} {xs : List Value} (h : w.ownsRow base e 3 (.slice A n cap) n xs) (hk : k ≤ n) : w.ownsRow base e 3 (.slice A k cap) k (xs.take (k * 3)) := by
  have hl : xs.length = n * 3 := h.1
  rcases h.2 with ⟨e1, e2⟩ | ⟨g, cap', cur, e1, h1, hgc, h3, h4, h5, h6⟩
  · injection e1 with a1 a2 a3
    obtain rfl : k = 0 := by omega
    subst a1 a3
    exact ⟨by simp, .inl ⟨rfl, rfl⟩⟩
  · injection e1 with a1 a2 a3
    subst a1 a3
    refine ⟨by rw [List.length_take, hl]; omega, .inr ⟨g, cap, cur, rfl, h1, hgc, by omega, h4, h5, ?_⟩⟩
    rw [← h6, List.take_take, Nat.min_eq_left (by omega)]
/-- The truths' row behind an append onto a front of it, and the store into their box. -/
theorem pushT3 {o : Obj} {W W2 : World} {tb n n' : Nat} {A : Option Addr} {c : Nat} {v' old : Value} {ys : List Value} (hbox : Blk W tb 67 #[old]) (hne : ∀ q, (Value.slice A n c).ownBlock = some q → q ≠ tb) (hown : W2.ownsRow 0 66 3 v' n' ys)
    (hg : (W.alloc o).grownBy W2 (Value.slice A n c).ownBlock) (hat : v'.ownBlock = (Value.slice A n c).ownBlock ∨ v'.ownBlock = some (W.alloc o).heap.size) :
    Blk (W2.setCell ⟨tb, 0, none⟩ v') tb 67 #[v'] ∧ (W2.setCell ⟨tb, 0, none⟩ v').ownsRow 0 66 3 v' n' ys ∧ KeptOn (fun q => q ≠ tb ∧ (Value.slice A n c).ownBlock ≠ some q) W (W2.setCell ⟨tb, 0, none⟩ v') ∧
      ∀ q, v'.ownBlock = some q → (Value.slice A n c).ownBlock = some q ∨ W.heap.size ≤ q := by
  have htb := hbox.lt
  have hnew : ∀ q, v'.ownBlock = some q → (Value.slice A n c).ownBlock = some q ∨ W.heap.size ≤ q := fun q hq => by
    rcases hat with e | e
    · exact .inl (e ▸ hq)
    · rw [e] at hq; injection hq with hq; simp at hq; exact .inr (by omega)
  have k1 : KeptOn (fun q => q ≠ tb ∧ (Value.slice A n c).ownBlock ≠ some q) W W2 := (KeptOn.alloc W o).trans (.of_grown hg (fun r e hc => hc.2 e))
  have k2 : KeptOn (fun q => q ≠ tb) W2 (W2.setCell ⟨tb, 0, none⟩ v') := .setCell _ (p := ⟨tb, 0, none⟩) (fun h => h rfl) _
  have hb2 : Blk W2 tb 67 #[old] := by
    have h1 : (W.alloc o).heap[tb]? = W.heap[tb]? := Below.heap_alloc W o tb htb
    exact (hg.block tb (by simp; omega) (fun e => hne tb e.symm rfl)).trans (h1.trans hbox)
  refine ⟨by simpa using hb2.set_ 0 v', own_on hown k2.block (fun q hq => ?_), k1.trans (k2.mono fun j _ hj => hj.1), hnew⟩
  rcases hnew q hq with e | e
  · exact hne q e
  · omega
/-- While the nodes are gone through, from the last one on. -/
structure Mvg (r : Tr) (rows : Int) (zl : List Zn) (tb D : Nat) (w0 W5 : World) (k : Nat) (Cin : Nat → Prop) (A : Option Addr) (m c : Nat) (W : World) : Prop where
  le : k ≤ cntT r
  box : Blk W tb 67 #[.slice A m c]
  own : W.ownsRow 0 66 3 (.slice A m c) m (bs3 (trz rows zl (wood r (cntT r - k))))
  row : ∀ q, (Value.slice A m c).ownBlock = some q → D + 2 ≤ q
  lean : ∀ j, j < D → j ≠ tb → W.heap[j]? = W5.heap[j]?
  below : Below w0.heap.size w0 W
  size : D ≤ W.heap.size
  cin : Cin = fun q => q < D ∨ (Value.slice A m c).ownBlock = some q
theorem stvC_at (m : Nat) (r : Tr) {i : Nat} : ∀ {k : Nat}, i < k → (stvC m r k)[i * 2]? = some (nth r i).ad ∧ (stvC m r k)[i * 2 + 1]? = some (.bool (decide (okT m (nth r i))))
  | 0, h => by omega
  | k + 1, h => by
    rw [stvC_succ]
    have hl := stvC_length m r k
    by_cases hik : i < k
    · rw [List.getElem?_append_left (by omega), List.getElem?_append_left (by omega)]
      exact stvC_at m r hik
    · obtain rfl : i = k := by omega
      rw [List.getElem?_append_right (by omega), List.getElem?_append_right (by omega), hl]
      simp [stpC]
theorem info_truZ : (Tryd.prog.info? 66).map (fun i => (i.zero, i.size, i.bytes)) = some (some (.agg #[.bool false, .bool false, .bool false]), 3, 3) := by kernel_rfl
end Go.Proofs.YtmjpjllbfgkfbaaDoor
