/- Contract of the library's slices.Repeat of one column, twice. -/
import Derived.Laws.CopyRow
import Derived.Deep.RegionLaw
import Derived.Test.YtmjpjllbfgkfbaaDoorJ4
namespace Go.Proofs.YtmjpjllbfgkfbaaDoor
open Go.RowKit
set_option linter.unusedVariables false
set_option linter.unusedSimpArgs false
set_option maxRecDepth 100000

theorem mul64_12 (w : World) : Calls Tryd.prog 40 #[.int .u64 1, .int .u64 2] w fun e w' => e = .returned (.tuple #[.int .u64 0, .int .u64 2]) ∧ w = w' := by
  go_enter Tryd.func40, Tryd.ntmps40
  go_wp2_with fail
  go_ret2
  exact ⟨by first | rfl | simp, rfl⟩
theorem mul_12 (w : World) : Calls Tryd.prog 28 #[.int .u64 1, .int .u64 2] w fun e w' => e = .returned (.tuple #[.int .u64 0, .int .u64 2]) ∧ w = w' := by
  have H := Lib.hid mul64_12
  go_enter Tryd.func28, Tryd.ntmps28
  go_wp2_with fail
  refine (H.out _).mono ?_
  rintro e w1 ⟨rfl, rfl⟩
  go_wp2_with fail
  go_ret2
  exact ⟨by first | rfl | simp, rfl⟩
/-- Copying elements of three cells each onto a row. -/
theorem run_copy3 (w : World) (g o dLen dCap : Nat) (a : Addr) (sLen sCap : Nat) (cur : Array Value) (t ty : TypeId) (cs : List Value)
    (hg : w.heap[g]? = some (.cells cur t (0, 0))) (hn : cs.length = Nat.min sLen dLen * 3)
    (hsrc : ∀ j v, cs[j]? = some v → w.cell? (a.add j) = some v) (hfit : o + cs.length ≤ cur.size) (h1 : ∀ v ∈ cs, v.oneCell' = true) :
    (Builtin.copy_ #[22, 22] ty #[.slice (some ⟨g, o, none⟩) dLen dCap, .slice (some a) sLen sCap]).run Tryd.prog w =
      .ok (goInt (Nat.min sLen dLen)) (w.setRow g (cur.toList.take o ++ cs ++ cur.toList.drop (o + cs.length)).toArray) := by
  have hl := run_loadCells_list (P := Tryd.prog) w a cs hsrc
  have hst := run_storeCells_at (P := Tryd.prog) g o t cs 0 cur w hg (by simpa using hfit) h1
  obtain ⟨i, hi, hz0, hz1, hz2⟩ := info_parts info_col0
  simp [Builtin.copy_, run_underlying Tryd.underlying22, Builtin.lenOf, Builtin.firstCells, sizeOf, typeInfo, hi, hz1, ← hn, hl, hst]
theorem below_setRow (w : World) (g : Nat) (cs : Array Value) : Below g w (w.setRow g cs) := ⟨rfl, rfl, rfl, by simp [World.setRow], fun k hk => setRow_other w g k cs (by omega)⟩
theorem below_drewR {B : Nat} {w W : World} (h : Below B w W) : Below B w W.drew := ⟨h.os, h.tape, h.output, h.size, h.block⟩
set_option maxHeartbeats 1000000 in
theorem repeat_12 {w : World} {g : Nat} (hb : Blk w g 43 #[.int .i64 1, .bool false, .int .i64 0]) :
    Calls Tryd.prog 21 #[.slice (some ⟨g, 0, none⟩) 1 1, .int .i64 2] w fun e w' => e = .returned (.slice (some ⟨w.heap.size, 0, none⟩) 2 2) ∧ Blk w' w.heap.size 43 #[.int .i64 1, .bool false, .int .i64 0, .int .i64 1, .bool false, .int .i64 0] ∧ Below w.heap.size w w' := by
  have H := Lib.hid mul_12
  have hmk : ∀ W : World, (Instr.makeSlice 22 (.int .i64 2) (.int .i64 2)).run Tryd.prog W = .ok (.slice (some ⟨W.heap.size, 0, none⟩) 2 2) (W.alloc (.cells #[.int .i64 0, .bool false, .int .i64 0, .int .i64 0, .bool false, .int .i64 0] 43)) := fun W => run_make_cols 2 (by omega) W
  have k0 := Blk.new w 43 #[.int .i64 0, .bool false, .int .i64 0, .int .i64 0, .bool false, .int .i64 0]
  have b0 := (Below.refl w.heap.size w).alloc (Nat.le_refl _) (.cells #[.int .i64 0, .bool false, .int .i64 0, .int .i64 0, .bool false, .int .i64 0] 43)
  have kg := hb.alloc (.cells #[.int .i64 0, .bool false, .int .i64 0, .int .i64 0, .bool false, .int .i64 0] 43)
  have c1 := run_copy3 (w.alloc (.cells #[.int .i64 0, .bool false, .int .i64 0, .int .i64 0, .bool false, .int .i64 0] 43)) w.heap.size 0 2 2 ⟨g, 0, none⟩ 1 1 _ _ 3 [.int .i64 1, .bool false, .int .i64 0] k0 rfl (fun j v hj => by rw [plain_add, Nat.zero_add, kg.cell j]; simpa using hj) (by simp) (by intro v hv; simp only [List.mem_cons, List.not_mem_nil, or_false] at hv; rcases hv with rfl | rfl | rfl <;> rfl)
  have hcp1 : (Builtin.copy_ #[22, 22] 3 #[.slice (some ⟨w.heap.size, 0, none⟩) 2 2, .slice (some ⟨g, 0, none⟩) 1 1]).run Tryd.prog (w.alloc (.cells #[.int .i64 0, .bool false, .int .i64 0, .int .i64 0, .bool false, .int .i64 0] 43)) = .ok (.int .i64 1) ((w.alloc (.cells #[.int .i64 0, .bool false, .int .i64 0, .int .i64 0, .bool false, .int .i64 0] 43)).setRow w.heap.size #[.int .i64 1, .bool false, .int .i64 0, .int .i64 0, .bool false, .int .i64 0]) := c1
  have k1 : Blk ((w.alloc (.cells #[.int .i64 0, .bool false, .int .i64 0, .int .i64 0, .bool false, .int .i64 0] 43)).setRow w.heap.size #[.int .i64 1, .bool false, .int .i64 0, .int .i64 0, .bool false, .int .i64 0]) w.heap.size 43 #[.int .i64 1, .bool false, .int .i64 0, .int .i64 0, .bool false, .int .i64 0] := setRow_heap _ _ _ _ _ _ k0
  have g1 := b0.trans ((below_setRow (w.alloc (.cells #[.int .i64 0, .bool false, .int .i64 0, .int .i64 0, .bool false, .int .i64 0] 43)) w.heap.size #[.int .i64 1, .bool false, .int .i64 0, .int .i64 0, .bool false, .int .i64 0]).mono (Nat.le_refl _))
  obtain ⟨W1, hW1⟩ : ∃ q, (w.alloc (.cells #[.int .i64 0, .bool false, .int .i64 0, .int .i64 0, .bool false, .int .i64 0] 43)).setRow w.heap.size #[.int .i64 1, .bool false, .int .i64 0, .int .i64 0, .bool false, .int .i64 0] = q := ⟨_, rfl⟩
  rw [hW1] at hcp1 k1 g1
  have c2 := run_copy3 W1.drew w.heap.size 3 1 1 ⟨w.heap.size, 0, none⟩ 1 2 _ _ 3 [.int .i64 1, .bool false, .int .i64 0] k1.drew rfl (fun j v hj => by
    rw [plain_add, Nat.zero_add, k1.drew.cell j]
    have hl : j < 3 := by simpa using (List.getElem?_eq_some_iff.1 hj).1
    have h3 : j = 0 ∨ j = 1 ∨ j = 2 := by omega
    rcases h3 with rfl | rfl | rfl <;> simpa using hj) (by simp) (by intro v hv; simp only [List.mem_cons, List.not_mem_nil, or_false] at hv; rcases hv with rfl | rfl | rfl <;> rfl)
  have hcp2 : (Builtin.copy_ #[22, 22] 3 #[.slice (some ⟨w.heap.size, 3, none⟩) 1 1, .slice (some ⟨w.heap.size, 0, none⟩) 1 2]).run Tryd.prog W1.drew = .ok (.int .i64 1) (W1.drew.setRow w.heap.size #[.int .i64 1, .bool false, .int .i64 0, .int .i64 1, .bool false, .int .i64 0]) := c2
  have k2 : Blk (W1.drew.setRow w.heap.size #[.int .i64 1, .bool false, .int .i64 0, .int .i64 1, .bool false, .int .i64 0]) w.heap.size 43 #[.int .i64 1, .bool false, .int .i64 0, .int .i64 1, .bool false, .int .i64 0] := setRow_heap _ _ _ _ _ _ k1.drew
  have g2 := (below_drewR g1).trans ((below_setRow W1.drew w.heap.size #[.int .i64 1, .bool false, .int .i64 0, .int .i64 1, .bool false, .int .i64 0]).mono (Nat.le_refl _))
  have HK2 := Lib.hid k2; have HG2 := Lib.hid g2
  clear k0 b0 kg c1 c2 k1 g1 hb k2 g2 hW1
  go_enter Tryd.func21, Tryd.ntmps21
  go_wp2_with fail
  refine (H.out _).mono ?_
  rintro e w1 ⟨rfl, rfl⟩
  go_wp2_with fail
  go_loopw [8] (fun s wr => (s = .int .i64 1 ∧ wr = W1) ∨ (s = .int .i64 2 ∧ Blk wr w.heap.size 43 #[.int .i64 1, .bool false, .int .i64 0, .int .i64 1, .bool false, .int .i64 0] ∧ Below w.heap.size w wr)) (fun s _ => 2 - (intOf s).toNat)
  case atStart => exact .inl ⟨rfl, rfl⟩
  case round =>
    rcases hrel with ⟨rfl, rfl⟩ | ⟨rfl, k, hb⟩
    · go_wp2_with fail
      go_region
      go_wp2_with fail
      go_round
      case rel => exact .inr ⟨rfl, HK2.out, HG2.out⟩
      case measure => simp [intOf]
    · clear hcp1 hcp2
      go_wp2_with fail
      go_ret
      exact ⟨rfl, k, hb⟩
end Go.Proofs.YtmjpjllbfgkfbaaDoor
