/- Contracts of package bitmap's Bytes and Copy. -/
import Derived.Deep.RegionWith
import Derived.Test.YtgfpemndbgdhdaaCopyAll
import Derived.Test.YtgfpemndbgdhdaaBmGet
namespace Go.Proofs.Ytgfpemndbgdhdaa
open Go.RowKit
set_option linter.unusedVariables false
set_option linter.unusedSimpArgs false
set_option maxRecDepth 100000

theorem size_u8 : (Try.prog.info? 5).map (·.size) = some 1 := by kernel_rfl
/-- What a function answers that hands out new bytes, none over. -/
def NewB (w : World) (l : List Nat) (e : Ending) (w' : World) : Prop := ∃ q, e = .returned (.slice (some ⟨q, 0, none⟩) l.length l.length) ∧ Blk w' q 5 (bs l).toArray ∧ w.heap.size ≤ q ∧ Below w.heap.size w w'
theorem Bytes_nil (w : World) : Calls Try.prog 17 #[.pointer none] w fun e w' => e = .returned (.slice none 0 0) ∧ w = w' := by
  go_enter Try.func17, Try.ntmps17
  go_wp2_with fail
  go_ret
  exact ⟨rfl, rfl⟩
theorem Copy_nil (w : World) : Calls Try.prog 9 #[.pointer none] w fun e w' => e = .returned (.pointer none) ∧ w = w' := by
  go_enter Try.func9, Try.ntmps9
  go_wp2_with fail
  go_ret
  exact ⟨rfl, rfl⟩
section
variable {w : World} {B g h n : Nat} {l : List Nat}
theorem Bytes_any (s : SetIn w B g h n l) : Calls Try.prog 17 #[.pointer (some ⟨g, 0, none⟩)] w (NewB w l) := by
  obtain ⟨c0, c1⟩ := s.cells
  have hl := s.size.2
  have hmk := run_make_u8n l.length (by omega)
  have hlen : (bs (List.replicate l.length 0)).toArray.size = l.length := by simp [bs]
  have hlt := s.obj.lt
  have HZ := Lib.hid hlen
  clear hlen
  go_enter Try.func17, Try.ntmps17
  go_wp2_with (with_reducible
    refine wpList_copy_whole rfl (.tmp 12) (.tmp 16) _ _ rfl 5 Try.underlying33 size_u8 w.heap.size l.length l.length l.length (w.heap.size + 1) (some ⟨h, 0, none⟩) 5 _ (bs l) rfl rfl (Blk.new w _ _) HZ.out ((s.alloc _).reads.more (by simp)) (bs_one l) ?_
    intro w2 H2 hg2)
  go_ret
  refine ⟨w.heap.size, rfl, H2.out, Nat.le_refl _, ((Below.refl _ _).alloc (Nat.le_refl _) _).grown hg2 (by simp) (fun k hk => by simp at hk; omega)⟩
theorem copied_set (s : SetIn w B g h n l) {w1 : World} {q : Nat} (hb : Below w.drew.heap.size w.drew w1) (hq : Blk w1 q 5 (bs l).toArray) (hq2 : w.drew.heap.size ≤ q) :
    NewS w n l (.returned (.pointer (some ⟨w1.heap.size, 0, none⟩))) (w1.alloc (.cells #[.int .i64 (n : Int), .slice (some ⟨q, 0, none⟩) l.length l.length] 47)) := by
  have hb' : Below w.heap.size w w1 := (Drawn.one w 1).below (Below.refl w.heap.size w) |>.trans hb
  exact ⟨w1.heap.size, q, rfl, ⟨s.ok, s.le, Blk.new w1 _ _, hq.alloc _, hb'.size, hq2⟩, hb'.alloc hb'.size _⟩
theorem Copy_any (s : SetIn w B g h n l) : Calls Try.prog 9 #[.pointer (some ⟨g, 0, none⟩)] w (NewS w n l) := by
  obtain ⟨c0, c1⟩ := s.cells
  go_enter Try.func9, Try.ntmps9
  go_wp2_with fail
  go_region_with (go_at_call 17; refine (Bytes_any s.drew).mono ?_; rintro e w1 ⟨q, rfl, hq, hq2, hb⟩; have c2 := (s.drew.below hb (Nat.le_refl _)).cells.1)
  all_goals
    go_wp2_with fail
    go_ret
    exact copied_set s hb hq hq2
end
end Go.Proofs.Ytgfpemndbgdhdaa
