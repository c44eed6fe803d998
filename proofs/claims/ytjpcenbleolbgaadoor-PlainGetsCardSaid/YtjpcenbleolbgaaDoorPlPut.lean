/- Contract of package plain's Put: the plain form in new memory, or ErrLimit. -/
import Derived.Test.YtjpcenbleolbgaaDoorPlSize
import Derived.Test.YtjpcenbleolbgaaDoorNum
import Derived.Test.YtjpcenbleolbgaaDoorOpened
namespace Go.Proofs.YtjpcenbleolbgaaDoor
open Go.RowKit
set_option linter.unusedVariables false
set_option linter.unusedSimpArgs false
set_option maxRecDepth 100000

theorem plPut_no (A : Option Addr) (n c : Nat) (w : World) (hn : 65536 < n) :
    Calls Tryd.prog 9 #[.slice A n c] w (NewE w [] 12) := by
  go_enter Tryd.func9, Tryd.ntmps9
  go_wp2_with fail
  go_ret2
  exact ⟨.slice none 0 0, rfl, own_nil _ _ _ _, Below.refl _ _⟩
set_option maxHeartbeats 1000000 in
theorem plPut_any (A : Option Addr) (n c : Nat) (l : List Int) (w : World) (hr : Reads w w.heap.size 1 A n (zs l)) (hl : ∀ z ∈ l, In64 z) (hn : n ≤ 65536) :
    Calls Tryd.prog 9 #[.slice A n c] w (NewE w (pl l) 0) := by
  obtain ⟨i0, hi0, hz0, hz1, hz2⟩ := info_parts info_u8
  have e1 : l.length = n := by have := hr.1; rw [zs_length] at this; omega
  have hpl := pl_length l
  rw [e1] at hpl
  have hmk := fun W => run_make_u8 (pl l).length (by omega) W
  have hown0 : (w.alloc (.cells (madeCells #[.int .u8 0] (pl l).length) 5)).ownsRow w.heap.size 5 1 (.slice (some ⟨w.heap.size, 0, none⟩) 0 (pl l).length) 0 (bs []) :=
    World.ownsRow_made w _ _ (Nat.le_refl _) (by unfold maxLen; omega) (by rw [size_madeCells]; omega)
  have hb0 : Below w.heap.size w (w.alloc (.cells (madeCells #[.int .u8 0] (pl l).length) 5)) := (Below.refl _ _).alloc (Nat.le_refl _) _
  have E1 := Lib.hid e1; have HLL := Lib.hid hl
  clear e1 hl
  go_enter Tryd.func9, Tryd.ntmps9
  go_wp2_with fail
  refine (plen_any A n c l _ w hr HLL.out (by omega)).mono ?_
  rintro e w' ⟨rfl, rfl⟩
  go_wp2_with fail
  clear hmk
  go_loopw [4, 15] (fun out i wr => ∃ k : Nat, k ≤ n ∧ i = .int .i64 (k : Int) ∧ wr.ownsRow w.heap.size 5 1 out (pl (l.take k)).length (bs (pl (l.take k))) ∧ Below w.heap.size w wr) (fun _ i _ => n - (intOf i).toNat)
  case atStart => exact ⟨0, by omega, rfl, hown0, hb0⟩
  case round =>
    clear hown0 hb0
    obtain ⟨k, hk, rfl, hown, hb⟩ := hrel
    by_cases hlt : k < n
    · obtain ⟨ad, u, rfl, _, hu, hc⟩ := (hr.below hb).at_ hlt
      obtain ⟨z, hz, rfl⟩ := zs_at hu
      have hz64 := HLL.out z (List.mem_of_getElem? hz)
      have hzg := (zg_int hz64).2
      have hvl := vb_length (zg z)
      have hpk := pl_length (l.take k)
      have htk : (l.take k).length ≤ k := List.length_take_le _ _
      have HS := Lib.hid (pl_step hz)
      clear hu hz
      go_wp2_with fail
      refine (zigN_any z wr hz64).mono ?_
      rintro e w' ⟨rfl, rfl⟩
      go_wp2_with fail
      refine (putVar_any none 0 0 (zg z) [] wr hzg Reads.none_ (by simp) (by omega)).mono ?_
      intro e2 w2 hN2
      obtain ⟨A2, c2, rfl, _, hr2, hb2⟩ := hN2.opened
      rw [Nat.zero_add, List.nil_append] at hr2
      clear hN2
      have hown2 := own_below hown hb2
      have hb02 := hb.trans (hb2.mono hb.size)
      simp only [Nat.zero_add]
      go_wp2_with (at_builtin
                   refine wpList_append_any _ rfl (.tmp 19) (.tmp 22) _ rfl w.heap.size 5 i0 _ 1 1 Tryd.underlying22 hi0 hz0 hz1 hz2 rfl (by omega) u4 (pl (l.take k)).length (bs (pl (l.take k))) rfl
                     hown2 w2.heap.size A2 (vb (zg z)).length c2 (bs (vb (zg z))) rfl hr2 (bs_one _) (by unfold maxLen; omega) (by omega) hb02.size ?_
                   intro v3 w3 hown3 hg3 hat3)
      go_round
      case rel =>
        refine ⟨k + 1, by omega, by go_num, ?_, hb02.grown hg3 hb02.size (fun j hj => (hown2.lt j hj).1)⟩
        rw [HS.out, List.length_append, bs_append]
        exact hown3
      case measure => simp [intOf]; omega
    · go_wp2_with fail
      go_ret2
      obtain rfl : k = n := by omega
      rw [List.take_of_length_le (by rw [E1.out]; omega)] at hown
      exact ⟨_, rfl, hown, hb⟩
end Go.Proofs.YtjpcenbleolbgaaDoor
