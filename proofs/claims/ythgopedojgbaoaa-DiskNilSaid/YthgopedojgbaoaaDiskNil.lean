/- The law DiskNil: a disk that is none does nothing: it answers true, for every name and number. -/
import Derived.Test.YthgopedojgbaoaaDkAwake2
namespace Go.Proofs.Ythgopedojgbaoaa
open Go.RowKit Go.Maps Go.WideMaps Go.ChangeMaps
set_option linter.unusedVariables false
set_option linter.unusedSimpArgs false
set_option maxRecDepth 100000

theorem DiskNil_any (s : ByteArray) (n : Int) (w : World) : Calls Try.prog 5 #[.string s, .int .i64 n] w fun e w' => e = .returned (.bool true) ∧ Below w.heap.size w w' := by
  go_enter Try.func5, Try.ntmps5
  go_wp2_with fail
  refine (Fuse_nil w n).mono ?_
  rintro e w1 ⟨rfl, hd1⟩
  go_wp2_with fail
  refine (Boot_nil none 0 0 w1).mono ?_
  rintro e w2 ⟨rfl, hd2⟩
  go_wp2_with fail
  refine (Read_nil s w2).mono ?_
  rintro e w3 ⟨rfl, hd3⟩
  have hb3 := ((hd1.trans hd2).trans hd3).below (Below.refl w.heap.size w)
  clear hd1 hd2 hd3
  go_wp2_with fail
  refine (Append_nil s none 0 0 w3).mono ?_
  rintro e w4 ⟨rfl, hb⟩
  have hb4 := hb3.trans (hb.mono hb3.size)
  clear hb hb3
  go_wp2_with fail
  refine (Sync_nil s w4).mono ?_
  rintro e w5 ⟨rfl, hb⟩
  have hb5 := hb4.trans (hb.mono hb4.size)
  clear hb hb4
  go_wp2_with fail
  refine (Rename_nil s s w5).mono ?_
  rintro e w6 ⟨rfl, hb⟩
  have hb6 := hb5.trans (hb.mono hb5.size)
  clear hb hb5
  go_wp2_with fail
  refine (Delete_nil s w6).mono ?_
  rintro e w7 ⟨rfl, hb⟩
  have hb7 := hb6.trans (hb.mono hb6.size)
  clear hb hb6
  go_wp2_with fail
  refine (Cut_nil s n w7).mono ?_
  rintro e w8 ⟨rfl, hb⟩
  have hb8 := hb7.trans (hb.mono hb7.size)
  clear hb hb7
  go_wp2_with fail
  refine (Names_nil w8).mono ?_
  rintro e w9 ⟨rfl, hd⟩
  have hb9 := hd.below hb8
  clear hd hb8
  go_wp2_with fail
  refine (Used_nil w9).mono ?_
  rintro e w10 ⟨rfl, hd⟩
  have hb10 := hd.below hb9
  clear hd hb9
  go_wp2_with fail
  refine (Down_nil w10).mono ?_
  rintro e w11 ⟨rfl, hd⟩
  have hb11 := hd.below hb10
  clear hd hb10
  go_wp2_with fail
  refine (awake_any w11).mono ?_
  rintro e w12 ⟨rfl, hb⟩
  have hb12 := hb11.trans (hb.mono hb11.size)
  clear hb hb11
  go_wp2_with fail
  go_ret
  exact ⟨rfl, hb12⟩
end Go.Proofs.Ythgopedojgbaoaa
