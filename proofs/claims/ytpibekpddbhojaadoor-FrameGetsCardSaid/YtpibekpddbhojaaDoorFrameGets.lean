/- The walk of FrameGets: any bytes begin with the frame that the document says, or with none; so it is with all frames. -/
import Derived.Test.YtpibekpddbhojaaDoorRefFrAll
import Derived.Test.YtpibekpddbhojaaDoorSameAll
import Derived.Test.YtpibekpddbhojaaDoorAwake04
import Derived.Test.YtpibekpddbhojaaDoorFrameParts
namespace Go.Proofs.YtpibekpddbhojaaDoor
open Go.RowKit
set_option linter.unusedVariables false
set_option maxRecDepth 100000

theorem gets_big (A : Option Addr) (n c : Nat) (w : World) (hm : Met w) (h : 2000 < n) :
    Calls Tryd.prog 4 #[.slice A n c] w fun e w' => e = .returned (.bool true) ∧ Below w.heap.size w w' := by
  go_enter Tryd.func4, Tryd.ntmps4
  go_wp2_with fail
  refine (awake_any w hm).mono ?_
  rintro e w1 ⟨rfl, hb⟩
  go_wp2_with fail
  go_ret
  exact ⟨rfl, hb⟩
set_option maxHeartbeats 1000000 in
theorem gets_small (A : Option Addr) (n c : Nat) (l : List Nat) (w : World) (hm : Met w) (hr : Reads w w.heap.size 1 A n (bs l)) (hl : ∀ b ∈ l, b < 256) (hc : n ≤ c) (hn : n ≤ 2000) :
    Calls Tryd.prog 4 #[.slice A n c] w fun e w' => e = .returned (.bool true) ∧ Below w.heap.size w w' := by
  have e1 := fz_len hr
  have hcs := getS_cases l
  have hct := allS_count l
  have hle := allS_le l
  have hget := get_any A n c l w hm hr hl hc (by omega)
  have hgpl : (getS l).1.length ≤ 2000 := by rcases hcs with h | h; rw [h.1]; simp; omega
  obtain ⟨G, hG⟩ : ∃ G, getS l = G := ⟨_, rfl⟩
  obtain ⟨S, hS⟩ : ∃ S, allS l = S := ⟨_, rfl⟩
  rw [hG] at hget hgpl
  rw [hS] at hct
  obtain ⟨gp, gn, ge⟩ := G
  obtain ⟨sl, sn⟩ := S
  simp only at hgpl hct
  have hsz : ∀ t ∈ sl, t.length ≤ 140737488355328 := fun t ht => by have := hct.2 t ht; omega
  have hsl : sl.length ≤ 2000 := by omega
  have HG := Lib.hid hG; clear hG
  have HS := Lib.hid hS; clear hS
  have HGET := Lib.hid hget; clear hget
  have HL := Lib.hid hl; clear hl
  have HSZ := Lib.hid hsz; clear hsz
  clear e1 hcs hct hle
  go_enter Tryd.func4, Tryd.ntmps4
  go_wp2_with fail
  refine HGET.out.mono ?_
  rintro e w1 ⟨A1, c1, rfl, ho1, hb1⟩
  go_wp2_with fail
  have h2 := refGet_any A n c l w1 ((hr.below hb1).more hb1.size) HL.out hc (by omega)
  rw [HG.out] at h2
  refine h2.mono ?_
  clear h2
  rintro e w2 ⟨A2, c2, rfl, ho2, hb2⟩
  have hb02 := hb1.trans (hb2.mono hb1.size)
  have hBG := Blk.new w2 33 #[.slice A2 gp.length c2, .int .i64 (gn : Int), .int .i64 ge]
  have hbg : Below w2.heap.size w2 (w2.alloc (.cells #[.slice A2 gp.length c2, .int .i64 (gn : Int), .int .i64 ge] 33)) := (Below.refl _ _).alloc (Nat.le_refl _) _
  obtain ⟨w3, hw3⟩ : ∃ w3, w2.alloc (.cells #[.slice A2 gp.length c2, .int .i64 (gn : Int), .int .i64 ge] 33) = w3 := ⟨_, rfl⟩
  rw [hw3] at hBG hbg
  go_wp2_with fail
  clear hw3
  have hb03 := hb02.trans (hbg.mono hb02.size)
  have h4 := all_any A n c l w3 (hm.next hb03) ((hr.below hb03).more hb03.size) HL.out hc (by omega)
  rw [HS.out] at h4
  refine h4.mono ?_
  clear h4
  rintro e w4 ⟨A4, c4, rfl, hL4, hb4⟩
  have hb04 := hb03.trans (hb4.mono hb03.size)
  go_wp2_with fail
  have h5 := refAll_any A n c l w4 ((hr.below hb04).more hb04.size) HL.out hc (by omega)
  rw [HS.out] at h5
  refine h5.mono ?_
  clear h5
  rintro e w5 ⟨A5, c5, rfl, hL5, hb5⟩
  have hb45 := hb4.trans (hb5.mono hb4.size)
  have hb05 := hb03.trans (hb45.mono hb03.size)
  have hG5 := hBG.below hb45 hBG.lt
  have hc0 := hG5.cell 0
  have hc1 := hG5.cell 1
  have hc2 := hG5.cell 2
  simp only [List.getElem?_toArray, List.getElem?_cons_succ, List.getElem?_cons_zero] at hc0 hc1 hc2
  have ho15 := ho1.next (hb2.trans ((hbg.trans (hb45.mono hbg.size)).mono hb2.size))
  have ho25 := ho2.next (hbg.trans (hb45.mono hbg.size))
  have hL45 := hL4.next hb5
  clear hBG hbg hb2 hb1 hb02 hb4 hb5 hb45 ho1 ho2
  go_wp2_with fail
  refine (same_true A1 A2 gp.length c1 gp.length c2 gp w5 ho15.reads ho25.reads (by omega)).mono ?_
  rintro e w6 ⟨rfl, q, rfl⟩
  have hq : Below w5.heap.size w5 (w5.drewN q) := (Drawn.one w5 q).below (Below.refl _ _)
  have h7 := sameAll_true A4 A5 c4 c5 sl (w5.drewN q) (hL45.next hq) (hL5.next hq) HSZ.out (by omega)
  have hb6 := hb05.trans (hq.mono hb05.size)
  have H7 := Lib.hid h7
  have HB6 := Lib.hid hb6
  clear h7 hq hb6
  go_wp2_with fail
  refine H7.out.mono ?_
  rintro e w7 ⟨rfl, hd7⟩
  have hb7 := hd7.below HB6.out
  go_wp2_with fail
  refine (awake_any w7 (hm.next hb7)).mono ?_
  rintro e w8 ⟨rfl, hb8⟩
  go_wp2_with fail
  go_ret
  exact ⟨rfl, hb7.trans (hb8.mono hb7.size)⟩
end Go.Proofs.YtpibekpddbhojaaDoor
