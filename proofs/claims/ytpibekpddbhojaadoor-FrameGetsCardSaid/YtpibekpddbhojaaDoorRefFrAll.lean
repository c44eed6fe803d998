/- Contract of the document's answer for frames: All. -/
import Derived.Test.YtpibekpddbhojaaDoorFrAll
import Derived.Test.YtpibekpddbhojaaDoorRefFrGet2
namespace Go.Proofs.YtpibekpddbhojaaDoor
open Go.RowKit
set_option linter.unusedVariables false
set_option maxRecDepth 100000

set_option maxHeartbeats 1000000 in
theorem refAll_any (A : Option Addr) (n c : Nat) (L : List Nat) (w : World) (hr : Reads w w.heap.size 1 A n (bs L)) (hl : ∀ b ∈ L, b < 256) (hc : n ≤ c) (hn : n ≤ 16777216) :
    Calls Tryd.prog 15 #[.slice A n c] w (AllTo w (allS L)) := by
  have e1 := fz_len hr
  obtain ⟨i0, hi0, hz0, hz1, hz2⟩ := info_parts info_bytes
  have E1 := Lib.hid e1; clear e1
  have HL := Lib.hid hl; clear hl
  go_enter Tryd.func15, Tryd.ntmps15
  go_wp2_with fail
  go_loopg [4, 5] n (fun g s2 s3 wr => ∃ (pre : List (List Nat)) (k : Nat), k + g = n ∧ s3 = .int .i64 (k : Int) ∧ Gone w wr L s2 pre k)
  case atStart =>
    refine ⟨[], 0, by omega, rfl, [], World.ownsRow_nil _ _ _ _, trivial, Nat.zero_le _, by simp, by simp, Below.refl _ _⟩
  case round =>
    obtain ⟨pre, k, hkg, rfl, vs, hown, hE, hkl, h8, hal, hb⟩ := hrel
    have hkn : k ≤ n := by omega
    have hkc : k ≤ c := by omega
    have hcut : Reads wr wr.heap.size 1 (if c = k then A else A.map (·.add k)) (n - k) (bs (L.drop k)) := by
      have := ((hr.below hb).cut (k := k) hkn hc).more hb.size
      simpa [bs_drop] using this
    have hget := refGet_any _ (n - k) (c - k) (L.drop k) wr hcut (fun b h => HL.out b (List.mem_of_mem_drop h)) (by omega) (by omega)
    have hcs := getS_cases (L.drop k)
    have hst := allS_stop (L.drop k)
    have hgo := allS_go (L.drop k)
    have hpb : (L.drop k).length = n - k := by rw [List.length_drop, E1.out]
    generalize hG : getS (L.drop k) = G at hget hcs hst hgo
    obtain ⟨gp, gn, ge⟩ := G
    simp only at hcs hst hgo
    rw [hpb] at hcs
    have HG := Lib.hid hget; clear hget
    have HST := Lib.hid hst; clear hst
    have HGO := Lib.hid hgo; clear hgo
    have HAL := Lib.hid hal; clear hal
    clear hG hpb hkl
    obtain ⟨Av, cv, rfl, _, _, hrv⟩ := own_slice hown
    by_cases hca : c = k
    · obtain rfl : n = k := by omega
      obtain rfl : c = n := by omega
      rw [if_pos rfl, Nat.sub_self] at HG
      have hge : ge = 2 ∨ ge = 12 ∨ ge = 6 := by rcases hcs with h | h; exact h.2.2; omega
      have hge0 : ge ≠ 0 := by omega
      have hne : (ge != 0) = true := by simp [hge0]
      have hne2 : (ge == 0) = false := by simp [hge0]
      clear hcs hge hcut
      go_wp2_with fail
      refine HG.out.mono ?_
      rintro e w2 ⟨A2, c2, rfl, _, hb2⟩
      have hbx : Below wr.heap.size wr (w2.alloc (.cells #[.slice A2 gp.length c2, .int .i64 (gn : Int), .int .i64 ge] 33)) := hb2.alloc hb2.size _
      have hvx := (hrv.below hbx).more hbx.size
      have hEx := hE.imp fun v l hv => (hv.next hbx).isB
      have hb0x := hb.trans (hbx.mono hb.size)
      have HAX := Lib.hid (And.intro hvx (And.intro hEx hb0x))
      clear hbx hvx hEx hb0x
      go_wp2_with fail
      go_ret2
      rw [HAL.out, HST.out hge0]
      exact ⟨Av, cv, by simp, ⟨vs, by simpa using HAX.out.1, by simpa using HAX.out.2.1⟩, HAX.out.2.2⟩
    · rw [if_neg hca] at HG hcut
      by_cases hge : ge = 0
      · subst hge
        have hgn : 8 ≤ gn ∧ gn ≤ n - k ∧ gn = 8 + gp.length := by rcases hcs with h | h; omega; exact h.2
        clear hcs
        go_wp2_with fail
        refine HG.out.mono ?_
        rintro e w2 ⟨A2, c2, rfl, ho2, hb2⟩
        obtain ⟨h8g, hgk, hgn⟩ := hgn
        have hpl : gp.length ≤ 16777216 := by omega
        have HGN := Lib.hid hgn; clear hgn
        have hbg : Below w2.heap.size w2 (w2.alloc (.cells #[.slice A2 gp.length c2, .int .i64 (gn : Int), .int .i64 0] 33)) := (Below.refl _ _).alloc (Nat.le_refl _) _
        have hbx := hb2.trans (hbg.mono hb2.size)
        have hown2 := own_below hown hbx
        have hE2 := hE.imp fun v l hv => hv.next hbx
        have hO2 : Off w2 (Value.slice Av pre.length cv).ownBlock (.slice A2 gp.length c2) gp := ⟨A2, c2, rfl, ho2.reads, fun _ ad had heq => by
          have := (hown.lt _ heq.symm).2
          have := ho2.far ad had
          omega⟩
        have hO2 := hO2.next hbg
        have hb02 := hb.trans (hbx.mono hb.size)
        have hal : allS L = ((pre ++ [gp]) ++ (allS (L.drop (k + gn))).1, (k + gn) + (allS (L.drop (k + gn))).2) := by
          rw [HAL.out, HGO.out trivial, List.drop_drop, List.append_assoc]
          refine Prod.ext rfl ?_
          simp only
          omega
        have HAL2 := Lib.hid hal
        clear hal hE
        have hrn : Reads ((w2.alloc (.cells #[.slice A2 gp.length c2, .int .i64 (gn : Int), .int .i64 0] 33)).alloc (.cells #[.slice A2 gp.length c2] 22)) (w2.heap.size + 1 + 1) 1 (some ⟨w2.heap.size + 1, 0, none⟩) 1 [.slice A2 gp.length c2] := by
          simpa using Reads.new (w2.alloc (.cells #[.slice A2 gp.length c2, .int .i64 (gn : Int), .int .i64 0] 33)) (.slice A2 gp.length c2) 22
        have hownn : ((w2.alloc (.cells #[.slice A2 gp.length c2, .int .i64 (gn : Int), .int .i64 0] 33)).alloc (.cells #[.slice A2 gp.length c2] 22)).ownsRow w.heap.size 22 1 (.slice Av pre.length cv) pre.length vs := hown2.alloc _
        have hszn : w.heap.size ≤ ((w2.alloc (.cells #[.slice A2 gp.length c2, .int .i64 (gn : Int), .int .i64 0] 33)).alloc (.cells #[.slice A2 gp.length c2] 22)).heap.size := by
          have := hb02.size
          simp at this ⊢
          omega
        have hone : ∀ u ∈ [Value.slice A2 gp.length c2], u.oneCell' = true := by intro u hu; simp at hu; subst hu; rfl
        have hcg0 : ((w2.alloc (.cells #[.slice A2 gp.length c2, .int .i64 (gn : Int), .int .i64 0] 33)).alloc (.cells #[.slice A2 gp.length c2] 22)).cell? ⟨w2.heap.size, 1, none⟩ = some (.int .i64 (gn : Int)) := by
          rw [World.cell?_alloc_lt _ _ _ (by simp), (Blk.new w2 _ _).cell]
          rfl
        have hcgne : some w2.heap.size ≠ (Value.slice Av pre.length cv).ownBlock := fun h => by
          have := (hown.lt _ h.symm).2
          have := hb2.size
          omega
        have HALL := Lib.hid (And.intro hE2 (And.intro hO2 hb02))
        have HRN := Lib.hid hrn
        have HOWN := Lib.hid hownn
        have HCG := Lib.hid hcg0
        clear hbg hbx hown2 hE2 hO2 hb02 hrn hownn hcg0
        go_wp2_with (at_builtin
                     refine wpList_append_any _ rfl (.tmp 16) (.tmp 19) _ rfl w.heap.size 22 i0 _ 1 24 Tryd.underlying35 hi0 hz0 hz1 hz2 rfl (by omega) (.slice Av pre.length cv) pre.length vs rfl
                       HOWN.out (w2.heap.size + 1 + 1) (some ⟨w2.heap.size + 1, 0, none⟩) 1 1 [.slice A2 gp.length c2] rfl HRN.out hone (by unfold maxLen; omega) (by omega) hszn ?_
                     intro v3 w3 hown3 hg3 hat3
                     have hcg := hg3.cell HCG.out hcgne)
        obtain ⟨hE2, hO2, hb02⟩ := HALL.out
        have hba := fun o => Below.alloc (Below.refl (w2.alloc (.cells #[.slice A2 gp.length c2, .int .i64 (gn : Int), .int .i64 0] 33)).heap.size (w2.alloc (.cells #[.slice A2 gp.length c2, .int .i64 (gn : Int), .int .i64 0] 33))) (Nat.le_refl _) o
        have hE3 := (hE2.imp fun v l hv => (hv.next (hba _)).grown hg3 hat3).append (us := [.slice A2 gp.length c2]) (ms := [gp]) ⟨(hO2.next (hba _)).grown hg3 hat3, trivial⟩
        have hb3 : Below w.heap.size w w3 := (hb02.trans ((hba _).mono hb02.size)).grown hg3 hszn (fun g hg => (hown.lt g hg).1)
        go_roundg (n - (k + gn))
        case measure => omega
        case rel =>
          refine ⟨pre ++ [gp], k + gn, by omega, by go_num, _, by simpa using hown3, hE3, by rw [E1.out]; omega, by simp; omega, HAL2.out, hb3⟩
      · have hne : (ge != 0) = true := by simp [hge]
        have hne2 : (ge == 0) = false := by simp [hge]
        clear hcs
        go_wp2_with fail
        refine HG.out.mono ?_
        rintro e w2 ⟨A2, c2, rfl, _, hb2⟩
        have hbx : Below wr.heap.size wr (w2.alloc (.cells #[.slice A2 gp.length c2, .int .i64 (gn : Int), .int .i64 ge] 33)) := hb2.alloc hb2.size _
        have hvx := (hrv.below hbx).more hbx.size
        have hEx := hE.imp fun v l hv => (hv.next hbx).isB
        have hb0x := hb.trans (hbx.mono hb.size)
        have HAX := Lib.hid (And.intro hvx (And.intro hEx hb0x))
        clear hbx hvx hEx hb0x
        go_wp2_with fail
        go_ret2
        rw [HAL.out, HST.out hge]
        exact ⟨Av, cv, by simp, ⟨vs, by simpa using HAX.out.1, by simpa using HAX.out.2.1⟩, HAX.out.2.2⟩
end Go.Proofs.YtpibekpddbhojaaDoor
