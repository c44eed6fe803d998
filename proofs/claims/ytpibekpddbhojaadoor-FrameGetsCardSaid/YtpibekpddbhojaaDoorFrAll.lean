/- Contract of package frame's All: all frames' parts, and how many bytes they have. -/
import Derived.Test.YtpibekpddbhojaaDoorLists
namespace Go.Proofs.YtpibekpddbhojaaDoor
open Go.RowKit
set_option linter.unusedVariables false
set_option maxRecDepth 100000

def AllTo (w : World) (g : List (List Nat) × Nat) (e : Ending) (w' : World) : Prop :=
  ∃ A c, e = .returned (.tuple #[.slice A g.1.length c, .int .i64 (g.2 : Int)]) ∧ LL w' A g.1 ∧ Below w.heap.size w w'
theorem reads_one (w : World) (t : TypeId) (v : Value) : Reads (w.alloc (.cells #[v] t)) (w.heap.size + 1) 1 (some ⟨w.heap.size, 0, none⟩) 1 [v] := by
  refine reads_blk (Blk.new w _ _) _ _ _ (by omega) rfl rfl
/-- What the loop has: the texts so far, in a row of its own; where it goes on. -/
def Gone (w wr : World) (L : List Nat) (v : Value) (pre : List (List Nat)) (k : Nat) : Prop :=
  ∃ vs, wr.ownsRow w.heap.size 22 1 v pre.length vs ∧ Each (Off wr v.ownBlock) vs pre ∧ k ≤ L.length ∧ 8 * pre.length ≤ k ∧ allS L = (pre ++ (allS (L.drop k)).1, k + (allS (L.drop k)).2) ∧ Below w.heap.size w wr
set_option maxHeartbeats 1000000 in
theorem all_any (A : Option Addr) (n c : Nat) (L : List Nat) (w : World) (hm : Met w) (hr : Reads w w.heap.size 1 A n (bs L)) (hl : ∀ b ∈ L, b < 256) (hc : n ≤ c) (hn : n ≤ 16777216) :
    Calls Tryd.prog 14 #[.slice A n c] w (AllTo w (allS L)) := by
  have e1 := fz_len hr
  obtain ⟨i0, hi0, hz0, hz1, hz2⟩ := info_parts info_bytes
  have E1 := Lib.hid e1; clear e1
  have HL := Lib.hid hl; clear hl
  go_enter Tryd.func14, Tryd.ntmps14
  go_wp2_with fail
  go_loopg [2, 3] n (fun g s2 s3 wr => ∃ (pre : List (List Nat)) (k : Nat), k + g = n ∧ s3 = .int .i64 (k : Int) ∧ Gone w wr L s2 pre k)
  case atStart =>
    refine ⟨[], 0, by omega, rfl, [], World.ownsRow_nil _ _ _ _, trivial, Nat.zero_le _, by simp, by simp, Below.refl _ _⟩
  case round =>
    obtain ⟨pre, k, hkg, rfl, vs, hown, hE, hkl, h8, hal, hb⟩ := hrel
    have hkn : k ≤ n := by omega
    have hkc : k ≤ c := by omega
    have hcut : Reads wr wr.heap.size 1 (if c = k then A else A.map (·.add k)) (n - k) (bs (L.drop k)) := by
      have := ((hr.below hb).cut (k := k) hkn hc).more hb.size
      simpa [bs_drop] using this
    have hget := get_any _ (n - k) (c - k) (L.drop k) wr (hm.next hb) hcut (fun b h => HL.out b (List.mem_of_mem_drop h)) (by omega) (by omega)
    have hcs := getS_cases (L.drop k)
    have hst := allS_stop (L.drop k)
    have hgo := allS_go (L.drop k)
    have hpb : (L.drop k).length = n - k := by rw [List.length_drop, E1.out]
    generalize hG : getS (L.drop k) = G at hget hcs hst hgo
    obtain ⟨gp, gn, ge⟩ := G
    simp only at hcs hst hgo
    rw [hpb] at hcs
    have HG := Lib.hid hget; clear hget
    have HST := Lib.hid hst; clear hst
    have HGO := Lib.hid hgo; clear hgo
    have HAL := Lib.hid hal; clear hal
    clear hG hpb hkl
    obtain ⟨Av, cv, rfl, _, _, hrv⟩ := own_slice hown
    by_cases hca : c = k
    · obtain rfl : n = k := by omega
      obtain rfl : c = n := by omega
      rw [if_pos rfl, Nat.sub_self] at HG
      have hge : ge = 2 ∨ ge = 12 ∨ ge = 6 := by rcases hcs with h | h; exact h.2.2; omega
      have hge0 : ge ≠ 0 := by omega
      have hne : (ge != 0) = true := by simp [hge0]
      have hne2 : (ge == 0) = false := by simp [hge0]
      clear hcs hge hcut
      go_wp2_with fail
      refine HG.out.mono ?_
      rintro e w2 ⟨A2, c2, rfl, _, hb2⟩
      go_wp2_with fail
      go_ret2
      rw [HAL.out, HST.out hge0]
      exact ⟨Av, cv, by simp, ⟨vs, by simpa using (hrv.below hb2).more hb2.size, by simpa using (hE.imp fun v l hv => (hv.next hb2).isB)⟩, hb.trans (hb2.mono hb.size)⟩
    · rw [if_neg hca] at HG hcut
      by_cases hge : ge = 0
      · subst hge
        have hgn : 8 ≤ gn ∧ gn ≤ n - k ∧ gn = 8 + gp.length := by rcases hcs with h | h; omega; exact h.2
        clear hcs
        go_wp2_with fail
        refine HG.out.mono ?_
        rintro e w2 ⟨A2, c2, rfl, ho2, hb2⟩
        obtain ⟨h8g, hgk, rfl⟩ := hgn
        have hown2 := own_below hown hb2
        have hE2 := hE.imp fun v l hv => hv.next hb2
        have hO2 : Off w2 (Value.slice Av pre.length cv).ownBlock (.slice A2 gp.length c2) gp := ⟨A2, c2, rfl, ho2.reads, fun _ ad had heq => by
          have := (hown.lt _ heq.symm).2
          have := ho2.far ad had
          omega⟩
        have hb02 := hb.trans (hb2.mono hb.size)
        have hal : allS L = ((pre ++ [gp]) ++ (allS (L.drop (k + (8 + gp.length)))).1, (k + (8 + gp.length)) + (allS (L.drop (k + (8 + gp.length)))).2) := by
          rw [HAL.out, HGO.out trivial, List.drop_drop, List.append_assoc, ← Nat.add_assoc]
          refine Prod.ext rfl ?_
          simp only
          omega
        have HAL2 := Lib.hid hal
        clear hal hE
        go_wp2_with (at_builtin
                     refine wpList_append_any _ rfl (.tmp 19) (.tmp 21) _ rfl w.heap.size 22 i0 _ 1 24 Tryd.underlying35 hi0 hz0 hz1 hz2 rfl (by omega) (.slice Av pre.length cv) pre.length vs rfl
                       (hown2.alloc _) (w2.heap.size + 1) (some ⟨w2.heap.size, 0, none⟩) 1 1 [.slice A2 gp.length c2] rfl (Reads.new w2 _ _) (by intro u hu; simp at hu; subst hu; rfl) (by unfold maxLen; omega) (by omega) (by have := hb02.size; simp; omega) ?_
                     intro v3 w3 hown3 hg3 hat3
                     have hba := Below.alloc (Below.refl w2.heap.size w2) (Nat.le_refl _))
        have hE3 := (hE2.imp fun v l hv => (hv.next (hba _)).grown hg3 hat3).append (us := [.slice A2 gp.length c2]) (ms := [gp]) ⟨(hO2.next (hba _)).grown hg3 hat3, trivial⟩
        have hb3 : Below w.heap.size w w3 := (hb02.trans ((hba _).mono hb02.size)).grown hg3 (by have := hb02.size; simp; omega) (fun g hg => (hown.lt g hg).1)
        go_roundg (n - (k + (8 + gp.length)))
        case measure => omega
        case rel =>
          refine ⟨pre ++ [gp], k + (8 + gp.length), by omega, by go_num, _, by simpa using hown3, hE3, by rw [E1.out]; omega, by simp; omega, HAL2.out, hb3⟩
      · have hne : (ge != 0) = true := by simp [hge]
        have hne2 : (ge == 0) = false := by simp [hge]
        clear hcs
        go_wp2_with fail
        refine HG.out.mono ?_
        rintro e w2 ⟨A2, c2, rfl, _, hb2⟩
        go_wp2_with fail
        go_ret2
        rw [HAL.out, HST.out hge]
        exact ⟨Av, cv, by simp, ⟨vs, by simpa using (hrv.below hb2).more hb2.size, by simpa using (hE.imp fun v l hv => (hv.next hb2).isB)⟩, hb.trans (hb2.mono hb.size)⟩
end Go.Proofs.YtpibekpddbhojaaDoor
